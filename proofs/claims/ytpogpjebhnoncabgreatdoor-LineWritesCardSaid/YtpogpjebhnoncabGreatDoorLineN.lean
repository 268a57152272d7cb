/- Two commands, as they lie, that are the same one; what is read, and printed, is read as the same, in lines of 600 bytes too. -/
import Derived.Test.YtpogpjebhnoncabGreatDoorLineM
namespace Go.Proofs.YtpogpjebhnoncabGreatDoor
open Go.RowKit Go.Shelf Go.Proofs.YtpogpjebhnoncabGreatDoor.Ln
open M (S)

/-- Both commands, as they lie, are the same one. -/
def Two (w : World) (g1 g2 : Nat) (k : Int) (s : ByteArray) (x y z : Int) (A1 A2 : Option Addr) (l : List (Int × Int)) (n c1 c2 : Nat) (d : Int) (a0 a1 a2 : Addr) (W : World) : Prop :=
  Blk W g1 29 #[.int .i64 k, .string s, .int .i64 x, .int .i64 y, .int .i64 z, .slice A1 n c1, .int .i64 d] ∧ Blk W g2 29 #[.int .i64 k, .string s, .int .i64 x, .int .i64 y, .int .i64 z, .slice A2 n c2, .int .i64 d] ∧ RdM W A1 l ∧ RdM W A2 l ∧ Env W ∧ Errs W a0 a1 a2 ∧ Below w.heap.size w W
theorem Two.next {w : World} {g1 g2 : Nat} {k : Int} {s : ByteArray} {x y z : Int} {A1 A2 : Option Addr} {l : List (Int × Int)} {n c1 c2 : Nat} {d : Int} {a0 a1 a2 : Addr} {W W' : World} (h : Two w g1 g2 k s x y z A1 A2 l n c1 c2 d a0 a1 a2 W) (hb : Below W.heap.size W W') : Two w g1 g2 k s x y z A1 A2 l n c1 c2 d a0 a1 a2 W' :=
  ⟨h.1.next hb, h.2.1.next hb, h.2.2.1.next hb, h.2.2.2.1.next hb, h.2.2.2.2.1.next hb, h.2.2.2.2.2.1.next hb, h.2.2.2.2.2.2.trans (hb.mono h.2.2.2.2.2.2.size)⟩
/-- The same, cell by cell. -/
theorem Two.c {w : World} {g1 g2 : Nat} {k : Int} {s : ByteArray} {x y z : Int} {A1 A2 : Option Addr} {l : List (Int × Int)} {n c1 c2 : Nat} {d : Int} {a0 a1 a2 : Addr} {W : World} (h : Two w g1 g2 k s x y z A1 A2 l n c1 c2 d a0 a1 a2 W) : W.cell? ⟨g1, 0, none⟩ = some (.int .i64 k) ∧ W.cell? ⟨g1, 1, none⟩ = some (.string s) ∧ W.cell? ⟨g1, 2, none⟩ = some (.int .i64 x) ∧ W.cell? ⟨g1, 3, none⟩ = some (.int .i64 y) ∧ W.cell? ⟨g1, 4, none⟩ = some (.int .i64 z) ∧ W.cell? ⟨g1, 5, none⟩ = some (.slice A1 n c1) ∧ W.cell? ⟨g1, 6, none⟩ = some (.int .i64 d) ∧ W.cell? ⟨g2, 0, none⟩ = some (.int .i64 k) ∧ W.cell? ⟨g2, 1, none⟩ = some (.string s) ∧ W.cell? ⟨g2, 2, none⟩ = some (.int .i64 x) ∧ W.cell? ⟨g2, 3, none⟩ = some (.int .i64 y) ∧ W.cell? ⟨g2, 4, none⟩ = some (.int .i64 z) ∧ W.cell? ⟨g2, 5, none⟩ = some (.slice A2 n c2) ∧ W.cell? ⟨g2, 6, none⟩ = some (.int .i64 d) ∧ Two w g1 g2 k s x y z A1 A2 l n c1 c2 d a0 a1 a2 W := by
  obtain ⟨p0, p1, p2, p3, p4, p5, p6⟩ := c_cells h.1
  obtain ⟨q0, q1, q2, q3, q4, q5, q6⟩ := c_cells h.2.1
  exact ⟨p0, p1, p2, p3, p4, p5, p6, q0, q1, q2, q3, q4, q5, q6, h⟩
theorem keepC {w : World} {g1 g2 : Nat} {k : Int} {s : ByteArray} {x y z : Int} {A1 A2 : Option Addr} {l : List (Int × Int)} {n c1 c2 : Nat} {d : Int} {a0 a1 a2 : Addr} {W W' : World} (h : W.cell? ⟨g1, 0, none⟩ = some (.int .i64 k) ∧ W.cell? ⟨g1, 1, none⟩ = some (.string s) ∧ W.cell? ⟨g1, 2, none⟩ = some (.int .i64 x) ∧ W.cell? ⟨g1, 3, none⟩ = some (.int .i64 y) ∧ W.cell? ⟨g1, 4, none⟩ = some (.int .i64 z) ∧ W.cell? ⟨g1, 5, none⟩ = some (.slice A1 n c1) ∧ W.cell? ⟨g1, 6, none⟩ = some (.int .i64 d) ∧ W.cell? ⟨g2, 0, none⟩ = some (.int .i64 k) ∧ W.cell? ⟨g2, 1, none⟩ = some (.string s) ∧ W.cell? ⟨g2, 2, none⟩ = some (.int .i64 x) ∧ W.cell? ⟨g2, 3, none⟩ = some (.int .i64 y) ∧ W.cell? ⟨g2, 4, none⟩ = some (.int .i64 z) ∧ W.cell? ⟨g2, 5, none⟩ = some (.slice A2 n c2) ∧ W.cell? ⟨g2, 6, none⟩ = some (.int .i64 d) ∧ Two w g1 g2 k s x y z A1 A2 l n c1 c2 d a0 a1 a2 W) (hb : Below W.heap.size W W') : W'.cell? ⟨g1, 0, none⟩ = some (.int .i64 k) ∧ W'.cell? ⟨g1, 1, none⟩ = some (.string s) ∧ W'.cell? ⟨g1, 2, none⟩ = some (.int .i64 x) ∧ W'.cell? ⟨g1, 3, none⟩ = some (.int .i64 y) ∧ W'.cell? ⟨g1, 4, none⟩ = some (.int .i64 z) ∧ W'.cell? ⟨g1, 5, none⟩ = some (.slice A1 n c1) ∧ W'.cell? ⟨g1, 6, none⟩ = some (.int .i64 d) ∧ W'.cell? ⟨g2, 0, none⟩ = some (.int .i64 k) ∧ W'.cell? ⟨g2, 1, none⟩ = some (.string s) ∧ W'.cell? ⟨g2, 2, none⟩ = some (.int .i64 x) ∧ W'.cell? ⟨g2, 3, none⟩ = some (.int .i64 y) ∧ W'.cell? ⟨g2, 4, none⟩ = some (.int .i64 z) ∧ W'.cell? ⟨g2, 5, none⟩ = some (.slice A2 n c2) ∧ W'.cell? ⟨g2, 6, none⟩ = some (.int .i64 d) ∧ Two w g1 g2 k s x y z A1 A2 l n c1 c2 d a0 a1 a2 W' := Two.c (h.2.2.2.2.2.2.2.2.2.2.2.2.2.2.next hb)
theorem sameC {w : World} {g1 g2 : Nat} {k : Int} {s : ByteArray} {x y z : Int} {A1 A2 : Option Addr} {l : List (Int × Int)} {n c1 c2 : Nat} {d : Int} {a0 a1 a2 : Addr} {W : World} (h : W.cell? ⟨g1, 0, none⟩ = some (.int .i64 k) ∧ W.cell? ⟨g1, 1, none⟩ = some (.string s) ∧ W.cell? ⟨g1, 2, none⟩ = some (.int .i64 x) ∧ W.cell? ⟨g1, 3, none⟩ = some (.int .i64 y) ∧ W.cell? ⟨g1, 4, none⟩ = some (.int .i64 z) ∧ W.cell? ⟨g1, 5, none⟩ = some (.slice A1 n c1) ∧ W.cell? ⟨g1, 6, none⟩ = some (.int .i64 d) ∧ W.cell? ⟨g2, 0, none⟩ = some (.int .i64 k) ∧ W.cell? ⟨g2, 1, none⟩ = some (.string s) ∧ W.cell? ⟨g2, 2, none⟩ = some (.int .i64 x) ∧ W.cell? ⟨g2, 3, none⟩ = some (.int .i64 y) ∧ W.cell? ⟨g2, 4, none⟩ = some (.int .i64 z) ∧ W.cell? ⟨g2, 5, none⟩ = some (.slice A2 n c2) ∧ W.cell? ⟨g2, 6, none⟩ = some (.int .i64 d) ∧ Two w g1 g2 k s x y z A1 A2 l n c1 c2 d a0 a1 a2 W) (hn : l.length = n) (hn9 : n ≤ 1000000) : Calls Tryz.prog 13 #[.agg #[.int .i64 k, .string s, .int .i64 x, .int .i64 y, .int .i64 z, .slice A1 n c1, .int .i64 d], .agg #[.int .i64 k, .string s, .int .i64 x, .int .i64 y, .int .i64 z, .slice A2 n c2, .int .i64 d]] W (Gives W (.bool true)) := csame_is k x y z d s A1 A2 l n c1 c2 W h.2.2.2.2.2.2.2.2.2.2.2.2.2.2.2.2.1 h.2.2.2.2.2.2.2.2.2.2.2.2.2.2.2.2.2.1 hn hn9
theorem liveC {w : World} {g1 g2 : Nat} {k : Int} {s : ByteArray} {x y z : Int} {A1 A2 : Option Addr} {l : List (Int × Int)} {n c1 c2 : Nat} {d : Int} {a0 a1 a2 : Addr} {W : World} (h : W.cell? ⟨g1, 0, none⟩ = some (.int .i64 k) ∧ W.cell? ⟨g1, 1, none⟩ = some (.string s) ∧ W.cell? ⟨g1, 2, none⟩ = some (.int .i64 x) ∧ W.cell? ⟨g1, 3, none⟩ = some (.int .i64 y) ∧ W.cell? ⟨g1, 4, none⟩ = some (.int .i64 z) ∧ W.cell? ⟨g1, 5, none⟩ = some (.slice A1 n c1) ∧ W.cell? ⟨g1, 6, none⟩ = some (.int .i64 d) ∧ W.cell? ⟨g2, 0, none⟩ = some (.int .i64 k) ∧ W.cell? ⟨g2, 1, none⟩ = some (.string s) ∧ W.cell? ⟨g2, 2, none⟩ = some (.int .i64 x) ∧ W.cell? ⟨g2, 3, none⟩ = some (.int .i64 y) ∧ W.cell? ⟨g2, 4, none⟩ = some (.int .i64 z) ∧ W.cell? ⟨g2, 5, none⟩ = some (.slice A2 n c2) ∧ W.cell? ⟨g2, 6, none⟩ = some (.int .i64 d) ∧ Two w g1 g2 k s x y z A1 A2 l n c1 c2 d a0 a1 a2 W) : Calls Tryz.prog 8 #[] W (Gives W (.bool true)) := live23_any h.2.2.2.2.2.2.2.2.2.2.2.2.2.2.2.2.2.2.1 h.2.2.2.2.2.2.2.2.2.2.2.2.2.2.2.2.2.2.2.1
theorem printLC {w : World} {g1 g2 : Nat} {k : Int} {s : ByteArray} {x y z : Int} {A1 A2 : Option Addr} {l : List (Int × Int)} {n c1 c2 : Nat} {d : Int} {a0 a1 a2 : Addr} {W : World} (h : W.cell? ⟨g1, 0, none⟩ = some (.int .i64 k) ∧ W.cell? ⟨g1, 1, none⟩ = some (.string s) ∧ W.cell? ⟨g1, 2, none⟩ = some (.int .i64 x) ∧ W.cell? ⟨g1, 3, none⟩ = some (.int .i64 y) ∧ W.cell? ⟨g1, 4, none⟩ = some (.int .i64 z) ∧ W.cell? ⟨g1, 5, none⟩ = some (.slice A1 n c1) ∧ W.cell? ⟨g1, 6, none⟩ = some (.int .i64 d) ∧ W.cell? ⟨g2, 0, none⟩ = some (.int .i64 k) ∧ W.cell? ⟨g2, 1, none⟩ = some (.string s) ∧ W.cell? ⟨g2, 2, none⟩ = some (.int .i64 x) ∧ W.cell? ⟨g2, 3, none⟩ = some (.int .i64 y) ∧ W.cell? ⟨g2, 4, none⟩ = some (.int .i64 z) ∧ W.cell? ⟨g2, 5, none⟩ = some (.slice A2 n c2) ∧ W.cell? ⟨g2, 6, none⟩ = some (.int .i64 d) ∧ Two w g1 g2 k s x y z A1 A2 l n c1 c2 d a0 a1 a2 W) (q : Cmd) (hk : q.k = k) (hs : bs q.p.cells = s) (hx : q.p.side = x) (hy : q.p.clock = y) (hz : q.p.full = z) (hl : q.l = l) (hd : q.d = d) (hn : l.length = n) (hn9 : n ≤ 2000) : Calls Tryz.prog 9 #[.agg #[.int .i64 k, .string s, .int .i64 x, .int .i64 y, .int .i64 z, .slice A2 n c2, .int .i64 d]] W (Gives W (.string (bs (printC q)))) := by
  subst hk hs hx hy hz hl hd
  exact printL_any q A2 n c2 W h.2.2.2.2.2.2.2.2.2.2.2.2.2.2.2.2.2.2.1 h.2.2.2.2.2.2.2.2.2.2.2.2.2.2.2.2.2.1 hn hn9
theorem words_half : ∀ l : List (List UInt8), (∀ x ∈ l, IsW x) → 2 * l.length ≤ sumL l
  | [], _ => Nat.le_refl _
  | x :: r, h => by
    have ih := words_half r fun y hy => h y (List.mem_cons_of_mem _ hy)
    have hx := List.length_pos_iff.2 (h x List.mem_cons_self).1
    rw [List.length_cons]
    show _ ≤ x.length + 1 + sumL r
    omega
theorem again6 {s : List UInt8} {c : Cmd} (h : parseL s = .ok c) (hs : s.length ≤ 600) : printC c ≠ [] ∧ parseL (printC c) = .ok c ∧ (printC c).length ≤ 4096 := by
  unfold parseL at h
  rw [if_neg (by omega)] at h
  split at h
  · cases h
  · obtain ⟨h1, h2, h3, h4⟩ := Ln.ahead h
    have k1 := words_sum s
    have k2 := words_half (wordsB s) fun x hx => words_is hx
    have e := read_back h2 (by omega)
    rw [h1] at e
    exact ⟨fun e => h2 (print_ne.1 e), e, Ln.print_size (by omega)⟩
theorem pos_err {t : List UInt8} {k : Int} (h : posR t = .error k) : k ≠ 0 := by
  unfold posR at h
  split at h
  · injection h with h; omega
  · split at h
    · cases h
    · rename_i h2
      injection h with h
      rw [← h]
      exact h2
theorem moves_err {l : List (List UInt8)} {k : Int} (h : movesR l = .error k) : k ≠ 0 := by
  unfold movesR at h
  split at h
  · injection h with h; omega
  · split at h
    · injection h with h; omega
    · cases h
theorem lparse_err {s : List UInt8} {k : Int} (h : parseL s = .error k) : k ≠ 0 := by
  unfold parseL at h
  split at h
  · injection h with h; omega
  · split at h
    · injection h with h; omega
    · generalize wordsB s = ws at h
      cases ws with
      | nil => injection h with h; omega
      | cons x r =>
        rw [parseW] at h
        split at h
        · unfold goR at h
          split at h
          · split at h
            · split at h
              · cases h
              · injection h with h; omega
            · injection h with h; omega
          · injection h with h; omega
        · split at h
          · unfold banR at h
            split at h
            · rename_i e he
              injection h with h
              rw [← h]
              exact moves_err he
            · cases h
          · split at h
            · unfold setR at h
              split at h
              · injection h with h; omega
              · split at h
                · rename_i e he
                  injection h with h
                  rw [← h]
                  unfold placeR at he
                  split at he
                  · cases he
                  · exact pos_err he
                · split at h
                  · cases h
                  · split at h
                    · rename_i e he
                      injection h with h
                      rw [← h]
                      exact moves_err he
                    · cases h
            · split at h
              · injection h with h; omega
              · cases h
end Go.Proofs.YtpogpjebhnoncabGreatDoor
