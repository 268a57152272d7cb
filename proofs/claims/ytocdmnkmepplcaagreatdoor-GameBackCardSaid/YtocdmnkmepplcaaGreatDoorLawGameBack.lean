/- Moves that are made, and all taken back, leave the position that there was; a copy goes on by itself: the call answers true. -/
import Derived.Test.YtocdmnkmepplcaaGreatDoorGameF
namespace Go.Proofs.YtocdmnkmepplcaaGreatDoor.gback
open Go.RowKit Go.Shelf
open M (S)

/-- Where a game began. -/
def rootP (st : List Stp) (now : Po) : Po := match st with | [] => now | x :: _ => x.p
theorem root_snoc (st : List Stp) (x : Stp) (q : Po) : rootP (st ++ [x]) q = rootP st x.p := by cases st <;> rfl
/-- Behind some moves: the game, the copy, the position that came in. -/
structure Inv (n₀ : Nat) (w : World) (g kb : Nat) (s : ByteArray) (y z u : Int) (v : Value) (st : List Stp) (now : Po) (wr : World) : Prop where
  at_ : GAt n₀ wr g v st now
  root : rootP st now = ⟨s, y, z, u⟩
  box : Blk wr w.heap.size 23 #[.string s, .int .i64 y, .int .i64 z, .int .i64 u]
  cop : Blk wr kb 78 #[.slice none 0 0, .string s, .int .i64 y, .int .i64 z, .int .i64 u]
  bel : Below w.heap.size w wr
theorem Inv.next {n₀ : Nat} {w : World} {g kb : Nat} {s : ByteArray} {y z u : Int} {v : Value} {st : List Stp} {now : Po} {wr w' : World} (h : Inv n₀ w g kb s y z u v st now wr) (hb : Below wr.heap.size wr w') : Inv n₀ w g kb s y z u v st now w' :=
  ⟨h.at_.next hb, h.root, h.box.next hb, h.cop.next hb, h.bel.trans (hb.mono h.bel.size)⟩
/-- What is fixed. -/
structure Fix (n₀ : Nat) (w : World) (g kb : Nat) : Prop where
  a : kb < n₀
  b : kb ≠ g
  c : w.heap.size < n₀
  d : w.heap.size < g
theorem Inv.far {n₀ : Nat} {w : World} {g kb : Nat} {s : ByteArray} {y z u : Int} {v v' : Value} {st st' : List Stp} {now now' : Po} {wr w' : World} (h : Inv n₀ w g kb s y z u v st now wr) (f : Fix n₀ w g kb) (hg : GAt n₀ w' g v' st' now') (hr : rootP st' now' = rootP st now) (hf : Far (OfG g v) wr w') : Inv n₀ w g kb s y z u v' st' now' w' := by
  refine ⟨hg, hr.trans h.root, hf.blk h.box ?_, hf.blk h.cop ?_, h.bel.trans (hf.below (OfG.low h.at_ (Nat.le_of_lt f.d) (Nat.le_of_lt f.c)) h.bel.size)⟩
  · rintro (e | e)
    · have := f.d; omega
    · have := (h.at_.own e).1; have := f.c; omega
  · rintro (e | e)
    · exact f.b e
    · have := (h.at_.own e).1; have := f.a; omega
theorem Inv.made {n₀ : Nat} {w : World} {g kb : Nat} {s : ByteArray} {y z u : Int} {v : Value} {st : List Stp} {now : Po} {wr : World} (h : Inv n₀ w g kb s y z u v st now wr) (f : Fix n₀ w g kb) (hT : Tab wr) (a b : Int) (hl : st.length < 1024) :
    Calls Tryz.prog 23 #[.pointer (some ⟨g, 0, none⟩), .agg #[.int .i64 a, .int .i64 b]] wr fun e w' => (e = .returned (.int .i64 0) ∧ ∃ v' st' now', st'.length = st.length + 1 ∧ Inv n₀ w g kb s y z u v' st' now' w') ∨ (e = .returned (.int .i64 7) ∧ Inv n₀ w g kb s y z u v st now w') := by
  obtain ⟨q, y', z', u', t, kk, hV, -⟩ := makeV_parts now.s now.y now.z now.u a b
  refine (gmake_any h.at_ hT a b hl q y' z' u' kk t (kk == 0) hV rfl).mono fun e w' hh => ?_
  by_cases hkk : kk = 0
  · simp only [hkk, beq_self_eq_true, if_true] at hh
    obtain ⟨rfl, v', hG', _, hf⟩ := hh
    exact .inl ⟨rfl, v', _, _, by simp, h.far f hG' (root_snoc st ⟨a, b, now⟩ _) hf⟩
  · rw [show (kk == 0) = false by simpa using hkk] at hh
    simp only [Bool.false_eq_true, if_false] at hh
    obtain ⟨rfl, hb⟩ := hh
    exact .inr ⟨rfl, h.next hb⟩
theorem Inv.back {n₀ : Nat} {w : World} {g kb : Nat} {s : ByteArray} {y z u : Int} {v : Value} {st : List Stp} {now : Po} {wr : World} (h : Inv n₀ w g kb s y z u v st now wr) (f : Fix n₀ w g kb) (n : Nat) (hn : st.length = n + 1) (hl : n ≤ 1024) :
    Calls Tryz.prog 21 #[.pointer (some ⟨g, 0, none⟩)] wr fun e w' => e = .returned (.int .i64 0) ∧ ∃ v' st' now', st'.length = n ∧ Inv n₀ w g kb s y z u v' st' now' w' := by
  obtain ⟨st', x, rfl⟩ : ∃ st' x, st = st' ++ [x] := ⟨_, _, (List.dropLast_concat_getLast (show st ≠ [] from by intro e; rw [e] at hn; simp at hn)).symm⟩
  have hl' : st'.length = n := by simpa using hn
  refine (unmake_is h.at_ (by omega)).mono fun e w' hh => ?_
  obtain ⟨rfl, v', hG', _, hf⟩ := hh
  exact ⟨rfl, v', st', x.p, hl', h.far f hG' (root_snoc st' x now).symm hf⟩

theorem bk_of {n₀ : Nat} {w : World} {g kb : Nat} {s : ByteArray} {y z u : Int} {v : Value} {st : List Stp} {now : Po} {W : World} (h : Inv n₀ w g kb s y z u v st now W) : W.cell? ⟨w.heap.size, 0, none⟩ = some (.string s) ∧ W.cell? ⟨w.heap.size, 1, none⟩ = some (.int .i64 y) ∧ W.cell? ⟨w.heap.size, 2, none⟩ = some (.int .i64 z) ∧ W.cell? ⟨w.heap.size, 3, none⟩ = some (.int .i64 u) ∧ Inv n₀ w g kb s y z u v st now W := by
  obtain ⟨p0, p1, p2, p3⟩ := ppos_cells h.box
  exact ⟨p0, p1, p2, p3, h⟩
theorem bk_keep {n₀ : Nat} {w : World} {g kb : Nat} {s : ByteArray} {y z u : Int} {v : Value} {st : List Stp} {now : Po} {W W' : World} (h : W.cell? ⟨w.heap.size, 0, none⟩ = some (.string s) ∧ W.cell? ⟨w.heap.size, 1, none⟩ = some (.int .i64 y) ∧ W.cell? ⟨w.heap.size, 2, none⟩ = some (.int .i64 z) ∧ W.cell? ⟨w.heap.size, 3, none⟩ = some (.int .i64 u) ∧ Inv n₀ w g kb s y z u v st now W) (hb : Below W.heap.size W W') : W'.cell? ⟨w.heap.size, 0, none⟩ = some (.string s) ∧ W'.cell? ⟨w.heap.size, 1, none⟩ = some (.int .i64 y) ∧ W'.cell? ⟨w.heap.size, 2, none⟩ = some (.int .i64 z) ∧ W'.cell? ⟨w.heap.size, 3, none⟩ = some (.int .i64 u) ∧ Inv n₀ w g kb s y z u v st now W' := bk_of (h.2.2.2.2.next hb)
theorem bk_inv {n₀ : Nat} {w : World} {g kb : Nat} {s : ByteArray} {y z u : Int} {v : Value} {st : List Stp} {now : Po} {W : World} (h : W.cell? ⟨w.heap.size, 0, none⟩ = some (.string s) ∧ W.cell? ⟨w.heap.size, 1, none⟩ = some (.int .i64 y) ∧ W.cell? ⟨w.heap.size, 2, none⟩ = some (.int .i64 z) ∧ W.cell? ⟨w.heap.size, 3, none⟩ = some (.int .i64 u) ∧ Inv n₀ w g kb s y z u v st now W) : Inv n₀ w g kb s y z u v st now W := h.2.2.2.2
set_option maxRecDepth 100000 in
set_option maxHeartbeats 4000000 in
theorem walk (s : ByteArray) (y z u : Int) (A : Option Addr) (l : List (Int × Int)) (c : Nat) (w : World) (hT : Tab w) (rd : ∀ j a b, l[j]? = some (a, b) → ∃ ad, A = some ad ∧ w.cell? (ad.add (j * 2)) = some (.int .i64 a) ∧ w.cell? ⟨(ad.add (j * 2)).block, (ad.add (j * 2)).off + 1, none⟩ = some (.int .i64 b)) : Calls Tryz.prog 6 #[.agg #[.string s, .int .i64 y, .int .i64 z, .int .i64 u], .slice A l.length c] w (Gives w (.bool true)) := by
  unfold Gives
  obtain ⟨n, hn⟩ : ∃ n, l.length = n := ⟨_, rfl⟩
  rw [hn]
  obtain ⟨W0, hW0⟩ : ∃ W0, w.alloc (.cells #[.string s, .int .i64 y, .int .i64 z, .int .i64 u] 23) = W0 := ⟨_, rfl⟩
  have hB : Below w.heap.size w W0 := by rw [← hW0]; exact (by repeat (first | exact Below.refl _ _ | (refine Below.setCell ?_ (by first | omega | (simp; done) | (simp; omega) | (simp at *; omega)) _) | (refine Below.alloc ?_ (by first | omega | (simp; done) | (simp; omega) | (simp at *; omega)) _) | refine Below.drew ?_ | (refine below_drewN ?_ _) | (refine Below.trans ?_ (Below.mono (by assumption) (by first | omega | (simp; done) | (simp; omega) | (simp at *; omega))))))
  have bP : Blk W0 w.heap.size 23 #[.string s, .int .i64 y, .int .i64 z, .int .i64 u] := by rw [← hW0]; exact Blk.new _ _ _ rfl
  obtain ⟨p0, p1, p2, p3⟩ := ppos_cells bP
  have hT0 := hT.next hB
  have HW := Lib.hid hW0
  have HT := Lib.hid hT
  have RD := Lib.hid rd
  have HN := Lib.hid hn
  clear hW0 hT rd hn
  by_cases hs : 200 < s.size
  · have d1 : decide (200 < (s.size : Int)) = true := by simp; omega
    clear hs
    go_enter Tryz.func6, Tryz.ntmps6
    go_wp2_with fail
    rw [HW.out]
    go_wp2_with fail
    refine (live9_any _ hT0).mono ?_
    rintro e w9 ⟨rfl, hb⟩
    go_wp2
    go_ret
    exact ⟨rfl, hB.trans (hb.mono hB.size)⟩
  have d1 : decide (200 < (s.size : Int)) = false := by simp; omega
  by_cases hs2 : 40 < n
  · have d2 : decide (40 < (n : Int)) = true := by simp; omega
    clear hs hs2
    go_enter Tryz.func6, Tryz.ntmps6
    go_wp2_with fail
    rw [HW.out]
    go_wp2_with fail
    refine (live9_any _ hT0).mono ?_
    rintro e w9 ⟨rfl, hb⟩
    go_wp2
    go_ret
    exact ⟨rfl, hB.trans (hb.mono hB.size)⟩
  have d2 : decide (40 < (n : Int)) = false := by simp; omega
  by_cases hw : wellN s y z u = 0
  · have hn30 : n ≤ 40 := by omega
    clear hs hs2
    go_enter Tryz.func6, Tryz.ntmps6
    have HWE := Lib.hid hw
    clear hw
    go_wp2_with fail
    rw [HW.out]
    go_wp2_with fail
    refine (new_is s y z u _ hT0 HWE.out).mono ?_
    rintro e w1 ⟨g, rfl, hg, bG, hb⟩
    have hB1 := hB.trans (hb.mono hB.size)
    have hsz0 : w.heap.size < W0.heap.size := bP.lt
    replace bP := bP.next hb
    clear hb p0 p1 p2 p3 hB d1 d2
    go_wp2_with fail
    refine (copy_none bG).mono ?_
    rintro e w2 ⟨kb, rfl, hkb, bK, hb⟩
    have hF : Fix w2.heap.size w g kb := ⟨bK.lt, by have := bG.lt; omega, (bP.next hb).lt, by omega⟩
    have hI0 : Inv w2.heap.size w g kb s y z u (.slice none 0 0) [] ⟨s, y, z, u⟩ w2 := ⟨GAt.new (bG.next hb), rfl, bP.next hb, bK, hB1.trans (hb.mono hB1.size)⟩
    have hgl : g < w2.heap.size := (bG.next hb).lt
    generalize w2.heap.size = n₀ at hF hI0
    clear hb bP bG hT0 bK hB1 hg hkb hgl hsz0
    go_wp2_with fail
    go_loopw [8, 9] (fun cnt i wr => ∃ (k : Nat) (v : Value) (st : List Stp) (now : Po), k ≤ n ∧ i = .int .i64 k ∧ cnt = .int .i64 (st.length : Nat) ∧ Hid (st.length ≤ k) ∧ Hid (Inv n₀ w g kb s y z u v st now wr)) (fun _ i _ => n - (intOf i).toNat)
    case atStart => exact ⟨0, _, _, _, by omega, rfl, rfl, Nat.le_refl _, hI0⟩
    case round =>
      obtain ⟨k, v, st, now, hk, rfl, rfl, hst, hI⟩ := hrel
      clear hI0
      by_cases hlt : k < n
      · have b1 : (k : Int) < (n : Int) := by omega
        have hkl : k < l.length := by rw [HN.out]; exact hlt
        obtain ⟨a, b, hab⟩ : ∃ a b, l[k]? = some (a, b) := ⟨l[k].1, l[k].2, by rw [List.getElem?_eq_getElem hkl]⟩
        obtain ⟨ad, rfl, hc0, hc1⟩ := RD.out k a b hab
        have hB := hI.out.bel
        have m0 := (hB.cell (p := ad.add (k * 2)) (cell_lt hc0)).trans hc0
        have m1 := (hB.cell (p := ⟨(ad.add (k * 2)).block, (ad.add (k * 2)).off + 1, none⟩) (cell_lt hc1)).trans hc1
        have hTr := HT.out.below hB HT.out.lt
        have hm := hI.out.made hF hTr a b (by have := hst.out; omega)
        clear hc0 hc1 hab hB
        go_wp2_with fail
        refine hm.mono ?_
        clear m0 m1 hm
        rintro e w3 (⟨rfl, v3, st3, now3, hl3, hI3⟩ | ⟨rfl, hI3⟩)
        · have HI3 := Lib.hid hI3
          have j1 : IntKind.i64.wrap ((st.length : Int) + 1) = (st3.length : Int) := by rw [IntWalk.i64_in _ (by have := hst.out; omega)]; omega
          clear hI3
          go_wp2_with fail
          go_roundw
          case rel => exact ⟨k + 1, v3, st3, now3, by omega, by go_num, by rw [hl3]; rfl, by show st3.length ≤ k + 1; have := hst.out; omega, HI3⟩
          case measure => simp [intOf]; omega
        · have HI3 := Lib.hid hI3
          clear hI3
          go_wp2_with fail
          go_roundw
          case rel => exact ⟨k + 1, v, st, now, by omega, by go_num, rfl, by show st.length ≤ k + 1; have := hst.out; omega, HI3⟩
          case measure => simp [intOf]; omega
      · have b1 : (n : Int) ≤ (k : Int) := by omega
        have hS : wr.drew.cell? ⟨w.heap.size, 0, none⟩ = some (.string s) ∧ wr.drew.cell? ⟨w.heap.size, 1, none⟩ = some (.int .i64 y) ∧ wr.drew.cell? ⟨w.heap.size, 2, none⟩ = some (.int .i64 z) ∧ wr.drew.cell? ⟨w.heap.size, 3, none⟩ = some (.int .i64 u) ∧ Inv n₀ w g kb s y z u v st now wr.drew := bk_of (hI.out.next (Below.refl _ _).drew)
        obtain ⟨N, hN⟩ : ∃ N, st.length = N := ⟨_, rfl⟩
        have hN40 : N ≤ 40 := by have := hst.out; omega
        clear hst hI
        rw [hN]
        go_wp2_with fail
        refine wp_region_held_drew (S := fun W => W.cell? ⟨w.heap.size, 0, none⟩ = some (.string s) ∧ W.cell? ⟨w.heap.size, 1, none⟩ = some (.int .i64 y) ∧ W.cell? ⟨w.heap.size, 2, none⟩ = some (.int .i64 z) ∧ W.cell? ⟨w.heap.size, 3, none⟩ = some (.int .i64 u) ∧ Inv n₀ w g kb s y z u v st now W) (by kernel_rfl) (hS) (fun hHeld => ?_)
        refine wpAnyH_take (i := 0) (oi := { dst := some 58, op := Op.move (Operand.tmp 5), type := 37, pos := "law.go:83", after := #[], guard := none }) (v := ?_) rfl (by kernel_rfl) (by kernel_rfl) (by kernel_rfl) (fun _ _ _ h => h) (Or.inl ⟨by rfl, ?_⟩) (by assumption) ?_
        case refine_2 =>
          intro w hSw
          (try dsimp only at hSw)
          (try go_simp)
          all_goals (with_reducible rfl)
        (try dsimp only [Act.put]); (try simp only [List.setIfInBounds_toArray, List.set_cons_zero, List.set_cons_succ])
        refine wpAnyH_take (i := 2) (oi := { dst := some 60, op := Op.move (Operand.tmp 8), type := 3, pos := "law.go:83", after := #[], guard := none }) (v := ?_) rfl (by kernel_rfl) (by kernel_rfl) (by kernel_rfl) (fun _ _ _ h => h) (Or.inl ⟨by rfl, ?_⟩) (by assumption) ?_
        case refine_2 =>
          intro w hSw
          (try dsimp only at hSw)
          (try go_simp)
          all_goals (with_reducible rfl)
        (try dsimp only [Act.put]); (try simp only [List.setIfInBounds_toArray, List.set_cons_zero, List.set_cons_succ])
        refine wpAnyH_ready (rs := [1]) (by kernel_rfl) (by simp) (AllReadyH.cons (o := { dst := some 59, op := Op.call { callee := Callee.value (Operand.func 27), args := #[Operand.tmp 58], argTypes := #[37] }, type := 3, pos := "law.go:83", after := #[{ on := 0, ground := Ground.data }], guard := none }) rfl (fun K hK => ?_) AllReadyH.nil)
        go_simp
        refine (plies_is (bk_inv hHeld).at_ N hN).mono ?_; rintro e w8 ⟨rfl, rfl⟩
        refine hK.out _ _ ?_ (fun hHeld => ?_)
        · first | with_reducible assumption | exact bk_keep (by assumption) hb
        clear hK K
        refine wpAnyH_take (i := 3) (oi := { dst := some 61, op := Op.binOp BinOp.neq 3 (Operand.tmp 59) (Operand.tmp 60) 3, type := 4, pos := "law.go:83", after := #[{ on := 1, ground := Ground.data }, { on := 2, ground := Ground.data }], guard := none }) (v := ?_) rfl (by kernel_rfl) (by kernel_rfl) (by kernel_rfl) (fun _ _ _ h => h) (Or.inl ⟨by rfl, ?_⟩) (by assumption) ?_
        case refine_2 =>
          intro w hSw
          (try dsimp only at hSw)
          (try go_simp)
          all_goals (with_reducible rfl)
        (try dsimp only [Act.put]); (try simp only [List.setIfInBounds_toArray, List.set_cons_zero, List.set_cons_succ])
        refine wpAnyH_take (i := 4) (oi := { dst := some 62, op := Op.move (Operand.tmp 61), type := 4, pos := "law.go:83", after := #[{ on := 3, ground := Ground.data }, { on := 1, ground := Ground.chain }], guard := none }) (v := ?_) rfl (by kernel_rfl) (by kernel_rfl) (by kernel_rfl) (fun _ _ _ h => h) (Or.inl ⟨by rfl, ?_⟩) (by assumption) ?_
        case refine_2 =>
          intro w hSw
          (try dsimp only at hSw)
          (try go_simp)
          all_goals (with_reducible rfl)
        (try dsimp only [Act.put]); (try simp only [List.setIfInBounds_toArray, List.set_cons_zero, List.set_cons_succ])
        refine wpAnyH_take (i := 5) (oi := { dst := some 63, op := Op.move (Operand.tmp 7), type := 37, pos := "law.go:83", after := #[{ on := 4, ground := Ground.guard }], guard := some (4, false) }) (v := ?_) rfl (by kernel_rfl) (by kernel_rfl) (by kernel_rfl) (fun _ _ _ h => h) (Or.inl ⟨by rfl, ?_⟩) (by assumption) ?_
        case refine_2 =>
          intro w hSw
          (try dsimp only at hSw)
          (try go_simp)
          all_goals (with_reducible rfl)
        (try dsimp only [Act.put]); (try simp only [List.setIfInBounds_toArray, List.set_cons_zero, List.set_cons_succ])
        refine wpAnyH_ready (rs := [6]) (by kernel_rfl) (by simp) (AllReadyH.cons (o := { dst := some 64, op := Op.call { callee := Callee.value (Operand.func 27), args := #[Operand.tmp 63], argTypes := #[37] }, type := 3, pos := "law.go:83", after := #[{ on := 5, ground := Ground.data }, { on := 4, ground := Ground.chain }, { on := 4, ground := Ground.guard }], guard := some (4, false) }) rfl (fun K hK => ?_) AllReadyH.nil)
        go_simp
        refine (plies_is (GAt.new (p := ⟨s, y, z, u⟩) (bk_inv hHeld).cop) 0 rfl).mono ?_; rintro e w8 ⟨rfl, rfl⟩
        refine hK.out _ _ ?_ (fun hHeld => ?_)
        · first | with_reducible assumption | exact bk_keep (by assumption) hb
        clear hK K
        refine wpAnyH_take (i := 7) (oi := { dst := some 65, op := Op.binOp BinOp.neq 3 (Operand.tmp 64) (Operand.const (Value.int IntKind.i64 0)) 3, type := 4, pos := "law.go:83", after := #[{ on := 6, ground := Ground.data }, { on := 4, ground := Ground.guard }], guard := some (4, false) }) (v := ?_) rfl (by kernel_rfl) (by kernel_rfl) (by kernel_rfl) (fun _ _ _ h => h) (Or.inl ⟨by rfl, ?_⟩) (by assumption) ?_
        case refine_2 =>
          intro w hSw
          (try dsimp only at hSw)
          (try go_simp)
          all_goals (with_reducible rfl)
        (try dsimp only [Act.put]); (try simp only [List.setIfInBounds_toArray, List.set_cons_zero, List.set_cons_succ])
        refine wpAnyH_take (i := 8) (oi := { dst := some 66, op := Op.pick (Operand.tmp 62) (Operand.const (Value.bool true)) (Operand.tmp 65), type := 4, pos := "law.go:83", after := #[{ on := 4, ground := Ground.data }, { on := 7, ground := Ground.data }], guard := none }) (v := ?_) rfl (by kernel_rfl) (by kernel_rfl) (by kernel_rfl) (fun _ _ _ h => h) (Or.inl ⟨by rfl, ?_⟩) (by assumption) ?_
        case refine_2 =>
          intro w hSw
          (try dsimp only at hSw)
          (try go_simp)
          all_goals (with_reducible rfl)
        (try dsimp only [Act.put]); (try simp only [List.setIfInBounds_toArray, List.set_cons_zero, List.set_cons_succ])
        refine wpAnyH_take (i := 9) (oi := { dst := some 67, op := Op.move (Operand.tmp 66), type := 4, pos := "law.go:83", after := #[{ on := 8, ground := Ground.data }, { on := 6, ground := Ground.chain }], guard := none }) (v := ?_) rfl (by kernel_rfl) (by kernel_rfl) (by kernel_rfl) (fun _ _ _ h => h) (Or.inl ⟨by rfl, ?_⟩) (by assumption) ?_
        case refine_2 =>
          intro w hSw
          (try dsimp only at hSw)
          (try go_simp)
          all_goals (with_reducible rfl)
        (try dsimp only [Act.put]); (try simp only [List.setIfInBounds_toArray, List.set_cons_zero, List.set_cons_succ])
        refine wpAnyH_take (i := 10) (oi := { dst := some 68, op := Op.move (Operand.tmp 7), type := 37, pos := "law.go:83", after := #[{ on := 9, ground := Ground.guard }], guard := some (9, false) }) (v := ?_) rfl (by kernel_rfl) (by kernel_rfl) (by kernel_rfl) (fun _ _ _ h => h) (Or.inl ⟨by rfl, ?_⟩) (by assumption) ?_
        case refine_2 =>
          intro w hSw
          (try dsimp only at hSw)
          (try go_simp)
          all_goals (with_reducible rfl)
        (try dsimp only [Act.put]); (try simp only [List.setIfInBounds_toArray, List.set_cons_zero, List.set_cons_succ])
        refine wpAnyH_take (i := 12) (oi := { dst := some 70, op := Op.load 23 (Operand.tmp 2), type := 23, pos := "law.go:83", after := #[{ on := 9, ground := Ground.guard }], guard := some (9, false) }) (v := ?_) rfl (by kernel_rfl) (by kernel_rfl) (by kernel_rfl) (fun _ _ _ h => h) (Or.inl ⟨by rfl, ?_⟩) (by assumption) ?_
        case refine_2 =>
          intro w hSw
          (try dsimp only at hSw)
          (try go_simp)
          all_goals (with_reducible rfl)
        (try dsimp only [Act.put]); (try simp only [List.setIfInBounds_toArray, List.set_cons_zero, List.set_cons_succ])
        refine wpAnyH_ready (rs := [11]) (by kernel_rfl) (by simp) (AllReadyH.cons (o := { dst := some 69, op := Op.call { callee := Callee.value (Operand.func 26), args := #[Operand.tmp 68], argTypes := #[37] }, type := 23, pos := "law.go:83", after := #[{ on := 10, ground := Ground.data }, { on := 9, ground := Ground.chain }, { on := 9, ground := Ground.guard }], guard := some (9, false) }) rfl (fun K hK => ?_) AllReadyH.nil)
        go_simp
        refine (position_is (GAt.new (p := ⟨s, y, z, u⟩) (bk_inv hHeld).cop)).mono ?_; rintro e w8 ⟨rfl, hb⟩
        refine hK.out _ _ ?_ (fun hHeld => ?_)
        · first | with_reducible assumption | exact bk_keep (by assumption) hb
        clear hK K
        refine wpAnyH_take (i := 13) (oi := { dst := some 71, op := Op.binOp BinOp.neq 23 (Operand.tmp 69) (Operand.tmp 70) 23, type := 4, pos := "law.go:83", after := #[{ on := 11, ground := Ground.data }, { on := 12, ground := Ground.data }, { on := 9, ground := Ground.guard }], guard := some (9, false) }) (v := ?_) rfl (by kernel_rfl) (by kernel_rfl) (by kernel_rfl) (fun _ _ _ h => h) (Or.inl ⟨by rfl, ?_⟩) (by assumption) ?_
        case refine_2 =>
          intro w hSw
          (try dsimp only at hSw)
          (try go_simp)
          all_goals (with_reducible rfl)
        (try dsimp only [Act.put]); (try simp only [List.setIfInBounds_toArray, List.set_cons_zero, List.set_cons_succ])
        refine wpAnyH_take (i := 14) (oi := { dst := some 72, op := Op.pick (Operand.tmp 67) (Operand.const (Value.bool true)) (Operand.tmp 71), type := 4, pos := "law.go:83", after := #[{ on := 9, ground := Ground.data }, { on := 13, ground := Ground.data }], guard := none }) (v := ?_) rfl (by kernel_rfl) (by kernel_rfl) (by kernel_rfl) (fun _ _ _ h => h) (Or.inl ⟨by rfl, ?_⟩) (by assumption) ?_
        case refine_2 =>
          intro w hSw
          (try dsimp only at hSw)
          (try go_simp)
          all_goals (with_reducible rfl)
        (try dsimp only [Act.put]); (try simp only [List.setIfInBounds_toArray, List.set_cons_zero, List.set_cons_succ])
        refine wpAnyH_done (by kernel_rfl) ?_ _
        have hI := Lib.hid (bk_inv hHeld)
        clear hHeld hS
        go_wp2_with fail
        go_loopw [10] (fun i wq => ∃ (j : Nat) (v : Value) (st : List Stp) (now : Po), j ≤ N ∧ i = .int .i64 j ∧ Hid (st.length + j = N) ∧ Hid (Inv n₀ w g kb s y z u v st now wq)) (fun i _ => N - (intOf i).toNat)
        case atStart => exact ⟨0, _, _, _, by omega, rfl, hN, hI⟩
        case round =>
          obtain ⟨j, v4, st4, now4, hj, rfl, hst4, hI4⟩ := hrel
          clear hI hN
          by_cases hlt2 : j < N
          · have b2 : (j : Int) < (N : Int) := by omega
            obtain ⟨M, hM⟩ : ∃ M, st4.length = M + 1 := ⟨st4.length - 1, by have := hst4.out; omega⟩
            have hm := hI4.out.back hF M hM (by have := hst4.out; omega)
            go_wp2_with fail
            refine hm.mono ?_
            clear hm
            rintro e w3 ⟨rfl, v5, st5, now5, hl5, hI5⟩
            have HI5 := Lib.hid hI5
            clear hI5
            go_wp2_with fail
            go_roundw
            case rel => exact ⟨j + 1, v5, st5, now5, by omega, by go_num, by show st5.length + (j + 1) = N; have := hst4.out; omega, HI5⟩
            case measure => simp [intOf]; omega
          · have b2 : (N : Int) ≤ (j : Int) := by omega
            obtain rfl : st4 = [] := List.eq_nil_of_length_eq_zero (by have := hst4.out; omega)
            obtain rfl : now4 = ⟨s, y, z, u⟩ := hI4.out.root
            have hS : wr.drew.cell? ⟨w.heap.size, 0, none⟩ = some (.string s) ∧ wr.drew.cell? ⟨w.heap.size, 1, none⟩ = some (.int .i64 y) ∧ wr.drew.cell? ⟨w.heap.size, 2, none⟩ = some (.int .i64 z) ∧ wr.drew.cell? ⟨w.heap.size, 3, none⟩ = some (.int .i64 u) ∧ Inv n₀ w g kb s y z u v4 [] ⟨s, y, z, u⟩ wr.drew := bk_of (hI4.out.next (Below.refl _ _).drew)
            clear hI4 hst4
            go_wp2_with fail
            refine wp_region_held_drew (S := fun W => W.cell? ⟨w.heap.size, 0, none⟩ = some (.string s) ∧ W.cell? ⟨w.heap.size, 1, none⟩ = some (.int .i64 y) ∧ W.cell? ⟨w.heap.size, 2, none⟩ = some (.int .i64 z) ∧ W.cell? ⟨w.heap.size, 3, none⟩ = some (.int .i64 u) ∧ Inv n₀ w g kb s y z u v4 [] ⟨s, y, z, u⟩ W) (by kernel_rfl) (hS) (fun hHeld => ?_)
            refine wpAnyH_take (i := 0) (oi := { dst := some 81, op := Op.move (Operand.tmp 5), type := 37, pos := "law.go:91", after := #[], guard := none }) (v := ?_) rfl (by kernel_rfl) (by kernel_rfl) (by kernel_rfl) (fun _ _ _ h => h) (Or.inl ⟨by rfl, ?_⟩) (by assumption) ?_
            case refine_2 =>
              intro w hSw
              (try dsimp only at hSw)
              (try go_simp)
              all_goals (with_reducible rfl)
            (try dsimp only [Act.put]); (try simp only [List.setIfInBounds_toArray, List.set_cons_zero, List.set_cons_succ])
            refine wpAnyH_take (i := 2) (oi := { dst := some 83, op := Op.load 23 (Operand.tmp 2), type := 23, pos := "law.go:91", after := #[], guard := none }) (v := ?_) rfl (by kernel_rfl) (by kernel_rfl) (by kernel_rfl) (fun _ _ _ h => h) (Or.inl ⟨by rfl, ?_⟩) (by assumption) ?_
            case refine_2 =>
              intro w hSw
              (try dsimp only at hSw)
              (try go_simp)
              all_goals (with_reducible rfl)
            (try dsimp only [Act.put]); (try simp only [List.setIfInBounds_toArray, List.set_cons_zero, List.set_cons_succ])
            refine wpAnyH_ready (rs := [1]) (by kernel_rfl) (by simp) (AllReadyH.cons (o := { dst := some 82, op := Op.call { callee := Callee.value (Operand.func 26), args := #[Operand.tmp 81], argTypes := #[37] }, type := 23, pos := "law.go:91", after := #[{ on := 0, ground := Ground.data }], guard := none }) rfl (fun K hK => ?_) AllReadyH.nil)
            go_simp
            refine (position_is (bk_inv hHeld).at_).mono ?_; rintro e w8 ⟨rfl, hb⟩
            refine hK.out _ _ ?_ (fun hHeld => ?_)
            · first | with_reducible assumption | exact bk_keep (by assumption) hb
            clear hK K
            refine wpAnyH_take (i := 3) (oi := { dst := some 84, op := Op.binOp BinOp.eql 23 (Operand.tmp 82) (Operand.tmp 83) 23, type := 4, pos := "law.go:91", after := #[{ on := 1, ground := Ground.data }, { on := 2, ground := Ground.data }], guard := none }) (v := ?_) rfl (by kernel_rfl) (by kernel_rfl) (by kernel_rfl) (fun _ _ _ h => h) (Or.inl ⟨by rfl, ?_⟩) (by assumption) ?_
            case refine_2 =>
              intro w hSw
              (try dsimp only at hSw)
              (try go_simp)
              all_goals (with_reducible rfl)
            (try dsimp only [Act.put]); (try simp only [List.setIfInBounds_toArray, List.set_cons_zero, List.set_cons_succ])
            refine wpAnyH_take (i := 4) (oi := { dst := some 85, op := Op.move (Operand.tmp 84), type := 4, pos := "law.go:91", after := #[{ on := 3, ground := Ground.data }, { on := 1, ground := Ground.chain }], guard := none }) (v := ?_) rfl (by kernel_rfl) (by kernel_rfl) (by kernel_rfl) (fun _ _ _ h => h) (Or.inl ⟨by rfl, ?_⟩) (by assumption) ?_
            case refine_2 =>
              intro w hSw
              (try dsimp only at hSw)
              (try go_simp)
              all_goals (with_reducible rfl)
            (try dsimp only [Act.put]); (try simp only [List.setIfInBounds_toArray, List.set_cons_zero, List.set_cons_succ])
            refine wpAnyH_take (i := 5) (oi := { dst := some 86, op := Op.move (Operand.tmp 5), type := 37, pos := "law.go:91", after := #[{ on := 4, ground := Ground.guard }], guard := some (4, true) }) (v := ?_) rfl (by kernel_rfl) (by kernel_rfl) (by kernel_rfl) (fun _ _ _ h => h) (Or.inl ⟨by rfl, ?_⟩) (by assumption) ?_
            case refine_2 =>
              intro w hSw
              (try dsimp only at hSw)
              (try go_simp)
              all_goals (with_reducible rfl)
            (try dsimp only [Act.put]); (try simp only [List.setIfInBounds_toArray, List.set_cons_zero, List.set_cons_succ])
            refine wpAnyH_ready (rs := [6]) (by kernel_rfl) (by simp) (AllReadyH.cons (o := { dst := some 87, op := Op.call { callee := Callee.value (Operand.func 21), args := #[Operand.tmp 86], argTypes := #[37] }, type := 27, pos := "law.go:91", after := #[{ on := 5, ground := Ground.data }, { on := 4, ground := Ground.chain }, { on := 4, ground := Ground.guard }], guard := some (4, true) }) rfl (fun K hK => ?_) AllReadyH.nil)
            go_simp
            refine (unmake_end (bk_inv hHeld).at_).mono ?_; rintro e w8 ⟨rfl, hb⟩
            refine hK.out _ _ ?_ (fun hHeld => ?_)
            · first | with_reducible assumption | exact bk_keep (by assumption) hb
            clear hK K
            refine wpAnyH_take (i := 7) (oi := { dst := some 88, op := Op.binOp BinOp.eql 27 (Operand.tmp 87) (Operand.const (Value.int IntKind.i64 10)) 27, type := 4, pos := "law.go:91", after := #[{ on := 6, ground := Ground.data }, { on := 4, ground := Ground.guard }], guard := some (4, true) }) (v := ?_) rfl (by kernel_rfl) (by kernel_rfl) (by kernel_rfl) (fun _ _ _ h => h) (Or.inl ⟨by rfl, ?_⟩) (by assumption) ?_
            case refine_2 =>
              intro w hSw
              (try dsimp only at hSw)
              (try go_simp)
              all_goals (with_reducible rfl)
            (try dsimp only [Act.put]); (try simp only [List.setIfInBounds_toArray, List.set_cons_zero, List.set_cons_succ])
            refine wpAnyH_take (i := 8) (oi := { dst := some 89, op := Op.pick (Operand.tmp 85) (Operand.tmp 88) (Operand.const (Value.bool false)), type := 4, pos := "law.go:91", after := #[{ on := 4, ground := Ground.data }, { on := 7, ground := Ground.data }], guard := none }) (v := ?_) rfl (by kernel_rfl) (by kernel_rfl) (by kernel_rfl) (fun _ _ _ h => h) (Or.inl ⟨by rfl, ?_⟩) (by assumption) ?_
            case refine_2 =>
              intro w hSw
              (try dsimp only at hSw)
              (try go_simp)
              all_goals (with_reducible rfl)
            (try dsimp only [Act.put]); (try simp only [List.setIfInBounds_toArray, List.set_cons_zero, List.set_cons_succ])
            refine wpAnyH_take (i := 9) (oi := { dst := some 90, op := Op.move (Operand.tmp 89), type := 4, pos := "law.go:91", after := #[{ on := 8, ground := Ground.data }, { on := 6, ground := Ground.chain }], guard := none }) (v := ?_) rfl (by kernel_rfl) (by kernel_rfl) (by kernel_rfl) (fun _ _ _ h => h) (Or.inl ⟨by rfl, ?_⟩) (by assumption) ?_
            case refine_2 =>
              intro w hSw
              (try dsimp only at hSw)
              (try go_simp)
              all_goals (with_reducible rfl)
            (try dsimp only [Act.put]); (try simp only [List.setIfInBounds_toArray, List.set_cons_zero, List.set_cons_succ])
            refine wpAnyH_take (i := 10) (oi := { dst := some 91, op := Op.move (Operand.tmp 5), type := 37, pos := "law.go:91", after := #[{ on := 9, ground := Ground.guard }], guard := some (9, true) }) (v := ?_) rfl (by kernel_rfl) (by kernel_rfl) (by kernel_rfl) (fun _ _ _ h => h) (Or.inl ⟨by rfl, ?_⟩) (by assumption) ?_
            case refine_2 =>
              intro w hSw
              (try dsimp only at hSw)
              (try go_simp)
              all_goals (with_reducible rfl)
            (try dsimp only [Act.put]); (try simp only [List.setIfInBounds_toArray, List.set_cons_zero, List.set_cons_succ])
            refine wpAnyH_ready (rs := [11]) (by kernel_rfl) (by simp) (AllReadyH.cons (o := { dst := some 92, op := Op.call { callee := Callee.value (Operand.func 29), args := #[Operand.tmp 91], argTypes := #[37] }, type := 32, pos := "law.go:91", after := #[{ on := 10, ground := Ground.data }, { on := 9, ground := Ground.chain }, { on := 9, ground := Ground.guard }], guard := some (9, true) }) rfl (fun K hK => ?_) AllReadyH.nil)
            go_simp
            refine (past_none (bk_inv hHeld).at_).mono ?_; rintro e w8 ⟨A1, c1, rfl, hb⟩
            refine hK.out _ _ ?_ (fun hHeld => ?_)
            · first | with_reducible assumption | exact bk_keep (by assumption) hb
            clear hK K
            refine wpAnyH_take (i := 12) (oi := { dst := some 93, op := Op.call { callee := Callee.builtin Builtin.len, args := #[Operand.tmp 92], argTypes := #[32] }, type := 3, pos := "law.go:91", after := #[{ on := 11, ground := Ground.data }, { on := 9, ground := Ground.guard }], guard := some (9, true) }) (v := ?_) rfl (by kernel_rfl) (by kernel_rfl) (by kernel_rfl) (fun _ _ _ h => h) (Or.inl ⟨by rfl, ?_⟩) (by assumption) ?_
            case refine_2 =>
              intro w hSw
              (try dsimp only at hSw)
              (try go_simp)
              all_goals (with_reducible rfl)
            (try dsimp only [Act.put]); (try simp only [List.setIfInBounds_toArray, List.set_cons_zero, List.set_cons_succ])
            refine wpAnyH_take (i := 13) (oi := { dst := some 94, op := Op.binOp BinOp.eql 3 (Operand.tmp 93) (Operand.const (Value.int IntKind.i64 0)) 3, type := 4, pos := "law.go:91", after := #[{ on := 12, ground := Ground.data }, { on := 9, ground := Ground.guard }], guard := some (9, true) }) (v := ?_) rfl (by kernel_rfl) (by kernel_rfl) (by kernel_rfl) (fun _ _ _ h => h) (Or.inl ⟨by rfl, ?_⟩) (by assumption) ?_
            case refine_2 =>
              intro w hSw
              (try dsimp only at hSw)
              (try go_simp)
              all_goals (with_reducible rfl)
            (try dsimp only [Act.put]); (try simp only [List.setIfInBounds_toArray, List.set_cons_zero, List.set_cons_succ])
            refine wpAnyH_take (i := 14) (oi := { dst := some 95, op := Op.pick (Operand.tmp 90) (Operand.tmp 94) (Operand.const (Value.bool false)), type := 4, pos := "law.go:91", after := #[{ on := 9, ground := Ground.data }, { on := 13, ground := Ground.data }], guard := none }) (v := ?_) rfl (by kernel_rfl) (by kernel_rfl) (by kernel_rfl) (fun _ _ _ h => h) (Or.inl ⟨by rfl, ?_⟩) (by assumption) ?_
            case refine_2 =>
              intro w hSw
              (try dsimp only at hSw)
              (try go_simp)
              all_goals (with_reducible rfl)
            (try dsimp only [Act.put]); (try simp only [List.setIfInBounds_toArray, List.set_cons_zero, List.set_cons_succ])
            refine wpAnyH_take (i := 15) (oi := { dst := some 96, op := Op.move (Operand.tmp 95), type := 4, pos := "law.go:91", after := #[{ on := 14, ground := Ground.data }, { on := 11, ground := Ground.chain }], guard := none }) (v := ?_) rfl (by kernel_rfl) (by kernel_rfl) (by kernel_rfl) (fun _ _ _ h => h) (Or.inl ⟨by rfl, ?_⟩) (by assumption) ?_
            case refine_2 =>
              intro w hSw
              (try dsimp only at hSw)
              (try go_simp)
              all_goals (with_reducible rfl)
            (try dsimp only [Act.put]); (try simp only [List.setIfInBounds_toArray, List.set_cons_zero, List.set_cons_succ])
            refine wpAnyH_ready (rs := [16]) (by kernel_rfl) (by simp) (AllReadyH.cons (o := { dst := some 97, op := Op.call { callee := Callee.value (Operand.func 18), args := #[], argTypes := #[] }, type := 4, pos := "law.go:91", after := #[{ on := 15, ground := Ground.chain }, { on := 15, ground := Ground.guard }], guard := some (15, true) }) rfl (fun K hK => ?_) AllReadyH.nil)
            go_simp
            refine (live9_any _ (HT.out.below (bk_inv hHeld).bel HT.out.lt)).mono ?_; rintro e w8 ⟨rfl, hb⟩
            refine hK.out _ _ ?_ (fun hHeld => ?_)
            · first | with_reducible assumption | exact bk_keep (by assumption) hb
            clear hK K
            refine wpAnyH_take (i := 17) (oi := { dst := some 98, op := Op.pick (Operand.tmp 96) (Operand.tmp 97) (Operand.const (Value.bool false)), type := 4, pos := "law.go:91", after := #[{ on := 15, ground := Ground.data }, { on := 16, ground := Ground.data }], guard := none }) (v := ?_) rfl (by kernel_rfl) (by kernel_rfl) (by kernel_rfl) (fun _ _ _ h => h) (Or.inl ⟨by rfl, ?_⟩) (by assumption) ?_
            case refine_2 =>
              intro w hSw
              (try dsimp only at hSw)
              (try go_simp)
              all_goals (with_reducible rfl)
            (try dsimp only [Act.put]); (try simp only [List.setIfInBounds_toArray, List.set_cons_zero, List.set_cons_succ])
            refine wpAnyH_take (i := 18) (oi := { dst := some 4, op := Op.assign (Operand.tmp 98), type := 4, pos := "law.go:91", after := #[{ on := 17, ground := Ground.data }, { on := 16, ground := Ground.chain }, { on := 0, ground := Ground.phase }, { on := 1, ground := Ground.phase }, { on := 2, ground := Ground.phase }, { on := 3, ground := Ground.phase }, { on := 4, ground := Ground.phase }, { on := 5, ground := Ground.phase }, { on := 6, ground := Ground.phase }, { on := 7, ground := Ground.phase }, { on := 8, ground := Ground.phase }, { on := 9, ground := Ground.phase }, { on := 10, ground := Ground.phase }, { on := 11, ground := Ground.phase }, { on := 12, ground := Ground.phase }, { on := 13, ground := Ground.phase }, { on := 14, ground := Ground.phase }, { on := 15, ground := Ground.phase }, { on := 16, ground := Ground.phase }, { on := 17, ground := Ground.phase }], guard := none }) (v := ?_) rfl (by kernel_rfl) (by kernel_rfl) (by kernel_rfl) (fun _ _ _ h => h) (Or.inl ⟨by rfl, ?_⟩) (by assumption) ?_
            case refine_2 =>
              intro w hSw
              (try dsimp only at hSw)
              (try go_simp)
              all_goals (with_reducible rfl)
            (try dsimp only [Act.put]); (try simp only [List.setIfInBounds_toArray, List.set_cons_zero, List.set_cons_succ])
            refine wpAnyH_done (by kernel_rfl) ?_ _
            go_wp2
            go_ret
            exact ⟨rfl, (bk_inv hHeld).bel⟩
  · obtain ⟨r, hr⟩ : ∃ r, wellN s y z u = r := ⟨_, rfl⟩
    have h0 : ((r : Int) != 0) = true := by rw [← hr]; simpa using hw
    have HR := Lib.hid hr
    clear hw hr hs hs2
    go_enter Tryz.func6, Tryz.ntmps6
    go_wp2_with fail
    rw [HW.out]
    go_wp2_with fail
    refine (new_bad s y z u _ _ hT0 HR.out h0).mono ?_
    rintro e w1 ⟨rfl, hb⟩
    have hB1 := hB.trans (hb.mono hB.size)
    replace bP := bP.next hb
    replace hT0 := hT0.next hb
    obtain ⟨p0, p1, p2, p3⟩ := ppos_cells bP
    clear hb
    go_wp2_with fail
    refine (rwell_is s y z u r _ HR.out).mono ?_
    rintro e w2 ⟨rfl, hb⟩
    have hB2 := hB1.trans (hb.mono hB1.size)
    replace hT0 := hT0.next hb
    clear hb p0 p1 p2 p3
    go_wp2_with fail
    refine (live9_any _ hT0).mono ?_
    rintro e w9 ⟨rfl, hb⟩
    go_wp2
    go_ret
    exact ⟨rfl, hB2.trans (hb.mono hB2.size)⟩
end Go.Proofs.YtocdmnkmepplcaaGreatDoor.gback
