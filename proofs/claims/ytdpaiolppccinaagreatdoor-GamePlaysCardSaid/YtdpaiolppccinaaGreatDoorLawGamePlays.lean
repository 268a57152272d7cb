/- A game and the document's own one, played and taken back alike, are alike: the call answers true. -/
import Derived.Test.YtdpaiolppccinaaGreatDoorGameH
namespace Go.Proofs.YtdpaiolppccinaaGreatDoor.gplays
open Go.RowKit Go.Shelf
open M (S)

/-- The two behind one call each. -/
def Runs (n₀ : Nat) (w : World) (g kb : Nat) (f h : FuncId) (args : List Value) (st : List Stp) (now : Po) (r : Int) (st' : List Stp) (now' : Po) : Prop :=
  (∀ v vL vM wr, Tab wr → Duo n₀ w g kb v vL vM st now st now wr → Calls Tryz.prog f ((.pointer (some ⟨g, 0, none⟩) :: args).toArray) wr fun e w' => e = .returned (.int .i64 r) ∧ ∃ v', Duo n₀ w g kb v' vL vM st' now' st now w') ∧
  (∀ v vL vM wr, Duo n₀ w g kb v vL vM st' now' st now wr → Calls Tryz.prog h ((.pointer (some ⟨kb, 0, none⟩) :: args).toArray) wr fun e w' => e = .returned (.int .i64 r) ∧ ∃ vL' vM', Duo n₀ w g kb v vL' vM' st' now' st' now' w')
theorem back (n₀ : Nat) (w : World) (g kb : Nat) (st : List Stp) (now : Po) (hl : st.length ≤ 1024) : ∃ (r : Int) (st' : List Stp) (now' : Po), st'.length ≤ st.length ∧ Runs n₀ w g kb 7 8 [] st now r st' now' := by
  rcases (show st = [] ∨ ∃ s0 x, st = s0 ++ [x] by
    rcases List.eq_nil_or_concat st with e | ⟨s0, x, e⟩
    · exact .inl e
    · exact .inr ⟨s0, x, by rw [e, List.concat_eq_append]⟩) with rfl | ⟨s0, x, rfl⟩
  · refine ⟨10, [], now, Nat.le_refl _, fun v vL vM wr hT h => ?_, fun v vL vM wr h => ?_⟩
    · refine (unmake_end h.at_).mono ?_
      rintro e w' ⟨rfl, hb⟩
      exact ⟨rfl, v, h.next hb⟩
    · refine (runmake_end h.dat).mono ?_
      rintro e w' ⟨rfl, hb⟩
      exact ⟨rfl, vL, vM, h.next hb⟩
  · rw [List.length_append] at hl
    refine ⟨0, s0, x.p, by simp, fun v vL vM wr hT h => ?_, fun v vL vM wr h => ?_⟩
    · refine (unmake_is h.at_ (by omega)).mono ?_
      rintro e w' ⟨rfl, v', hG, ho, hf⟩
      exact ⟨rfl, v', h.game hG ho hf⟩
    · refine (runmake_is h.dat (by omega)).mono ?_
      rintro e w' ⟨rfl, vL', vM', hD, ho, hf⟩
      exact ⟨rfl, vL', vM', h.doc hD ho hf⟩
theorem on (n₀ : Nat) (w : World) (g kb : Nat) (st : List Stp) (now : Po) (hl : st.length < 1024) (a b : Int) : ∃ (r : Int) (st' : List Stp) (now' : Po), st'.length ≤ st.length + 1 ∧ Runs n₀ w g kb 9 10 [.agg #[.int .i64 a, .int .i64 b]] st now r st' now' := by
  obtain ⟨q, y', z', u', t, kk, hV, -⟩ := makeV_parts now.s now.y now.z now.u a b
  by_cases hkk : kk = 0
  · refine ⟨0, st ++ [⟨a, b, now⟩], ⟨q, y', z', u'⟩, by simp, fun v vL vM wr hT h => ?_, fun v vL vM wr h => ?_⟩
    · refine (gmake_any h.at_ hT a b hl q y' z' u' kk t (kk == 0) hV rfl).mono fun e w' hh => ?_
      simp only [hkk, beq_self_eq_true, if_true] at hh
      obtain ⟨rfl, v', hG, ho, hf⟩ := hh
      exact ⟨rfl, v', h.game hG ho hf⟩
    · refine (rgmake_any h.dat a b hl q y' z' u' kk t (kk == 0) hV rfl).mono fun e w' hh => ?_
      simp only [hkk, beq_self_eq_true, if_true] at hh
      obtain ⟨rfl, vL', vM', hD, ho, hf⟩ := hh
      exact ⟨rfl, vL', vM', h.doc hD ho hf⟩
  · refine ⟨7, st, now, by omega, fun v vL vM wr hT h => ?_, fun v vL vM wr h => ?_⟩
    · refine (gmake_any h.at_ hT a b hl q y' z' u' kk t (kk == 0) hV rfl).mono fun e w' hh => ?_
      rw [show (kk == 0) = false by simpa using hkk] at hh
      simp only [Bool.false_eq_true, if_false] at hh
      obtain ⟨rfl, hb⟩ := hh
      exact ⟨rfl, v, h.next hb⟩
    · refine (rgmake_any h.dat a b hl q y' z' u' kk t (kk == 0) hV rfl).mono fun e w' hh => ?_
      rw [show (kk == 0) = false by simpa using hkk] at hh
      simp only [Bool.false_eq_true, if_false] at hh
      obtain ⟨rfl, hb⟩ := hh
      exact ⟨rfl, vL, vM, h.next hb⟩
theorem sc_of {w W : World} {p q : Addr} {a b : Int} (h : w.cell? p = some (.int .i64 a) ∧ w.cell? q = some (.int .i64 b)) (hB : Below w.heap.size w W) : W.cell? p = some (.int .i64 a) ∧ W.cell? q = some (.int .i64 b) ∧ Below w.heap.size w W :=
  ⟨(hB.cell (p := p) (cell_lt h.1)).trans h.1, (hB.cell (p := q) (cell_lt h.2)).trans h.2, hB⟩
/-- How many pieces. -/
def pcs (s : ByteArray) (side : Int) : Nat := (piecesL s side).length
theorem pl_few (s : ByteArray) (side : Int) : pcs s side ≤ 1000000 := by
  unfold pcs piecesL
  split
  · exact Nat.le_trans (trues_le _ 90) (by decide)
  · exact Nat.zero_le _
theorem rpieces_is (s : ByteArray) (side : Int) (w : World) : Calls Tryz.prog 18 #[.string s, .int .i64 side] w (GivesN w (piecesL s side) (pcs s side)) := rpieces_any s side w
theorem gp_is {n₀ : Nat} {w : World} {g : Nat} {v : Value} {st : List Stp} {now : Po} (h : GAt n₀ w g v st now) (hT : Tab w) (side : Int) : Calls Tryz.prog 17 #[.pointer (some ⟨g, 0, none⟩), .int .i64 side] w (GivesN w (piecesL now.s side) (pcs now.s side)) := gpieces_is h hT side _ rfl
theorem pcs_same (A B : Option Addr) (s : ByteArray) (side : Int) (c d : Nat) (w : World) (hx : Rd w A ((piecesL s side).map iv)) (hy : Rd w B ((piecesL s side).map iv)) : Calls Tryz.prog 16 #[.slice A (pcs s side) c, .slice B (pcs s side) d] w (Gives w (.bool true)) := ints_true A B _ _ c d w hx hy rfl (pl_few s side)
/-- Behind a step of the script: the two, what the document's game tells of now in a box, the number of its moves. -/
structure Fin (n₀ : Nat) (w : World) (g kb nb : Nat) (v vL : Value) (A : Option Addr) (N c : Nat) (st : List Stp) (now : Po) (wr : World) : Prop where
  two : Duo n₀ w g kb v vL (.slice A N c) st now st now wr
  box : Blk wr nb 23 #[.string now.s, .int .i64 now.y, .int .i64 now.z, .int .i64 now.u]
  len : st.length = N
theorem Fin.next {n₀ : Nat} {w : World} {g kb nb : Nat} {v vL : Value} {A : Option Addr} {N c : Nat} {st : List Stp} {now : Po} {wr w' : World} (h : Fin n₀ w g kb nb v vL A N c st now wr) (hb : Below wr.heap.size wr w') : Fin n₀ w g kb nb v vL A N c st now w' := ⟨h.two.next hb, h.box.next hb, h.len⟩
theorem pl_of {n₀ : Nat} {w : World} {g kb nb : Nat} {v vL : Value} {A : Option Addr} {N c : Nat} {st : List Stp} {now : Po} {W : World} (h : Fin n₀ w g kb nb v vL A N c st now W) : W.cell? ⟨nb, 0, none⟩ = some (.string now.s) ∧ W.cell? ⟨nb, 1, none⟩ = some (.int .i64 now.y) ∧ W.cell? ⟨nb, 2, none⟩ = some (.int .i64 now.z) ∧ W.cell? ⟨nb, 3, none⟩ = some (.int .i64 now.u) ∧ W.cell? ⟨kb, 1, none⟩ = some (.slice A N c) ∧ Fin n₀ w g kb nb v vL A N c st now W := by
  obtain ⟨p0, p1, p2, p3⟩ := ppos_cells h.box
  exact ⟨p0, p1, p2, p3, (dcells h.two.dat.blk).2.1, h⟩
theorem pl_fin {n₀ : Nat} {w : World} {g kb nb : Nat} {v vL : Value} {A : Option Addr} {N c : Nat} {st : List Stp} {now : Po} {W : World} (h : W.cell? ⟨nb, 0, none⟩ = some (.string now.s) ∧ W.cell? ⟨nb, 1, none⟩ = some (.int .i64 now.y) ∧ W.cell? ⟨nb, 2, none⟩ = some (.int .i64 now.z) ∧ W.cell? ⟨nb, 3, none⟩ = some (.int .i64 now.u) ∧ W.cell? ⟨kb, 1, none⟩ = some (.slice A N c) ∧ Fin n₀ w g kb nb v vL A N c st now W) : Fin n₀ w g kb nb v vL A N c st now W := h.2.2.2.2.2
theorem pl_keep {n₀ : Nat} {w : World} {g kb nb : Nat} {v vL : Value} {A : Option Addr} {N c : Nat} {st : List Stp} {now : Po} {W W' : World} (h : W.cell? ⟨nb, 0, none⟩ = some (.string now.s) ∧ W.cell? ⟨nb, 1, none⟩ = some (.int .i64 now.y) ∧ W.cell? ⟨nb, 2, none⟩ = some (.int .i64 now.z) ∧ W.cell? ⟨nb, 3, none⟩ = some (.int .i64 now.u) ∧ W.cell? ⟨kb, 1, none⟩ = some (.slice A N c) ∧ Fin n₀ w g kb nb v vL A N c st now W) (hb : Below W.heap.size W W') : W'.cell? ⟨nb, 0, none⟩ = some (.string now.s) ∧ W'.cell? ⟨nb, 1, none⟩ = some (.int .i64 now.y) ∧ W'.cell? ⟨nb, 2, none⟩ = some (.int .i64 now.z) ∧ W'.cell? ⟨nb, 3, none⟩ = some (.int .i64 now.u) ∧ W'.cell? ⟨kb, 1, none⟩ = some (.slice A N c) ∧ Fin n₀ w g kb nb v vL A N c st now W' := pl_of ((pl_fin h).next hb)
theorem Fin.same {n₀ : Nat} {w : World} {g kb nb : Nat} {v vL : Value} {A : Option Addr} {N c : Nat} {st : List Stp} {now : Po} {W : World} (h : Fin n₀ w g kb nb v vL A N c st now W) (B : Nat) (hB : Rd W (some ⟨B, 0, none⟩) (mvz (st.map Stp.mv))) (hN : N ≤ 1000000) : Calls Tryz.prog 14 #[.slice (some ⟨B, 0, none⟩) N N, .slice A N c] W (Gives W (.bool true)) := by
  refine same_any B A (st.map Stp.mv) N N c W hB ?_ (by rw [List.length_map]; exact h.len) hN
  obtain ⟨A', c', e, hm⟩ := h.two.dat.moves
  injection e with e1 _ _
  subst e1
  exact hm
set_option maxRecDepth 100000 in
set_option maxHeartbeats 4000000 in
theorem walk (s : ByteArray) (y z u : Int) (A : Option Addr) (l : List (Bool × Int × Int)) (c : Nat) (w : World) (hT : Tab w) (rd : ∀ j k a b, l[j]? = some (k, a, b) → ∃ ad, A = some ad ∧ w.cell? (ad.add (j * 3)) = some (.bool k) ∧ w.cell? ⟨(ad.add (j * 3)).block, (ad.add (j * 3)).off + 1, none⟩ = some (.int .i64 a) ∧ w.cell? ⟨(ad.add (j * 3)).block, (ad.add (j * 3)).off + 2, none⟩ = some (.int .i64 b)) : Calls Tryz.prog 3 #[.agg #[.string s, .int .i64 y, .int .i64 z, .int .i64 u], .slice A l.length c] w (Gives w (.bool true)) := by
  unfold Gives
  obtain ⟨n, hn⟩ : ∃ n, l.length = n := ⟨_, rfl⟩
  rw [hn]
  obtain ⟨W0, hW0⟩ : ∃ W0, w.alloc (.cells #[.string s, .int .i64 y, .int .i64 z, .int .i64 u] 23) = W0 := ⟨_, rfl⟩
  have hB : Below w.heap.size w W0 := by rw [← hW0]; exact (by repeat (first | exact Below.refl _ _ | (refine Below.setCell ?_ (by first | omega | (simp; done) | (simp; omega) | (simp at *; omega)) _) | (refine Below.alloc ?_ (by first | omega | (simp; done) | (simp; omega) | (simp at *; omega)) _) | refine Below.drew ?_ | (refine below_drewN ?_ _) | (refine Below.trans ?_ (Below.mono (by assumption) (by first | omega | (simp; done) | (simp; omega) | (simp at *; omega))))))
  have bP : Blk W0 w.heap.size 23 #[.string s, .int .i64 y, .int .i64 z, .int .i64 u] := by rw [← hW0]; exact Blk.new _ _ _ rfl
  obtain ⟨p0, p1, p2, p3⟩ := ppos_cells bP
  have hT0 := hT.next hB
  have HW := Lib.hid hW0
  have HT := Lib.hid hT
  have RD := Lib.hid rd
  have HN := Lib.hid hn
  clear hW0 hT rd hn
  by_cases hlim : 200 < s.size ∨ 40 < n
  · have d1 : (decide (200 < (s.size : Int)) || decide (40 < (n : Int))) = true := by
      simp only [Bool.or_eq_true, decide_eq_true_eq]
      omega
    obtain ⟨x1, hx1⟩ : ∃ x, decide (200 < (s.size : Int)) = x := ⟨_, rfl⟩
    obtain ⟨x2, hx2⟩ : ∃ x, decide (40 < (n : Int)) = x := ⟨_, rfl⟩
    rw [hx1, hx2] at d1
    clear hlim
    cases x1 <;> cases x2 <;> first | (exfalso; simp at d1; done) | skip
    all_goals
      clear d1
      go_enter Tryz.func3, Tryz.ntmps3
      go_wp2_with fail
      rw [HW.out]
      go_wp2_with fail
      refine (live9_any _ hT0).mono ?_
      rintro e w9 ⟨rfl, hb⟩
      go_wp2
      go_ret
      exact ⟨rfl, hB.trans (hb.mono hB.size)⟩
  have hn40 : n ≤ 40 := by omega
  have d1 : decide (200 < (s.size : Int)) = false := by simp; omega
  have d2 : decide (40 < (n : Int)) = false := by simp; omega
  clear hlim
  by_cases hw : wellN s y z u = 0
  · have HL : Hid (n ≤ 40) := hn40
    clear hn40
    go_enter Tryz.func3, Tryz.ntmps3
    have HWE := Lib.hid hw
    clear hw
    go_wp2_with fail
    rw [HW.out]
    go_wp2_with fail
    refine (new_is s y z u _ hT0 HWE.out).mono ?_
    rintro e w1 ⟨g, rfl, hg, bG, hb⟩
    obtain ⟨p0, p1, p2, p3⟩ := ppos_cells (bP.next hb)
    have hB1 := hB.trans (hb.mono hB.size)
    go_wp2_with fail
    refine (rnew_is s y z u _ HWE.out).mono ?_
    rintro e w2 ⟨kb, gl, rfl, hkb, hgl, hD, hb2⟩
    have hI0 : Duo w2.heap.size w g kb (.slice none 0 0) (.slice (some ⟨gl, 0, none⟩) 1 1) (.slice none 0 0) [] ⟨s, y, z, u⟩ [] ⟨s, y, z, u⟩ w2 := by
      have hs := hB1.size
      have hgl1 := bG.lt
      have hsz := hB.size
      refine ⟨GAt.new (bG.next hb2), hD, ?_, ?_, hB1.trans (hb2.mono hB1.size), by omega, Nat.le_trans hs hb2.size⟩
      · rintro k (rfl | e) (hd | e' | e')
        · omega
        · have : gl = k := by simpa [Value.ownBlock] using e'
          omega
        · cases e'
        · cases e
        · cases e
        · cases e
      · rintro k (rfl | e' | e')
        · omega
        · have : gl = k := by simpa [Value.ownBlock] using e'
          omega
        · cases e'
    clear hb bP bG hT0 hB1 hg p0 p1 p2 p3 hB d1 d2 hD hb2 hgl hkb
    generalize w2.heap.size = n₀ at hI0
    have HI0 := Lib.hid hI0
    clear hI0
    go_wp2_with fail
    go_loopw [9] (fun i wr => ∃ (k : Nat) (v vL vM : Value) (st : List Stp) (now : Po), k ≤ n ∧ i = .int .i64 k ∧ Hid (st.length ≤ k) ∧ Hid (Duo n₀ w g kb v vL vM st now st now wr)) (fun i _ => n - (intOf i).toNat)
    case atStart => exact ⟨0, _, _, _, _, _, by omega, rfl, Nat.le_refl _, HI0⟩
    case round =>
      obtain ⟨k, v, vL, vM, st, now, hk, rfl, hst, hI⟩ := hrel
      clear HI0
      by_cases hlt : k < n
      · have b1 : (k : Int) < (n : Int) := by omega
        have hkl : k < l.length := by rw [HN.out]; exact hlt
        obtain ⟨kk, a, b, hab⟩ : ∃ kk a b, l[k]? = some (kk, a, b) := ⟨l[k].1, l[k].2.1, l[k].2.2, by rw [List.getElem?_eq_getElem hkl]⟩
        obtain ⟨ad, rfl, hc0, hc1, hc2⟩ := RD.out k kk a b hab
        have hB := hI.out.bel
        have m0 := (hB.cell (p := ad.add (k * 3)) (cell_lt hc0)).trans hc0
        have m1 := (hB.cell (p := ⟨(ad.add (k * 3)).block, (ad.add (k * 3)).off + 1, none⟩) (cell_lt hc1)).trans hc1
        have m2 := (hB.cell (p := ⟨(ad.add (k * 3)).block, (ad.add (k * 3)).off + 2, none⟩) (cell_lt hc2)).trans hc2
        have hTr := HT.out.below hB HT.out.lt
        have hs40 : st.length ≤ 40 := by have := hst.out; have := HL.out; omega
        clear hc0 hab hB
        cases kk
        · obtain ⟨r, st', now', hl', hR1, hR2⟩ := on n₀ w g kb st now (by omega) a b
          have hrr : (r == r) = true := beq_self_eq_true r
          have hI1 := hI.out.next (Below.refl wr.heap.size wr).drew
          have hTd := hTr.next (Below.refl wr.heap.size wr).drew
          have HR1 := Lib.hid hR1
          have HR2 := Lib.hid hR2
          have HSC := Lib.hid (And.intro hc1 hc2)
          have hS := sc_of HSC.out hI1.bel
          clear hR1 hR2 hc1 hc2 hTr
          go_wp2_with fail
          clear m0 m1 m2
          refine wp_region_held_drew (S := fun W => W.cell? ⟨(ad.add (k * 3)).block, (ad.add (k * 3)).off + 1, none⟩ = some (.int .i64 a) ∧ W.cell? ⟨(ad.add (k * 3)).block, (ad.add (k * 3)).off + 2, none⟩ = some (.int .i64 b) ∧ Below w.heap.size w W) (by kernel_rfl) (hS) (fun hHeld => ?_)
          refine wpAnyH_take (i := 0) (oi := { dst := some 62, op := Op.move (Operand.tmp 5), type := 26, pos := "law.go:54", after := #[], guard := none }) (v := ?_) rfl (by kernel_rfl) (by kernel_rfl) (by kernel_rfl) (fun _ _ _ h => h) (Or.inl ⟨by rfl, ?_⟩) (by assumption) ?_
          case refine_2 =>
            intro w hSw
            (try dsimp only at hSw)
            (try go_simp)
            all_goals (with_reducible rfl)
          (try dsimp only [Act.put]); (try simp only [List.setIfInBounds_toArray, List.set_cons_zero, List.set_cons_succ])
          refine wpAnyH_take (i := 1) (oi := { dst := some 63, op := Op.move (Operand.tmp 1), type := 24, pos := "law.go:54", after := #[], guard := none }) (v := ?_) rfl (by kernel_rfl) (by kernel_rfl) (by kernel_rfl) (fun _ _ _ h => h) (Or.inl ⟨by rfl, ?_⟩) (by assumption) ?_
          case refine_2 =>
            intro w hSw
            (try dsimp only at hSw)
            (try go_simp)
            all_goals (with_reducible rfl)
          (try dsimp only [Act.put]); (try simp only [List.setIfInBounds_toArray, List.set_cons_zero, List.set_cons_succ])
          refine wpAnyH_take (i := 2) (oi := { dst := some 64, op := Op.move (Operand.tmp 9), type := 3, pos := "law.go:54", after := #[], guard := none }) (v := ?_) rfl (by kernel_rfl) (by kernel_rfl) (by kernel_rfl) (fun _ _ _ h => h) (Or.inl ⟨by rfl, ?_⟩) (by assumption) ?_
          case refine_2 =>
            intro w hSw
            (try dsimp only at hSw)
            (try go_simp)
            all_goals (with_reducible rfl)
          (try dsimp only [Act.put]); (try simp only [List.setIfInBounds_toArray, List.set_cons_zero, List.set_cons_succ])
          refine wpAnyH_take (i := 3) (oi := { dst := some 65, op := Op.indexAddr 24 (Operand.tmp 63) (Operand.tmp 64), type := 0, pos := "law.go:54", after := #[{ on := 1, ground := Ground.data }, { on := 2, ground := Ground.data }], guard := none }) (v := ?_) rfl (by kernel_rfl) (by kernel_rfl) (by kernel_rfl) (fun _ _ _ h => h) (Or.inl ⟨by rfl, ?_⟩) (by assumption) ?_
          case refine_2 =>
            intro w hSw
            (try dsimp only at hSw)
            (try go_simp)
            all_goals (with_reducible rfl)
          (try dsimp only [Act.put]); (try simp only [List.setIfInBounds_toArray, List.set_cons_zero, List.set_cons_succ])
          refine wpAnyH_take (i := 4) (oi := { dst := some 66, op := Op.fieldAddr 36 (Operand.tmp 65) 1, type := 0, pos := "law.go:54", after := #[{ on := 3, ground := Ground.data }], guard := none }) (v := ?_) rfl (by kernel_rfl) (by kernel_rfl) (by kernel_rfl) (fun _ _ _ h => h) (Or.inl ⟨by rfl, ?_⟩) (by assumption) ?_
          case refine_2 =>
            intro w hSw
            (try dsimp only at hSw)
            (try go_simp)
            all_goals (with_reducible rfl)
          (try dsimp only [Act.put]); (try simp only [List.setIfInBounds_toArray, List.set_cons_zero, List.set_cons_succ])
          refine wpAnyH_take (i := 5) (oi := { dst := some 67, op := Op.load 34 (Operand.tmp 66), type := 34, pos := "law.go:54", after := #[{ on := 4, ground := Ground.data }], guard := none }) (v := ?_) rfl (by kernel_rfl) (by kernel_rfl) (by kernel_rfl) (fun _ _ _ h => h) (Or.inl ⟨by rfl, ?_⟩) (by assumption) ?_
          case refine_2 =>
            intro w hSw
            (try dsimp only at hSw)
            (try go_simp)
            all_goals (with_reducible rfl)
          (try dsimp only [Act.put]); (try simp only [List.setIfInBounds_toArray, List.set_cons_zero, List.set_cons_succ])
          refine wpAnyH_take (i := 7) (oi := { dst := some 69, op := Op.move (Operand.tmp 7), type := 30, pos := "law.go:54", after := #[], guard := none }) (v := ?_) rfl (by kernel_rfl) (by kernel_rfl) (by kernel_rfl) (fun _ _ _ h => h) (Or.inl ⟨by rfl, ?_⟩) (by assumption) ?_
          case refine_2 =>
            intro w hSw
            (try dsimp only at hSw)
            (try go_simp)
            all_goals (with_reducible rfl)
          (try dsimp only [Act.put]); (try simp only [List.setIfInBounds_toArray, List.set_cons_zero, List.set_cons_succ])
          refine wpAnyH_take (i := 8) (oi := { dst := some 70, op := Op.move (Operand.tmp 1), type := 24, pos := "law.go:54", after := #[], guard := none }) (v := ?_) rfl (by kernel_rfl) (by kernel_rfl) (by kernel_rfl) (fun _ _ _ h => h) (Or.inl ⟨by rfl, ?_⟩) (by assumption) ?_
          case refine_2 =>
            intro w hSw
            (try dsimp only at hSw)
            (try go_simp)
            all_goals (with_reducible rfl)
          (try dsimp only [Act.put]); (try simp only [List.setIfInBounds_toArray, List.set_cons_zero, List.set_cons_succ])
          refine wpAnyH_take (i := 9) (oi := { dst := some 71, op := Op.move (Operand.tmp 9), type := 3, pos := "law.go:54", after := #[], guard := none }) (v := ?_) rfl (by kernel_rfl) (by kernel_rfl) (by kernel_rfl) (fun _ _ _ h => h) (Or.inl ⟨by rfl, ?_⟩) (by assumption) ?_
          case refine_2 =>
            intro w hSw
            (try dsimp only at hSw)
            (try go_simp)
            all_goals (with_reducible rfl)
          (try dsimp only [Act.put]); (try simp only [List.setIfInBounds_toArray, List.set_cons_zero, List.set_cons_succ])
          refine wpAnyH_take (i := 10) (oi := { dst := some 72, op := Op.indexAddr 24 (Operand.tmp 70) (Operand.tmp 71), type := 0, pos := "law.go:54", after := #[{ on := 8, ground := Ground.data }, { on := 9, ground := Ground.data }], guard := none }) (v := ?_) rfl (by kernel_rfl) (by kernel_rfl) (by kernel_rfl) (fun _ _ _ h => h) (Or.inl ⟨by rfl, ?_⟩) (by assumption) ?_
          case refine_2 =>
            intro w hSw
            (try dsimp only at hSw)
            (try go_simp)
            all_goals (with_reducible rfl)
          (try dsimp only [Act.put]); (try simp only [List.setIfInBounds_toArray, List.set_cons_zero, List.set_cons_succ])
          refine wpAnyH_take (i := 11) (oi := { dst := some 73, op := Op.fieldAddr 36 (Operand.tmp 72) 1, type := 0, pos := "law.go:54", after := #[{ on := 10, ground := Ground.data }], guard := none }) (v := ?_) rfl (by kernel_rfl) (by kernel_rfl) (by kernel_rfl) (fun _ _ _ h => h) (Or.inl ⟨by rfl, ?_⟩) (by assumption) ?_
          case refine_2 =>
            intro w hSw
            (try dsimp only at hSw)
            (try go_simp)
            all_goals (with_reducible rfl)
          (try dsimp only [Act.put]); (try simp only [List.setIfInBounds_toArray, List.set_cons_zero, List.set_cons_succ])
          refine wpAnyH_take (i := 12) (oi := { dst := some 74, op := Op.load 34 (Operand.tmp 73), type := 34, pos := "law.go:54", after := #[{ on := 11, ground := Ground.data }], guard := none }) (v := ?_) rfl (by kernel_rfl) (by kernel_rfl) (by kernel_rfl) (fun _ _ _ h => h) (Or.inl ⟨by rfl, ?_⟩) (by assumption) ?_
          case refine_2 =>
            intro w hSw
            (try dsimp only at hSw)
            (try go_simp)
            all_goals (with_reducible rfl)
          (try dsimp only [Act.put]); (try simp only [List.setIfInBounds_toArray, List.set_cons_zero, List.set_cons_succ])
          refine wpAnyH_ready (rs := [6]) (by kernel_rfl) (by simp) (AllReadyH.cons (o := { dst := some 68, op := Op.call { callee := Callee.value (Operand.func 9), args := #[Operand.tmp 62, Operand.tmp 67], argTypes := #[26, 34] }, type := 27, pos := "law.go:54", after := #[{ on := 0, ground := Ground.data }, { on := 5, ground := Ground.data }], guard := none }) rfl (fun K hK => ?_) AllReadyH.nil)
          go_simp
          refine (HR1.out v vL vM _ hTd hI1).mono ?_; rintro e w3 ⟨rfl, v3, h3⟩
          refine hK.out _ _ ?_ (fun hHeld => ?_)
          · first | with_reducible assumption | exact sc_of HSC.out h4.bel | exact sc_of HSC.out h3.bel
          clear hK K
          refine wpAnyH_ready (rs := [13]) (by kernel_rfl) (by simp) (AllReadyH.cons (o := { dst := some 75, op := Op.call { callee := Callee.value (Operand.func 10), args := #[Operand.tmp 69, Operand.tmp 74], argTypes := #[30, 34] }, type := 27, pos := "law.go:54", after := #[{ on := 7, ground := Ground.data }, { on := 12, ground := Ground.data }, { on := 6, ground := Ground.chain }], guard := none }) rfl (fun K hK => ?_) AllReadyH.nil)
          go_simp
          refine (HR2.out v3 vL vM _ h3).mono ?_; rintro e w4 ⟨rfl, vL4, vM4, h4⟩
          refine hK.out _ _ ?_ (fun hHeld => ?_)
          · first | with_reducible assumption | exact sc_of HSC.out h4.bel | exact sc_of HSC.out h3.bel
          clear hK K
          refine wpAnyH_take (i := 14) (oi := { dst := some 76, op := Op.binOp BinOp.eql 27 (Operand.tmp 68) (Operand.tmp 75) 27, type := 4, pos := "law.go:54", after := #[{ on := 6, ground := Ground.data }, { on := 13, ground := Ground.data }], guard := none }) (v := ?_) rfl (by kernel_rfl) (by kernel_rfl) (by kernel_rfl) (fun _ _ _ h => h) (Or.inl ⟨by rfl, ?_⟩) (by assumption) ?_
          case refine_2 =>
            intro w hSw
            (try dsimp only at hSw)
            (try go_simp)
            all_goals (with_reducible rfl)
          (try dsimp only [Act.put]); (try simp only [List.setIfInBounds_toArray, List.set_cons_zero, List.set_cons_succ])
          refine wpAnyH_take (i := 15) (oi := { dst := some 10, op := Op.assign (Operand.tmp 76), type := 4, pos := "law.go:54", after := #[{ on := 14, ground := Ground.data }, { on := 13, ground := Ground.chain }, { on := 0, ground := Ground.phase }, { on := 1, ground := Ground.phase }, { on := 2, ground := Ground.phase }, { on := 3, ground := Ground.phase }, { on := 4, ground := Ground.phase }, { on := 5, ground := Ground.phase }, { on := 6, ground := Ground.phase }, { on := 7, ground := Ground.phase }, { on := 8, ground := Ground.phase }, { on := 9, ground := Ground.phase }, { on := 10, ground := Ground.phase }, { on := 11, ground := Ground.phase }, { on := 12, ground := Ground.phase }, { on := 13, ground := Ground.phase }, { on := 14, ground := Ground.phase }], guard := none }) (v := ?_) rfl (by kernel_rfl) (by kernel_rfl) (by kernel_rfl) (fun _ _ _ h => h) (Or.inl ⟨by rfl, ?_⟩) (by assumption) ?_
          case refine_2 =>
            intro w hSw
            (try dsimp only at hSw)
            (try go_simp)
            all_goals (with_reducible rfl)
          (try dsimp only [Act.put]); (try simp only [List.setIfInBounds_toArray, List.set_cons_zero, List.set_cons_succ])
          refine wpAnyH_done (by kernel_rfl) ?_ _
          all_goals
            go_wp2_with fail
            obtain ⟨A4, c4, rfl, _⟩ := h4.dat.moves
            obtain ⟨N, hN⟩ : ∃ N, st'.length = N := ⟨_, rfl⟩
            have HN40 : Hid (N ≤ 41) := by show _ ≤ _; omega
            have HST : Hid (st'.length ≤ k + 1) := by show _ ≤ _; have := hst.out; omega
            rw [hN] at h4
            clear hst hs40 hl'
            refine (rnow_is h4.dat (by have := HN40.out; omega)).mono ?_
            rintro e w5 ⟨rfl, hb⟩
            obtain ⟨W6, hW6⟩ : ∃ W6, w5.alloc (.cells #[.string now'.s, .int .i64 now'.y, .int .i64 now'.z, .int .i64 now'.u] 23) = W6 := ⟨_, rfl⟩
            have bN : Blk W6 w5.heap.size 23 #[.string now'.s, .int .i64 now'.y, .int .i64 now'.z, .int .i64 now'.u] := by rw [← hW6]; exact Blk.new _ _ _ rfl
            have hb6 : Below w4.heap.size w4 W6 := hb.trans (by rw [← hW6]; exact (below_one w5 _).mono hb.size)
            have hF : Fin n₀ w g kb w5.heap.size v3 vL4 A4 N c4 st' now' W6 := ⟨h4.next hb6, bN, hN⟩
            clear hb hb6 bN h4
            go_wp2_with fail
            clear hW6
            generalize w5.heap.size = nb at hF ⊢
            have hS6 := pl_of (hF.next (Below.refl W6.heap.size W6).drew)
            clear hF
            refine wp_region_held_drew (S := fun W => W.cell? ⟨nb, 0, none⟩ = some (.string now'.s) ∧ W.cell? ⟨nb, 1, none⟩ = some (.int .i64 now'.y) ∧ W.cell? ⟨nb, 2, none⟩ = some (.int .i64 now'.z) ∧ W.cell? ⟨nb, 3, none⟩ = some (.int .i64 now'.u) ∧ W.cell? ⟨kb, 1, none⟩ = some (.slice A4 N c4) ∧ Fin n₀ w g kb nb v3 vL4 A4 N c4 st' now' W) (by kernel_rfl) (hS6) (fun hHeld => ?_)
            refine wpAnyH_take (i := 0) (oi := { dst := some 79, op := Op.move (Operand.tmp 10), type := 4, pos := "law.go:57", after := #[], guard := none }) (v := ?_) rfl (by kernel_rfl) (by kernel_rfl) (by kernel_rfl) (fun _ _ _ h => h) (Or.inl ⟨by rfl, ?_⟩) (by assumption) ?_
            case refine_2 =>
              intro w hSw
              (try dsimp only at hSw)
              (try go_simp)
              all_goals (with_reducible rfl)
            (try dsimp only [Act.put]); (try simp only [List.setIfInBounds_toArray, List.set_cons_zero, List.set_cons_succ])
            refine wpAnyH_take (i := 1) (oi := { dst := some 80, op := Op.unOp UnOp.not 4 (Operand.tmp 79), type := 4, pos := "law.go:57", after := #[{ on := 0, ground := Ground.data }], guard := none }) (v := ?_) rfl (by kernel_rfl) (by kernel_rfl) (by kernel_rfl) (fun _ _ _ h => h) (Or.inl ⟨by rfl, ?_⟩) (by assumption) ?_
            case refine_2 =>
              intro w hSw
              (try dsimp only at hSw)
              (try go_simp)
              all_goals (with_reducible rfl)
            (try dsimp only [Act.put]); (try simp only [List.setIfInBounds_toArray, List.set_cons_zero, List.set_cons_succ])
            refine wpAnyH_take (i := 2) (oi := { dst := some 81, op := Op.move (Operand.tmp 80), type := 4, pos := "law.go:57", after := #[{ on := 1, ground := Ground.data }], guard := none }) (v := ?_) rfl (by kernel_rfl) (by kernel_rfl) (by kernel_rfl) (fun _ _ _ h => h) (Or.inl ⟨by rfl, ?_⟩) (by assumption) ?_
            case refine_2 =>
              intro w hSw
              (try dsimp only at hSw)
              (try go_simp)
              all_goals (with_reducible rfl)
            (try dsimp only [Act.put]); (try simp only [List.setIfInBounds_toArray, List.set_cons_zero, List.set_cons_succ])
            refine wpAnyH_take (i := 3) (oi := { dst := some 82, op := Op.move (Operand.tmp 5), type := 26, pos := "law.go:57", after := #[{ on := 2, ground := Ground.guard }], guard := some (2, false) }) (v := ?_) rfl (by kernel_rfl) (by kernel_rfl) (by kernel_rfl) (fun _ _ _ h => h) (Or.inl ⟨by rfl, ?_⟩) (by assumption) ?_
            case refine_2 =>
              intro w hSw
              (try dsimp only at hSw)
              (try go_simp)
              all_goals (with_reducible rfl)
            (try dsimp only [Act.put]); (try simp only [List.setIfInBounds_toArray, List.set_cons_zero, List.set_cons_succ])
            refine wpAnyH_take (i := 5) (oi := { dst := some 84, op := Op.load 23 (Operand.tmp 11), type := 23, pos := "law.go:57", after := #[{ on := 2, ground := Ground.guard }], guard := some (2, false) }) (v := ?_) rfl (by kernel_rfl) (by kernel_rfl) (by kernel_rfl) (fun _ _ _ h => h) (Or.inl ⟨by rfl, ?_⟩) (by assumption) ?_
            case refine_2 =>
              intro w hSw
              (try dsimp only at hSw)
              (try go_simp)
              all_goals (with_reducible rfl)
            (try dsimp only [Act.put]); (try simp only [List.setIfInBounds_toArray, List.set_cons_zero, List.set_cons_succ])
            refine wpAnyH_ready (rs := [4]) (by kernel_rfl) (by simp) (AllReadyH.cons (o := { dst := some 83, op := Op.call { callee := Callee.value (Operand.func 12), args := #[Operand.tmp 82], argTypes := #[26] }, type := 23, pos := "law.go:57", after := #[{ on := 3, ground := Ground.data }, { on := 2, ground := Ground.chain }, { on := 2, ground := Ground.guard }], guard := some (2, false) }) rfl (fun K hK => ?_) AllReadyH.nil)
            go_simp
            refine (position_is (pl_fin hHeld).two.at_).mono ?_; rintro e w10 ⟨rfl, hb⟩
            refine hK.out _ _ ?_ (fun hHeld => ?_)
            · first | with_reducible assumption | exact pl_keep (by assumption) hb
            clear hK K
            refine wpAnyH_take (i := 6) (oi := { dst := some 85, op := Op.binOp BinOp.neq 23 (Operand.tmp 83) (Operand.tmp 84) 23, type := 4, pos := "law.go:57", after := #[{ on := 4, ground := Ground.data }, { on := 5, ground := Ground.data }, { on := 2, ground := Ground.guard }], guard := some (2, false) }) (v := ?_) rfl (by kernel_rfl) (by kernel_rfl) (by kernel_rfl) (fun _ _ _ h => h) (Or.inl ⟨by rfl, ?_⟩) (by assumption) ?_
            case refine_2 =>
              intro w hSw
              (try dsimp only at hSw)
              (try go_simp)
              all_goals (with_reducible rfl)
            (try dsimp only [Act.put]); (try simp only [List.setIfInBounds_toArray, List.set_cons_zero, List.set_cons_succ])
            refine wpAnyH_take (i := 7) (oi := { dst := some 86, op := Op.pick (Operand.tmp 81) (Operand.const (Value.bool true)) (Operand.tmp 85), type := 4, pos := "law.go:57", after := #[{ on := 2, ground := Ground.data }, { on := 6, ground := Ground.data }], guard := none }) (v := ?_) rfl (by kernel_rfl) (by kernel_rfl) (by kernel_rfl) (fun _ _ _ h => h) (Or.inl ⟨by rfl, ?_⟩) (by assumption) ?_
            case refine_2 =>
              intro w hSw
              (try dsimp only at hSw)
              (try go_simp)
              all_goals (with_reducible rfl)
            (try dsimp only [Act.put]); (try simp only [List.setIfInBounds_toArray, List.set_cons_zero, List.set_cons_succ])
            refine wpAnyH_take (i := 8) (oi := { dst := some 87, op := Op.move (Operand.tmp 86), type := 4, pos := "law.go:57", after := #[{ on := 7, ground := Ground.data }, { on := 4, ground := Ground.chain }], guard := none }) (v := ?_) rfl (by kernel_rfl) (by kernel_rfl) (by kernel_rfl) (fun _ _ _ h => h) (Or.inl ⟨by rfl, ?_⟩) (by assumption) ?_
            case refine_2 =>
              intro w hSw
              (try dsimp only at hSw)
              (try go_simp)
              all_goals (with_reducible rfl)
            (try dsimp only [Act.put]); (try simp only [List.setIfInBounds_toArray, List.set_cons_zero, List.set_cons_succ])
            refine wpAnyH_take (i := 9) (oi := { dst := some 88, op := Op.move (Operand.tmp 5), type := 26, pos := "law.go:57", after := #[{ on := 8, ground := Ground.guard }], guard := some (8, false) }) (v := ?_) rfl (by kernel_rfl) (by kernel_rfl) (by kernel_rfl) (fun _ _ _ h => h) (Or.inl ⟨by rfl, ?_⟩) (by assumption) ?_
            case refine_2 =>
              intro w hSw
              (try dsimp only at hSw)
              (try go_simp)
              all_goals (with_reducible rfl)
            (try dsimp only [Act.put]); (try simp only [List.setIfInBounds_toArray, List.set_cons_zero, List.set_cons_succ])
            refine wpAnyH_take (i := 11) (oi := { dst := some 90, op := Op.move (Operand.tmp 7), type := 30, pos := "law.go:57", after := #[{ on := 8, ground := Ground.guard }], guard := some (8, false) }) (v := ?_) rfl (by kernel_rfl) (by kernel_rfl) (by kernel_rfl) (fun _ _ _ h => h) (Or.inl ⟨by rfl, ?_⟩) (by assumption) ?_
            case refine_2 =>
              intro w hSw
              (try dsimp only at hSw)
              (try go_simp)
              all_goals (with_reducible rfl)
            (try dsimp only [Act.put]); (try simp only [List.setIfInBounds_toArray, List.set_cons_zero, List.set_cons_succ])
            refine wpAnyH_take (i := 12) (oi := { dst := some 91, op := Op.nilCheck (Operand.tmp 90), type := 0, pos := "law.go:57", after := #[{ on := 11, ground := Ground.data }, { on := 8, ground := Ground.guard }], guard := some (8, false) }) (v := ?_) rfl (by kernel_rfl) (by kernel_rfl) (by kernel_rfl) (fun _ _ _ h => h) (Or.inl ⟨by rfl, ?_⟩) (by assumption) ?_
            case refine_2 =>
              intro w hSw
              (try dsimp only at hSw)
              (try go_simp)
              all_goals (with_reducible rfl)
            (try dsimp only [Act.put]); (try simp only [List.setIfInBounds_toArray, List.set_cons_zero, List.set_cons_succ])
            refine wpAnyH_take (i := 13) (oi := { dst := some 92, op := Op.fieldAddr 44 (Operand.tmp 91) 1, type := 0, pos := "law.go:57", after := #[{ on := 12, ground := Ground.data }, { on := 8, ground := Ground.guard }], guard := some (8, false) }) (v := ?_) rfl (by kernel_rfl) (by kernel_rfl) (by kernel_rfl) (fun _ _ _ h => h) (Or.inl ⟨by rfl, ?_⟩) (by assumption) ?_
            case refine_2 =>
              intro w hSw
              (try dsimp only at hSw)
              (try go_simp)
              all_goals (with_reducible rfl)
            (try dsimp only [Act.put]); (try simp only [List.setIfInBounds_toArray, List.set_cons_zero, List.set_cons_succ])
            refine wpAnyH_take (i := 14) (oi := { dst := some 93, op := Op.load 42 (Operand.tmp 92), type := 42, pos := "law.go:57", after := #[{ on := 13, ground := Ground.data }, { on := 8, ground := Ground.guard }], guard := some (8, false) }) (v := ?_) rfl (by kernel_rfl) (by kernel_rfl) (by kernel_rfl) (fun _ _ _ h => h) (Or.inl ⟨by rfl, ?_⟩) (by assumption) ?_
            case refine_2 =>
              intro w hSw
              (try dsimp only at hSw)
              (try go_simp)
              all_goals (with_reducible rfl)
            (try dsimp only [Act.put]); (try simp only [List.setIfInBounds_toArray, List.set_cons_zero, List.set_cons_succ])
            refine wpAnyH_take (i := 15) (oi := { dst := some 94, op := Op.call { callee := Callee.builtin Builtin.len, args := #[Operand.tmp 93], argTypes := #[42] }, type := 3, pos := "law.go:57", after := #[{ on := 14, ground := Ground.data }, { on := 8, ground := Ground.guard }], guard := some (8, false) }) (v := ?_) rfl (by kernel_rfl) (by kernel_rfl) (by kernel_rfl) (fun _ _ _ h => h) (Or.inl ⟨by rfl, ?_⟩) (by assumption) ?_
            case refine_2 =>
              intro w hSw
              (try dsimp only at hSw)
              (try go_simp)
              all_goals (with_reducible rfl)
            (try dsimp only [Act.put]); (try simp only [List.setIfInBounds_toArray, List.set_cons_zero, List.set_cons_succ])
            refine wpAnyH_ready (rs := [10]) (by kernel_rfl) (by simp) (AllReadyH.cons (o := { dst := some 89, op := Op.call { callee := Callee.value (Operand.func 13), args := #[Operand.tmp 88], argTypes := #[26] }, type := 3, pos := "law.go:57", after := #[{ on := 9, ground := Ground.data }, { on := 8, ground := Ground.chain }, { on := 8, ground := Ground.guard }], guard := some (8, false) }) rfl (fun K hK => ?_) AllReadyH.nil)
            go_simp
            refine (plies_is (pl_fin hHeld).two.at_ N hN).mono ?_; rintro e w11 ⟨rfl, rfl⟩
            refine hK.out _ _ ?_ (fun hHeld => ?_)
            · first | with_reducible assumption | exact pl_keep (by assumption) hb
            clear hK K
            refine wpAnyH_take (i := 16) (oi := { dst := some 95, op := Op.binOp BinOp.neq 3 (Operand.tmp 89) (Operand.tmp 94) 3, type := 4, pos := "law.go:57", after := #[{ on := 10, ground := Ground.data }, { on := 15, ground := Ground.data }, { on := 8, ground := Ground.guard }], guard := some (8, false) }) (v := ?_) rfl (by kernel_rfl) (by kernel_rfl) (by kernel_rfl) (fun _ _ _ h => h) (Or.inl ⟨by rfl, ?_⟩) (by assumption) ?_
            case refine_2 =>
              intro w hSw
              (try dsimp only at hSw)
              (try go_simp)
              all_goals (with_reducible rfl)
            (try dsimp only [Act.put]); (try simp only [List.setIfInBounds_toArray, List.set_cons_zero, List.set_cons_succ])
            refine wpAnyH_take (i := 17) (oi := { dst := some 96, op := Op.pick (Operand.tmp 87) (Operand.const (Value.bool true)) (Operand.tmp 95), type := 4, pos := "law.go:57", after := #[{ on := 8, ground := Ground.data }, { on := 16, ground := Ground.data }], guard := none }) (v := ?_) rfl (by kernel_rfl) (by kernel_rfl) (by kernel_rfl) (fun _ _ _ h => h) (Or.inl ⟨by rfl, ?_⟩) (by assumption) ?_
            case refine_2 =>
              intro w hSw
              (try dsimp only at hSw)
              (try go_simp)
              all_goals (with_reducible rfl)
            (try dsimp only [Act.put]); (try simp only [List.setIfInBounds_toArray, List.set_cons_zero, List.set_cons_succ])
            refine wpAnyH_take (i := 18) (oi := { dst := some 97, op := Op.move (Operand.tmp 96), type := 4, pos := "law.go:57", after := #[{ on := 17, ground := Ground.data }, { on := 10, ground := Ground.chain }], guard := none }) (v := ?_) rfl (by kernel_rfl) (by kernel_rfl) (by kernel_rfl) (fun _ _ _ h => h) (Or.inl ⟨by rfl, ?_⟩) (by assumption) ?_
            case refine_2 =>
              intro w hSw
              (try dsimp only at hSw)
              (try go_simp)
              all_goals (with_reducible rfl)
            (try dsimp only [Act.put]); (try simp only [List.setIfInBounds_toArray, List.set_cons_zero, List.set_cons_succ])
            refine wpAnyH_take (i := 19) (oi := { dst := some 98, op := Op.move (Operand.tmp 5), type := 26, pos := "law.go:57", after := #[{ on := 18, ground := Ground.guard }], guard := some (18, false) }) (v := ?_) rfl (by kernel_rfl) (by kernel_rfl) (by kernel_rfl) (fun _ _ _ h => h) (Or.inl ⟨by rfl, ?_⟩) (by assumption) ?_
            case refine_2 =>
              intro w hSw
              (try dsimp only at hSw)
              (try go_simp)
              all_goals (with_reducible rfl)
            (try dsimp only [Act.put]); (try simp only [List.setIfInBounds_toArray, List.set_cons_zero, List.set_cons_succ])
            refine wpAnyH_take (i := 21) (oi := { dst := some 100, op := Op.move (Operand.tmp 7), type := 30, pos := "law.go:57", after := #[{ on := 18, ground := Ground.guard }], guard := some (18, false) }) (v := ?_) rfl (by kernel_rfl) (by kernel_rfl) (by kernel_rfl) (fun _ _ _ h => h) (Or.inl ⟨by rfl, ?_⟩) (by assumption) ?_
            case refine_2 =>
              intro w hSw
              (try dsimp only at hSw)
              (try go_simp)
              all_goals (with_reducible rfl)
            (try dsimp only [Act.put]); (try simp only [List.setIfInBounds_toArray, List.set_cons_zero, List.set_cons_succ])
            refine wpAnyH_take (i := 22) (oi := { dst := some 101, op := Op.nilCheck (Operand.tmp 100), type := 0, pos := "law.go:57", after := #[{ on := 21, ground := Ground.data }, { on := 18, ground := Ground.guard }], guard := some (18, false) }) (v := ?_) rfl (by kernel_rfl) (by kernel_rfl) (by kernel_rfl) (fun _ _ _ h => h) (Or.inl ⟨by rfl, ?_⟩) (by assumption) ?_
            case refine_2 =>
              intro w hSw
              (try dsimp only at hSw)
              (try go_simp)
              all_goals (with_reducible rfl)
            (try dsimp only [Act.put]); (try simp only [List.setIfInBounds_toArray, List.set_cons_zero, List.set_cons_succ])
            refine wpAnyH_take (i := 23) (oi := { dst := some 102, op := Op.fieldAddr 44 (Operand.tmp 101) 1, type := 0, pos := "law.go:57", after := #[{ on := 22, ground := Ground.data }, { on := 18, ground := Ground.guard }], guard := some (18, false) }) (v := ?_) rfl (by kernel_rfl) (by kernel_rfl) (by kernel_rfl) (fun _ _ _ h => h) (Or.inl ⟨by rfl, ?_⟩) (by assumption) ?_
            case refine_2 =>
              intro w hSw
              (try dsimp only at hSw)
              (try go_simp)
              all_goals (with_reducible rfl)
            (try dsimp only [Act.put]); (try simp only [List.setIfInBounds_toArray, List.set_cons_zero, List.set_cons_succ])
            refine wpAnyH_take (i := 24) (oi := { dst := some 103, op := Op.load 42 (Operand.tmp 102), type := 42, pos := "law.go:57", after := #[{ on := 23, ground := Ground.data }, { on := 18, ground := Ground.guard }], guard := some (18, false) }) (v := ?_) rfl (by kernel_rfl) (by kernel_rfl) (by kernel_rfl) (fun _ _ _ h => h) (Or.inl ⟨by rfl, ?_⟩) (by assumption) ?_
            case refine_2 =>
              intro w hSw
              (try dsimp only at hSw)
              (try go_simp)
              all_goals (with_reducible rfl)
            (try dsimp only [Act.put]); (try simp only [List.setIfInBounds_toArray, List.set_cons_zero, List.set_cons_succ])
            refine wpAnyH_ready (rs := [20]) (by kernel_rfl) (by simp) (AllReadyH.cons (o := { dst := some 99, op := Op.call { callee := Callee.value (Operand.func 15), args := #[Operand.tmp 98], argTypes := #[26] }, type := 42, pos := "law.go:57", after := #[{ on := 19, ground := Ground.data }, { on := 18, ground := Ground.chain }, { on := 18, ground := Ground.guard }], guard := some (18, false) }) rfl (fun K hK => ?_) AllReadyH.nil)
            go_simp
            refine (past_is (pl_fin hHeld).two.at_ (by have := HN40.out; omega) N hN).mono ?_; rintro e w12 ⟨B2, rfl, hB2, bB2, hb⟩
            refine hK.out _ _ ?_ (fun hHeld => ?_)
            · first | with_reducible assumption | exact pl_keep (by assumption) hb
            clear hK K
            refine wpAnyH_ready (rs := [25]) (by kernel_rfl) (by simp) (AllReadyH.cons (o := { dst := some 104, op := Op.call { callee := Callee.value (Operand.func 14), args := #[Operand.tmp 99, Operand.tmp 103], argTypes := #[42, 42] }, type := 4, pos := "law.go:57", after := #[{ on := 20, ground := Ground.data }, { on := 24, ground := Ground.data }, { on := 20, ground := Ground.chain }, { on := 18, ground := Ground.guard }], guard := some (18, false) }) rfl (fun K hK => ?_) AllReadyH.nil)
            go_simp
            refine ((pl_fin hHeld).same B2 (Blk.rd bB2) (by have := HN40.out; omega)).mono ?_; rintro e w13 ⟨rfl, hb⟩
            refine hK.out _ _ ?_ (fun hHeld => ?_)
            · first | with_reducible assumption | exact pl_keep (by assumption) hb
            clear hK K
            refine wpAnyH_take (i := 26) (oi := { dst := some 105, op := Op.unOp UnOp.not 4 (Operand.tmp 104), type := 4, pos := "law.go:57", after := #[{ on := 25, ground := Ground.data }, { on := 18, ground := Ground.guard }], guard := some (18, false) }) (v := ?_) rfl (by kernel_rfl) (by kernel_rfl) (by kernel_rfl) (fun _ _ _ h => h) (Or.inl ⟨by rfl, ?_⟩) (by assumption) ?_
            case refine_2 =>
              intro w hSw
              (try dsimp only at hSw)
              (try go_simp)
              all_goals (with_reducible rfl)
            (try dsimp only [Act.put]); (try simp only [List.setIfInBounds_toArray, List.set_cons_zero, List.set_cons_succ])
            refine wpAnyH_take (i := 27) (oi := { dst := some 106, op := Op.pick (Operand.tmp 97) (Operand.const (Value.bool true)) (Operand.tmp 105), type := 4, pos := "law.go:57", after := #[{ on := 18, ground := Ground.data }, { on := 26, ground := Ground.data }], guard := none }) (v := ?_) rfl (by kernel_rfl) (by kernel_rfl) (by kernel_rfl) (fun _ _ _ h => h) (Or.inl ⟨by rfl, ?_⟩) (by assumption) ?_
            case refine_2 =>
              intro w hSw
              (try dsimp only at hSw)
              (try go_simp)
              all_goals (with_reducible rfl)
            (try dsimp only [Act.put]); (try simp only [List.setIfInBounds_toArray, List.set_cons_zero, List.set_cons_succ])
            refine wpAnyH_take (i := 28) (oi := { dst := some 107, op := Op.move (Operand.tmp 106), type := 4, pos := "law.go:57", after := #[{ on := 27, ground := Ground.data }, { on := 25, ground := Ground.chain }], guard := none }) (v := ?_) rfl (by kernel_rfl) (by kernel_rfl) (by kernel_rfl) (fun _ _ _ h => h) (Or.inl ⟨by rfl, ?_⟩) (by assumption) ?_
            case refine_2 =>
              intro w hSw
              (try dsimp only at hSw)
              (try go_simp)
              all_goals (with_reducible rfl)
            (try dsimp only [Act.put]); (try simp only [List.setIfInBounds_toArray, List.set_cons_zero, List.set_cons_succ])
            refine wpAnyH_take (i := 29) (oi := { dst := some 108, op := Op.move (Operand.tmp 5), type := 26, pos := "law.go:57", after := #[{ on := 28, ground := Ground.guard }], guard := some (28, false) }) (v := ?_) rfl (by kernel_rfl) (by kernel_rfl) (by kernel_rfl) (fun _ _ _ h => h) (Or.inl ⟨by rfl, ?_⟩) (by assumption) ?_
            case refine_2 =>
              intro w hSw
              (try dsimp only at hSw)
              (try go_simp)
              all_goals (with_reducible rfl)
            (try dsimp only [Act.put]); (try simp only [List.setIfInBounds_toArray, List.set_cons_zero, List.set_cons_succ])
            refine wpAnyH_take (i := 31) (oi := { dst := some 110, op := Op.fieldAddr 23 (Operand.tmp 11) 0, type := 0, pos := "law.go:57", after := #[{ on := 28, ground := Ground.guard }], guard := some (28, false) }) (v := ?_) rfl (by kernel_rfl) (by kernel_rfl) (by kernel_rfl) (fun _ _ _ h => h) (Or.inl ⟨by rfl, ?_⟩) (by assumption) ?_
            case refine_2 =>
              intro w hSw
              (try dsimp only at hSw)
              (try go_simp)
              all_goals (with_reducible rfl)
            (try dsimp only [Act.put]); (try simp only [List.setIfInBounds_toArray, List.set_cons_zero, List.set_cons_succ])
            refine wpAnyH_take (i := 32) (oi := { dst := some 111, op := Op.load 9 (Operand.tmp 110), type := 9, pos := "law.go:57", after := #[{ on := 31, ground := Ground.data }, { on := 28, ground := Ground.guard }], guard := some (28, false) }) (v := ?_) rfl (by kernel_rfl) (by kernel_rfl) (by kernel_rfl) (fun _ _ _ h => h) (Or.inl ⟨by rfl, ?_⟩) (by assumption) ?_
            case refine_2 =>
              intro w hSw
              (try dsimp only at hSw)
              (try go_simp)
              all_goals (with_reducible rfl)
            (try dsimp only [Act.put]); (try simp only [List.setIfInBounds_toArray, List.set_cons_zero, List.set_cons_succ])
            refine wpAnyH_ready (rs := [30]) (by kernel_rfl) (by simp) (AllReadyH.cons (o := { dst := some 109, op := Op.call { callee := Callee.value (Operand.func 17), args := #[Operand.tmp 108, Operand.const (Value.int IntKind.i64 0)], argTypes := #[26, 3] }, type := 48, pos := "law.go:57", after := #[{ on := 29, ground := Ground.data }, { on := 28, ground := Ground.chain }, { on := 28, ground := Ground.guard }], guard := some (28, false) }) rfl (fun K hK => ?_) AllReadyH.nil)
            go_simp
            refine (gp_is (pl_fin hHeld).two.at_ (HT.out.below (pl_fin hHeld).two.bel HT.out.lt) _).mono ?_; rintro e w14 ⟨B3, x3, rfl, r3, hb⟩
            refine hK.out _ _ ?_ (fun hHeld => ?_)
            · first | with_reducible assumption | exact pl_keep (by assumption) hb
            clear hK K
            refine wpAnyH_ready (rs := [33]) (by kernel_rfl) (by simp) (AllReadyH.cons (o := { dst := some 112, op := Op.call { callee := Callee.value (Operand.func 18), args := #[Operand.tmp 111, Operand.const (Value.int IntKind.i64 0)], argTypes := #[9, 3] }, type := 48, pos := "law.go:57", after := #[{ on := 32, ground := Ground.data }, { on := 30, ground := Ground.chain }, { on := 28, ground := Ground.guard }], guard := some (28, false) }) rfl (fun K hK => ?_) AllReadyH.nil)
            go_simp
            refine (rpieces_is _ _ _).mono ?_; rintro e w15 ⟨B4, x4, rfl, r4, hb⟩; have r5 := r3.next hb
            refine hK.out _ _ ?_ (fun hHeld => ?_)
            · first | with_reducible assumption | exact pl_keep (by assumption) hb
            clear hK K
            refine wpAnyH_ready (rs := [34]) (by kernel_rfl) (by simp) (AllReadyH.cons (o := { dst := some 113, op := Op.call { callee := Callee.value (Operand.func 16), args := #[Operand.tmp 109, Operand.tmp 112], argTypes := #[48, 48] }, type := 4, pos := "law.go:57", after := #[{ on := 30, ground := Ground.data }, { on := 33, ground := Ground.data }, { on := 33, ground := Ground.chain }, { on := 28, ground := Ground.guard }], guard := some (28, false) }) rfl (fun K hK => ?_) AllReadyH.nil)
            go_simp
            refine (pcs_same B3 B4 _ _ _ _ _ r5 r4).mono ?_; rintro e w16 ⟨rfl, hb⟩
            refine hK.out _ _ ?_ (fun hHeld => ?_)
            · first | with_reducible assumption | exact pl_keep (by assumption) hb
            clear hK K
            refine wpAnyH_take (i := 35) (oi := { dst := some 114, op := Op.unOp UnOp.not 4 (Operand.tmp 113), type := 4, pos := "law.go:57", after := #[{ on := 34, ground := Ground.data }, { on := 28, ground := Ground.guard }], guard := some (28, false) }) (v := ?_) rfl (by kernel_rfl) (by kernel_rfl) (by kernel_rfl) (fun _ _ _ h => h) (Or.inl ⟨by rfl, ?_⟩) (by assumption) ?_
            case refine_2 =>
              intro w hSw
              (try dsimp only at hSw)
              (try go_simp)
              all_goals (with_reducible rfl)
            (try dsimp only [Act.put]); (try simp only [List.setIfInBounds_toArray, List.set_cons_zero, List.set_cons_succ])
            refine wpAnyH_take (i := 36) (oi := { dst := some 115, op := Op.pick (Operand.tmp 107) (Operand.const (Value.bool true)) (Operand.tmp 114), type := 4, pos := "law.go:57", after := #[{ on := 28, ground := Ground.data }, { on := 35, ground := Ground.data }], guard := none }) (v := ?_) rfl (by kernel_rfl) (by kernel_rfl) (by kernel_rfl) (fun _ _ _ h => h) (Or.inl ⟨by rfl, ?_⟩) (by assumption) ?_
            case refine_2 =>
              intro w hSw
              (try dsimp only at hSw)
              (try go_simp)
              all_goals (with_reducible rfl)
            (try dsimp only [Act.put]); (try simp only [List.setIfInBounds_toArray, List.set_cons_zero, List.set_cons_succ])
            refine wpAnyH_take (i := 37) (oi := { dst := some 116, op := Op.move (Operand.tmp 115), type := 4, pos := "law.go:57", after := #[{ on := 36, ground := Ground.data }, { on := 34, ground := Ground.chain }], guard := none }) (v := ?_) rfl (by kernel_rfl) (by kernel_rfl) (by kernel_rfl) (fun _ _ _ h => h) (Or.inl ⟨by rfl, ?_⟩) (by assumption) ?_
            case refine_2 =>
              intro w hSw
              (try dsimp only at hSw)
              (try go_simp)
              all_goals (with_reducible rfl)
            (try dsimp only [Act.put]); (try simp only [List.setIfInBounds_toArray, List.set_cons_zero, List.set_cons_succ])
            refine wpAnyH_take (i := 38) (oi := { dst := some 117, op := Op.move (Operand.tmp 5), type := 26, pos := "law.go:57", after := #[{ on := 37, ground := Ground.guard }], guard := some (37, false) }) (v := ?_) rfl (by kernel_rfl) (by kernel_rfl) (by kernel_rfl) (fun _ _ _ h => h) (Or.inl ⟨by rfl, ?_⟩) (by assumption) ?_
            case refine_2 =>
              intro w hSw
              (try dsimp only at hSw)
              (try go_simp)
              all_goals (with_reducible rfl)
            (try dsimp only [Act.put]); (try simp only [List.setIfInBounds_toArray, List.set_cons_zero, List.set_cons_succ])
            refine wpAnyH_take (i := 40) (oi := { dst := some 119, op := Op.fieldAddr 23 (Operand.tmp 11) 0, type := 0, pos := "law.go:57", after := #[{ on := 37, ground := Ground.guard }], guard := some (37, false) }) (v := ?_) rfl (by kernel_rfl) (by kernel_rfl) (by kernel_rfl) (fun _ _ _ h => h) (Or.inl ⟨by rfl, ?_⟩) (by assumption) ?_
            case refine_2 =>
              intro w hSw
              (try dsimp only at hSw)
              (try go_simp)
              all_goals (with_reducible rfl)
            (try dsimp only [Act.put]); (try simp only [List.setIfInBounds_toArray, List.set_cons_zero, List.set_cons_succ])
            refine wpAnyH_take (i := 41) (oi := { dst := some 120, op := Op.load 9 (Operand.tmp 119), type := 9, pos := "law.go:57", after := #[{ on := 40, ground := Ground.data }, { on := 37, ground := Ground.guard }], guard := some (37, false) }) (v := ?_) rfl (by kernel_rfl) (by kernel_rfl) (by kernel_rfl) (fun _ _ _ h => h) (Or.inl ⟨by rfl, ?_⟩) (by assumption) ?_
            case refine_2 =>
              intro w hSw
              (try dsimp only at hSw)
              (try go_simp)
              all_goals (with_reducible rfl)
            (try dsimp only [Act.put]); (try simp only [List.setIfInBounds_toArray, List.set_cons_zero, List.set_cons_succ])
            refine wpAnyH_ready (rs := [39]) (by kernel_rfl) (by simp) (AllReadyH.cons (o := { dst := some 118, op := Op.call { callee := Callee.value (Operand.func 17), args := #[Operand.tmp 117, Operand.const (Value.int IntKind.i64 1)], argTypes := #[26, 3] }, type := 48, pos := "law.go:57", after := #[{ on := 38, ground := Ground.data }, { on := 37, ground := Ground.chain }, { on := 37, ground := Ground.guard }], guard := some (37, false) }) rfl (fun K hK => ?_) AllReadyH.nil)
            go_simp
            refine (gp_is (pl_fin hHeld).two.at_ (HT.out.below (pl_fin hHeld).two.bel HT.out.lt) _).mono ?_; rintro e w14 ⟨B3, x3, rfl, r3, hb⟩
            refine hK.out _ _ ?_ (fun hHeld => ?_)
            · first | with_reducible assumption | exact pl_keep (by assumption) hb
            clear hK K
            refine wpAnyH_ready (rs := [42]) (by kernel_rfl) (by simp) (AllReadyH.cons (o := { dst := some 121, op := Op.call { callee := Callee.value (Operand.func 18), args := #[Operand.tmp 120, Operand.const (Value.int IntKind.i64 1)], argTypes := #[9, 3] }, type := 48, pos := "law.go:57", after := #[{ on := 41, ground := Ground.data }, { on := 39, ground := Ground.chain }, { on := 37, ground := Ground.guard }], guard := some (37, false) }) rfl (fun K hK => ?_) AllReadyH.nil)
            go_simp
            refine (rpieces_is _ _ _).mono ?_; rintro e w15 ⟨B4, x4, rfl, r4, hb⟩; have r5 := r3.next hb
            refine hK.out _ _ ?_ (fun hHeld => ?_)
            · first | with_reducible assumption | exact pl_keep (by assumption) hb
            clear hK K
            refine wpAnyH_ready (rs := [43]) (by kernel_rfl) (by simp) (AllReadyH.cons (o := { dst := some 122, op := Op.call { callee := Callee.value (Operand.func 16), args := #[Operand.tmp 118, Operand.tmp 121], argTypes := #[48, 48] }, type := 4, pos := "law.go:57", after := #[{ on := 39, ground := Ground.data }, { on := 42, ground := Ground.data }, { on := 42, ground := Ground.chain }, { on := 37, ground := Ground.guard }], guard := some (37, false) }) rfl (fun K hK => ?_) AllReadyH.nil)
            go_simp
            refine (pcs_same B3 B4 _ _ _ _ _ r5 r4).mono ?_; rintro e w16 ⟨rfl, hb⟩
            refine hK.out _ _ ?_ (fun hHeld => ?_)
            · first | with_reducible assumption | exact pl_keep (by assumption) hb
            clear hK K
            refine wpAnyH_take (i := 44) (oi := { dst := some 123, op := Op.unOp UnOp.not 4 (Operand.tmp 122), type := 4, pos := "law.go:57", after := #[{ on := 43, ground := Ground.data }, { on := 37, ground := Ground.guard }], guard := some (37, false) }) (v := ?_) rfl (by kernel_rfl) (by kernel_rfl) (by kernel_rfl) (fun _ _ _ h => h) (Or.inl ⟨by rfl, ?_⟩) (by assumption) ?_
            case refine_2 =>
              intro w hSw
              (try dsimp only at hSw)
              (try go_simp)
              all_goals (with_reducible rfl)
            (try dsimp only [Act.put]); (try simp only [List.setIfInBounds_toArray, List.set_cons_zero, List.set_cons_succ])
            refine wpAnyH_take (i := 45) (oi := { dst := some 124, op := Op.pick (Operand.tmp 116) (Operand.const (Value.bool true)) (Operand.tmp 123), type := 4, pos := "law.go:57", after := #[{ on := 37, ground := Ground.data }, { on := 44, ground := Ground.data }], guard := none }) (v := ?_) rfl (by kernel_rfl) (by kernel_rfl) (by kernel_rfl) (fun _ _ _ h => h) (Or.inl ⟨by rfl, ?_⟩) (by assumption) ?_
            case refine_2 =>
              intro w hSw
              (try dsimp only at hSw)
              (try go_simp)
              all_goals (with_reducible rfl)
            (try dsimp only [Act.put]); (try simp only [List.setIfInBounds_toArray, List.set_cons_zero, List.set_cons_succ])
            refine wpAnyH_done (by kernel_rfl) ?_ _
            have HD := Lib.hid (pl_fin hHeld).two
            have hn40 := HL.out
            go_wp2_with fail
            go_roundw
            case rel => exact ⟨k + 1, v3, vL4, _, st', now', by omega, by go_num, HST, HD⟩
            case measure => simp [intOf]; omega
        · obtain ⟨r, st', now', hl', hR1, hR2⟩ := back n₀ w g kb st now (by omega)
          have hrr : (r == r) = true := beq_self_eq_true r
          have hR1' := hR1 v vL vM wr hTr hI.out
          clear hR1
          go_wp2_with fail
          refine hR1'.mono ?_
          rintro e w3 ⟨rfl, v3, h3⟩
          clear hR1' m0 m1 m2
          have hR2' := hR2 v3 vL vM w3 h3
          clear hR2
          go_wp2_with fail
          refine hR2'.mono ?_
          rintro e w4 ⟨rfl, vL4, vM4, h4⟩
          clear hR2' h3
          go_wp2_with fail
          obtain ⟨A4, c4, rfl, _⟩ := h4.dat.moves
          obtain ⟨N, hN⟩ : ∃ N, st'.length = N := ⟨_, rfl⟩
          have HN40 : Hid (N ≤ 41) := by show _ ≤ _; omega
          have HST : Hid (st'.length ≤ k + 1) := by show _ ≤ _; have := hst.out; omega
          rw [hN] at h4
          clear hst hs40 hl'
          refine (rnow_is h4.dat (by have := HN40.out; omega)).mono ?_
          rintro e w5 ⟨rfl, hb⟩
          obtain ⟨W6, hW6⟩ : ∃ W6, w5.alloc (.cells #[.string now'.s, .int .i64 now'.y, .int .i64 now'.z, .int .i64 now'.u] 23) = W6 := ⟨_, rfl⟩
          have bN : Blk W6 w5.heap.size 23 #[.string now'.s, .int .i64 now'.y, .int .i64 now'.z, .int .i64 now'.u] := by rw [← hW6]; exact Blk.new _ _ _ rfl
          have hb6 : Below w4.heap.size w4 W6 := hb.trans (by rw [← hW6]; exact (below_one w5 _).mono hb.size)
          have hF : Fin n₀ w g kb w5.heap.size v3 vL4 A4 N c4 st' now' W6 := ⟨h4.next hb6, bN, hN⟩
          clear hb hb6 bN h4
          go_wp2_with fail
          clear hW6
          generalize w5.heap.size = nb at hF ⊢
          have hS6 := pl_of (hF.next (Below.refl W6.heap.size W6).drew)
          clear hF
          refine wp_region_held_drew (S := fun W => W.cell? ⟨nb, 0, none⟩ = some (.string now'.s) ∧ W.cell? ⟨nb, 1, none⟩ = some (.int .i64 now'.y) ∧ W.cell? ⟨nb, 2, none⟩ = some (.int .i64 now'.z) ∧ W.cell? ⟨nb, 3, none⟩ = some (.int .i64 now'.u) ∧ W.cell? ⟨kb, 1, none⟩ = some (.slice A4 N c4) ∧ Fin n₀ w g kb nb v3 vL4 A4 N c4 st' now' W) (by kernel_rfl) (hS6) (fun hHeld => ?_)
          refine wpAnyH_take (i := 0) (oi := { dst := some 79, op := Op.move (Operand.tmp 10), type := 4, pos := "law.go:57", after := #[], guard := none }) (v := ?_) rfl (by kernel_rfl) (by kernel_rfl) (by kernel_rfl) (fun _ _ _ h => h) (Or.inl ⟨by rfl, ?_⟩) (by assumption) ?_
          case refine_2 =>
            intro w hSw
            (try dsimp only at hSw)
            (try go_simp)
            all_goals (with_reducible rfl)
          (try dsimp only [Act.put]); (try simp only [List.setIfInBounds_toArray, List.set_cons_zero, List.set_cons_succ])
          refine wpAnyH_take (i := 1) (oi := { dst := some 80, op := Op.unOp UnOp.not 4 (Operand.tmp 79), type := 4, pos := "law.go:57", after := #[{ on := 0, ground := Ground.data }], guard := none }) (v := ?_) rfl (by kernel_rfl) (by kernel_rfl) (by kernel_rfl) (fun _ _ _ h => h) (Or.inl ⟨by rfl, ?_⟩) (by assumption) ?_
          case refine_2 =>
            intro w hSw
            (try dsimp only at hSw)
            (try go_simp)
            all_goals (with_reducible rfl)
          (try dsimp only [Act.put]); (try simp only [List.setIfInBounds_toArray, List.set_cons_zero, List.set_cons_succ])
          refine wpAnyH_take (i := 2) (oi := { dst := some 81, op := Op.move (Operand.tmp 80), type := 4, pos := "law.go:57", after := #[{ on := 1, ground := Ground.data }], guard := none }) (v := ?_) rfl (by kernel_rfl) (by kernel_rfl) (by kernel_rfl) (fun _ _ _ h => h) (Or.inl ⟨by rfl, ?_⟩) (by assumption) ?_
          case refine_2 =>
            intro w hSw
            (try dsimp only at hSw)
            (try go_simp)
            all_goals (with_reducible rfl)
          (try dsimp only [Act.put]); (try simp only [List.setIfInBounds_toArray, List.set_cons_zero, List.set_cons_succ])
          refine wpAnyH_take (i := 3) (oi := { dst := some 82, op := Op.move (Operand.tmp 5), type := 26, pos := "law.go:57", after := #[{ on := 2, ground := Ground.guard }], guard := some (2, false) }) (v := ?_) rfl (by kernel_rfl) (by kernel_rfl) (by kernel_rfl) (fun _ _ _ h => h) (Or.inl ⟨by rfl, ?_⟩) (by assumption) ?_
          case refine_2 =>
            intro w hSw
            (try dsimp only at hSw)
            (try go_simp)
            all_goals (with_reducible rfl)
          (try dsimp only [Act.put]); (try simp only [List.setIfInBounds_toArray, List.set_cons_zero, List.set_cons_succ])
          refine wpAnyH_take (i := 5) (oi := { dst := some 84, op := Op.load 23 (Operand.tmp 11), type := 23, pos := "law.go:57", after := #[{ on := 2, ground := Ground.guard }], guard := some (2, false) }) (v := ?_) rfl (by kernel_rfl) (by kernel_rfl) (by kernel_rfl) (fun _ _ _ h => h) (Or.inl ⟨by rfl, ?_⟩) (by assumption) ?_
          case refine_2 =>
            intro w hSw
            (try dsimp only at hSw)
            (try go_simp)
            all_goals (with_reducible rfl)
          (try dsimp only [Act.put]); (try simp only [List.setIfInBounds_toArray, List.set_cons_zero, List.set_cons_succ])
          refine wpAnyH_ready (rs := [4]) (by kernel_rfl) (by simp) (AllReadyH.cons (o := { dst := some 83, op := Op.call { callee := Callee.value (Operand.func 12), args := #[Operand.tmp 82], argTypes := #[26] }, type := 23, pos := "law.go:57", after := #[{ on := 3, ground := Ground.data }, { on := 2, ground := Ground.chain }, { on := 2, ground := Ground.guard }], guard := some (2, false) }) rfl (fun K hK => ?_) AllReadyH.nil)
          go_simp
          refine (position_is (pl_fin hHeld).two.at_).mono ?_; rintro e w10 ⟨rfl, hb⟩
          refine hK.out _ _ ?_ (fun hHeld => ?_)
          · first | with_reducible assumption | exact pl_keep (by assumption) hb
          clear hK K
          refine wpAnyH_take (i := 6) (oi := { dst := some 85, op := Op.binOp BinOp.neq 23 (Operand.tmp 83) (Operand.tmp 84) 23, type := 4, pos := "law.go:57", after := #[{ on := 4, ground := Ground.data }, { on := 5, ground := Ground.data }, { on := 2, ground := Ground.guard }], guard := some (2, false) }) (v := ?_) rfl (by kernel_rfl) (by kernel_rfl) (by kernel_rfl) (fun _ _ _ h => h) (Or.inl ⟨by rfl, ?_⟩) (by assumption) ?_
          case refine_2 =>
            intro w hSw
            (try dsimp only at hSw)
            (try go_simp)
            all_goals (with_reducible rfl)
          (try dsimp only [Act.put]); (try simp only [List.setIfInBounds_toArray, List.set_cons_zero, List.set_cons_succ])
          refine wpAnyH_take (i := 7) (oi := { dst := some 86, op := Op.pick (Operand.tmp 81) (Operand.const (Value.bool true)) (Operand.tmp 85), type := 4, pos := "law.go:57", after := #[{ on := 2, ground := Ground.data }, { on := 6, ground := Ground.data }], guard := none }) (v := ?_) rfl (by kernel_rfl) (by kernel_rfl) (by kernel_rfl) (fun _ _ _ h => h) (Or.inl ⟨by rfl, ?_⟩) (by assumption) ?_
          case refine_2 =>
            intro w hSw
            (try dsimp only at hSw)
            (try go_simp)
            all_goals (with_reducible rfl)
          (try dsimp only [Act.put]); (try simp only [List.setIfInBounds_toArray, List.set_cons_zero, List.set_cons_succ])
          refine wpAnyH_take (i := 8) (oi := { dst := some 87, op := Op.move (Operand.tmp 86), type := 4, pos := "law.go:57", after := #[{ on := 7, ground := Ground.data }, { on := 4, ground := Ground.chain }], guard := none }) (v := ?_) rfl (by kernel_rfl) (by kernel_rfl) (by kernel_rfl) (fun _ _ _ h => h) (Or.inl ⟨by rfl, ?_⟩) (by assumption) ?_
          case refine_2 =>
            intro w hSw
            (try dsimp only at hSw)
            (try go_simp)
            all_goals (with_reducible rfl)
          (try dsimp only [Act.put]); (try simp only [List.setIfInBounds_toArray, List.set_cons_zero, List.set_cons_succ])
          refine wpAnyH_take (i := 9) (oi := { dst := some 88, op := Op.move (Operand.tmp 5), type := 26, pos := "law.go:57", after := #[{ on := 8, ground := Ground.guard }], guard := some (8, false) }) (v := ?_) rfl (by kernel_rfl) (by kernel_rfl) (by kernel_rfl) (fun _ _ _ h => h) (Or.inl ⟨by rfl, ?_⟩) (by assumption) ?_
          case refine_2 =>
            intro w hSw
            (try dsimp only at hSw)
            (try go_simp)
            all_goals (with_reducible rfl)
          (try dsimp only [Act.put]); (try simp only [List.setIfInBounds_toArray, List.set_cons_zero, List.set_cons_succ])
          refine wpAnyH_take (i := 11) (oi := { dst := some 90, op := Op.move (Operand.tmp 7), type := 30, pos := "law.go:57", after := #[{ on := 8, ground := Ground.guard }], guard := some (8, false) }) (v := ?_) rfl (by kernel_rfl) (by kernel_rfl) (by kernel_rfl) (fun _ _ _ h => h) (Or.inl ⟨by rfl, ?_⟩) (by assumption) ?_
          case refine_2 =>
            intro w hSw
            (try dsimp only at hSw)
            (try go_simp)
            all_goals (with_reducible rfl)
          (try dsimp only [Act.put]); (try simp only [List.setIfInBounds_toArray, List.set_cons_zero, List.set_cons_succ])
          refine wpAnyH_take (i := 12) (oi := { dst := some 91, op := Op.nilCheck (Operand.tmp 90), type := 0, pos := "law.go:57", after := #[{ on := 11, ground := Ground.data }, { on := 8, ground := Ground.guard }], guard := some (8, false) }) (v := ?_) rfl (by kernel_rfl) (by kernel_rfl) (by kernel_rfl) (fun _ _ _ h => h) (Or.inl ⟨by rfl, ?_⟩) (by assumption) ?_
          case refine_2 =>
            intro w hSw
            (try dsimp only at hSw)
            (try go_simp)
            all_goals (with_reducible rfl)
          (try dsimp only [Act.put]); (try simp only [List.setIfInBounds_toArray, List.set_cons_zero, List.set_cons_succ])
          refine wpAnyH_take (i := 13) (oi := { dst := some 92, op := Op.fieldAddr 44 (Operand.tmp 91) 1, type := 0, pos := "law.go:57", after := #[{ on := 12, ground := Ground.data }, { on := 8, ground := Ground.guard }], guard := some (8, false) }) (v := ?_) rfl (by kernel_rfl) (by kernel_rfl) (by kernel_rfl) (fun _ _ _ h => h) (Or.inl ⟨by rfl, ?_⟩) (by assumption) ?_
          case refine_2 =>
            intro w hSw
            (try dsimp only at hSw)
            (try go_simp)
            all_goals (with_reducible rfl)
          (try dsimp only [Act.put]); (try simp only [List.setIfInBounds_toArray, List.set_cons_zero, List.set_cons_succ])
          refine wpAnyH_take (i := 14) (oi := { dst := some 93, op := Op.load 42 (Operand.tmp 92), type := 42, pos := "law.go:57", after := #[{ on := 13, ground := Ground.data }, { on := 8, ground := Ground.guard }], guard := some (8, false) }) (v := ?_) rfl (by kernel_rfl) (by kernel_rfl) (by kernel_rfl) (fun _ _ _ h => h) (Or.inl ⟨by rfl, ?_⟩) (by assumption) ?_
          case refine_2 =>
            intro w hSw
            (try dsimp only at hSw)
            (try go_simp)
            all_goals (with_reducible rfl)
          (try dsimp only [Act.put]); (try simp only [List.setIfInBounds_toArray, List.set_cons_zero, List.set_cons_succ])
          refine wpAnyH_take (i := 15) (oi := { dst := some 94, op := Op.call { callee := Callee.builtin Builtin.len, args := #[Operand.tmp 93], argTypes := #[42] }, type := 3, pos := "law.go:57", after := #[{ on := 14, ground := Ground.data }, { on := 8, ground := Ground.guard }], guard := some (8, false) }) (v := ?_) rfl (by kernel_rfl) (by kernel_rfl) (by kernel_rfl) (fun _ _ _ h => h) (Or.inl ⟨by rfl, ?_⟩) (by assumption) ?_
          case refine_2 =>
            intro w hSw
            (try dsimp only at hSw)
            (try go_simp)
            all_goals (with_reducible rfl)
          (try dsimp only [Act.put]); (try simp only [List.setIfInBounds_toArray, List.set_cons_zero, List.set_cons_succ])
          refine wpAnyH_ready (rs := [10]) (by kernel_rfl) (by simp) (AllReadyH.cons (o := { dst := some 89, op := Op.call { callee := Callee.value (Operand.func 13), args := #[Operand.tmp 88], argTypes := #[26] }, type := 3, pos := "law.go:57", after := #[{ on := 9, ground := Ground.data }, { on := 8, ground := Ground.chain }, { on := 8, ground := Ground.guard }], guard := some (8, false) }) rfl (fun K hK => ?_) AllReadyH.nil)
          go_simp
          refine (plies_is (pl_fin hHeld).two.at_ N hN).mono ?_; rintro e w11 ⟨rfl, rfl⟩
          refine hK.out _ _ ?_ (fun hHeld => ?_)
          · first | with_reducible assumption | exact pl_keep (by assumption) hb
          clear hK K
          refine wpAnyH_take (i := 16) (oi := { dst := some 95, op := Op.binOp BinOp.neq 3 (Operand.tmp 89) (Operand.tmp 94) 3, type := 4, pos := "law.go:57", after := #[{ on := 10, ground := Ground.data }, { on := 15, ground := Ground.data }, { on := 8, ground := Ground.guard }], guard := some (8, false) }) (v := ?_) rfl (by kernel_rfl) (by kernel_rfl) (by kernel_rfl) (fun _ _ _ h => h) (Or.inl ⟨by rfl, ?_⟩) (by assumption) ?_
          case refine_2 =>
            intro w hSw
            (try dsimp only at hSw)
            (try go_simp)
            all_goals (with_reducible rfl)
          (try dsimp only [Act.put]); (try simp only [List.setIfInBounds_toArray, List.set_cons_zero, List.set_cons_succ])
          refine wpAnyH_take (i := 17) (oi := { dst := some 96, op := Op.pick (Operand.tmp 87) (Operand.const (Value.bool true)) (Operand.tmp 95), type := 4, pos := "law.go:57", after := #[{ on := 8, ground := Ground.data }, { on := 16, ground := Ground.data }], guard := none }) (v := ?_) rfl (by kernel_rfl) (by kernel_rfl) (by kernel_rfl) (fun _ _ _ h => h) (Or.inl ⟨by rfl, ?_⟩) (by assumption) ?_
          case refine_2 =>
            intro w hSw
            (try dsimp only at hSw)
            (try go_simp)
            all_goals (with_reducible rfl)
          (try dsimp only [Act.put]); (try simp only [List.setIfInBounds_toArray, List.set_cons_zero, List.set_cons_succ])
          refine wpAnyH_take (i := 18) (oi := { dst := some 97, op := Op.move (Operand.tmp 96), type := 4, pos := "law.go:57", after := #[{ on := 17, ground := Ground.data }, { on := 10, ground := Ground.chain }], guard := none }) (v := ?_) rfl (by kernel_rfl) (by kernel_rfl) (by kernel_rfl) (fun _ _ _ h => h) (Or.inl ⟨by rfl, ?_⟩) (by assumption) ?_
          case refine_2 =>
            intro w hSw
            (try dsimp only at hSw)
            (try go_simp)
            all_goals (with_reducible rfl)
          (try dsimp only [Act.put]); (try simp only [List.setIfInBounds_toArray, List.set_cons_zero, List.set_cons_succ])
          refine wpAnyH_take (i := 19) (oi := { dst := some 98, op := Op.move (Operand.tmp 5), type := 26, pos := "law.go:57", after := #[{ on := 18, ground := Ground.guard }], guard := some (18, false) }) (v := ?_) rfl (by kernel_rfl) (by kernel_rfl) (by kernel_rfl) (fun _ _ _ h => h) (Or.inl ⟨by rfl, ?_⟩) (by assumption) ?_
          case refine_2 =>
            intro w hSw
            (try dsimp only at hSw)
            (try go_simp)
            all_goals (with_reducible rfl)
          (try dsimp only [Act.put]); (try simp only [List.setIfInBounds_toArray, List.set_cons_zero, List.set_cons_succ])
          refine wpAnyH_take (i := 21) (oi := { dst := some 100, op := Op.move (Operand.tmp 7), type := 30, pos := "law.go:57", after := #[{ on := 18, ground := Ground.guard }], guard := some (18, false) }) (v := ?_) rfl (by kernel_rfl) (by kernel_rfl) (by kernel_rfl) (fun _ _ _ h => h) (Or.inl ⟨by rfl, ?_⟩) (by assumption) ?_
          case refine_2 =>
            intro w hSw
            (try dsimp only at hSw)
            (try go_simp)
            all_goals (with_reducible rfl)
          (try dsimp only [Act.put]); (try simp only [List.setIfInBounds_toArray, List.set_cons_zero, List.set_cons_succ])
          refine wpAnyH_take (i := 22) (oi := { dst := some 101, op := Op.nilCheck (Operand.tmp 100), type := 0, pos := "law.go:57", after := #[{ on := 21, ground := Ground.data }, { on := 18, ground := Ground.guard }], guard := some (18, false) }) (v := ?_) rfl (by kernel_rfl) (by kernel_rfl) (by kernel_rfl) (fun _ _ _ h => h) (Or.inl ⟨by rfl, ?_⟩) (by assumption) ?_
          case refine_2 =>
            intro w hSw
            (try dsimp only at hSw)
            (try go_simp)
            all_goals (with_reducible rfl)
          (try dsimp only [Act.put]); (try simp only [List.setIfInBounds_toArray, List.set_cons_zero, List.set_cons_succ])
          refine wpAnyH_take (i := 23) (oi := { dst := some 102, op := Op.fieldAddr 44 (Operand.tmp 101) 1, type := 0, pos := "law.go:57", after := #[{ on := 22, ground := Ground.data }, { on := 18, ground := Ground.guard }], guard := some (18, false) }) (v := ?_) rfl (by kernel_rfl) (by kernel_rfl) (by kernel_rfl) (fun _ _ _ h => h) (Or.inl ⟨by rfl, ?_⟩) (by assumption) ?_
          case refine_2 =>
            intro w hSw
            (try dsimp only at hSw)
            (try go_simp)
            all_goals (with_reducible rfl)
          (try dsimp only [Act.put]); (try simp only [List.setIfInBounds_toArray, List.set_cons_zero, List.set_cons_succ])
          refine wpAnyH_take (i := 24) (oi := { dst := some 103, op := Op.load 42 (Operand.tmp 102), type := 42, pos := "law.go:57", after := #[{ on := 23, ground := Ground.data }, { on := 18, ground := Ground.guard }], guard := some (18, false) }) (v := ?_) rfl (by kernel_rfl) (by kernel_rfl) (by kernel_rfl) (fun _ _ _ h => h) (Or.inl ⟨by rfl, ?_⟩) (by assumption) ?_
          case refine_2 =>
            intro w hSw
            (try dsimp only at hSw)
            (try go_simp)
            all_goals (with_reducible rfl)
          (try dsimp only [Act.put]); (try simp only [List.setIfInBounds_toArray, List.set_cons_zero, List.set_cons_succ])
          refine wpAnyH_ready (rs := [20]) (by kernel_rfl) (by simp) (AllReadyH.cons (o := { dst := some 99, op := Op.call { callee := Callee.value (Operand.func 15), args := #[Operand.tmp 98], argTypes := #[26] }, type := 42, pos := "law.go:57", after := #[{ on := 19, ground := Ground.data }, { on := 18, ground := Ground.chain }, { on := 18, ground := Ground.guard }], guard := some (18, false) }) rfl (fun K hK => ?_) AllReadyH.nil)
          go_simp
          refine (past_is (pl_fin hHeld).two.at_ (by have := HN40.out; omega) N hN).mono ?_; rintro e w12 ⟨B2, rfl, hB2, bB2, hb⟩
          refine hK.out _ _ ?_ (fun hHeld => ?_)
          · first | with_reducible assumption | exact pl_keep (by assumption) hb
          clear hK K
          refine wpAnyH_ready (rs := [25]) (by kernel_rfl) (by simp) (AllReadyH.cons (o := { dst := some 104, op := Op.call { callee := Callee.value (Operand.func 14), args := #[Operand.tmp 99, Operand.tmp 103], argTypes := #[42, 42] }, type := 4, pos := "law.go:57", after := #[{ on := 20, ground := Ground.data }, { on := 24, ground := Ground.data }, { on := 20, ground := Ground.chain }, { on := 18, ground := Ground.guard }], guard := some (18, false) }) rfl (fun K hK => ?_) AllReadyH.nil)
          go_simp
          refine ((pl_fin hHeld).same B2 (Blk.rd bB2) (by have := HN40.out; omega)).mono ?_; rintro e w13 ⟨rfl, hb⟩
          refine hK.out _ _ ?_ (fun hHeld => ?_)
          · first | with_reducible assumption | exact pl_keep (by assumption) hb
          clear hK K
          refine wpAnyH_take (i := 26) (oi := { dst := some 105, op := Op.unOp UnOp.not 4 (Operand.tmp 104), type := 4, pos := "law.go:57", after := #[{ on := 25, ground := Ground.data }, { on := 18, ground := Ground.guard }], guard := some (18, false) }) (v := ?_) rfl (by kernel_rfl) (by kernel_rfl) (by kernel_rfl) (fun _ _ _ h => h) (Or.inl ⟨by rfl, ?_⟩) (by assumption) ?_
          case refine_2 =>
            intro w hSw
            (try dsimp only at hSw)
            (try go_simp)
            all_goals (with_reducible rfl)
          (try dsimp only [Act.put]); (try simp only [List.setIfInBounds_toArray, List.set_cons_zero, List.set_cons_succ])
          refine wpAnyH_take (i := 27) (oi := { dst := some 106, op := Op.pick (Operand.tmp 97) (Operand.const (Value.bool true)) (Operand.tmp 105), type := 4, pos := "law.go:57", after := #[{ on := 18, ground := Ground.data }, { on := 26, ground := Ground.data }], guard := none }) (v := ?_) rfl (by kernel_rfl) (by kernel_rfl) (by kernel_rfl) (fun _ _ _ h => h) (Or.inl ⟨by rfl, ?_⟩) (by assumption) ?_
          case refine_2 =>
            intro w hSw
            (try dsimp only at hSw)
            (try go_simp)
            all_goals (with_reducible rfl)
          (try dsimp only [Act.put]); (try simp only [List.setIfInBounds_toArray, List.set_cons_zero, List.set_cons_succ])
          refine wpAnyH_take (i := 28) (oi := { dst := some 107, op := Op.move (Operand.tmp 106), type := 4, pos := "law.go:57", after := #[{ on := 27, ground := Ground.data }, { on := 25, ground := Ground.chain }], guard := none }) (v := ?_) rfl (by kernel_rfl) (by kernel_rfl) (by kernel_rfl) (fun _ _ _ h => h) (Or.inl ⟨by rfl, ?_⟩) (by assumption) ?_
          case refine_2 =>
            intro w hSw
            (try dsimp only at hSw)
            (try go_simp)
            all_goals (with_reducible rfl)
          (try dsimp only [Act.put]); (try simp only [List.setIfInBounds_toArray, List.set_cons_zero, List.set_cons_succ])
          refine wpAnyH_take (i := 29) (oi := { dst := some 108, op := Op.move (Operand.tmp 5), type := 26, pos := "law.go:57", after := #[{ on := 28, ground := Ground.guard }], guard := some (28, false) }) (v := ?_) rfl (by kernel_rfl) (by kernel_rfl) (by kernel_rfl) (fun _ _ _ h => h) (Or.inl ⟨by rfl, ?_⟩) (by assumption) ?_
          case refine_2 =>
            intro w hSw
            (try dsimp only at hSw)
            (try go_simp)
            all_goals (with_reducible rfl)
          (try dsimp only [Act.put]); (try simp only [List.setIfInBounds_toArray, List.set_cons_zero, List.set_cons_succ])
          refine wpAnyH_take (i := 31) (oi := { dst := some 110, op := Op.fieldAddr 23 (Operand.tmp 11) 0, type := 0, pos := "law.go:57", after := #[{ on := 28, ground := Ground.guard }], guard := some (28, false) }) (v := ?_) rfl (by kernel_rfl) (by kernel_rfl) (by kernel_rfl) (fun _ _ _ h => h) (Or.inl ⟨by rfl, ?_⟩) (by assumption) ?_
          case refine_2 =>
            intro w hSw
            (try dsimp only at hSw)
            (try go_simp)
            all_goals (with_reducible rfl)
          (try dsimp only [Act.put]); (try simp only [List.setIfInBounds_toArray, List.set_cons_zero, List.set_cons_succ])
          refine wpAnyH_take (i := 32) (oi := { dst := some 111, op := Op.load 9 (Operand.tmp 110), type := 9, pos := "law.go:57", after := #[{ on := 31, ground := Ground.data }, { on := 28, ground := Ground.guard }], guard := some (28, false) }) (v := ?_) rfl (by kernel_rfl) (by kernel_rfl) (by kernel_rfl) (fun _ _ _ h => h) (Or.inl ⟨by rfl, ?_⟩) (by assumption) ?_
          case refine_2 =>
            intro w hSw
            (try dsimp only at hSw)
            (try go_simp)
            all_goals (with_reducible rfl)
          (try dsimp only [Act.put]); (try simp only [List.setIfInBounds_toArray, List.set_cons_zero, List.set_cons_succ])
          refine wpAnyH_ready (rs := [30]) (by kernel_rfl) (by simp) (AllReadyH.cons (o := { dst := some 109, op := Op.call { callee := Callee.value (Operand.func 17), args := #[Operand.tmp 108, Operand.const (Value.int IntKind.i64 0)], argTypes := #[26, 3] }, type := 48, pos := "law.go:57", after := #[{ on := 29, ground := Ground.data }, { on := 28, ground := Ground.chain }, { on := 28, ground := Ground.guard }], guard := some (28, false) }) rfl (fun K hK => ?_) AllReadyH.nil)
          go_simp
          refine (gp_is (pl_fin hHeld).two.at_ (HT.out.below (pl_fin hHeld).two.bel HT.out.lt) _).mono ?_; rintro e w14 ⟨B3, x3, rfl, r3, hb⟩
          refine hK.out _ _ ?_ (fun hHeld => ?_)
          · first | with_reducible assumption | exact pl_keep (by assumption) hb
          clear hK K
          refine wpAnyH_ready (rs := [33]) (by kernel_rfl) (by simp) (AllReadyH.cons (o := { dst := some 112, op := Op.call { callee := Callee.value (Operand.func 18), args := #[Operand.tmp 111, Operand.const (Value.int IntKind.i64 0)], argTypes := #[9, 3] }, type := 48, pos := "law.go:57", after := #[{ on := 32, ground := Ground.data }, { on := 30, ground := Ground.chain }, { on := 28, ground := Ground.guard }], guard := some (28, false) }) rfl (fun K hK => ?_) AllReadyH.nil)
          go_simp
          refine (rpieces_is _ _ _).mono ?_; rintro e w15 ⟨B4, x4, rfl, r4, hb⟩; have r5 := r3.next hb
          refine hK.out _ _ ?_ (fun hHeld => ?_)
          · first | with_reducible assumption | exact pl_keep (by assumption) hb
          clear hK K
          refine wpAnyH_ready (rs := [34]) (by kernel_rfl) (by simp) (AllReadyH.cons (o := { dst := some 113, op := Op.call { callee := Callee.value (Operand.func 16), args := #[Operand.tmp 109, Operand.tmp 112], argTypes := #[48, 48] }, type := 4, pos := "law.go:57", after := #[{ on := 30, ground := Ground.data }, { on := 33, ground := Ground.data }, { on := 33, ground := Ground.chain }, { on := 28, ground := Ground.guard }], guard := some (28, false) }) rfl (fun K hK => ?_) AllReadyH.nil)
          go_simp
          refine (pcs_same B3 B4 _ _ _ _ _ r5 r4).mono ?_; rintro e w16 ⟨rfl, hb⟩
          refine hK.out _ _ ?_ (fun hHeld => ?_)
          · first | with_reducible assumption | exact pl_keep (by assumption) hb
          clear hK K
          refine wpAnyH_take (i := 35) (oi := { dst := some 114, op := Op.unOp UnOp.not 4 (Operand.tmp 113), type := 4, pos := "law.go:57", after := #[{ on := 34, ground := Ground.data }, { on := 28, ground := Ground.guard }], guard := some (28, false) }) (v := ?_) rfl (by kernel_rfl) (by kernel_rfl) (by kernel_rfl) (fun _ _ _ h => h) (Or.inl ⟨by rfl, ?_⟩) (by assumption) ?_
          case refine_2 =>
            intro w hSw
            (try dsimp only at hSw)
            (try go_simp)
            all_goals (with_reducible rfl)
          (try dsimp only [Act.put]); (try simp only [List.setIfInBounds_toArray, List.set_cons_zero, List.set_cons_succ])
          refine wpAnyH_take (i := 36) (oi := { dst := some 115, op := Op.pick (Operand.tmp 107) (Operand.const (Value.bool true)) (Operand.tmp 114), type := 4, pos := "law.go:57", after := #[{ on := 28, ground := Ground.data }, { on := 35, ground := Ground.data }], guard := none }) (v := ?_) rfl (by kernel_rfl) (by kernel_rfl) (by kernel_rfl) (fun _ _ _ h => h) (Or.inl ⟨by rfl, ?_⟩) (by assumption) ?_
          case refine_2 =>
            intro w hSw
            (try dsimp only at hSw)
            (try go_simp)
            all_goals (with_reducible rfl)
          (try dsimp only [Act.put]); (try simp only [List.setIfInBounds_toArray, List.set_cons_zero, List.set_cons_succ])
          refine wpAnyH_take (i := 37) (oi := { dst := some 116, op := Op.move (Operand.tmp 115), type := 4, pos := "law.go:57", after := #[{ on := 36, ground := Ground.data }, { on := 34, ground := Ground.chain }], guard := none }) (v := ?_) rfl (by kernel_rfl) (by kernel_rfl) (by kernel_rfl) (fun _ _ _ h => h) (Or.inl ⟨by rfl, ?_⟩) (by assumption) ?_
          case refine_2 =>
            intro w hSw
            (try dsimp only at hSw)
            (try go_simp)
            all_goals (with_reducible rfl)
          (try dsimp only [Act.put]); (try simp only [List.setIfInBounds_toArray, List.set_cons_zero, List.set_cons_succ])
          refine wpAnyH_take (i := 38) (oi := { dst := some 117, op := Op.move (Operand.tmp 5), type := 26, pos := "law.go:57", after := #[{ on := 37, ground := Ground.guard }], guard := some (37, false) }) (v := ?_) rfl (by kernel_rfl) (by kernel_rfl) (by kernel_rfl) (fun _ _ _ h => h) (Or.inl ⟨by rfl, ?_⟩) (by assumption) ?_
          case refine_2 =>
            intro w hSw
            (try dsimp only at hSw)
            (try go_simp)
            all_goals (with_reducible rfl)
          (try dsimp only [Act.put]); (try simp only [List.setIfInBounds_toArray, List.set_cons_zero, List.set_cons_succ])
          refine wpAnyH_take (i := 40) (oi := { dst := some 119, op := Op.fieldAddr 23 (Operand.tmp 11) 0, type := 0, pos := "law.go:57", after := #[{ on := 37, ground := Ground.guard }], guard := some (37, false) }) (v := ?_) rfl (by kernel_rfl) (by kernel_rfl) (by kernel_rfl) (fun _ _ _ h => h) (Or.inl ⟨by rfl, ?_⟩) (by assumption) ?_
          case refine_2 =>
            intro w hSw
            (try dsimp only at hSw)
            (try go_simp)
            all_goals (with_reducible rfl)
          (try dsimp only [Act.put]); (try simp only [List.setIfInBounds_toArray, List.set_cons_zero, List.set_cons_succ])
          refine wpAnyH_take (i := 41) (oi := { dst := some 120, op := Op.load 9 (Operand.tmp 119), type := 9, pos := "law.go:57", after := #[{ on := 40, ground := Ground.data }, { on := 37, ground := Ground.guard }], guard := some (37, false) }) (v := ?_) rfl (by kernel_rfl) (by kernel_rfl) (by kernel_rfl) (fun _ _ _ h => h) (Or.inl ⟨by rfl, ?_⟩) (by assumption) ?_
          case refine_2 =>
            intro w hSw
            (try dsimp only at hSw)
            (try go_simp)
            all_goals (with_reducible rfl)
          (try dsimp only [Act.put]); (try simp only [List.setIfInBounds_toArray, List.set_cons_zero, List.set_cons_succ])
          refine wpAnyH_ready (rs := [39]) (by kernel_rfl) (by simp) (AllReadyH.cons (o := { dst := some 118, op := Op.call { callee := Callee.value (Operand.func 17), args := #[Operand.tmp 117, Operand.const (Value.int IntKind.i64 1)], argTypes := #[26, 3] }, type := 48, pos := "law.go:57", after := #[{ on := 38, ground := Ground.data }, { on := 37, ground := Ground.chain }, { on := 37, ground := Ground.guard }], guard := some (37, false) }) rfl (fun K hK => ?_) AllReadyH.nil)
          go_simp
          refine (gp_is (pl_fin hHeld).two.at_ (HT.out.below (pl_fin hHeld).two.bel HT.out.lt) _).mono ?_; rintro e w14 ⟨B3, x3, rfl, r3, hb⟩
          refine hK.out _ _ ?_ (fun hHeld => ?_)
          · first | with_reducible assumption | exact pl_keep (by assumption) hb
          clear hK K
          refine wpAnyH_ready (rs := [42]) (by kernel_rfl) (by simp) (AllReadyH.cons (o := { dst := some 121, op := Op.call { callee := Callee.value (Operand.func 18), args := #[Operand.tmp 120, Operand.const (Value.int IntKind.i64 1)], argTypes := #[9, 3] }, type := 48, pos := "law.go:57", after := #[{ on := 41, ground := Ground.data }, { on := 39, ground := Ground.chain }, { on := 37, ground := Ground.guard }], guard := some (37, false) }) rfl (fun K hK => ?_) AllReadyH.nil)
          go_simp
          refine (rpieces_is _ _ _).mono ?_; rintro e w15 ⟨B4, x4, rfl, r4, hb⟩; have r5 := r3.next hb
          refine hK.out _ _ ?_ (fun hHeld => ?_)
          · first | with_reducible assumption | exact pl_keep (by assumption) hb
          clear hK K
          refine wpAnyH_ready (rs := [43]) (by kernel_rfl) (by simp) (AllReadyH.cons (o := { dst := some 122, op := Op.call { callee := Callee.value (Operand.func 16), args := #[Operand.tmp 118, Operand.tmp 121], argTypes := #[48, 48] }, type := 4, pos := "law.go:57", after := #[{ on := 39, ground := Ground.data }, { on := 42, ground := Ground.data }, { on := 42, ground := Ground.chain }, { on := 37, ground := Ground.guard }], guard := some (37, false) }) rfl (fun K hK => ?_) AllReadyH.nil)
          go_simp
          refine (pcs_same B3 B4 _ _ _ _ _ r5 r4).mono ?_; rintro e w16 ⟨rfl, hb⟩
          refine hK.out _ _ ?_ (fun hHeld => ?_)
          · first | with_reducible assumption | exact pl_keep (by assumption) hb
          clear hK K
          refine wpAnyH_take (i := 44) (oi := { dst := some 123, op := Op.unOp UnOp.not 4 (Operand.tmp 122), type := 4, pos := "law.go:57", after := #[{ on := 43, ground := Ground.data }, { on := 37, ground := Ground.guard }], guard := some (37, false) }) (v := ?_) rfl (by kernel_rfl) (by kernel_rfl) (by kernel_rfl) (fun _ _ _ h => h) (Or.inl ⟨by rfl, ?_⟩) (by assumption) ?_
          case refine_2 =>
            intro w hSw
            (try dsimp only at hSw)
            (try go_simp)
            all_goals (with_reducible rfl)
          (try dsimp only [Act.put]); (try simp only [List.setIfInBounds_toArray, List.set_cons_zero, List.set_cons_succ])
          refine wpAnyH_take (i := 45) (oi := { dst := some 124, op := Op.pick (Operand.tmp 116) (Operand.const (Value.bool true)) (Operand.tmp 123), type := 4, pos := "law.go:57", after := #[{ on := 37, ground := Ground.data }, { on := 44, ground := Ground.data }], guard := none }) (v := ?_) rfl (by kernel_rfl) (by kernel_rfl) (by kernel_rfl) (fun _ _ _ h => h) (Or.inl ⟨by rfl, ?_⟩) (by assumption) ?_
          case refine_2 =>
            intro w hSw
            (try dsimp only at hSw)
            (try go_simp)
            all_goals (with_reducible rfl)
          (try dsimp only [Act.put]); (try simp only [List.setIfInBounds_toArray, List.set_cons_zero, List.set_cons_succ])
          refine wpAnyH_done (by kernel_rfl) ?_ _
          have HD := Lib.hid (pl_fin hHeld).two
          have hn40 := HL.out
          go_wp2_with fail
          go_roundw
          case rel => exact ⟨k + 1, v3, vL4, _, st', now', by omega, by go_num, HST, HD⟩
          case measure => simp [intOf]; omega
      · have b1 : (n : Int) ≤ (k : Int) := by omega
        have hB := hI.out.bel
        have hTr := HT.out.below hB HT.out.lt
        go_wp2_with fail
        refine (live9_any _ hTr).mono ?_
        rintro e w9 ⟨rfl, hb⟩
        go_wp2
        go_ret
        exact ⟨rfl, hB.trans (hb.mono hB.size)⟩
  · obtain ⟨r, hr⟩ : ∃ r, wellN s y z u = r := ⟨_, rfl⟩
    have h0 : ((r : Int) != 0) = true := by rw [← hr]; simpa using hw
    have HR := Lib.hid hr
    clear hw hr
    go_enter Tryz.func3, Tryz.ntmps3
    go_wp2_with fail
    rw [HW.out]
    go_wp2_with fail
    refine (new_bad s y z u _ _ hT0 HR.out h0).mono ?_
    rintro e w1 ⟨rfl, hb⟩
    obtain ⟨p0, p1, p2, p3⟩ := ppos_cells (bP.next hb)
    have hB1 := hB.trans (hb.mono hB.size)
    replace hT0 := hT0.next hb
    clear hb
    go_wp2_with fail
    refine (rnew_bad s y z u _ _ HR.out h0).mono ?_
    rintro e w2 ⟨rfl, hb⟩
    replace hB1 := hB1.trans (hb.mono hB1.size)
    replace hT0 := hT0.next hb
    clear hb p0 p1 p2 p3
    go_wp2_with fail
    go_loopw [9] (fun i wr => i = .int .i64 0 ∧ Below w.heap.size w wr) (fun _ _ => 0)
    case atStart => exact ⟨rfl, hB1⟩
    case round =>
      obtain ⟨rfl, hB2⟩ := hrel
      clear hB1 hT0
      have hTr := HT.out.below hB2 HT.out.lt
      by_cases hn0 : n = 0
      · have b1 : (n : Int) ≤ 0 := by omega
        go_wp2_with fail
        refine (live9_any _ hTr).mono ?_
        rintro e w9 ⟨rfl, hb⟩
        go_wp2
        go_ret
        exact ⟨rfl, hB2.trans (hb.mono hB2.size)⟩
      · have b1 : (0 : Int) < (n : Int) := by omega
        go_wp2_with fail
        refine (live9_any _ hTr).mono ?_
        rintro e w9 ⟨rfl, hb⟩
        go_wp2
        go_ret
        exact ⟨rfl, hB2.trans (hb.mono hB2.size)⟩
end Go.Proofs.YtdpaiolppccinaaGreatDoor.gplays
