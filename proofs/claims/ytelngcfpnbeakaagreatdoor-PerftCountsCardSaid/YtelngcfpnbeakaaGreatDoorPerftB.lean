/- The document's count of lines. -/
import Derived.Test.YtelngcfpnbeakaaGreatDoorPerftA
import Derived.Test.YtelngcfpnbeakaaGreatDoorRefLM
namespace Go.Proofs.YtelngcfpnbeakaaGreatDoor
open Go.RowKit Go.Shelf
open M (S)

theorem addL_succ {P : List Nat} {k : Nat} (h : k < P.length) : addL (P.take (k + 1)) = addL (P.take k) + P[k] := by
  rw [List.take_succ_eq_append_getElem h, addL_app]
  rfl
theorem behind_size {s : ByteArray} {m : Nat × Nat} (h : s.size = 90) : (behindS s m).size = 90 := by
  unfold behindS movedS
  rw [put_size, put_size, h]
theorem lines_most {d : Nat} (hd : d ≤ 4) (s : ByteArray) (side : Int) : linesN d s side ≤ 4304672100000000 :=
  Nat.le_trans (linesN_le d s side) (Nat.le_trans (Nat.pow_le_pow_right (by decide) hd) (by decide))
theorem rlines_zero (s : ByteArray) (side : Int) (w : World) : Calls Tryz.prog 15 #[.string s, .int .i64 side, .int .i64 0] w (Gives w (.int .i64 1)) := by
  go_enter Tryz.func15, Tryz.ntmps15
  go_wp2
  go_ret
  exact ⟨rfl, Below.refl _ _⟩
set_option maxRecDepth 100000 in
set_option maxHeartbeats 8000000 in
theorem rlines_step (d : Nat) (hd4 : d + 1 ≤ 4) (ih : ∀ (s : ByteArray) (o z : Int) (w : World), z = d → s.size = 90 → (o = 0 ∨ o = 1) → Calls Tryz.prog 15 #[.string s, .int .i64 o, .int .i64 z] w (Gives w (.int .i64 (linesN d s o))))
    (s : ByteArray) (side o D : Int) (w : World) (hD : D = d + 1) (hs : s.size = 90) (h0 : 0 ≤ side) (h1 : side ≤ 1) (ho : 1 - side = o) : Calls Tryz.prog 15 #[.string s, .int .i64 side, .int .i64 D] w (Gives w (.int .i64 (linesN (d + 1) s side))) := by
  unfold Gives
  obtain ⟨L, hL⟩ : ∃ L, legalN s side = L := ⟨_, rfl⟩
  obtain ⟨m, hm⟩ : ∃ m, L.length = m := ⟨_, rfl⟩
  have hlen : m ≤ 8100 := by rw [← hm, ← hL]; exact legalN_le s side
  obtain ⟨P, hP⟩ : ∃ P, L.map (fun m => linesN d (behindS s m) o) = P := ⟨_, rfl⟩
  have hPm : P.length = m := by rw [← hP, List.length_map, hm]
  have hall : linesN (d + 1) s side = addL P := by
    show addL ((legalN s side).map fun m => linesN d (behindS s m) (1 - side)) = _
    rw [ho, hL, hP]
  have hmost : addL P ≤ 4304672100000000 := by rw [← hall]; exact lines_most hd4 s side
  have HLT : Hid (∀ k (hk : k < L.length), L[k].1 < 90 ∧ L[k].2 < 90 ∧ L[k].1 ≠ L[k].2) := fun k hk => by
    have hmem : L[k] ∈ legalN s side := by rw [hL]; exact List.getElem_mem hk
    obtain ⟨h1, h2, _, h3, _⟩ := legal_mem.1 hmem
    exact ⟨h1, h2, can_self h3⟩
  have HPK : Hid (∀ k (hk : k < P.length) (hl : k < L.length), P[k] = linesN d (behindS s L[k]) o) := fun k hk hl => by
    subst hP
    exact List.getElem_map _
  rw [hall]
  have d0 : (D == 0) = false := by rw [beq_eq_false_iff_ne]; omega
  have d1 : 1 ≤ D := by omega
  have d2 : D ≤ 4 := by omega
  have HIH := Lib.hid ih
  have HL := Lib.hid hL
  have HM := Lib.hid hm
  have HPM := Lib.hid hPm
  have HSZ := Lib.hid hs
  have HO := Lib.hid ho
  have HD := Lib.hid hD
  have HMO := Lib.hid hmost
  clear hL hm hs hP hPm hall ih ho hD hmost
  go_enter Tryz.func15, Tryz.ntmps15
  go_wp2_with fail
  refine (rlof_is s side L m _ HSZ.out HL.out HM.out).mono ?_
  rintro e w1 ⟨A, c, rfl, hr, hb1⟩
  go_wp2_with fail
  go_loopw [8, 9] (fun v i wr => ∃ k x : Nat, k ≤ m ∧ v = .int .i64 x ∧ i = .int .i64 k ∧ x = addL (P.take k) ∧ Below w1.heap.size w1 wr) (fun _ i _ => m - (intOf i).toNat)
  case atStart => exact ⟨0, 0, by omega, rfl, rfl, rfl, Below.refl _ _⟩
  case round =>
    obtain ⟨k, x, hk, rfl, rfl, hx, hB⟩ := hrel
    have hbs := hB.size
    have HX := Lib.hid hx
    clear hx
    by_cases hlt : k < m
    · have hkl : k < L.length := by rw [HM.out]; exact hlt
      have hkp : k < P.length := by rw [HPM.out]; exact hlt
      obtain ⟨g1, o1, rfl, c0, c1⟩ := hr.move hkl
      obtain ⟨h89, h90, hne⟩ := HLT.out k hkl
      have hy0 := HPK.out k hkp hkl
      have hst := addL_succ hkp
      obtain ⟨⟨u, v⟩, huv⟩ : ∃ x, L[k] = x := ⟨_, rfl⟩
      rw [huv] at c0 c1 h89 h90 hne hy0
      obtain ⟨y, hy⟩ : ∃ y, P[k] = y := ⟨_, rfl⟩
      rw [hy] at hst hy0
      have hsum : x + y ≤ 4304672100000000 := by
        rw [HX.out, ← hst]
        exact Nat.le_trans (addL_take P (k + 1)) HMO.out
      have HST := Lib.hid hst
      have hc0 := (hB.cell (p := ⟨g1, o1 + k * 2, none⟩) (cell_lt c0)).trans c0
      have hc1 := (hB.cell (p := ⟨g1, o1 + k * 2 + 1, none⟩) (cell_lt c1)).trans c1
      have b1 : (k : Int) < (m : Int) := by omega
      obtain ⟨q, hq⟩ : ∃ q, behindS s (u, v) = q := ⟨_, rfl⟩
      have HQ : Hid (∀ W, Calls Tryz.prog 23 #[.string s, .agg #[.int .i64 (u : Int), .int .i64 (v : Int)]] W (Gives W (.string q))) := fun W => rmoved_any s u v _ q W HSZ.out h89 h90 hne rfl hq
      have HQS : Hid (q.size = 90) := by show _ = _; rw [← hq]; exact behind_size HSZ.out
      have HR : Hid (∀ z W, z = (d : Int) → Calls Tryz.prog 15 #[.string q, .int .i64 o, .int .i64 z] W (Gives W (.int .i64 y))) := fun z W hz => by
        rw [hy0, hq]
        exact HIH.out q o z W hz HQS.out (by have := HO.out; omega)
      clear c0 c1 huv hst hq hy hy0 h89 h90 hne
      go_wp2_with fail
      refine (HQ.out _).mono ?_
      rintro e w2 ⟨rfl, hb⟩
      have hB2 := hB.trans (hb.mono hB.size)
      clear hB hb
      go_wp2_with fail
      rw [HO.out]
      refine (HR.out _ _ (by have := HD.out; omega)).mono ?_
      rintro e w3 ⟨rfl, hb⟩
      have hB := hB2.trans (hb.mono hB2.size)
      clear hB2 hb
      go_wp2_with fail
      go_roundw
      case rel => exact ⟨k + 1, x + y, by omega, by go_num, by go_num, by rw [HST.out, HX.out], hB⟩
      case measure => simp [intOf]; omega
    · obtain rfl : k = m := by omega
      have hxe : x = addL P := by rw [HX.out, List.take_of_length_le (by rw [HPM.out]; omega)]
      go_wp2
      go_ret
      exact ⟨by rw [hxe]; rfl, hb1.trans (hB.mono hb1.size)⟩
theorem rlines_any : ∀ (d : Nat) (_ : d ≤ 4) (s : ByteArray) (o z : Int) (w : World), z = d → s.size = 90 → (o = 0 ∨ o = 1) → Calls Tryz.prog 15 #[.string s, .int .i64 o, .int .i64 z] w (Gives w (.int .i64 (linesN d s o)))
  | 0, _, s, o, z, w, hz, _, _ => by subst hz; exact rlines_zero s o w
  | d + 1, hd, s, o, z, w, hz, hs, ho => rlines_step d hd (rlines_any d (by omega)) s o (1 - o) z w (by omega) hs (by omega) (by omega) rfl
end Go.Proofs.YtelngcfpnbeakaaGreatDoor
