/- perft.Splits; the document's own examples of layer 11 hold. -/
import Derived.Test.YtelngcfpnbeakaaGreatDoorPerftJ
import Derived.Test.YtelngcfpnbeakaaGreatDoorPerftL
namespace Go.Proofs.YtelngcfpnbeakaaGreatDoor
open Go.RowKit Go.Shelf
open Go.Maps
open M (S)

theorem pcount_is (s : ByteArray) (y z u depth a k : Int) (w : World) (hT : Tab w) (hd : depth ≤ 3 ∨ 64 < depth) (h : countV s y z u depth = .tuple #[.int .i64 a, .int .i64 k]) : Calls Tryz.prog 7 #[.agg #[.string s, .int .i64 y, .int .i64 z, .int .i64 u], .int .i64 depth] w (Gives w (.tuple #[.int .i64 a, .int .i64 k])) := by
  rw [← h]
  exact count_any s y z u depth w hT hd
theorem psplits_no (s : ByteArray) (y z u depth k : Int) (w : World) (hT : Tab w) (hk : beginN (wellN s y z u) depth 1 = k) (h0 : k ≠ 0) : Calls Tryz.prog 12 #[.agg #[.string s, .int .i64 y, .int .i64 z, .int .i64 u], .int .i64 depth] w (Gives w (.tuple #[.slice none 0 0, .int .i64 k])) := by
  unfold Gives
  have hbB := below_one w (.cells #[.string s, .int .i64 y, .int .i64 z, .int .i64 u] 23)
  have e0 : (k != 0) = true := by rw [bne_iff_ne]; exact h0
  have HB := Lib.hid (begun_no s y z u depth 1 k (w.alloc (.cells #[.string s, .int .i64 y, .int .i64 z, .int .i64 u] 23)) (hT.next hbB) hk h0)
  clear hk
  go_enter Tryz.func12, Tryz.ntmps12
  go_wp2_with fail
  refine HB.out.mono ?_
  rintro e w1 ⟨rfl, hb⟩
  go_wp2
  go_ret2
  exact ⟨rfl, below_past hb⟩
theorem psplits_is (s : ByteArray) (y z u depth : Int) (N : Nat) (w : World) (hT : Tab w) (hdd : depth = N + 1) (hN : N ≤ 4) (hw : wellN s y z u = 0) (L : List (Nat × Nat)) (m : Nat) (hL : legalV s y z u = L) (hm : L.length = m) :
    Calls Tryz.prog 12 #[.agg #[.string s, .int .i64 y, .int .i64 z, .int .i64 u], .int .i64 depth] w fun e w' => ∃ A c, e = .returned (.tuple #[.slice A m c, .int .i64 0]) ∧ Rd w' A (splL N s y L) ∧ Below w.heap.size w w' := by
  have hbB := below_one w (.cells #[.string s, .int .i64 y, .int .i64 z, .int .i64 u] 23)
  have HB := Lib.hid (begun_is s y z u depth 1 (w.alloc (.cells #[.string s, .int .i64 y, .int .i64 z, .int .i64 u] 23)) (hT.next hbB) hw (by omega) (by omega))
  have HSP := Lib.hid (fun g w2 => splits_is g ⟨s, y, z, u⟩ N depth w2 hdd hN)
  have htw := hT.lt
  have HW := Lib.hid hw
  have HL := Lib.hid hL
  have HM := Lib.hid hm
  clear hdd hw hL hm
  go_enter Tryz.func12, Tryz.ntmps12
  go_wp2_with fail
  refine HB.out.mono ?_
  rintro e w1 ⟨g, rfl, hg, hbk, hb⟩
  have hg0 : w.heap.size < g := by
    rw [World.size_alloc] at hg
    omega
  have hb1 : Below w.heap.size w w1 := below_past hb
  clear hg hb
  go_wp2_with fail
  refine (HSP.out g w1 (by omega) (hT.next hb1) hbk HW.out L m HL.out HM.out).mono ?_
  rintro e w2 ⟨v, rfl, hown, hb2⟩
  obtain ⟨A, cp, rfl⟩ := owns_slice hown
  go_wp2
  go_ret2
  exact ⟨A, cp, rfl, Rd.owns hown, hb1.trans (hb2.mono (by omega))⟩
set_option maxRecDepth 100000 in
set_option maxHeartbeats 8000000 in
theorem live11_any (w : World) (hT : Tab w) : Calls Tryz.prog 6 #[] w (Gives w (.bool true)) := by
  unfold Gives
  have H1 : Hid (countV startS 0 0 1 1 = .tuple #[.int .i64 44, .int .i64 0]) := by
    show _ = _
    have e : beginN (wellN startS 0 0 1) 1 0 = 0 := by rw [start_well]; rfl
    unfold countV
    rw [e, if_pos rfl, show (1 : Int).toNat = 1 from rfl, start_lines]
    rfl
  have H0 : Hid (countV startS 0 0 1 0 = .tuple #[.int .i64 1, .int .i64 0]) := by
    show _ = _
    have e : beginN (wellN startS 0 0 1) 0 0 = 0 := by rw [start_well]; rfl
    unfold countV
    rw [e, if_pos rfl]
    rfl
  have H65 : Hid (countV startS 0 0 1 65 = .tuple #[.int .i64 0, .int .i64 1]) := by
    show _ = _
    have e : beginN (wellN startS 0 0 1) 65 0 = 1 := by rw [start_well]; rfl
    unfold countV
    rw [e]
    rfl
  have HS0 : Hid (beginN (wellN startS 0 0 1) 0 1 = 1) := by
    show _ = _
    rw [start_well]
    rfl
  have HW := Lib.hid start_well
  have HL := Lib.hid start_legal
  have HM : Hid (startM.length = 44) := by
    show _ = _
    rfl
  have HC : Hid ((splL 0 startS 0 startM)[0 * 3]? = some (.int .i64 0) ∧ (splL 0 startS 0 startM)[0 * 3 + 1]? = some (.int .i64 9) ∧ (splL 0 startS 0 startM)[0 * 3 + 2]? = some (.int .i64 1)) := ⟨rfl, rfl, rfl⟩
  generalize startM = LM at HL HM HC
  go_enter Tryz.func6, Tryz.ntmps6
  go_wp2_with fail
  have hlit : (⟨#[82, 78, 66, 65, 75, 65, 66, 78, 82, 46, 46, 46, 46, 46, 46, 46, 46, 46, 46, 67, 46, 46, 46, 46, 46, 67, 46, 80, 46, 80, 46, 80, 46, 80, 46, 80, 46, 46, 46, 46, 46, 46, 46, 46, 46, 46, 46, 46, 46, 46, 46, 46, 46, 46, 112, 46, 112, 46, 112, 46, 112, 46, 112, 46, 99, 46, 46, 46, 46, 46, 99, 46, 46, 46, 46, 46, 46, 46, 46, 46, 46, 114, 110, 98, 97, 107, 97, 98, 110, 114]⟩ : ByteArray) = startS := rfl
  simp only [hlit]
  clear hlit
  generalize startS = st at H1 H0 H65 HS0 HW HL HC ⊢
  obtain ⟨W0, hW0⟩ : ∃ W0, w.alloc (.cells #[.string st, .int .i64 0, .int .i64 0, .int .i64 1] 23) = W0 := ⟨_, rfl⟩
  have hB : Below w.heap.size w W0 := by rw [← hW0]; exact (by repeat (first | exact Below.refl _ _ | (refine Below.setCell ?_ (by first | omega | (simp; done) | (simp; omega) | (simp at *; omega)) _) | (refine Below.alloc ?_ (by first | omega | (simp; done) | (simp; omega) | (simp at *; omega)) _) | refine Below.drew ?_ | (refine below_drewN ?_ _) | (refine Below.trans ?_ (Below.mono (by assumption) (by first | omega | (simp; done) | (simp; omega) | (simp at *; omega))))))
  have bP : Blk W0 w.heap.size 23 #[.string st, .int .i64 0, .int .i64 0, .int .i64 1] := by rw [← hW0]; exact Blk.new _ _ _ rfl
  rw [hW0]
  clear hW0
  replace hT := hT.below hB hT.lt
  refine (pcount_is st 0 0 1 1 44 0 _ hT (by omega) H1.out).mono ?_
  rintro e w1 ⟨rfl, hb⟩
  replace hT := hT.next hb
  replace bP := bP.next hb
  replace hB := hB.trans (hb.mono hB.size)
  clear hb
  obtain ⟨p0, p1, p2, p3⟩ := ppos_cells bP
  go_wp2_with fail
  clear p0 p1 p2 p3
  refine (pcount_is st 0 0 1 0 1 0 _ hT (by omega) H0.out).mono ?_
  rintro e w1 ⟨rfl, hb⟩
  replace hT := hT.next hb
  replace bP := bP.next hb
  replace hB := hB.trans (hb.mono hB.size)
  clear hb
  obtain ⟨p0, p1, p2, p3⟩ := ppos_cells bP
  go_wp2_with fail
  clear p0 p1 p2 p3
  refine (pcount_is st 0 0 1 65 0 1 _ hT (by omega) H65.out).mono ?_
  rintro e w1 ⟨rfl, hb⟩
  replace hT := hT.next hb
  replace bP := bP.next hb
  replace hB := hB.trans (hb.mono hB.size)
  clear hb
  obtain ⟨p0, p1, p2, p3⟩ := ppos_cells bP
  go_wp2_with fail
  clear p0 p1 p2 p3
  refine (psplits_no st 0 0 1 0 1 _ hT HS0.out (by decide)).mono ?_
  rintro e w1 ⟨rfl, hb⟩
  replace hT := hT.next hb
  replace bP := bP.next hb
  replace hB := hB.trans (hb.mono hB.size)
  clear hb
  obtain ⟨p0, p1, p2, p3⟩ := ppos_cells bP
  go_wp2_with fail
  clear p0 p1 p2 p3
  refine (psplits_is st 0 0 1 1 0 _ hT rfl (by omega) HW.out LM 44 HL.out HM.out).mono ?_
  rintro e w1 ⟨A, c, rfl, hr, hb⟩
  replace hB := hB.trans (hb.mono hB.size)
  clear hb
  obtain ⟨g1, o1, rfl, c0, c1, c2⟩ := hr.three (k := 0) HC.out.1 HC.out.2.1 HC.out.2.2
  simp only [Nat.zero_mul, Nat.add_zero] at c0 c1 c2
  clear hr
  go_wp2
  go_ret
  exact ⟨rfl, hB⟩
end Go.Proofs.YtelngcfpnbeakaaGreatDoor
