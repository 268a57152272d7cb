/- The document's own examples of layer 4 hold. -/
import Derived.Test.YtcnaejmhifedfaaGreatDoorFenQ8
import Derived.Test.YtcnaejmhifedfaaGreatDoorLive3
namespace Go.Proofs.YtcnaejmhifedfaaGreatDoor
open Go.RowKit Go.Shelf
open M (S)

def lT1 : List UInt8 := [114, 104, 101, 97, 107, 97, 101, 104, 114, 47, 57, 47, 49, 99, 53, 99, 49, 47, 112, 49, 112, 49, 112, 49, 112, 49, 112, 47, 52, 53, 47, 57, 47, 80, 49, 80, 49, 80, 49, 80, 49, 80, 47, 49, 67, 53, 67, 49, 47, 57, 47, 82, 78, 66, 65, 75, 65, 66, 78, 82, 32, 114]
def lT2 : List UInt8 := [114, 110, 98, 97, 107, 97, 98, 110, 114, 47, 57, 47, 49, 99, 53, 99, 49, 47, 112, 49, 112, 49, 112, 49, 112, 49, 112, 47, 57, 47, 57, 47, 80, 49, 80, 49, 80, 49, 80, 49, 80, 47, 49, 67, 53, 67, 49, 47, 57, 47, 82, 78, 66, 65, 75, 65, 66, 78, 82, 32, 119, 32, 45, 32, 45, 32, 48, 32, 49]
def lT3 : List UInt8 := [57, 47, 57, 32, 119]
def lT4 : List UInt8 := [57, 47, 57, 47, 57, 47, 57, 47, 57, 47, 57, 47, 57, 47, 57, 47, 57, 47, 57, 32, 119]
def lS1 : ByteArray := ⟨#[114, 104, 101, 97, 107, 97, 101, 104, 114, 47, 57, 47, 49, 99, 53, 99, 49, 47, 112, 49, 112, 49, 112, 49, 112, 49, 112, 47, 52, 53, 47, 57, 47, 80, 49, 80, 49, 80, 49, 80, 49, 80, 47, 49, 67, 53, 67, 49, 47, 57, 47, 82, 78, 66, 65, 75, 65, 66, 78, 82, 32, 114]⟩
def lS2 : ByteArray := ⟨#[114, 110, 98, 97, 107, 97, 98, 110, 114, 47, 57, 47, 49, 99, 53, 99, 49, 47, 112, 49, 112, 49, 112, 49, 112, 49, 112, 47, 57, 47, 57, 47, 80, 49, 80, 49, 80, 49, 80, 49, 80, 47, 49, 67, 53, 67, 49, 47, 57, 47, 82, 78, 66, 65, 75, 65, 66, 78, 82, 32, 119, 32, 45, 32, 45, 32, 48, 32, 49]⟩
def lS3 : ByteArray := ⟨#[57, 47, 57, 32, 119]⟩
def lS4 : ByteArray := ⟨#[57, 47, 57, 47, 57, 47, 57, 47, 57, 47, 57, 47, 57, 47, 57, 47, 57, 47, 57, 32, 119]⟩
theorem lF1 : F.formL lT1 = some ⟨startS.data.toList, 0, 0, 1⟩ := by kernel_rfl
theorem lF3 : F.formL lT3 = none := by kernel_rfl
theorem lF4 : F.formL lT4 = some ⟨List.replicate 90 46, 0, 0, 1⟩ := by kernel_rfl
theorem lC1 : (checkN (bs startS.data.toList) 0 0 1 : Int) = 0 := by rw [bs_back]; exact live3_set.c0
theorem lC4 : (checkN (bs (List.replicate 90 46)) 0 0 1 : Int) = 3 := by decide +kernel
theorem lC5 : (checkN ⟨#[]⟩ 0 0 0 : Int) = 1 := by decide +kernel
theorem lP2 : F.printL (posP startS 0 0 1) = lT2 := by
  rw [F.printL, F.fields]
  show Lib.join [F.boardT startS.data.toList, [119], [45], [45], Lib.decDigits 0, Lib.decDigits 1] [32] = _
  rw [Lib.decDigits_one (by decide), Lib.decDigits_one (by decide)]
  kernel_rfl
structure Live4 (t1 t2 t3 t4 st : ByteArray) : Prop where
  p1 : ∀ w, Env w → Calls Tryz.prog 11 #[.string t1] w (Gives w (.tuple #[.agg #[.string st, .int .i64 0, .int .i64 0, .int .i64 1], .int .i64 0]))
  p2 : ∀ w, Env w → Calls Tryz.prog 13 #[.agg #[.string st, .int .i64 0, .int .i64 0, .int .i64 1]] w (Gives w (.tuple #[.string t2, .int .i64 0]))
  p3 : ∀ w, Env w → Calls Tryz.prog 11 #[.string t3] w (Gives w (.tuple #[.agg #[.string ⟨#[]⟩, .int .i64 0, .int .i64 0, .int .i64 0], .int .i64 6]))
  p4 : ∀ w, Env w → Calls Tryz.prog 11 #[.string t4] w (Gives w (.tuple #[.agg #[.string ⟨#[]⟩, .int .i64 0, .int .i64 0, .int .i64 0], .int .i64 3]))
  p5 : ∀ w, Env w → Calls Tryz.prog 13 #[.agg #[.string ⟨#[]⟩, .int .i64 0, .int .i64 0, .int .i64 0]] w (Gives w (.tuple #[.string ⟨#[]⟩, .int .i64 1]))
  e1 : (st.toList == [82, 78, 66, 65, 75, 65, 66, 78, 82, 46, 46, 46, 46, 46, 46, 46, 46, 46, 46, 67, 46, 46, 46, 46, 46, 67, 46, 80, 46, 80, 46, 80, 46, 80, 46, 80, 46, 46, 46, 46, 46, 46, 46, 46, 46, 46, 46, 46, 46, 46, 46, 46, 46, 46, 112, 46, 112, 46, 112, 46, 112, 46, 112, 46, 99, 46, 46, 46, 46, 46, 99, 46, 46, 46, 46, 46, 46, 46, 46, 46, 46, 114, 110, 98, 97, 107, 97, 98, 110, 114]) = true
  e2 : (t2.toList == [114, 110, 98, 97, 107, 97, 98, 110, 114, 47, 57, 47, 49, 99, 53, 99, 49, 47, 112, 49, 112, 49, 112, 49, 112, 49, 112, 47, 57, 47, 57, 47, 80, 49, 80, 49, 80, 49, 80, 49, 80, 47, 49, 67, 53, 67, 49, 47, 57, 47, 82, 78, 66, 65, 75, 65, 66, 78, 82, 32, 119, 32, 45, 32, 45, 32, 48, 32, 49]) = true
theorem print_is (s : ByteArray) (side clock full : Int) (v : Value) (w : World) (hE : Env w) (h : printV s side clock full = v) : Calls Tryz.prog 13 #[.agg #[.string s, .int .i64 side, .int .i64 clock, .int .i64 full]] w (Gives w v) := by subst h; exact print_any s side clock full w hE
theorem live4_set : Live4 lS1 lS2 lS3 lS4 startS where
  p1 w hE := parse_is lT1 _ w hE (by decide) (by rw [parse_yes lF1 lC1, posVP]; simp only [bs_back])
  p2 w hE := print_is _ _ _ _ _ w hE (by rw [printV, if_pos live3_set.c0, lP2]; rfl)
  p3 w hE := parse_is lT3 _ w hE (by decide) (by rw [parse_none lF3]; rfl)
  p4 w hE := parse_is lT4 _ w hE (by decide) (by
    have h3 : (checkP ⟨List.replicate 90 46, 0, 0, 1⟩ : Int) = 3 := lC4
    rw [parse_no lF4 (by rw [h3]; decide), h3]
    rfl)
  e1 := by rw [ByteArray.toList_eq]; decide +kernel
  e2 := by rw [ByteArray.toList_eq]; decide +kernel
  p5 w hE := print_is _ _ _ _ _ w hE (by rw [printV, if_neg (by rw [lC5]; decide), lC5])
set_option maxRecDepth 100000 in
set_option maxHeartbeats 4000000 in
theorem live4_any (w : World) (hE : Env w) : Calls Tryz.prog 10 #[] w (Gives w (.bool true)) := by
  unfold Gives
  have hL := live4_set
  go_enter Tryz.func10, Tryz.ntmps10
  go_wp2_with fail
  rw [show (⟨#[114, 104, 101, 97, 107, 97, 101, 104, 114, 47, 57, 47, 49, 99, 53, 99, 49, 47, 112, 49, 112, 49, 112, 49, 112, 49, 112, 47, 52, 53, 47, 57, 47, 80, 49, 80, 49, 80, 49, 80, 49, 80, 47, 49, 67, 53, 67, 49, 47, 57, 47, 82, 78, 66, 65, 75, 65, 66, 78, 82, 32, 114]⟩ : ByteArray) = lS1 from rfl]
  refine (hL.p1 _ hE).mono ?_
  generalize startS = st at hL ⊢
  generalize lS2 = t2 at hL
  have HL := Lib.hid hL
  clear hL
  rintro e w1 ⟨rfl, hb⟩
  have hB := hb
  replace hE := hE.next hb
  clear hb
  go_wp2_with fail
  have hA : Below w1.heap.size w1 (w1.alloc (.cells #[.string st, .int .i64 0, .int .i64 0, .int .i64 1] 24)) := (by repeat (first | exact Below.refl _ _ | (refine Below.setCell ?_ (by first | omega | (simp; done) | (simp; omega) | (simp at *; omega)) _) | (refine Below.alloc ?_ (by first | omega | (simp; done) | (simp; omega) | (simp at *; omega)) _) | refine Below.drew ?_ | (refine below_drewN ?_ _) | (refine Below.trans ?_ (Below.mono (by assumption) (by first | omega | (simp; done) | (simp; omega) | (simp at *; omega))))))
  refine (HL.out.p2 _ (hE.next hA)).mono ?_
  rintro e w2 ⟨rfl, hb⟩
  have bP := (Blk.new w1 24 #[.string st, .int .i64 0, .int .i64 0, .int .i64 1] rfl).next hb
  replace hB := (hB.trans (hA.mono hB.size)).trans (hb.mono (Nat.le_trans hB.size hA.size))
  replace hE := (hE.next hA).next hb
  clear hb hA
  go_wp2_with fail
  rw [show (⟨#[57, 47, 57, 32, 119]⟩ : ByteArray) = lS3 from rfl]
  refine (HL.out.p3 _ hE).mono ?_
  rintro e w3 ⟨rfl, hb⟩
  replace hE := hE.next hb
  replace bP := bP.next hb
  replace hB := hB.trans (hb.mono hB.size)
  clear hb
  have hA : Below w3.heap.size w3 (w3.alloc (.cells #[.string ⟨#[]⟩, .int .i64 0, .int .i64 0, .int .i64 0] 24)) := (by repeat (first | exact Below.refl _ _ | (refine Below.setCell ?_ (by first | omega | (simp; done) | (simp; omega) | (simp at *; omega)) _) | (refine Below.alloc ?_ (by first | omega | (simp; done) | (simp; omega) | (simp at *; omega)) _) | refine Below.drew ?_ | (refine below_drewN ?_ _) | (refine Below.trans ?_ (Below.mono (by assumption) (by first | omega | (simp; done) | (simp; omega) | (simp at *; omega))))))
  replace hE := hE.next hA
  replace bP := bP.next hA
  replace hB := hB.trans (hA.mono hB.size)
  clear hA
  go_wp2_with fail
  rw [show (⟨#[57, 47, 57, 47, 57, 47, 57, 47, 57, 47, 57, 47, 57, 47, 57, 47, 57, 47, 57, 32, 119]⟩ : ByteArray) = lS4 from rfl]
  refine (HL.out.p4 _ hE).mono ?_
  rintro e w4 ⟨rfl, hb⟩
  replace hE := hE.next hb
  replace bP := bP.next hb
  replace hB := hB.trans (hb.mono hB.size)
  clear hb
  have hA : Below w4.heap.size w4 (w4.alloc (.cells #[.string ⟨#[]⟩, .int .i64 0, .int .i64 0, .int .i64 0] 24)) := (by repeat (first | exact Below.refl _ _ | (refine Below.setCell ?_ (by first | omega | (simp; done) | (simp; omega) | (simp at *; omega)) _) | (refine Below.alloc ?_ (by first | omega | (simp; done) | (simp; omega) | (simp at *; omega)) _) | refine Below.drew ?_ | (refine below_drewN ?_ _) | (refine Below.trans ?_ (Below.mono (by assumption) (by first | omega | (simp; done) | (simp; omega) | (simp at *; omega))))))
  replace hE := hE.next hA
  replace bP := bP.next hA
  replace hB := hB.trans (hA.mono hB.size)
  clear hA
  go_wp2_with fail
  refine (HL.out.p5 _ hE).mono ?_
  rintro e w5 ⟨rfl, hb⟩
  replace hE := hE.next hb
  replace bP := bP.next hb
  replace hB := hB.trans (hb.mono hB.size)
  clear hb
  obtain ⟨p0, p1, p2, p3⟩ := pos_cells bP
  have e1 := HL.out.e1
  have e2 := HL.out.e2
  go_wp2
  go_ret
  exact ⟨rfl, hB⟩
end Go.Proofs.YtcnaejmhifedfaaGreatDoor
