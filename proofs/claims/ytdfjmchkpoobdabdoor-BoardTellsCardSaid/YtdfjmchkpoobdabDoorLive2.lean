/- The document's own examples of layer 2 hold. -/
import Derived.Test.YtdfjmchkpoobdabDoorBoard4
namespace Go.Proofs.YtdfjmchkpoobdabDoor
open Go.RowKit Go.Shelf
open M (S)

def startS : ByteArray := ⟨#[82, 78, 66, 65, 75, 65, 66, 78, 82, 46, 46, 46, 46, 46, 46, 46, 46, 46, 46, 67, 46, 46, 46, 46, 46, 67, 46, 80, 46, 80, 46, 80, 46, 80, 46, 80, 46, 46, 46, 46, 46, 46, 46, 46, 46, 46, 46, 46, 46, 46, 46, 46, 46, 46, 112, 46, 112, 46, 112, 46, 112, 46, 112, 46, 99, 46, 46, 46, 46, 46, 99, 46, 46, 46, 46, 46, 46, 46, 46, 46, 46, 114, 110, 98, 97, 107, 97, 98, 110, 114]⟩
structure Live2 (s : ByteArray) : Prop where
  is : isB s = true
  a4 : atB s 4 = 75
  a90 : atB s 90 = 46
  f67 : findL s 67 = [19, 25]
  p1 : (piecesL s 1).length = 16
  tu : turnB s = s
  pu : atB (putB s 40 114) 40 = 114
theorem live2_set : Live2 startS := by
  constructor <;> decide +kernel

/-- A call's answer is the value v; the world is as it was. -/
def Says (w : World) (v : Value) (e : Ending) (w' : World) : Prop := e = .returned v ∧ w = w'
theorem is_is (s : ByteArray) (b : Bool) (w : World) (h : isB s = b) : Calls Tryd.prog 12 #[.string s] w (Says w (.bool b)) := by subst h; exact is_any s w
theorem at_is (s : ByteArray) (n : Int) (c : Nat) (w : World) (h : atB s n = c) : Calls Tryd.prog 14 #[.string s, .int .i64 n] w (Says w (.int .u8 (c : Int))) := by subst h; exact at_any s n w
theorem side_is (c : Nat) (k : Int) (w : World) (h : sideN c = k) : Calls Tryd.prog 25 #[.int .u8 (c : Int)] w (Says w (.int .i64 k)) := by subst h; exact side_any c w
theorem kind_is (c k : Nat) (w : World) (h : kindN c = k) : Calls Tryd.prog 26 #[.int .u8 (c : Int)] w (Says w (.int .u8 (k : Int))) := by subst h; exact kind_any c w
theorem file_is (n k : Int) (w : World) (h : fileI n = k) : Calls Tryd.prog 28 #[.int .i64 n] w (Says w (.int .i64 k)) := by subst h; exact file_any n w
theorem rank_is (n k : Int) (w : World) (h : rankI n = k) : Calls Tryd.prog 30 #[.int .i64 n] w (Says w (.int .i64 k)) := by subst h; exact rank_any n w
theorem square_is (f r k : Int) (w : World) (h : squareI f r = k) : Calls Tryd.prog 32 #[.int .i64 f, .int .i64 r] w (Says w (.int .i64 k)) := by subst h; exact square_any f r w
/-- A call's answer is a slice of n numbers, those of l. -/
def GivesN (w : World) (l : List Int) (n : Nat) (e : Ending) (w' : World) : Prop := ∃ A c, e = .returned (.slice A n c) ∧ Rd w' A (l.map iv) ∧ Below w.heap.size w w'
theorem find_is (s : ByteArray) (c n : Nat) (l : List Int) (w : World) (hT : Tab w) (h : findL s c = l) (hn : l.length = n) : Calls Tryd.prog 19 #[.string s, .int .u8 (c : Int)] w (GivesN w l n) := by subst h; subst hn; exact find_any s c w hT
theorem pieces_is (s : ByteArray) (side : Int) (n : Nat) (w : World) (hT : Tab w) (hn : (piecesL s side).length = n) : Calls Tryd.prog 21 #[.string s, .int .i64 side] w (GivesN w (piecesL s side) n) := by subst hn; exact pieces_any s side w hT
def Gives (w : World) (v : Value) (e : Ending) (w' : World) : Prop := e = .returned v ∧ Below w.heap.size w w'
theorem turn_is (s t : ByteArray) (w : World) (h : turnB s = t) : Calls Tryd.prog 23 #[.string s] w (Gives w (.string t)) := by subst h; exact turn_any s w
theorem put_is (s : ByteArray) (n : Int) (c : Nat) (w : World) (hc : c < 256) : Calls Tryd.prog 16 #[.string s, .int .i64 n, .int .u8 (c : Int)] w (Gives w (.string (putB s n c))) := put_any s n c w hc
theorem rd_lit {w : World} {g : Nat} {t : TypeId} {xs : List Int} (h : Blk w g t (xs.map iv).toArray) : Rd w (some ⟨g, 0, none⟩) (xs.map iv) := fun j u hu => by
  refine ⟨_, rfl, ?_⟩
  rw [show (Addr.add ⟨g, 0, none⟩ j) = ⟨g, j, none⟩ by simp [Addr.add]; omega, h.cell j]
  simpa using hu
theorem below_made {w w' : World} {o : Obj} (hb : Below (w.alloc o).heap.size (w.alloc o) w') : Below w.heap.size w w' := ((Below.refl _ _).alloc (Nat.le_refl _) _).trans (hb.mono (by simp))
theorem ints_true (A B : Option Addr) (xs : List Int) (n c d : Nat) (w : World) (hx : Rd w A (xs.map iv)) (hy : Rd w B (xs.map iv)) (hn : xs.length = n) (hm : n ≤ 1000000) :
    Calls Tryd.prog 18 #[.slice A n c, .slice B n d] w (Gives w (.bool true)) := by
  subst hn
  exact (ints_any A B xs xs c d w hx hy hm).mono fun _ _ ⟨he, hb⟩ => ⟨by simpa using he, hb⟩

set_option maxRecDepth 100000 in
set_option maxHeartbeats 4000000 in
theorem live2_any (w : World) (hT : Tab w) : Calls Tryd.prog 10 #[] w fun e w' => e = .returned (.bool true) ∧ Below w.heap.size w w' := by
  have hL := live2_set
  go_enter Tryd.func10, Tryd.ntmps10
  go_wp2_with fail
  rw [show (⟨#[82, 78, 66, 65, 75, 65, 66, 78, 82, 46, 46, 46, 46, 46, 46, 46, 46, 46, 46, 67, 46, 46, 46, 46, 46, 67, 46, 80, 46, 80, 46, 80, 46, 80, 46, 80, 46, 46, 46, 46, 46, 46, 46, 46, 46, 46, 46, 46, 46, 46, 46, 46, 46, 46, 112, 46, 112, 46, 112, 46, 112, 46, 112, 46, 99, 46, 46, 46, 46, 46, 99, 46, 46, 46, 46, 46, 46, 46, 46, 46, 46, 114, 110, 98, 97, 107, 97, 98, 110, 114]⟩ : ByteArray) = startS from rfl]
  generalize startS = st at hL ⊢
  obtain ⟨Is, A4, A90, F67, P1, Tu, Pu⟩ := hL
  have IS := Lib.hid Is
  have H4 := Lib.hid A4
  have H90 := Lib.hid A90
  have HF := Lib.hid F67
  have HP := Lib.hid P1
  have HT := Lib.hid Tu
  have HU := Lib.hid Pu
  clear Is A4 A90 F67 P1 Tu Pu
  refine (is_is st true _ IS.out).mono ?_
  rintro e w' ⟨rfl, rfl⟩
  go_wp2_with fail
  refine (at_is st 4 75 _ H4.out).mono ?_
  rintro e w' ⟨rfl, rfl⟩
  go_wp2_with fail
  refine (at_is st 90 46 _ H90.out).mono ?_
  rintro e w' ⟨rfl, rfl⟩
  go_wp2_with fail
  refine (side_is 99 1 _ rfl).mono ?_
  rintro e w' ⟨rfl, rfl⟩
  go_wp2_with fail
  refine (kind_is 99 67 _ rfl).mono ?_
  rintro e w' ⟨rfl, rfl⟩
  go_wp2_with fail
  refine (kind_is 120 0 _ rfl).mono ?_
  rintro e w' ⟨rfl, rfl⟩
  go_wp2_with fail
  refine (side_is 46 (-1) _ rfl).mono ?_
  rintro e w' ⟨rfl, rfl⟩
  go_wp2_with fail
  refine (file_is 22 4 _ rfl).mono ?_
  rintro e w' ⟨rfl, rfl⟩
  go_wp2_with fail
  refine (rank_is 22 2 _ rfl).mono ?_
  rintro e w' ⟨rfl, rfl⟩
  go_wp2_with fail
  refine (file_is 90 (-1) _ rfl).mono ?_
  rintro e w' ⟨rfl, rfl⟩
  go_wp2_with fail
  refine (square_is 4 2 22 _ rfl).mono ?_
  rintro e w' ⟨rfl, rfl⟩
  go_wp2_with fail
  refine (square_is 9 0 (-1) _ rfl).mono ?_
  rintro e w' ⟨rfl, rfl⟩
  go_wp2_with fail
  refine (find_is st 67 2 [19, 25] _ hT HF.out rfl).mono ?_
  rintro e w1 ⟨A, k, rfl, hr, hb⟩
  replace hT := hT.next hb
  have hB := hb
  clear hb
  go_wp2_with fail
  refine (ints_true _ _ [19, 25] 2 _ _ _ (hr.next ((Below.refl _ _).alloc (Nat.le_refl _) _)) (rd_lit (Blk.new _ _ _ rfl)) rfl (by decide)).mono ?_
  rintro e w2 ⟨rfl, hb⟩
  replace hb := below_made hb
  replace hT := hT.next hb
  replace hB := hB.trans (hb.mono hB.size)
  clear hb
  clear hr
  go_wp2_with fail
  refine (pieces_is st 1 16 _ hT HP.out).mono ?_
  rintro e w3 ⟨A2, k2, rfl, hr, hb⟩
  replace hT := hT.next hb
  replace hB := hB.trans (hb.mono hB.size)
  clear hb
  clear hr
  go_wp2_with fail
  refine (turn_is st st _ HT.out).mono ?_
  rintro e w4 ⟨rfl, hb⟩
  replace hT := hT.next hb
  replace hB := hB.trans (hb.mono hB.size)
  clear hb
  go_wp2_with fail
  refine (put_is st 40 114 _ (by decide)).mono ?_
  rintro e w5 ⟨rfl, hb⟩
  replace hT := hT.next hb
  replace hB := hB.trans (hb.mono hB.size)
  clear hb
  go_wp2_with fail
  refine (at_is (putB st 40 114) 40 114 _ HU.out).mono ?_
  rintro e w' ⟨rfl, rfl⟩
  go_wp2
  go_ret
  exact ⟨rfl, hB⟩
end Go.Proofs.YtdfjmchkpoobdabDoor
