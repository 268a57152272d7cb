/- Whether any text is a board, what stands where, what is found on it, and what it is from the other side: the call answers true. -/
import Derived.Test.YtdfjmchkpoobdabDoorBoard7
namespace Go.Proofs.YtdfjmchkpoobdabDoor.tells
open Go.RowKit Go.Shelf
open M (S)

theorem len_find (s : ByteArray) (c : Nat) : (findL s c).length ≤ 90 := by
  unfold findL
  split
  · exact trues_le _ 90
  · simp
theorem len_pieces (s : ByteArray) (side : Int) : (piecesL s side).length ≤ 90 := by
  unfold piecesL
  split
  · exact trues_le _ 90
  · simp
theorem rfind_is (s : ByteArray) (c n : Nat) (l : List Int) (w : World) (h : findL s c = l) (hn : l.length = n) : Calls Tryd.prog 20 #[.string s, .int .u8 (c : Int)] w (GivesN w l n) := by subst h; subst hn; exact rfind_any s c w
theorem rpieces_is (s : ByteArray) (side : Int) (n : Nat) (l : List Int) (w : World) (h : piecesL s side = l) (hn : l.length = n) : Calls Tryd.prog 22 #[.string s, .int .i64 side] w (GivesN w l n) := by subst h; subst hn; exact rpieces_any s side w
theorem mpieces_is (s : ByteArray) (side : Int) (n : Nat) (l : List Int) (w : World) (hT : Tab w) (h : piecesL s side = l) (hn : l.length = n) : Calls Tryd.prog 21 #[.string s, .int .i64 side] w (GivesN w l n) := by subst h; subst hn; exact pieces_any s side w hT
theorem put_as (s t : ByteArray) (n : Int) (c : Nat) (w : World) (hc : c < 256) (h : putB s n c = t) : Calls Tryd.prog 16 #[.string s, .int .i64 n, .int .u8 (c : Int)] w (Gives w (.string t)) := by subst h; exact put_is s n c w hc
theorem rput_as (s t : ByteArray) (n : Int) (c : Nat) (w : World) (hc : c < 256) (h : putB s n c = t) : Calls Tryd.prog 17 #[.string s, .int .i64 n, .int .u8 (c : Int)] w (Gives w (.string t)) := by subst h; exact rput_any s n c w hc
theorem rturn_is (s t : ByteArray) (w : World) (h : turnB s = t) : Calls Tryd.prog 24 #[.string s] w (Gives w (.string t)) := by subst h; exact rturn_any s w
theorem ris_is (s : ByteArray) (b : Bool) (w : World) (h : isB s = b) : Calls Tryd.prog 13 #[.string s] w (Says w (.bool b)) := by subst h; exact ris_any s w
theorem rat_is (s : ByteArray) (n : Int) (c : Nat) (w : World) (h : atB s n = c) : Calls Tryd.prog 15 #[.string s, .int .i64 n] w (Says w (.int .u8 (c : Int))) := by subst h; exact rat_any s n w
theorem rside_is (c : Nat) (k : Int) (w : World) (h : sideN c = k) : Calls Tryd.prog 11 #[.int .u8 (c : Int)] w (Says w (.int .i64 k)) := by subst h; exact rside_any c w

set_option maxRecDepth 100000 in
set_option maxHeartbeats 4000000 in
theorem large (s : ByteArray) (n : Int) (c : Nat) (w : World) (hT : Tab w) (SM : Hid (decide (s.size ≤ 200) = false)) :
    Calls Tryd.prog 3 #[.string s, .int .i64 n, .int .u8 (c : Int)] w fun e w' => e = .returned (.bool true) ∧ Below w.heap.size w w' := by
  go_enter Tryd.func3, Tryd.ntmps3
  go_wp2_with fail
  refine (small_is s false _ SM.out).mono ?_
  rintro e w' ⟨rfl, rfl⟩
  go_wp2_with fail
  refine (live2_any _ hT).mono ?_
  rintro e w1 ⟨rfl, hb⟩
  go_wp2
  go_ret
  exact ⟨rfl, hb⟩

set_option maxRecDepth 100000 in
set_option maxHeartbeats 4000000 in
theorem full (s : ByteArray) (n : Int) (c : Nat) (w : World) (hT : Tab w) (SM : Hid (decide (s.size ≤ 200) = true)) (hc : c < 256) (b : Bool) (B : Hid (isB s = b)) (a : Nat) (Ha : Hid (atB s n = a)) (p t : ByteArray) (P : Hid (putB s n c = p)) (T : Hid (turnB s = t))
    (sd : Int) (Sd : Hid (sideN c = sd)) (l l' : List Int) (m m' : Nat) (F : Hid (findL s c = l)) (L : Hid (l.length = m)) (F' : Hid (piecesL s sd = l')) (L' : Hid (l'.length = m')) (hm : m ≤ 1000000) (hm' : m' ≤ 1000000) :
    Calls Tryd.prog 3 #[.string s, .int .i64 n, .int .u8 (c : Int)] w fun e w' => e = .returned (.bool true) ∧ Below w.heap.size w w' := by
  go_enter Tryd.func3, Tryd.ntmps3
  go_wp2_with fail
  refine (small_is s true _ SM.out).mono ?_
  rintro e w' ⟨rfl, rfl⟩
  go_wp2_with fail
  refine (rside_is c sd _ Sd.out).mono ?_
  rintro e w' ⟨rfl, rfl⟩
  go_wp2_with fail
  refine (is_is s b _ B.out).mono ?_
  rintro e w' ⟨rfl, rfl⟩
  go_wp2_with fail
  refine (ris_is s b _ B.out).mono ?_
  rintro e w' ⟨rfl, rfl⟩
  go_wp2_with fail
  refine (at_is s n a _ Ha.out).mono ?_
  rintro e w' ⟨rfl, rfl⟩
  go_wp2_with fail
  refine (rat_is s n a _ Ha.out).mono ?_
  rintro e w' ⟨rfl, rfl⟩
  go_wp2_with fail
  refine (put_as s p n c _ hc P.out).mono ?_
  rintro e w1 ⟨rfl, hb⟩
  replace hT := hT.next hb
  have hB := hb
  clear hb
  go_wp2_with fail
  refine (rput_as s p n c _ hc P.out).mono ?_
  rintro e w2 ⟨rfl, hb⟩
  replace hT := hT.next hb
  replace hB := hB.trans (hb.mono hB.size)
  clear hb
  go_wp2_with fail
  refine (find_is s c m l _ hT F.out L.out).mono ?_
  rintro e w3 ⟨A1, k1, rfl, hr1, hb⟩
  replace hT := hT.next hb
  replace hB := hB.trans (hb.mono hB.size)
  clear hb
  go_wp2_with fail
  refine (rfind_is s c m l _ F.out L.out).mono ?_
  rintro e w4 ⟨A2, k2, rfl, hr2, hb⟩
  replace hT := hT.next hb
  replace hr1 := hr1.next hb
  replace hB := hB.trans (hb.mono hB.size)
  clear hb
  go_wp2_with fail
  refine (ints_true _ _ l m _ _ _ hr1 hr2 L.out hm).mono ?_
  rintro e w5 ⟨rfl, hb⟩
  replace hT := hT.next hb
  replace hB := hB.trans (hb.mono hB.size)
  clear hb hr1 hr2
  go_wp2_with fail
  refine (mpieces_is s sd m' l' _ hT F'.out L'.out).mono ?_
  rintro e w6 ⟨A3, k3, rfl, hr1, hb⟩
  replace hT := hT.next hb
  replace hB := hB.trans (hb.mono hB.size)
  clear hb
  go_wp2_with fail
  refine (rpieces_is s sd m' l' _ F'.out L'.out).mono ?_
  rintro e w7 ⟨A4, k4, rfl, hr2, hb⟩
  replace hT := hT.next hb
  replace hr1 := hr1.next hb
  replace hB := hB.trans (hb.mono hB.size)
  clear hb
  go_wp2_with fail
  refine (ints_true _ _ l' m' _ _ _ hr1 hr2 L'.out hm').mono ?_
  rintro e w8 ⟨rfl, hb⟩
  replace hT := hT.next hb
  replace hB := hB.trans (hb.mono hB.size)
  clear hb hr1 hr2
  go_wp2_with fail
  refine (turn_is s t _ T.out).mono ?_
  rintro e w9 ⟨rfl, hb⟩
  replace hT := hT.next hb
  replace hB := hB.trans (hb.mono hB.size)
  clear hb
  go_wp2_with fail
  refine (rturn_is s t _ T.out).mono ?_
  rintro e w10 ⟨rfl, hb⟩
  replace hT := hT.next hb
  replace hB := hB.trans (hb.mono hB.size)
  clear hb
  go_wp2_with fail
  refine (live2_any _ hT).mono ?_
  rintro e w11 ⟨rfl, hb⟩
  replace hB := hB.trans (hb.mono hB.size)
  go_wp2
  go_ret
  exact ⟨rfl, hB⟩

theorem walk (s : ByteArray) (n : Int) (c : Nat) (w : World) (hT : Tab w) (hc : c < 256) :
    Calls Tryd.prog 3 #[.string s, .int .i64 n, .int .u8 (c : Int)] w fun e w' => e = .returned (.bool true) ∧ Below w.heap.size w w' := by
  cases hs : decide (s.size ≤ 200)
  · exact large s n c w hT hs
  · exact full s n c w hT hs hc _ rfl _ rfl _ _ rfl rfl _ rfl _ _ _ _ rfl rfl rfl rfl (by have := len_find s c; omega) (by have := len_pieces s (sideN c); omega)
end Go.Proofs.YtdfjmchkpoobdabDoor.tells
