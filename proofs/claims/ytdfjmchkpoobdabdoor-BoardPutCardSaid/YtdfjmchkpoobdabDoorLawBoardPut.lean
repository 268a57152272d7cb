/- What is put is there, and nothing else is turned; put back it is the same: the call answers true. -/
import Derived.Test.YtdfjmchkpoobdabDoorBoard5
namespace Go.Proofs.YtdfjmchkpoobdabDoor.puts
open Go.RowKit Go.Shelf
open M (S)

theorem put_as (s t : ByteArray) (n : Int) (c : Nat) (w : World) (hc : c < 256) (h : putB s n c = t) : Calls Tryd.prog 16 #[.string s, .int .i64 n, .int .u8 (c : Int)] w (Gives w (.string t)) := by subst h; exact put_is s n c w hc
set_option maxRecDepth 100000 in
set_option maxHeartbeats 4000000 in
theorem large (s : ByteArray) (n : Int) (c : Nat) (m : Int) (w : World) (hT : Tab w) (SM : Hid (decide (s.size ≤ 200) = false)) : Calls Tryd.prog 6 #[.agg #[.string s, .int .i64 n, .int .u8 (c : Int), .int .i64 m]] w fun e w' => e = .returned (.bool true) ∧ Below w.heap.size w w' := by
  have hB := Below.refl w.heap.size w
  go_enter Tryd.func6, Tryd.ntmps6
  go_wp2_with fail
  go_quiet (fail)
  replace hB : Below w.heap.size w ((w.alloc (.cells #[.string s, .int .i64 n, .int .u8 (c : Int), .int .i64 m] 41)).drewN nq) := (by repeat (first | exact Below.refl _ _ | (refine Below.setCell ?_ (by first | omega | (simp; done) | (simp; omega) | (simp at *; omega)) _) | (refine Below.alloc ?_ (by first | omega | (simp; done) | (simp; omega) | (simp at *; omega)) _) | refine Below.drew ?_ | (refine below_drewN ?_ _) | (refine Below.trans ?_ (Below.mono (by assumption) (by first | omega | (simp; done) | (simp; omega) | (simp at *; omega))))))
  replace hT := hT.below hB hT.lt
  go_wp2_with fail
  refine (small_is s false _ SM.out).mono ?_
  rintro e w' ⟨rfl, rfl⟩
  go_wp2_with fail
  refine (live2_any _ hT).mono ?_
  rintro e w24 ⟨rfl, hb⟩
  replace hT := hT.next hb
  replace hB := hB.trans (hb.mono hB.size)
  clear hb
  go_wp2
  go_ret
  exact ⟨rfl, hB⟩
set_option maxRecDepth 100000 in
set_option maxHeartbeats 4000000 in
theorem none (s : ByteArray) (n : Int) (c : Nat) (m : Int) (w : World) (hT : Tab w) (SM : Hid (decide (s.size ≤ 200) = true)) (B : Hid (isB s = false)) : Calls Tryd.prog 6 #[.agg #[.string s, .int .i64 n, .int .u8 (c : Int), .int .i64 m]] w fun e w' => e = .returned (.bool true) ∧ Below w.heap.size w w' := by
  have hB := Below.refl w.heap.size w
  go_enter Tryd.func6, Tryd.ntmps6
  go_wp2_with fail
  go_quiet (fail)
  replace hB : Below w.heap.size w ((w.alloc (.cells #[.string s, .int .i64 n, .int .u8 (c : Int), .int .i64 m] 41)).drewN nq) := (by repeat (first | exact Below.refl _ _ | (refine Below.setCell ?_ (by first | omega | (simp; done) | (simp; omega) | (simp at *; omega)) _) | (refine Below.alloc ?_ (by first | omega | (simp; done) | (simp; omega) | (simp at *; omega)) _) | refine Below.drew ?_ | (refine below_drewN ?_ _) | (refine Below.trans ?_ (Below.mono (by assumption) (by first | omega | (simp; done) | (simp; omega) | (simp at *; omega))))))
  replace hT := hT.below hB hT.lt
  go_wp2_with fail
  refine (small_is s true _ SM.out).mono ?_
  rintro e w' ⟨rfl, rfl⟩
  go_wp2_with fail
  refine (is_is s false _ B.out).mono ?_
  rintro e w' ⟨rfl, rfl⟩
  go_wp2_with fail
  refine (live2_any _ hT).mono ?_
  rintro e w25 ⟨rfl, hb⟩
  replace hT := hT.next hb
  replace hB := hB.trans (hb.mono hB.size)
  clear hb
  go_wp2
  go_ret
  exact ⟨rfl, hB⟩
set_option maxRecDepth 100000 in
set_option maxHeartbeats 4000000 in
theorem nlow (s : ByteArray) (n : Int) (c : Nat) (m : Int) (w : World) (hT : Tab w) (SM : Hid (decide (s.size ≤ 200) = true)) (B : Hid (isB s = true)) (h : n < 0) : Calls Tryd.prog 6 #[.agg #[.string s, .int .i64 n, .int .u8 (c : Int), .int .i64 m]] w fun e w' => e = .returned (.bool true) ∧ Below w.heap.size w w' := by
  have hB := Below.refl w.heap.size w
  go_enter Tryd.func6, Tryd.ntmps6
  go_wp2_with fail
  go_quiet (fail)
  replace hB : Below w.heap.size w ((w.alloc (.cells #[.string s, .int .i64 n, .int .u8 (c : Int), .int .i64 m] 41)).drewN nq) := (by repeat (first | exact Below.refl _ _ | (refine Below.setCell ?_ (by first | omega | (simp; done) | (simp; omega) | (simp at *; omega)) _) | (refine Below.alloc ?_ (by first | omega | (simp; done) | (simp; omega) | (simp at *; omega)) _) | refine Below.drew ?_ | (refine below_drewN ?_ _) | (refine Below.trans ?_ (Below.mono (by assumption) (by first | omega | (simp; done) | (simp; omega) | (simp at *; omega))))))
  replace hT := hT.below hB hT.lt
  go_wp2_with fail
  refine (small_is s true _ SM.out).mono ?_
  rintro e w' ⟨rfl, rfl⟩
  go_wp2_with fail
  refine (is_is s true _ B.out).mono ?_
  rintro e w' ⟨rfl, rfl⟩
  go_wp2_with fail
  refine (live2_any _ hT).mono ?_
  rintro e w26 ⟨rfl, hb⟩
  replace hT := hT.next hb
  replace hB := hB.trans (hb.mono hB.size)
  clear hb
  go_wp2
  go_ret
  exact ⟨rfl, hB⟩
set_option maxRecDepth 100000 in
set_option maxHeartbeats 4000000 in
theorem nhigh (s : ByteArray) (n : Int) (c : Nat) (m : Int) (w : World) (hT : Tab w) (SM : Hid (decide (s.size ≤ 200) = true)) (B : Hid (isB s = true)) (h0 : 0 ≤ n) (h : 89 < n) : Calls Tryd.prog 6 #[.agg #[.string s, .int .i64 n, .int .u8 (c : Int), .int .i64 m]] w fun e w' => e = .returned (.bool true) ∧ Below w.heap.size w w' := by
  have hB := Below.refl w.heap.size w
  go_enter Tryd.func6, Tryd.ntmps6
  go_wp2_with fail
  go_quiet (fail)
  replace hB : Below w.heap.size w ((w.alloc (.cells #[.string s, .int .i64 n, .int .u8 (c : Int), .int .i64 m] 41)).drewN nq) := (by repeat (first | exact Below.refl _ _ | (refine Below.setCell ?_ (by first | omega | (simp; done) | (simp; omega) | (simp at *; omega)) _) | (refine Below.alloc ?_ (by first | omega | (simp; done) | (simp; omega) | (simp at *; omega)) _) | refine Below.drew ?_ | (refine below_drewN ?_ _) | (refine Below.trans ?_ (Below.mono (by assumption) (by first | omega | (simp; done) | (simp; omega) | (simp at *; omega))))))
  replace hT := hT.below hB hT.lt
  go_wp2_with fail
  refine (small_is s true _ SM.out).mono ?_
  rintro e w' ⟨rfl, rfl⟩
  go_wp2_with fail
  refine (is_is s true _ B.out).mono ?_
  rintro e w' ⟨rfl, rfl⟩
  go_wp2_with fail
  refine (live2_any _ hT).mono ?_
  rintro e w27 ⟨rfl, hb⟩
  replace hT := hT.next hb
  replace hB := hB.trans (hb.mono hB.size)
  clear hb
  go_wp2
  go_ret
  exact ⟨rfl, hB⟩
set_option maxRecDepth 100000 in
set_option maxHeartbeats 4000000 in
theorem mlow (s : ByteArray) (n : Int) (c : Nat) (m : Int) (w : World) (hT : Tab w) (SM : Hid (decide (s.size ≤ 200) = true)) (B : Hid (isB s = true)) (h0 : 0 ≤ n) (h1 : n < 90) (h : m < 0) : Calls Tryd.prog 6 #[.agg #[.string s, .int .i64 n, .int .u8 (c : Int), .int .i64 m]] w fun e w' => e = .returned (.bool true) ∧ Below w.heap.size w w' := by
  have hB := Below.refl w.heap.size w
  go_enter Tryd.func6, Tryd.ntmps6
  go_wp2_with fail
  go_quiet (fail)
  replace hB : Below w.heap.size w ((w.alloc (.cells #[.string s, .int .i64 n, .int .u8 (c : Int), .int .i64 m] 41)).drewN nq) := (by repeat (first | exact Below.refl _ _ | (refine Below.setCell ?_ (by first | omega | (simp; done) | (simp; omega) | (simp at *; omega)) _) | (refine Below.alloc ?_ (by first | omega | (simp; done) | (simp; omega) | (simp at *; omega)) _) | refine Below.drew ?_ | (refine below_drewN ?_ _) | (refine Below.trans ?_ (Below.mono (by assumption) (by first | omega | (simp; done) | (simp; omega) | (simp at *; omega))))))
  replace hT := hT.below hB hT.lt
  go_wp2_with fail
  refine (small_is s true _ SM.out).mono ?_
  rintro e w' ⟨rfl, rfl⟩
  go_wp2_with fail
  refine (is_is s true _ B.out).mono ?_
  rintro e w' ⟨rfl, rfl⟩
  go_wp2_with fail
  refine (live2_any _ hT).mono ?_
  rintro e w28 ⟨rfl, hb⟩
  replace hT := hT.next hb
  replace hB := hB.trans (hb.mono hB.size)
  clear hb
  go_wp2
  go_ret
  exact ⟨rfl, hB⟩
set_option maxRecDepth 100000 in
set_option maxHeartbeats 4000000 in
theorem mhigh (s : ByteArray) (n : Int) (c : Nat) (m : Int) (w : World) (hT : Tab w) (SM : Hid (decide (s.size ≤ 200) = true)) (B : Hid (isB s = true)) (h0 : 0 ≤ n) (h1 : n < 90) (g0 : 0 ≤ m) (h : 89 < m) : Calls Tryd.prog 6 #[.agg #[.string s, .int .i64 n, .int .u8 (c : Int), .int .i64 m]] w fun e w' => e = .returned (.bool true) ∧ Below w.heap.size w w' := by
  have hB := Below.refl w.heap.size w
  go_enter Tryd.func6, Tryd.ntmps6
  go_wp2_with fail
  go_quiet (fail)
  replace hB : Below w.heap.size w ((w.alloc (.cells #[.string s, .int .i64 n, .int .u8 (c : Int), .int .i64 m] 41)).drewN nq) := (by repeat (first | exact Below.refl _ _ | (refine Below.setCell ?_ (by first | omega | (simp; done) | (simp; omega) | (simp at *; omega)) _) | (refine Below.alloc ?_ (by first | omega | (simp; done) | (simp; omega) | (simp at *; omega)) _) | refine Below.drew ?_ | (refine below_drewN ?_ _) | (refine Below.trans ?_ (Below.mono (by assumption) (by first | omega | (simp; done) | (simp; omega) | (simp at *; omega))))))
  replace hT := hT.below hB hT.lt
  go_wp2_with fail
  refine (small_is s true _ SM.out).mono ?_
  rintro e w' ⟨rfl, rfl⟩
  go_wp2_with fail
  refine (is_is s true _ B.out).mono ?_
  rintro e w' ⟨rfl, rfl⟩
  go_wp2_with fail
  refine (live2_any _ hT).mono ?_
  rintro e w29 ⟨rfl, hb⟩
  replace hT := hT.next hb
  replace hB := hB.trans (hb.mono hB.size)
  clear hb
  go_wp2
  go_ret
  exact ⟨rfl, hB⟩
set_option maxRecDepth 100000 in
set_option maxHeartbeats 4000000 in
theorem other (s : ByteArray) (n : Int) (c : Nat) (m : Int) (w : World) (hT : Tab w) (SM : Hid (decide (s.size ≤ 200) = true)) (B : Hid (isB s = true)) (h0 : 0 ≤ n) (h1 : n < 90) (g0 : 0 ≤ m) (g1 : m < 90) (hc : c < 256) (T : Hid (putB s n c = s)) (Sc : Hid (sideN c = -1)) (e46 : ((c : Int) != 46) = true) : Calls Tryd.prog 6 #[.agg #[.string s, .int .i64 n, .int .u8 (c : Int), .int .i64 m]] w fun e w' => e = .returned (.bool true) ∧ Below w.heap.size w w' := by
  have hB := Below.refl w.heap.size w
  go_enter Tryd.func6, Tryd.ntmps6
  go_wp2_with fail
  go_quiet (fail)
  replace hB : Below w.heap.size w ((w.alloc (.cells #[.string s, .int .i64 n, .int .u8 (c : Int), .int .i64 m] 41)).drewN nq) := (by repeat (first | exact Below.refl _ _ | (refine Below.setCell ?_ (by first | omega | (simp; done) | (simp; omega) | (simp at *; omega)) _) | (refine Below.alloc ?_ (by first | omega | (simp; done) | (simp; omega) | (simp at *; omega)) _) | refine Below.drew ?_ | (refine below_drewN ?_ _) | (refine Below.trans ?_ (Below.mono (by assumption) (by first | omega | (simp; done) | (simp; omega) | (simp at *; omega))))))
  replace hT := hT.below hB hT.lt
  go_wp2_with fail
  refine (small_is s true _ SM.out).mono ?_
  rintro e w' ⟨rfl, rfl⟩
  go_wp2_with fail
  refine (is_is s true _ B.out).mono ?_
  rintro e w' ⟨rfl, rfl⟩
  go_wp2_with fail
  refine (put_as s s n c _ hc T.out).mono ?_
  rintro e w30 ⟨rfl, hb⟩
  replace hT := hT.next hb
  replace hB := hB.trans (hb.mono hB.size)
  clear hb
  go_wp2_with fail
  refine (side_is c (-1) _ Sc.out).mono ?_
  rintro e w' ⟨rfl, rfl⟩
  go_wp2_with fail
  refine (live2_any _ hT).mono ?_
  rintro e w31 ⟨rfl, hb⟩
  replace hT := hT.next hb
  replace hB := hB.trans (hb.mono hB.size)
  clear hb
  go_wp2
  go_ret
  exact ⟨rfl, hB⟩
set_option maxRecDepth 100000 in
set_option maxHeartbeats 4000000 in
theorem piece0 (s : ByteArray) (n : Int) (c : Nat) (m : Int) (w : World) (hT : Tab w) (SM : Hid (decide (s.size ≤ 200) = true)) (B : Hid (isB s = true)) (h0 : 0 ≤ n) (h1 : n < 90) (g0 : 0 ≤ m) (g1 : m < 90) (hc : c < 256) (t : ByteArray) (T : Hid (putB s n c = t)) (a : Nat) (ha : a < 256) (Tn : Hid (atB t n = c)) (Sn : Hid (atB s n = a)) (Bk : Hid (putB t n a = s)) (It : Hid (isB t = true)) (nm : (m == n) = true) (sc : Int) (Sc : Hid (sideN c = sc)) (e1 : decide (sc < 0) = false) : Calls Tryd.prog 6 #[.agg #[.string s, .int .i64 n, .int .u8 (c : Int), .int .i64 m]] w fun e w' => e = .returned (.bool true) ∧ Below w.heap.size w w' := by
  have hB := Below.refl w.heap.size w
  go_enter Tryd.func6, Tryd.ntmps6
  go_wp2_with fail
  go_quiet (fail)
  replace hB : Below w.heap.size w ((w.alloc (.cells #[.string s, .int .i64 n, .int .u8 (c : Int), .int .i64 m] 41)).drewN nq) := (by repeat (first | exact Below.refl _ _ | (refine Below.setCell ?_ (by first | omega | (simp; done) | (simp; omega) | (simp at *; omega)) _) | (refine Below.alloc ?_ (by first | omega | (simp; done) | (simp; omega) | (simp at *; omega)) _) | refine Below.drew ?_ | (refine below_drewN ?_ _) | (refine Below.trans ?_ (Below.mono (by assumption) (by first | omega | (simp; done) | (simp; omega) | (simp at *; omega))))))
  replace hT := hT.below hB hT.lt
  go_wp2_with fail
  refine (small_is s true _ SM.out).mono ?_
  rintro e w' ⟨rfl, rfl⟩
  go_wp2_with fail
  refine (is_is s true _ B.out).mono ?_
  rintro e w' ⟨rfl, rfl⟩
  go_wp2_with fail
  refine (put_as s t n c _ hc T.out).mono ?_
  rintro e w32 ⟨rfl, hb⟩
  replace hT := hT.next hb
  replace hB := hB.trans (hb.mono hB.size)
  clear hb
  go_wp2_with fail
  refine (side_is c sc _ Sc.out).mono ?_
  rintro e w' ⟨rfl, rfl⟩
  go_wp2_with fail
  refine (at_is t n c _ Tn.out).mono ?_
  rintro e w' ⟨rfl, rfl⟩
  go_wp2_with fail
  refine (at_is s n a _ Sn.out).mono ?_
  rintro e w' ⟨rfl, rfl⟩
  go_wp2_with fail
  refine (put_as t s n a _ ha Bk.out).mono ?_
  rintro e w33 ⟨rfl, hb⟩
  replace hT := hT.next hb
  replace hB := hB.trans (hb.mono hB.size)
  clear hb
  go_wp2_with fail
  refine (is_is t true _ It.out).mono ?_
  rintro e w' ⟨rfl, rfl⟩
  go_wp2_with fail
  refine (live2_any _ hT).mono ?_
  rintro e w34 ⟨rfl, hb⟩
  replace hT := hT.next hb
  replace hB := hB.trans (hb.mono hB.size)
  clear hb
  go_wp2
  go_ret
  exact ⟨rfl, hB⟩
set_option maxRecDepth 100000 in
set_option maxHeartbeats 4000000 in
theorem dot0 (s : ByteArray) (n : Int) (c : Nat) (m : Int) (w : World) (hT : Tab w) (SM : Hid (decide (s.size ≤ 200) = true)) (B : Hid (isB s = true)) (h0 : 0 ≤ n) (h1 : n < 90) (g0 : 0 ≤ m) (g1 : m < 90) (hc : c < 256) (t : ByteArray) (T : Hid (putB s n c = t)) (a : Nat) (ha : a < 256) (Tn : Hid (atB t n = c)) (Sn : Hid (atB s n = a)) (Bk : Hid (putB t n a = s)) (It : Hid (isB t = true)) (nm : (m == n) = true) (Sc : Hid (sideN c = -1)) (e46 : ((c : Int) != 46) = false) : Calls Tryd.prog 6 #[.agg #[.string s, .int .i64 n, .int .u8 (c : Int), .int .i64 m]] w fun e w' => e = .returned (.bool true) ∧ Below w.heap.size w w' := by
  have hB := Below.refl w.heap.size w
  go_enter Tryd.func6, Tryd.ntmps6
  go_wp2_with fail
  go_quiet (fail)
  replace hB : Below w.heap.size w ((w.alloc (.cells #[.string s, .int .i64 n, .int .u8 (c : Int), .int .i64 m] 41)).drewN nq) := (by repeat (first | exact Below.refl _ _ | (refine Below.setCell ?_ (by first | omega | (simp; done) | (simp; omega) | (simp at *; omega)) _) | (refine Below.alloc ?_ (by first | omega | (simp; done) | (simp; omega) | (simp at *; omega)) _) | refine Below.drew ?_ | (refine below_drewN ?_ _) | (refine Below.trans ?_ (Below.mono (by assumption) (by first | omega | (simp; done) | (simp; omega) | (simp at *; omega))))))
  replace hT := hT.below hB hT.lt
  go_wp2_with fail
  refine (small_is s true _ SM.out).mono ?_
  rintro e w' ⟨rfl, rfl⟩
  go_wp2_with fail
  refine (is_is s true _ B.out).mono ?_
  rintro e w' ⟨rfl, rfl⟩
  go_wp2_with fail
  refine (put_as s t n c _ hc T.out).mono ?_
  rintro e w35 ⟨rfl, hb⟩
  replace hT := hT.next hb
  replace hB := hB.trans (hb.mono hB.size)
  clear hb
  go_wp2_with fail
  refine (side_is c (-1) _ Sc.out).mono ?_
  rintro e w' ⟨rfl, rfl⟩
  go_wp2_with fail
  refine (at_is t n c _ Tn.out).mono ?_
  rintro e w' ⟨rfl, rfl⟩
  go_wp2_with fail
  refine (at_is s n a _ Sn.out).mono ?_
  rintro e w' ⟨rfl, rfl⟩
  go_wp2_with fail
  refine (put_as t s n a _ ha Bk.out).mono ?_
  rintro e w36 ⟨rfl, hb⟩
  replace hT := hT.next hb
  replace hB := hB.trans (hb.mono hB.size)
  clear hb
  go_wp2_with fail
  refine (is_is t true _ It.out).mono ?_
  rintro e w' ⟨rfl, rfl⟩
  go_wp2_with fail
  refine (live2_any _ hT).mono ?_
  rintro e w37 ⟨rfl, hb⟩
  replace hT := hT.next hb
  replace hB := hB.trans (hb.mono hB.size)
  clear hb
  go_wp2
  go_ret
  exact ⟨rfl, hB⟩
set_option maxRecDepth 100000 in
set_option maxHeartbeats 4000000 in
theorem piece1 (s : ByteArray) (n : Int) (c : Nat) (m : Int) (w : World) (hT : Tab w) (SM : Hid (decide (s.size ≤ 200) = true)) (B : Hid (isB s = true)) (h0 : 0 ≤ n) (h1 : n < 90) (g0 : 0 ≤ m) (g1 : m < 90) (hc : c < 256) (t : ByteArray) (T : Hid (putB s n c = t)) (a x : Nat) (ha : a < 256) (Tn : Hid (atB t n = c)) (Sm : Hid (atB s m = x)) (Tm : Hid (atB t m = x)) (Sn : Hid (atB s n = a)) (Bk : Hid (putB t n a = s)) (It : Hid (isB t = true)) (nm : (m == n) = false) (sc : Int) (Sc : Hid (sideN c = sc)) (e1 : decide (sc < 0) = false) : Calls Tryd.prog 6 #[.agg #[.string s, .int .i64 n, .int .u8 (c : Int), .int .i64 m]] w fun e w' => e = .returned (.bool true) ∧ Below w.heap.size w w' := by
  have hB := Below.refl w.heap.size w
  go_enter Tryd.func6, Tryd.ntmps6
  go_wp2_with fail
  go_quiet (fail)
  replace hB : Below w.heap.size w ((w.alloc (.cells #[.string s, .int .i64 n, .int .u8 (c : Int), .int .i64 m] 41)).drewN nq) := (by repeat (first | exact Below.refl _ _ | (refine Below.setCell ?_ (by first | omega | (simp; done) | (simp; omega) | (simp at *; omega)) _) | (refine Below.alloc ?_ (by first | omega | (simp; done) | (simp; omega) | (simp at *; omega)) _) | refine Below.drew ?_ | (refine below_drewN ?_ _) | (refine Below.trans ?_ (Below.mono (by assumption) (by first | omega | (simp; done) | (simp; omega) | (simp at *; omega))))))
  replace hT := hT.below hB hT.lt
  go_wp2_with fail
  refine (small_is s true _ SM.out).mono ?_
  rintro e w' ⟨rfl, rfl⟩
  go_wp2_with fail
  refine (is_is s true _ B.out).mono ?_
  rintro e w' ⟨rfl, rfl⟩
  go_wp2_with fail
  refine (put_as s t n c _ hc T.out).mono ?_
  rintro e w38 ⟨rfl, hb⟩
  replace hT := hT.next hb
  replace hB := hB.trans (hb.mono hB.size)
  clear hb
  go_wp2_with fail
  refine (side_is c sc _ Sc.out).mono ?_
  rintro e w' ⟨rfl, rfl⟩
  go_wp2_with fail
  refine (at_is t n c _ Tn.out).mono ?_
  rintro e w' ⟨rfl, rfl⟩
  go_wp2_with fail
  refine (at_is t m x _ Tm.out).mono ?_
  rintro e w' ⟨rfl, rfl⟩
  go_wp2_with fail
  refine (at_is s m x _ Sm.out).mono ?_
  rintro e w' ⟨rfl, rfl⟩
  go_wp2_with fail
  refine (at_is s n a _ Sn.out).mono ?_
  rintro e w' ⟨rfl, rfl⟩
  go_wp2_with fail
  refine (put_as t s n a _ ha Bk.out).mono ?_
  rintro e w39 ⟨rfl, hb⟩
  replace hT := hT.next hb
  replace hB := hB.trans (hb.mono hB.size)
  clear hb
  go_wp2_with fail
  refine (is_is t true _ It.out).mono ?_
  rintro e w' ⟨rfl, rfl⟩
  go_wp2_with fail
  refine (live2_any _ hT).mono ?_
  rintro e w40 ⟨rfl, hb⟩
  replace hT := hT.next hb
  replace hB := hB.trans (hb.mono hB.size)
  clear hb
  go_wp2
  go_ret
  exact ⟨rfl, hB⟩
set_option maxRecDepth 100000 in
set_option maxHeartbeats 4000000 in
theorem dot1 (s : ByteArray) (n : Int) (c : Nat) (m : Int) (w : World) (hT : Tab w) (SM : Hid (decide (s.size ≤ 200) = true)) (B : Hid (isB s = true)) (h0 : 0 ≤ n) (h1 : n < 90) (g0 : 0 ≤ m) (g1 : m < 90) (hc : c < 256) (t : ByteArray) (T : Hid (putB s n c = t)) (a x : Nat) (ha : a < 256) (Tn : Hid (atB t n = c)) (Sm : Hid (atB s m = x)) (Tm : Hid (atB t m = x)) (Sn : Hid (atB s n = a)) (Bk : Hid (putB t n a = s)) (It : Hid (isB t = true)) (nm : (m == n) = false) (Sc : Hid (sideN c = -1)) (e46 : ((c : Int) != 46) = false) : Calls Tryd.prog 6 #[.agg #[.string s, .int .i64 n, .int .u8 (c : Int), .int .i64 m]] w fun e w' => e = .returned (.bool true) ∧ Below w.heap.size w w' := by
  have hB := Below.refl w.heap.size w
  go_enter Tryd.func6, Tryd.ntmps6
  go_wp2_with fail
  go_quiet (fail)
  replace hB : Below w.heap.size w ((w.alloc (.cells #[.string s, .int .i64 n, .int .u8 (c : Int), .int .i64 m] 41)).drewN nq) := (by repeat (first | exact Below.refl _ _ | (refine Below.setCell ?_ (by first | omega | (simp; done) | (simp; omega) | (simp at *; omega)) _) | (refine Below.alloc ?_ (by first | omega | (simp; done) | (simp; omega) | (simp at *; omega)) _) | refine Below.drew ?_ | (refine below_drewN ?_ _) | (refine Below.trans ?_ (Below.mono (by assumption) (by first | omega | (simp; done) | (simp; omega) | (simp at *; omega))))))
  replace hT := hT.below hB hT.lt
  go_wp2_with fail
  refine (small_is s true _ SM.out).mono ?_
  rintro e w' ⟨rfl, rfl⟩
  go_wp2_with fail
  refine (is_is s true _ B.out).mono ?_
  rintro e w' ⟨rfl, rfl⟩
  go_wp2_with fail
  refine (put_as s t n c _ hc T.out).mono ?_
  rintro e w41 ⟨rfl, hb⟩
  replace hT := hT.next hb
  replace hB := hB.trans (hb.mono hB.size)
  clear hb
  go_wp2_with fail
  refine (side_is c (-1) _ Sc.out).mono ?_
  rintro e w' ⟨rfl, rfl⟩
  go_wp2_with fail
  refine (at_is t n c _ Tn.out).mono ?_
  rintro e w' ⟨rfl, rfl⟩
  go_wp2_with fail
  refine (at_is t m x _ Tm.out).mono ?_
  rintro e w' ⟨rfl, rfl⟩
  go_wp2_with fail
  refine (at_is s m x _ Sm.out).mono ?_
  rintro e w' ⟨rfl, rfl⟩
  go_wp2_with fail
  refine (at_is s n a _ Sn.out).mono ?_
  rintro e w' ⟨rfl, rfl⟩
  go_wp2_with fail
  refine (put_as t s n a _ ha Bk.out).mono ?_
  rintro e w42 ⟨rfl, hb⟩
  replace hT := hT.next hb
  replace hB := hB.trans (hb.mono hB.size)
  clear hb
  go_wp2_with fail
  refine (is_is t true _ It.out).mono ?_
  rintro e w' ⟨rfl, rfl⟩
  go_wp2_with fail
  refine (live2_any _ hT).mono ?_
  rintro e w43 ⟨rfl, hb⟩
  replace hT := hT.next hb
  replace hB := hB.trans (hb.mono hB.size)
  clear hb
  go_wp2
  go_ret
  exact ⟨rfl, hB⟩
theorem put_in {s : ByteArray} (hb : isB s = true) {n : Int} (hn : 0 ≤ n ∧ n < 90) {c : Nat} (hf : fillB c = true) : putB s n c = putS s n.toNat c := by
  simp [putB, hb, sqI_true hn, hf]
theorem at_in {s : ByteArray} (hb : isB s = true) {n : Int} (hn : 0 ≤ n ∧ n < 90) : atB s n = bAt s n.toNat := by
  simp [atB, hb, sqI_true hn]
theorem walk (s : ByteArray) (n : Int) (c : Nat) (m : Int) (w : World) (hT : Tab w) (hc : c < 256) : Calls Tryd.prog 6 #[.agg #[.string s, .int .i64 n, .int .u8 (c : Int), .int .i64 m]] w fun e w' => e = .returned (.bool true) ∧ Below w.heap.size w w' := by
  cases hs : decide (s.size ≤ 200)
  · exact large s n c m w hT hs
  cases hb : isB s
  · exact none s n c m w hT hs hb
  by_cases a1 : n < 0
  · exact nlow s n c m w hT hs hb a1
  by_cases a2 : 89 < n
  · exact nhigh s n c m w hT hs hb (by omega) a2
  by_cases a3 : m < 0
  · exact mlow s n c m w hT hs hb (by omega) (by omega) a3
  by_cases a4 : 89 < m
  · exact mhigh s n c m w hT hs hb (by omega) (by omega) (by omega) a4
  have hn : 0 ≤ n ∧ n < 90 := by omega
  have hm : 0 ≤ m ∧ m < 90 := by omega
  have h90 := isB_size hb
  cases hf : fillB c
  · have hsc : sideN c = -1 := by
      have h1 := fill_side c
      rw [hf] at h1
      have h2 := sideN_ge c
      have h3 := (Bool.or_eq_false_iff.1 h1.symm).2
      rw [decide_eq_false_iff_not] at h3
      omega
    have h46 : ((c : Int) != 46) = true := by
      rw [bne_iff_ne]
      intro h
      have : c = 46 := by omega
      subst this
      cases hf
    exact other s n c m w hT hs hb hn.1 hn.2 hm.1 hm.2 hc (by show _ = _; simp [putB, hf]) hsc h46
  · have ht : isB (putS s n.toNat c) = true := put_is_board hb _ _ hc hf
    have Tn : atB (putS s n.toNat c) n = c := by rw [at_in ht hn, put_at _ _ _ _ hc (by omega), if_pos rfl]
    have Bk : putB (putS s n.toNat c) n (bAt s n.toNat) = s := by
      rw [put_in ht hn (isB_fill hb _ (by omega)), put_back _ _ _ hc]
    have ha := bAt_lt s n.toNat
    by_cases hsc : 0 ≤ sideN c
    · by_cases e : m = n
      · exact piece0 s n c m w hT hs hb hn.1 hn.2 hm.1 hm.2 hc _ (put_in hb hn hf) _ ha Tn (at_in hb hn) Bk ht (by simp [e]) _ rfl (by simp; omega)
      · have Tm : atB (putS s n.toNat c) m = bAt s m.toNat := by rw [at_in ht hm, put_at _ _ _ _ hc (by omega), if_neg (by omega)]
        exact piece1 s n c m w hT hs hb hn.1 hn.2 hm.1 hm.2 hc _ (put_in hb hn hf) _ _ ha Tn (at_in hb hm) Tm (at_in hb hn) Bk ht (by simp [e]) _ rfl (by simp; omega)
    · have h1 := fill_side c
      rw [hf, decide_eq_false hsc, Bool.or_false] at h1
      have h46 : ((c : Int) != 46) = false := by
        have : c = 46 := by simpa using h1.symm
        subst this
        rfl
      have hsc' : sideN c = -1 := by have := sideN_ge c; omega
      by_cases e : m = n
      · exact dot0 s n c m w hT hs hb hn.1 hn.2 hm.1 hm.2 hc _ (put_in hb hn hf) _ ha Tn (at_in hb hn) Bk ht (by simp [e]) hsc' h46
      · have Tm : atB (putS s n.toNat c) m = bAt s m.toNat := by rw [at_in ht hm, put_at _ _ _ _ hc (by omega), if_neg (by omega)]
        exact dot1 s n c m w hT hs hb hn.1 hn.2 hm.1 hm.2 hc _ (put_in hb hn hf) _ _ ha Tn (at_in hb hm) Tm (at_in hb hn) Bk ht (by simp [e]) hsc' h46
end Go.Proofs.YtdfjmchkpoobdabDoor.puts
