/- Generals that face one another do so no more, if a piece is put between them: the call answers true. -/
import Derived.Test.YtbfkkedcjodceaaDoorLive7
import Derived.Test.YtbfkkedcjodceaaDoorLegalA
import Derived.Test.YtbfkkedcjodceaaDoorReachG
namespace Go.Proofs.YtbfkkedcjodceaaDoor.cbetween
open Go.RowKit Go.Shelf
open M (S)

set_option maxRecDepth 100000 in
set_option maxHeartbeats 8000000 in
theorem large (s : ByteArray) (n : Int) (c : Nat) (w : World) (hT : Tab w) (hs : 200 < s.size) : Calls Tryd.prog 13 #[.string s, .int .i64 n, .int .u8 (c : Int)] w (Gives w (.bool true)) := by
  unfold Gives
  have hd : decide (200 < (s.size : Int)) = true := by simp; omega
  clear hs
  go_enter Tryd.func13, Tryd.ntmps13
  go_wp2_with fail
  refine (live7_any _ hT).mono ?_
  rintro e w9 ⟨rfl, hb⟩
  go_wp2
  go_ret
  exact ⟨rfl, hb⟩
set_option maxRecDepth 100000 in
set_option maxHeartbeats 8000000 in
theorem nof (s : ByteArray) (n : Int) (c : Nat) (w : World) (hT : Tab w) (hs : s.size ≤ 200) (h : facingB s = false) : Calls Tryd.prog 13 #[.string s, .int .i64 n, .int .u8 (c : Int)] w (Gives w (.bool true)) := by
  unfold Gives
  have hd : decide (200 < (s.size : Int)) = false := by simp; omega
  clear hs
  have F := Lib.hid h
  clear h
  go_enter Tryd.func13, Tryd.ntmps13
  go_wp2_with fail
  refine (facing_is s false _ F.out).mono ?_
  rintro e w1 ⟨rfl, rfl⟩
  go_wp2_with fail
  refine (live7_any _ hT).mono ?_
  rintro e w9 ⟨rfl, hb⟩
  go_wp2
  go_ret
  exact ⟨rfl, hb⟩
set_option maxRecDepth 100000 in
set_option maxHeartbeats 8000000 in
theorem low (s : ByteArray) (n : Int) (c : Nat) (w : World) (hT : Tab w) (hs : s.size ≤ 200) (a b : Nat) (hf : facingB s = true) (ha : generalN s 0 = (a : Int)) (hb : generalN s 1 = (b : Int)) (hk : betweenV s (a : Int) (b : Int) = 0) (h : n ≤ min (a : Int) (b : Int)) : Calls Tryd.prog 13 #[.string s, .int .i64 n, .int .u8 (c : Int)] w (Gives w (.bool true)) := by
  unfold Gives
  have hd : decide (200 < (s.size : Int)) = false := by simp; omega
  clear hs
  have F := Lib.hid hf
  have GA := Lib.hid ha
  have GB := Lib.hid hb
  have K := Lib.hid hk
  clear hf ha hb hk
  obtain ⟨lo, hlo⟩ : ∃ lo : Int, min (a : Int) (b : Int) = lo := ⟨_, rfl⟩
  obtain ⟨hi, hhi⟩ : ∃ hi : Int, max (a : Int) (b : Int) = hi := ⟨_, rfl⟩
  rw [hlo] at h
  go_enter Tryd.func13, Tryd.ntmps13
  go_wp2_with fail
  refine (facing_is s true _ F.out).mono ?_
  rintro e w1 ⟨rfl, rfl⟩
  go_wp2_with fail
  refine (general_is s 0 a _ GA.out).mono ?_
  rintro e w1 ⟨rfl, rfl⟩
  go_wp2_with fail
  refine (general_is s 1 b _ GB.out).mono ?_
  rintro e w1 ⟨rfl, rfl⟩
  go_wp2_with fail
  refine (rBetween_is s a b 0 _ K.out).mono ?_
  rintro e w1 ⟨rfl, rfl⟩
  go_wp2_with fail
  refine (rBetween_is s a b 0 _ K.out).mono ?_
  rintro e w1 ⟨rfl, rfl⟩
  go_wp2_with fail
  refine (live7_any _ hT).mono ?_
  rintro e w9 ⟨rfl, hb⟩
  go_wp2
  go_ret
  exact ⟨rfl, hb⟩
set_option maxRecDepth 100000 in
set_option maxHeartbeats 8000000 in
theorem high (s : ByteArray) (n : Int) (c : Nat) (w : World) (hT : Tab w) (hs : s.size ≤ 200) (a b : Nat) (hf : facingB s = true) (ha : generalN s 0 = (a : Int)) (hb : generalN s 1 = (b : Int)) (hk : betweenV s (a : Int) (b : Int) = 0) (h0 : min (a : Int) (b : Int) < n) (h : max (a : Int) (b : Int) ≤ n) : Calls Tryd.prog 13 #[.string s, .int .i64 n, .int .u8 (c : Int)] w (Gives w (.bool true)) := by
  unfold Gives
  have hd : decide (200 < (s.size : Int)) = false := by simp; omega
  clear hs
  have F := Lib.hid hf
  have GA := Lib.hid ha
  have GB := Lib.hid hb
  have K := Lib.hid hk
  clear hf ha hb hk
  obtain ⟨lo, hlo⟩ : ∃ lo : Int, min (a : Int) (b : Int) = lo := ⟨_, rfl⟩
  obtain ⟨hi, hhi⟩ : ∃ hi : Int, max (a : Int) (b : Int) = hi := ⟨_, rfl⟩
  rw [hlo] at h0
  rw [hhi] at h
  go_enter Tryd.func13, Tryd.ntmps13
  go_wp2_with fail
  refine (facing_is s true _ F.out).mono ?_
  rintro e w1 ⟨rfl, rfl⟩
  go_wp2_with fail
  refine (general_is s 0 a _ GA.out).mono ?_
  rintro e w1 ⟨rfl, rfl⟩
  go_wp2_with fail
  refine (general_is s 1 b _ GB.out).mono ?_
  rintro e w1 ⟨rfl, rfl⟩
  go_wp2_with fail
  refine (rBetween_is s a b 0 _ K.out).mono ?_
  rintro e w1 ⟨rfl, rfl⟩
  go_wp2_with fail
  refine (rBetween_is s a b 0 _ K.out).mono ?_
  rintro e w1 ⟨rfl, rfl⟩
  go_wp2_with fail
  refine (live7_any _ hT).mono ?_
  rintro e w9 ⟨rfl, hb⟩
  go_wp2
  go_ret
  exact ⟨rfl, hb⟩
set_option maxRecDepth 100000 in
set_option maxHeartbeats 8000000 in
theorem file (s : ByteArray) (n : Int) (c : Nat) (w : World) (hT : Tab w) (hs : s.size ≤ 200) (a b : Nat) (hf : facingB s = true) (ha : generalN s 0 = (a : Int)) (hb : generalN s 1 = (b : Int)) (hk : betweenV s (a : Int) (b : Int) = 0) (h0 : min (a : Int) (b : Int) < n) (h1 : n < max (a : Int) (b : Int)) (x y : Int) (hx : n % 9 = x) (hy : (a : Int) % 9 = y) (h : (x != y) = true) : Calls Tryd.prog 13 #[.string s, .int .i64 n, .int .u8 (c : Int)] w (Gives w (.bool true)) := by
  unfold Gives
  have hd : decide (200 < (s.size : Int)) = false := by simp; omega
  clear hs
  have F := Lib.hid hf
  have GA := Lib.hid ha
  have GB := Lib.hid hb
  have K := Lib.hid hk
  clear hf ha hb hk
  obtain ⟨lo, hlo⟩ : ∃ lo : Int, min (a : Int) (b : Int) = lo := ⟨_, rfl⟩
  obtain ⟨hi, hhi⟩ : ∃ hi : Int, max (a : Int) (b : Int) = hi := ⟨_, rfl⟩
  have m1 : Int.tmod n 9 = x := by rw [Int.tmod_eq_emod_of_nonneg (by omega)]; exact hx
  have m2 : Int.tmod (a : Int) 9 = y := by rw [Int.tmod_eq_emod_of_nonneg (by omega)]; exact hy
  rw [hlo] at h0
  rw [hhi] at h1
  clear hx hy
  go_enter Tryd.func13, Tryd.ntmps13
  go_wp2_with fail
  refine (facing_is s true _ F.out).mono ?_
  rintro e w1 ⟨rfl, rfl⟩
  go_wp2_with fail
  refine (general_is s 0 a _ GA.out).mono ?_
  rintro e w1 ⟨rfl, rfl⟩
  go_wp2_with fail
  refine (general_is s 1 b _ GB.out).mono ?_
  rintro e w1 ⟨rfl, rfl⟩
  go_wp2_with fail
  refine (rBetween_is s a b 0 _ K.out).mono ?_
  rintro e w1 ⟨rfl, rfl⟩
  go_wp2_with fail
  refine (rBetween_is s a b 0 _ K.out).mono ?_
  rintro e w1 ⟨rfl, rfl⟩
  go_wp2_with fail
  refine (live7_any _ hT).mono ?_
  rintro e w9 ⟨rfl, hb⟩
  go_wp2
  go_ret
  exact ⟨rfl, hb⟩
set_option maxRecDepth 100000 in
set_option maxHeartbeats 8000000 in
theorem noside (s : ByteArray) (n : Int) (c : Nat) (w : World) (hT : Tab w) (hs : s.size ≤ 200) (a b : Nat) (hf : facingB s = true) (ha : generalN s 0 = (a : Int)) (hb : generalN s 1 = (b : Int)) (hk : betweenV s (a : Int) (b : Int) = 0) (h0 : min (a : Int) (b : Int) < n) (h1 : n < max (a : Int) (b : Int)) (x y : Int) (hx : n % 9 = x) (hy : (a : Int) % 9 = y) (hxy : (x != y) = false) (d : Int) (hdd : sideN c = d) (h : d < 0) : Calls Tryd.prog 13 #[.string s, .int .i64 n, .int .u8 (c : Int)] w (Gives w (.bool true)) := by
  unfold Gives
  have hd : decide (200 < (s.size : Int)) = false := by simp; omega
  clear hs
  have F := Lib.hid hf
  have GA := Lib.hid ha
  have GB := Lib.hid hb
  have K := Lib.hid hk
  clear hf ha hb hk
  obtain ⟨lo, hlo⟩ : ∃ lo : Int, min (a : Int) (b : Int) = lo := ⟨_, rfl⟩
  obtain ⟨hi, hhi⟩ : ∃ hi : Int, max (a : Int) (b : Int) = hi := ⟨_, rfl⟩
  have m1 : Int.tmod n 9 = x := by rw [Int.tmod_eq_emod_of_nonneg (by omega)]; exact hx
  have m2 : Int.tmod (a : Int) 9 = y := by rw [Int.tmod_eq_emod_of_nonneg (by omega)]; exact hy
  rw [hlo] at h0
  rw [hhi] at h1
  clear hx hy
  have D := Lib.hid hdd
  clear hdd
  go_enter Tryd.func13, Tryd.ntmps13
  go_wp2_with fail
  refine (facing_is s true _ F.out).mono ?_
  rintro e w1 ⟨rfl, rfl⟩
  go_wp2_with fail
  refine (general_is s 0 a _ GA.out).mono ?_
  rintro e w1 ⟨rfl, rfl⟩
  go_wp2_with fail
  refine (general_is s 1 b _ GB.out).mono ?_
  rintro e w1 ⟨rfl, rfl⟩
  go_wp2_with fail
  refine (rBetween_is s a b 0 _ K.out).mono ?_
  rintro e w1 ⟨rfl, rfl⟩
  go_wp2_with fail
  refine (rside_is c d _ D.out).mono ?_
  rintro e w1 ⟨rfl, rfl⟩
  go_wp2_with fail
  refine (rBetween_is s a b 0 _ K.out).mono ?_
  rintro e w1 ⟨rfl, rfl⟩
  go_wp2_with fail
  refine (live7_any _ hT).mono ?_
  rintro e w9 ⟨rfl, hb⟩
  go_wp2
  go_ret
  exact ⟨rfl, hb⟩
set_option maxRecDepth 100000 in
set_option maxHeartbeats 8000000 in
theorem king (s : ByteArray) (n : Int) (c : Nat) (w : World) (hT : Tab w) (hs : s.size ≤ 200) (a b : Nat) (hf : facingB s = true) (ha : generalN s 0 = (a : Int)) (hb : generalN s 1 = (b : Int)) (hk : betweenV s (a : Int) (b : Int) = 0) (h0 : min (a : Int) (b : Int) < n) (h1 : n < max (a : Int) (b : Int)) (x y : Int) (hx : n % 9 = x) (hy : (a : Int) % 9 = y) (hxy : (x != y) = false) (d : Int) (hdd : sideN c = d) (h : 0 ≤ d) (k : Nat) (hkk : kindN c = k) (h75 : ((k : Int) == 75) = true) : Calls Tryd.prog 13 #[.string s, .int .i64 n, .int .u8 (c : Int)] w (Gives w (.bool true)) := by
  unfold Gives
  have hd : decide (200 < (s.size : Int)) = false := by simp; omega
  clear hs
  have F := Lib.hid hf
  have GA := Lib.hid ha
  have GB := Lib.hid hb
  have K := Lib.hid hk
  clear hf ha hb hk
  obtain ⟨lo, hlo⟩ : ∃ lo : Int, min (a : Int) (b : Int) = lo := ⟨_, rfl⟩
  obtain ⟨hi, hhi⟩ : ∃ hi : Int, max (a : Int) (b : Int) = hi := ⟨_, rfl⟩
  have m1 : Int.tmod n 9 = x := by rw [Int.tmod_eq_emod_of_nonneg (by omega)]; exact hx
  have m2 : Int.tmod (a : Int) 9 = y := by rw [Int.tmod_eq_emod_of_nonneg (by omega)]; exact hy
  rw [hlo] at h0
  rw [hhi] at h1
  clear hx hy
  have D := Lib.hid hdd
  clear hdd
  have KK := Lib.hid hkk
  clear hkk
  go_enter Tryd.func13, Tryd.ntmps13
  go_wp2_with fail
  refine (facing_is s true _ F.out).mono ?_
  rintro e w1 ⟨rfl, rfl⟩
  go_wp2_with fail
  refine (general_is s 0 a _ GA.out).mono ?_
  rintro e w1 ⟨rfl, rfl⟩
  go_wp2_with fail
  refine (general_is s 1 b _ GB.out).mono ?_
  rintro e w1 ⟨rfl, rfl⟩
  go_wp2_with fail
  refine (rBetween_is s a b 0 _ K.out).mono ?_
  rintro e w1 ⟨rfl, rfl⟩
  go_wp2_with fail
  refine (rside_is c d _ D.out).mono ?_
  rintro e w1 ⟨rfl, rfl⟩
  go_wp2_with fail
  refine (rkind_is c k _ KK.out).mono ?_
  rintro e w1 ⟨rfl, rfl⟩
  go_wp2_with fail
  refine (rBetween_is s a b 0 _ K.out).mono ?_
  rintro e w1 ⟨rfl, rfl⟩
  go_wp2_with fail
  refine (live7_any _ hT).mono ?_
  rintro e w9 ⟨rfl, hb⟩
  go_wp2
  go_ret
  exact ⟨rfl, hb⟩
set_option maxRecDepth 100000 in
set_option maxHeartbeats 8000000 in
theorem good (s : ByteArray) (n : Int) (c : Nat) (w : World) (hT : Tab w) (hs : s.size ≤ 200) (a b : Nat) (hf : facingB s = true) (ha : generalN s 0 = (a : Int)) (hb : generalN s 1 = (b : Int)) (hk : betweenV s (a : Int) (b : Int) = 0) (h0 : min (a : Int) (b : Int) < n) (h1 : n < max (a : Int) (b : Int)) (x y : Int) (hx : n % 9 = x) (hy : (a : Int) % 9 = y) (hxy : (x != y) = false) (d : Int) (hdd : sideN c = d) (h : 0 ≤ d) (k : Nat) (hkk : kindN c = k) (h75 : ((k : Int) == 75) = false) (hc : c < 256) (t : ByteArray) (ht : putB s n c = t) (hft : facingB t = false) : Calls Tryd.prog 13 #[.string s, .int .i64 n, .int .u8 (c : Int)] w (Gives w (.bool true)) := by
  unfold Gives
  have hd : decide (200 < (s.size : Int)) = false := by simp; omega
  clear hs
  have F := Lib.hid hf
  have GA := Lib.hid ha
  have GB := Lib.hid hb
  have K := Lib.hid hk
  clear hf ha hb hk
  obtain ⟨lo, hlo⟩ : ∃ lo : Int, min (a : Int) (b : Int) = lo := ⟨_, rfl⟩
  obtain ⟨hi, hhi⟩ : ∃ hi : Int, max (a : Int) (b : Int) = hi := ⟨_, rfl⟩
  have m1 : Int.tmod n 9 = x := by rw [Int.tmod_eq_emod_of_nonneg (by omega)]; exact hx
  have m2 : Int.tmod (a : Int) 9 = y := by rw [Int.tmod_eq_emod_of_nonneg (by omega)]; exact hy
  rw [hlo] at h0
  rw [hhi] at h1
  clear hx hy
  have D := Lib.hid hdd
  clear hdd
  have KK := Lib.hid hkk
  clear hkk
  have T := Lib.hid ht
  have FT := Lib.hid hft
  clear ht hft
  go_enter Tryd.func13, Tryd.ntmps13
  go_wp2_with fail
  refine (facing_is s true _ F.out).mono ?_
  rintro e w1 ⟨rfl, rfl⟩
  go_wp2_with fail
  refine (general_is s 0 a _ GA.out).mono ?_
  rintro e w1 ⟨rfl, rfl⟩
  go_wp2_with fail
  refine (general_is s 1 b _ GB.out).mono ?_
  rintro e w1 ⟨rfl, rfl⟩
  go_wp2_with fail
  refine (rBetween_is s a b 0 _ K.out).mono ?_
  rintro e w1 ⟨rfl, rfl⟩
  go_wp2_with fail
  refine (rside_is c d _ D.out).mono ?_
  rintro e w1 ⟨rfl, rfl⟩
  go_wp2_with fail
  refine (rkind_is c k _ KK.out).mono ?_
  rintro e w1 ⟨rfl, rfl⟩
  go_wp2_with fail
  refine (put_as s t n c _ hc T.out).mono ?_
  rintro e w1 ⟨rfl, hb⟩
  have hB := hb
  replace hT := hT.next hb
  clear hb
  go_wp2_with fail
  refine (facing_is t false _ FT.out).mono ?_
  rintro e w1 ⟨rfl, rfl⟩
  go_wp2_with fail
  refine (live7_any _ hT).mono ?_
  rintro e w9 ⟨rfl, hb⟩
  go_wp2
  go_ret
  exact ⟨rfl, hB.trans (hb.mono hB.size)⟩
theorem walk (s : ByteArray) (n : Int) (c : Nat) (w : World) (hT : Tab w) (hc : c < 256) : Calls Tryd.prog 13 #[.string s, .int .i64 n, .int .u8 (c : Int)] w (Gives w (.bool true)) := by
  by_cases hs : s.size ≤ 200
  · cases hf : facingB s
    · exact nof s n c w hT hs hf
    · obtain ⟨a, b, h2, hb, hab, h0⟩ := facing_parts hf
      have ga : generalN s 0 = (a : Int) := by rw [general_some (by rw [hb]; rfl)]; unfold leastI; rw [show kingOf 0 = 75 from rfl, h2.ka]
      have gb : generalN s 1 = (b : Int) := by rw [general_some (by rw [hb]; rfl)]; unfold leastI; rw [show kingOf 1 = 107 from rfl, h2.kb]
      have hne := two_ne h2
      have h90a := h2.ha
      have h90b := h2.hb
      have hk : betweenV s (a : Int) (b : Int) = 0 := by
        unfold betweenV betweenI
        rw [hb, sqI_true (n := (a : Int)) (by omega), sqI_true (n := (b : Int)) (by omega), Int.toNat_natCast, Int.toNat_natCast, show lineB a b = true by simp [lineB, hab, hne], h0]
        rfl
      by_cases c0 : n ≤ min (a : Int) (b : Int)
      · exact low s n c w hT hs a b hf ga gb hk c0
      by_cases c1 : max (a : Int) (b : Int) ≤ n
      · exact high s n c w hT hs a b hf ga gb hk (by omega) c1
      cases c2 : (n % 9 != (a : Int) % 9)
      · by_cases c3 : sideN c < 0
        · exact noside s n c w hT hs a b hf ga gb hk (by omega) (by omega) _ _ rfl rfl c2 _ rfl c3
        · by_cases c4 : kindN c = 75
          · exact king s n c w hT hs a b hf ga gb hk (by omega) (by omega) _ _ rfl rfl c2 _ rfl (by omega) _ rfl (by rw [c4]; rfl)
          · obtain ⟨m, rfl⟩ : ∃ m : Nat, n = m := ⟨n.toNat, by omega⟩
            have c5 : m % 9 = a % 9 := by
              have : (m : Int) % 9 = (a : Int) % 9 := by simpa [bne] using c2
              omega
            have hft : facingB (putB s (m : Int) c) = false := by
              have hfc : fillB c = true := by rw [fill_side, Bool.or_eq_true, decide_eq_true_eq]; exact .inr (by omega)
              have e : putB s (m : Int) c = putS s m c := by
                unfold putB
                rw [if_pos ⟨hb, sqI_true (by omega), hfc⟩, Int.toNat_natCast]
              rw [e]
              exact facing_between h2 hb hab h0 (by omega) (by omega) c5 hc (by omega) c4
            exact good s m c w hT hs a b hf ga gb hk (by omega) (by omega) _ _ rfl rfl c2 _ rfl (by omega) _ rfl (by rw [beq_eq_false_iff_ne]; omega) hc _ rfl hft
      · exact file s n c w hT hs a b hf ga gb hk (by omega) (by omega) _ _ rfl rfl c2
  · exact large s n c w hT (by omega)
end Go.Proofs.YtbfkkedcjodceaaDoor.cbetween
