/- Merged: RefP1 RefP2 RefP3 RefP4. -/
import Derived.Test.YtpogpjebhnoncabGreatDoorPlaceM

namespace Go.Proofs.YtpogpjebhnoncabGreatDoor
open Go.RowKit Go.Shelf
open M (S)

def advR (f r : Int) : Bool := (f == 4 && r == 1) || ((f == 3 || f == 5) && (r == 0 || r == 2))
theorem spot_fin : ∀ f : Fin 9, ∀ r : Fin 10, advR (f.val : Int) (r.val : Int) = advP (f.val : Int) (r.val : Int) ∧ advP (8 - (f.val : Int)) (r.val : Int) = advP (f.val : Int) (r.val : Int) ∧ eleP (8 - (f.val : Int)) (r.val : Int) = eleP (f.val : Int) (r.val : Int) ∧
    pawnP (8 - (f.val : Int)) (r.val : Int) = pawnP (f.val : Int) (r.val : Int) ∧ inP (8 - (f.val : Int)) (r.val : Int) = inP (f.val : Int) (r.val : Int) := by decide +kernel
theorem spot_all {f r : Int} (h0 : 0 ≤ f) (h1 : f ≤ 8) (h2 : 0 ≤ r) (h3 : r ≤ 9) : advR f r = advP f r ∧ advP (8 - f) r = advP f r ∧ eleP (8 - f) r = eleP f r ∧ pawnP (8 - f) r = pawnP f r ∧ inP (8 - f) r = inP f r := by
  have h := spot_fin ⟨f.toNat, by omega⟩ ⟨r.toNat, by omega⟩
  simp only [Int.toNat_of_nonneg h0, Int.toNat_of_nonneg h2] at h
  exact h
theorem kind_back (k : Nat) {f r : Int} (h0 : 0 ≤ f) (h1 : f ≤ 8) (h2 : 0 ≤ r) (h3 : r ≤ 9) : kindP k (8 - f) r = kindP k f r := by
  obtain ⟨_, a, b, c, d⟩ := spot_all h0 h1 h2 h3
  unfold kindP
  rw [a, b, c, d]
/-- The rank, counted from a side's own. -/
def ownI (n side : Int) : Int := if side = 1 then 9 - rankI n else rankI n
theorem own_seen {n side : Int} (h : 0 ≤ n ∧ n < 90) : ownI n side = seenR n side := by
  unfold ownI seenR rankI
  rw [if_pos h]
theorem inP_seen {n side : Int} (h : 0 ≤ n ∧ n < 90) : inP (n % 9) (seenR n side) = inP (seenF n side) (seenR n side) := by
  have hb := seen_in (side := side) h
  unfold seenF
  split
  · rw [(spot_all (by omega) (by omega) hb.2.2.1 hb.2.2.2).2.2.2.2]
  · rfl
theorem kindP_seen (k : Nat) {n side : Int} (h : 0 ≤ n ∧ n < 90) : kindP k (n % 9) (seenR n side) = kindP k (seenF n side) (seenR n side) := by
  have hb := seen_in (side := side) h
  unfold seenF
  split
  · rw [kind_back k (by omega) (by omega) hb.2.2.1 hb.2.2.2]
  · rfl

set_option maxHeartbeats 1000000 in
theorem rreal_any (n side : Int) (w : World) : Calls Tryz.prog 82 #[.int .i64 n, .int .i64 side] w (Says w (.bool (realB n side))) := by
  unfold Says
  by_cases h0 : n < 0
  · have K : Hid (realB n side = false) := by show _ = _; rw [realB, sqI_false (by omega)]; rfl
    go_enter Tryz.func82, Tryz.ntmps82
    go_wp2
    go_ret
    exact ⟨by rw [K.out]; rfl, rfl⟩
  by_cases h1 : 90 ≤ n
  · have K : Hid (realB n side = false) := by show _ = _; rw [realB, sqI_false (by omega)]; rfl
    have h0' : 0 ≤ n := by omega
    clear h0
    go_enter Tryz.func82, Tryz.ntmps82
    go_wp2
    go_ret
    exact ⟨by rw [K.out]; rfl, rfl⟩
  have K : Hid (realB n side = (side == 0 || side == 1)) := by show _ = _; rw [realB, sqI_true (by omega)]; rfl
  have h0' : 0 ≤ n := by omega
  have h1' : n < 90 := by omega
  clear h0 h1
  by_cases hs : side = 0
  · subst hs
    go_enter Tryz.func82, Tryz.ntmps82
    go_wp2
    go_ret
    exact ⟨by rw [K.out]; rfl, rfl⟩
  · have e0 : (side == 0) = false := by rw [beq_eq_false_iff_ne]; exact hs
    have K2 : Hid (realB n side = (side == 1)) := by show _ = _; rw [K.out, e0]; rfl
    clear hs
    go_enter Tryz.func82, Tryz.ntmps82
    go_wp2
    go_ret
    exact ⟨by rw [K2.out]; rfl, rfl⟩
theorem rreal_is (n side : Int) (b : Bool) (w : World) (h : realB n side = b) : Calls Tryz.prog 82 #[.int .i64 n, .int .i64 side] w (Says w (.bool b)) := by subst h; exact rreal_any n side w
set_option maxHeartbeats 1000000 in
theorem rown_any (n side : Int) (w : World) : Calls Tryz.prog 84 #[.int .i64 n, .int .i64 side] w (Says w (.int .i64 (ownI n side))) := by
  unfold Says
  obtain ⟨r, hr⟩ : ∃ r, rankI n = r := ⟨_, rfl⟩
  have hb : -1 ≤ r ∧ r ≤ 9 := by rw [← hr]; unfold rankI; split <;> omega
  obtain ⟨b0, b1⟩ := hb
  have Hr := Lib.hid hr
  by_cases hs : side = 1
  · subst hs
    have K : Hid (ownI n 1 = 9 - r) := by show _ = _; rw [ownI, if_pos rfl, hr]
    clear hr
    go_enter Tryz.func84, Tryz.ntmps84
    go_wp2_with fail
    refine (rrank_any n _).mono ?_
    rintro e w1 ⟨rfl, rfl⟩
    rw [Hr.out]
    go_wp2
    go_ret
    exact ⟨by rw [K.out]; rfl, rfl⟩
  · have e0 : (side == 1) = false := by rw [beq_eq_false_iff_ne]; exact hs
    have K : Hid (ownI n side = r) := by show _ = _; rw [ownI, if_neg hs, hr]
    clear hr hs
    go_enter Tryz.func84, Tryz.ntmps84
    go_wp2_with fail
    refine (rrank_any n _).mono ?_
    rintro e w1 ⟨rfl, rfl⟩
    rw [Hr.out]
    go_wp2
    go_ret
    exact ⟨by rw [K.out]; rfl, rfl⟩
theorem rown_is (n side r : Int) (w : World) (h : ownI n side = r) : Calls Tryz.prog 84 #[.int .i64 n, .int .i64 side] w (Says w (.int .i64 r)) := by subst h; exact rown_any n side w
theorem rfile_is (n f : Int) (w : World) (h : fileI n = f) : Calls Tryz.prog 83 #[.int .i64 n] w (Says w (.int .i64 f)) := by subst h; exact rfile_any n w
theorem rkind_is (c k : Nat) (w : World) (h : kindN c = k) : Calls Tryz.prog 59 #[.int .u8 (c : Int)] w (Says w (.int .u8 (k : Int))) := by subst h; exact rkind_any c w
theorem rside_is (c : Nat) (k : Int) (w : World) (h : sideN c = k) : Calls Tryz.prog 81 #[.int .u8 (c : Int)] w (Says w (.int .i64 k)) := by subst h; exact rside_any c w
set_option maxHeartbeats 2000000 in
theorem rpalace_any (n side : Int) (w : World) : Calls Tryz.prog 85 #[.int .i64 n, .int .i64 side] w (Says w (.bool (palaceB n side))) := by
  unfold Says
  cases h : realB n side
  · have K : Hid (palaceB n side = false) := by show _ = _; rw [palaceB, h]; rfl
    have H := Lib.hid h
    clear h
    go_enter Tryz.func85, Tryz.ntmps85
    go_wp2_with fail
    refine (rfile_any n _).mono ?_
    rintro e w1 ⟨rfl, rfl⟩
    go_wp2_with fail
    refine (rreal_is n side false _ H.out).mono ?_
    rintro e w1 ⟨rfl, rfl⟩
    go_wp2
    go_ret
    exact ⟨by rw [K.out]; rfl, rfl⟩
  · have hn := (real_parts h).1
    obtain ⟨f, hf⟩ : ∃ f, n % 9 = f := ⟨_, rfl⟩
    obtain ⟨r, hr⟩ : ∃ r, seenR n side = r := ⟨_, rfl⟩
    have K : Hid (palaceB n side = inP f r) := by show _ = _; rw [palaceB, h, ← inP_seen hn, hf, hr]; rfl
    have H := Lib.hid h
    have F : Hid (fileI n = f) := by show _ = _; rw [fileI, if_pos hn, hf]
    have O : Hid (ownI n side = r) := by show _ = _; rw [own_seen hn, hr]
    clear h hf hr hn
    rcases pal_cases f r with h0 | ⟨h0, h1⟩ | ⟨h0, h1, h2⟩ | ⟨h0, h1, h2⟩
    · have K1 := Lib.hid (inP_false (f := f) (r := r) (by omega))
      go_enter Tryz.func85, Tryz.ntmps85
      go_wp2_with fail
      refine (rfile_is n f _ F.out).mono ?_
      rintro e w1 ⟨rfl, rfl⟩
      go_wp2_with fail
      refine (rreal_is n side true _ H.out).mono ?_
      rintro e w1 ⟨rfl, rfl⟩
      go_wp2
      go_ret
      exact ⟨by rw [K.out, K1.out]; rfl, rfl⟩
    · have K1 := Lib.hid (inP_false (f := f) (r := r) (by omega))
      go_enter Tryz.func85, Tryz.ntmps85
      go_wp2_with fail
      refine (rfile_is n f _ F.out).mono ?_
      rintro e w1 ⟨rfl, rfl⟩
      go_wp2_with fail
      refine (rreal_is n side true _ H.out).mono ?_
      rintro e w1 ⟨rfl, rfl⟩
      go_wp2
      go_ret
      exact ⟨by rw [K.out, K1.out]; rfl, rfl⟩
    · have K1 := Lib.hid (inP_false (f := f) (r := r) (by omega))
      have d2 : decide (r ≤ 2) = false := by simp; omega
      go_enter Tryz.func85, Tryz.ntmps85
      go_wp2_with fail
      refine (rfile_is n f _ F.out).mono ?_
      rintro e w1 ⟨rfl, rfl⟩
      go_wp2_with fail
      refine (rreal_is n side true _ H.out).mono ?_
      rintro e w1 ⟨rfl, rfl⟩
      go_wp2_with fail
      refine (rown_is n side r _ O.out).mono ?_
      rintro e w1 ⟨rfl, rfl⟩
      go_wp2
      go_ret
      exact ⟨by rw [K.out, K1.out]; rfl, rfl⟩
    · have K1 := Lib.hid (inP_true (f := f) (r := r) h0 h1 h2)
      have d2 : decide (r ≤ 2) = true := by simp; omega
      go_enter Tryz.func85, Tryz.ntmps85
      go_wp2_with fail
      refine (rfile_is n f _ F.out).mono ?_
      rintro e w1 ⟨rfl, rfl⟩
      go_wp2_with fail
      refine (rreal_is n side true _ H.out).mono ?_
      rintro e w1 ⟨rfl, rfl⟩
      go_wp2_with fail
      refine (rown_is n side r _ O.out).mono ?_
      rintro e w1 ⟨rfl, rfl⟩
      go_wp2
      go_ret
      exact ⟨by rw [K.out, K1.out]; rfl, rfl⟩
theorem rpalace_is (n side : Int) (b : Bool) (w : World) (h : palaceB n side = b) : Calls Tryz.prog 85 #[.int .i64 n, .int .i64 side] w (Says w (.bool b)) := by subst h; exact rpalace_any n side w
set_option maxHeartbeats 4000000 in
theorem relephant_any (f r : Int) (w : World) : Calls Tryz.prog 87 #[.int .i64 f, .int .i64 r] w (Says w (.bool (eleP f r))) := by
  unfold Says
  have h0 : r = 0 ∨ r = 4 ∨ r = 2 ∨ (r ≠ 0 ∧ r ≠ 4 ∧ r ≠ 2) := by omega
  have h1 : f = 2 ∨ f = 6 ∨ f = 0 ∨ f = 4 ∨ f = 8 ∨ (f ≠ 2 ∧ f ≠ 6 ∧ f ≠ 0 ∧ f ≠ 4 ∧ f ≠ 8) := by omega
  rcases h0 with rfl | rfl | rfl | ⟨r0, r4, r2⟩
  iterate 3
    · rcases h1 with rfl | rfl | rfl | rfl | rfl | ⟨f2, f6, f0, f4, f8⟩
      all_goals
        go_enter Tryz.func87, Tryz.ntmps87
        go_wp2
        go_ret
        exact ⟨by first | rfl | simp [eleP, *], rfl⟩
  · clear h1
    go_enter Tryz.func87, Tryz.ntmps87
    go_wp2
    go_ret
    exact ⟨by simp [eleP, *], rfl⟩
set_option maxHeartbeats 4000000 in
theorem radvisor_any (f r : Int) (w : World) : Calls Tryz.prog 86 #[.int .i64 f, .int .i64 r] w (Says w (.bool (advR f r))) := by
  unfold Says
  have h0 : r = 0 ∨ r = 1 ∨ r = 2 ∨ (r ≠ 0 ∧ r ≠ 1 ∧ r ≠ 2) := by omega
  have h1 : f = 3 ∨ f = 4 ∨ f = 5 ∨ (f ≠ 3 ∧ f ≠ 4 ∧ f ≠ 5) := by omega
  rcases h0 with rfl | rfl | rfl | ⟨r0, r4, r2⟩
  all_goals
    rcases h1 with rfl | rfl | rfl | ⟨f2, f6, f0⟩
    all_goals
      go_enter Tryz.func86, Tryz.ntmps86
      go_wp2
      go_ret
      exact ⟨by first | rfl | simp [advR, *], rfl⟩
end Go.Proofs.YtpogpjebhnoncabGreatDoor

namespace Go.Proofs.YtpogpjebhnoncabGreatDoor
open Go.RowKit Go.Shelf
open M (S)

set_option maxHeartbeats 1000000 in
theorem rmost_any (c : Nat) (w : World) : Calls Tryz.prog 58 #[.int .u8 (c : Int)] w (Says w (.int .i64 (mostN c : Nat))) := by
  unfold Says
  rcases most_cases c with h | h | h | ⟨h0, h1, h2⟩
  · have K : Hid (mostN c = 0) := by show _ = _; rw [mostN, h]; rfl
    have H := Lib.hid h
    clear h
    go_enter Tryz.func58, Tryz.ntmps58
    go_wp2_with fail
    refine (rkind_any c _).mono ?_
    rintro e w1 ⟨rfl, rfl⟩
    rw [H.out]
    go_wp2
    go_ret
    exact ⟨by rw [K.out]; rfl, rfl⟩
  · have K : Hid (mostN c = 1) := by show _ = _; rw [mostN, h]; rfl
    have H := Lib.hid h
    clear h
    go_enter Tryz.func58, Tryz.ntmps58
    go_wp2_with fail
    refine (rkind_any c _).mono ?_
    rintro e w1 ⟨rfl, rfl⟩
    rw [H.out]
    go_wp2
    go_ret
    exact ⟨by rw [K.out]; rfl, rfl⟩
  · have K : Hid (mostN c = 5) := by show _ = _; rw [mostN, h]; rfl
    have H := Lib.hid h
    clear h
    go_enter Tryz.func58, Tryz.ntmps58
    go_wp2_with fail
    refine (rkind_any c _).mono ?_
    rintro e w1 ⟨rfl, rfl⟩
    rw [H.out]
    go_wp2
    go_ret
    exact ⟨by rw [K.out]; rfl, rfl⟩
  · have K : Hid (mostN c = 2) := by show _ = _; rw [mostN, if_neg h0, if_neg h1, if_neg h2]
    have e0 : ((kindN c : Int) == 0) = false := by rw [beq_eq_false_iff_ne]; omega
    have e1 : ((kindN c : Int) == 75) = false := by rw [beq_eq_false_iff_ne]; omega
    have e2 : ((kindN c : Int) == 80) = false := by rw [beq_eq_false_iff_ne]; omega
    clear h0 h1 h2
    go_enter Tryz.func58, Tryz.ntmps58
    go_wp2_with fail
    refine (rkind_any c _).mono ?_
    rintro e w1 ⟨rfl, rfl⟩
    go_wp2
    go_ret
    exact ⟨by rw [K.out]; rfl, rfl⟩
theorem rmost_is (c k : Nat) (w : World) (h : mostN c = k) : Calls Tryz.prog 58 #[.int .u8 (c : Int)] w (Says w (.int .i64 (k : Int))) := by subst h; exact rmost_any c w
set_option maxHeartbeats 1000000 in
theorem rmay_none (c : Nat) (n : Int) (w : World) (h : sideN c < 0) : Calls Tryz.prog 60 #[.int .u8 (c : Int), .int .i64 n] w (Says w (.bool false)) := by
  unfold Says
  have e0 : decide (sideN c < 0) = true := by simp; exact h
  go_enter Tryz.func60, Tryz.ntmps60
  go_wp2_with fail
  refine (rside_any c _).mono ?_
  rintro e w1 ⟨rfl, rfl⟩
  go_wp2
  go_ret
  exact ⟨rfl, rfl⟩
set_option maxHeartbeats 1000000 in
theorem rmay_no (c : Nat) (n s : Int) (w : World) (h0 : 0 ≤ s) (hs : sideN c = s) (h : realB n s = false) : Calls Tryz.prog 60 #[.int .u8 (c : Int), .int .i64 n] w (Says w (.bool false)) := by
  unfold Says
  have Hs := Lib.hid hs
  have H := Lib.hid h
  clear hs h
  go_enter Tryz.func60, Tryz.ntmps60
  go_wp2_with fail
  refine (rside_is c s _ Hs.out).mono ?_
  rintro e w1 ⟨rfl, rfl⟩
  go_wp2_with fail
  refine (rreal_is n s false _ H.out).mono ?_
  rintro e w1 ⟨rfl, rfl⟩
  go_wp2
  go_ret
  exact ⟨rfl, rfl⟩
set_option maxHeartbeats 1000000 in
theorem rmay_75 (c : Nat) (n s f r : Int) (w : World) (h : realB n s = true) (hs : sideN c = s) (hk : kindN c = 75) (hf : n % 9 = f) (hr : seenR n s = r) :
    Calls Tryz.prog 60 #[.int .u8 (c : Int), .int .i64 n] w (Says w (.bool (inP f r))) := by
  unfold Says
  obtain ⟨hn, hs01⟩ := real_parts h
  have h0 : 0 ≤ s := by omega
  have bd := seen_in (side := s) hn
  rw [hr] at bd
  have b0 : 0 ≤ f := by omega
  have b1 : f ≤ 8 := by omega
  obtain ⟨_, _, b2, b3⟩ := bd
  have F : Hid (fileI n = f) := by show _ = _; rw [fileI, if_pos hn, hf]
  have O : Hid (ownI n s = r) := by show _ = _; rw [own_seen hn, hr]
  have P : Hid (palaceB n s = inP f r) := by show _ = _; rw [palaceB, h, ← inP_seen hn, hf, hr]; rfl
  have Hs := Lib.hid hs
  have H := Lib.hid h
  have Hk := Lib.hid hk
  clear h hs hk hf hr hn hs01
  go_enter Tryz.func60, Tryz.ntmps60
  go_wp2_with fail
  refine (rside_is c s _ Hs.out).mono ?_
  rintro e w1 ⟨rfl, rfl⟩
  go_wp2_with fail
  refine (rreal_is n s true _ H.out).mono ?_
  rintro e w1 ⟨rfl, rfl⟩
  go_wp2_with fail
  refine (rfile_is n f _ F.out).mono ?_
  rintro e w1 ⟨rfl, rfl⟩
  go_wp2_with fail
  refine (rown_is n s r _ O.out).mono ?_
  rintro e w1 ⟨rfl, rfl⟩
  go_wp2_with fail
  refine (rkind_is c 75 _ Hk.out).mono ?_
  rintro e w1 ⟨rfl, rfl⟩
  go_wp2_with fail
  refine (rpalace_is n s _ _ P.out).mono ?_
  rintro e w1 ⟨rfl, rfl⟩
  go_wp2
  go_ret
  exact ⟨rfl, rfl⟩
set_option maxHeartbeats 1000000 in
theorem rmay_65 (c : Nat) (n s f r : Int) (w : World) (h : realB n s = true) (hs : sideN c = s) (hk : kindN c = 65) (hf : n % 9 = f) (hr : seenR n s = r) :
    Calls Tryz.prog 60 #[.int .u8 (c : Int), .int .i64 n] w (Says w (.bool (advP f r))) := by
  unfold Says
  obtain ⟨hn, hs01⟩ := real_parts h
  have h0 : 0 ≤ s := by omega
  have bd := seen_in (side := s) hn
  rw [hr] at bd
  have b0 : 0 ≤ f := by omega
  have b1 : f ≤ 8 := by omega
  obtain ⟨_, _, b2, b3⟩ := bd
  have F : Hid (fileI n = f) := by show _ = _; rw [fileI, if_pos hn, hf]
  have O : Hid (ownI n s = r) := by show _ = _; rw [own_seen hn, hr]
  have P := Lib.hid (spot_all b0 b1 b2 b3).1
  have Hs := Lib.hid hs
  have H := Lib.hid h
  have Hk := Lib.hid hk
  clear h hs hk hf hr hn hs01
  go_enter Tryz.func60, Tryz.ntmps60
  go_wp2_with fail
  refine (rside_is c s _ Hs.out).mono ?_
  rintro e w1 ⟨rfl, rfl⟩
  go_wp2_with fail
  refine (rreal_is n s true _ H.out).mono ?_
  rintro e w1 ⟨rfl, rfl⟩
  go_wp2_with fail
  refine (rfile_is n f _ F.out).mono ?_
  rintro e w1 ⟨rfl, rfl⟩
  go_wp2_with fail
  refine (rown_is n s r _ O.out).mono ?_
  rintro e w1 ⟨rfl, rfl⟩
  go_wp2_with fail
  refine (rkind_is c 65 _ Hk.out).mono ?_
  rintro e w1 ⟨rfl, rfl⟩
  go_wp2_with fail
  refine (radvisor_any f r _).mono ?_
  rintro e w1 ⟨rfl, rfl⟩
  go_wp2
  go_ret
  exact ⟨by rw [← P.out]; rfl, rfl⟩
set_option maxHeartbeats 1000000 in
theorem rmay_66 (c : Nat) (n s f r : Int) (w : World) (h : realB n s = true) (hs : sideN c = s) (hk : kindN c = 66) (hf : n % 9 = f) (hr : seenR n s = r) :
    Calls Tryz.prog 60 #[.int .u8 (c : Int), .int .i64 n] w (Says w (.bool (eleP f r))) := by
  unfold Says
  obtain ⟨hn, hs01⟩ := real_parts h
  have h0 : 0 ≤ s := by omega
  have bd := seen_in (side := s) hn
  rw [hr] at bd
  have b0 : 0 ≤ f := by omega
  have b1 : f ≤ 8 := by omega
  obtain ⟨_, _, b2, b3⟩ := bd
  have F : Hid (fileI n = f) := by show _ = _; rw [fileI, if_pos hn, hf]
  have O : Hid (ownI n s = r) := by show _ = _; rw [own_seen hn, hr]
  have Hs := Lib.hid hs
  have H := Lib.hid h
  have Hk := Lib.hid hk
  clear h hs hk hf hr hn hs01
  go_enter Tryz.func60, Tryz.ntmps60
  go_wp2_with fail
  refine (rside_is c s _ Hs.out).mono ?_
  rintro e w1 ⟨rfl, rfl⟩
  go_wp2_with fail
  refine (rreal_is n s true _ H.out).mono ?_
  rintro e w1 ⟨rfl, rfl⟩
  go_wp2_with fail
  refine (rfile_is n f _ F.out).mono ?_
  rintro e w1 ⟨rfl, rfl⟩
  go_wp2_with fail
  refine (rown_is n s r _ O.out).mono ?_
  rintro e w1 ⟨rfl, rfl⟩
  go_wp2_with fail
  refine (rkind_is c 66 _ Hk.out).mono ?_
  rintro e w1 ⟨rfl, rfl⟩
  go_wp2_with fail
  refine (relephant_any f r _).mono ?_
  rintro e w1 ⟨rfl, rfl⟩
  go_wp2
  go_ret
  exact ⟨rfl, rfl⟩
set_option maxHeartbeats 1000000 in
theorem rmay_78 (c : Nat) (n s f r : Int) (w : World) (h : realB n s = true) (hs : sideN c = s) (hk : kindN c = 78) (hf : n % 9 = f) (hr : seenR n s = r) :
    Calls Tryz.prog 60 #[.int .u8 (c : Int), .int .i64 n] w (Says w (.bool true)) := by
  unfold Says
  obtain ⟨hn, hs01⟩ := real_parts h
  have h0 : 0 ≤ s := by omega
  have bd := seen_in (side := s) hn
  rw [hr] at bd
  have b0 : 0 ≤ f := by omega
  have b1 : f ≤ 8 := by omega
  obtain ⟨_, _, b2, b3⟩ := bd
  have F : Hid (fileI n = f) := by show _ = _; rw [fileI, if_pos hn, hf]
  have O : Hid (ownI n s = r) := by show _ = _; rw [own_seen hn, hr]
  have Hs := Lib.hid hs
  have H := Lib.hid h
  have Hk := Lib.hid hk
  clear h hs hk hf hr hn hs01
  go_enter Tryz.func60, Tryz.ntmps60
  go_wp2_with fail
  refine (rside_is c s _ Hs.out).mono ?_
  rintro e w1 ⟨rfl, rfl⟩
  go_wp2_with fail
  refine (rreal_is n s true _ H.out).mono ?_
  rintro e w1 ⟨rfl, rfl⟩
  go_wp2_with fail
  refine (rfile_is n f _ F.out).mono ?_
  rintro e w1 ⟨rfl, rfl⟩
  go_wp2_with fail
  refine (rown_is n s r _ O.out).mono ?_
  rintro e w1 ⟨rfl, rfl⟩
  go_wp2_with fail
  refine (rkind_is c 78 _ Hk.out).mono ?_
  rintro e w1 ⟨rfl, rfl⟩
  go_wp2
  go_ret
  exact ⟨rfl, rfl⟩
set_option maxHeartbeats 1000000 in
theorem rmay_82 (c : Nat) (n s f r : Int) (w : World) (h : realB n s = true) (hs : sideN c = s) (hk : kindN c = 82) (hf : n % 9 = f) (hr : seenR n s = r) :
    Calls Tryz.prog 60 #[.int .u8 (c : Int), .int .i64 n] w (Says w (.bool true)) := by
  unfold Says
  obtain ⟨hn, hs01⟩ := real_parts h
  have h0 : 0 ≤ s := by omega
  have bd := seen_in (side := s) hn
  rw [hr] at bd
  have b0 : 0 ≤ f := by omega
  have b1 : f ≤ 8 := by omega
  obtain ⟨_, _, b2, b3⟩ := bd
  have F : Hid (fileI n = f) := by show _ = _; rw [fileI, if_pos hn, hf]
  have O : Hid (ownI n s = r) := by show _ = _; rw [own_seen hn, hr]
  have Hs := Lib.hid hs
  have H := Lib.hid h
  have Hk := Lib.hid hk
  clear h hs hk hf hr hn hs01
  go_enter Tryz.func60, Tryz.ntmps60
  go_wp2_with fail
  refine (rside_is c s _ Hs.out).mono ?_
  rintro e w1 ⟨rfl, rfl⟩
  go_wp2_with fail
  refine (rreal_is n s true _ H.out).mono ?_
  rintro e w1 ⟨rfl, rfl⟩
  go_wp2_with fail
  refine (rfile_is n f _ F.out).mono ?_
  rintro e w1 ⟨rfl, rfl⟩
  go_wp2_with fail
  refine (rown_is n s r _ O.out).mono ?_
  rintro e w1 ⟨rfl, rfl⟩
  go_wp2_with fail
  refine (rkind_is c 82 _ Hk.out).mono ?_
  rintro e w1 ⟨rfl, rfl⟩
  go_wp2
  go_ret
  exact ⟨rfl, rfl⟩
set_option maxHeartbeats 1000000 in
theorem rmay_67 (c : Nat) (n s f r : Int) (w : World) (h : realB n s = true) (hs : sideN c = s) (hk : kindN c = 67) (hf : n % 9 = f) (hr : seenR n s = r) :
    Calls Tryz.prog 60 #[.int .u8 (c : Int), .int .i64 n] w (Says w (.bool true)) := by
  unfold Says
  obtain ⟨hn, hs01⟩ := real_parts h
  have h0 : 0 ≤ s := by omega
  have bd := seen_in (side := s) hn
  rw [hr] at bd
  have b0 : 0 ≤ f := by omega
  have b1 : f ≤ 8 := by omega
  obtain ⟨_, _, b2, b3⟩ := bd
  have F : Hid (fileI n = f) := by show _ = _; rw [fileI, if_pos hn, hf]
  have O : Hid (ownI n s = r) := by show _ = _; rw [own_seen hn, hr]
  have Hs := Lib.hid hs
  have H := Lib.hid h
  have Hk := Lib.hid hk
  clear h hs hk hf hr hn hs01
  go_enter Tryz.func60, Tryz.ntmps60
  go_wp2_with fail
  refine (rside_is c s _ Hs.out).mono ?_
  rintro e w1 ⟨rfl, rfl⟩
  go_wp2_with fail
  refine (rreal_is n s true _ H.out).mono ?_
  rintro e w1 ⟨rfl, rfl⟩
  go_wp2_with fail
  refine (rfile_is n f _ F.out).mono ?_
  rintro e w1 ⟨rfl, rfl⟩
  go_wp2_with fail
  refine (rown_is n s r _ O.out).mono ?_
  rintro e w1 ⟨rfl, rfl⟩
  go_wp2_with fail
  refine (rkind_is c 67 _ Hk.out).mono ?_
  rintro e w1 ⟨rfl, rfl⟩
  go_wp2
  go_ret
  exact ⟨rfl, rfl⟩
set_option maxHeartbeats 1000000 in
theorem rmay_80a (c : Nat) (n s f r : Int) (w : World) (h : realB n s = true) (hs : sideN c = s) (hk : kindN c = 80) (hf : n % 9 = f) (hr : seenR n s = r) (h5 : 5 ≤ r) :
    Calls Tryz.prog 60 #[.int .u8 (c : Int), .int .i64 n] w (Says w (.bool true)) := by
  unfold Says
  obtain ⟨hn, hs01⟩ := real_parts h
  have h0 : 0 ≤ s := by omega
  have bd := seen_in (side := s) hn
  rw [hr] at bd
  have b0 : 0 ≤ f := by omega
  have b1 : f ≤ 8 := by omega
  obtain ⟨_, _, b2, b3⟩ := bd
  have F : Hid (fileI n = f) := by show _ = _; rw [fileI, if_pos hn, hf]
  have O : Hid (ownI n s = r) := by show _ = _; rw [own_seen hn, hr]
  have Hs := Lib.hid hs
  have H := Lib.hid h
  have Hk := Lib.hid hk
  clear h hs hk hf hr hn hs01
  go_enter Tryz.func60, Tryz.ntmps60
  go_wp2_with fail
  refine (rside_is c s _ Hs.out).mono ?_
  rintro e w1 ⟨rfl, rfl⟩
  go_wp2_with fail
  refine (rreal_is n s true _ H.out).mono ?_
  rintro e w1 ⟨rfl, rfl⟩
  go_wp2_with fail
  refine (rfile_is n f _ F.out).mono ?_
  rintro e w1 ⟨rfl, rfl⟩
  go_wp2_with fail
  refine (rown_is n s r _ O.out).mono ?_
  rintro e w1 ⟨rfl, rfl⟩
  go_wp2_with fail
  refine (rkind_is c 80 _ Hk.out).mono ?_
  rintro e w1 ⟨rfl, rfl⟩
  go_wp2
  go_ret
  exact ⟨rfl, rfl⟩
set_option maxHeartbeats 1000000 in
theorem rmay_80b (c : Nat) (n s f r : Int) (w : World) (h : realB n s = true) (hs : sideN c = s) (hk : kindN c = 80) (hf : n % 9 = f) (hr : seenR n s = r) (h5 : r < 5) (h3 : 3 ≤ r) :
    Calls Tryz.prog 60 #[.int .u8 (c : Int), .int .i64 n] w (Says w (.bool (f % 2 == 0))) := by
  unfold Says
  obtain ⟨hn, hs01⟩ := real_parts h
  have h0 : 0 ≤ s := by omega
  have bd := seen_in (side := s) hn
  rw [hr] at bd
  have b0 : 0 ≤ f := by omega
  have b1 : f ≤ 8 := by omega
  obtain ⟨_, _, b2, b3⟩ := bd
  have F : Hid (fileI n = f) := by show _ = _; rw [fileI, if_pos hn, hf]
  have O : Hid (ownI n s = r) := by show _ = _; rw [own_seen hn, hr]
  have d5 : decide (5 ≤ r) = false := by simp; omega
  have Hs := Lib.hid hs
  have H := Lib.hid h
  have Hk := Lib.hid hk
  clear h hs hk hf hr hn hs01
  go_enter Tryz.func60, Tryz.ntmps60
  go_wp2_with fail
  refine (rside_is c s _ Hs.out).mono ?_
  rintro e w1 ⟨rfl, rfl⟩
  go_wp2_with fail
  refine (rreal_is n s true _ H.out).mono ?_
  rintro e w1 ⟨rfl, rfl⟩
  go_wp2_with fail
  refine (rfile_is n f _ F.out).mono ?_
  rintro e w1 ⟨rfl, rfl⟩
  go_wp2_with fail
  refine (rown_is n s r _ O.out).mono ?_
  rintro e w1 ⟨rfl, rfl⟩
  go_wp2_with fail
  refine (rkind_is c 80 _ Hk.out).mono ?_
  rintro e w1 ⟨rfl, rfl⟩
  go_wp2
  go_ret
  exact ⟨rfl, rfl⟩
set_option maxHeartbeats 1000000 in
theorem rmay_80c (c : Nat) (n s f r : Int) (w : World) (h : realB n s = true) (hs : sideN c = s) (hk : kindN c = 80) (hf : n % 9 = f) (hr : seenR n s = r) (h3 : r < 3) :
    Calls Tryz.prog 60 #[.int .u8 (c : Int), .int .i64 n] w (Says w (.bool false)) := by
  unfold Says
  obtain ⟨hn, hs01⟩ := real_parts h
  have h0 : 0 ≤ s := by omega
  have bd := seen_in (side := s) hn
  rw [hr] at bd
  have b0 : 0 ≤ f := by omega
  have b1 : f ≤ 8 := by omega
  obtain ⟨_, _, b2, b3⟩ := bd
  have F : Hid (fileI n = f) := by show _ = _; rw [fileI, if_pos hn, hf]
  have O : Hid (ownI n s = r) := by show _ = _; rw [own_seen hn, hr]
  have d5 : decide (5 ≤ r) = false := by simp; omega
  have Hs := Lib.hid hs
  have H := Lib.hid h
  have Hk := Lib.hid hk
  clear h hs hk hf hr hn hs01
  go_enter Tryz.func60, Tryz.ntmps60
  go_wp2_with fail
  refine (rside_is c s _ Hs.out).mono ?_
  rintro e w1 ⟨rfl, rfl⟩
  go_wp2_with fail
  refine (rreal_is n s true _ H.out).mono ?_
  rintro e w1 ⟨rfl, rfl⟩
  go_wp2_with fail
  refine (rfile_is n f _ F.out).mono ?_
  rintro e w1 ⟨rfl, rfl⟩
  go_wp2_with fail
  refine (rown_is n s r _ O.out).mono ?_
  rintro e w1 ⟨rfl, rfl⟩
  go_wp2_with fail
  refine (rkind_is c 80 _ Hk.out).mono ?_
  rintro e w1 ⟨rfl, rfl⟩
  go_wp2
  go_ret
  exact ⟨rfl, rfl⟩
theorem rmay_any (c : Nat) (n : Int) (w : World) : Calls Tryz.prog 60 #[.int .u8 (c : Int), .int .i64 n] w (Says w (.bool (mayB c n))) := by
  cases h : realB n (sideN c)
  · rw [mayB, h]
    by_cases hs : sideN c < 0
    · exact rmay_none c n w hs
    · exact rmay_no c n _ w (by omega) rfl h
  · have hp := real_parts h
    have hs : 0 ≤ sideN c := by omega
    rw [mayB, h, Bool.true_and, ← kindP_seen _ hp.1]
    rcases side_kind hs with hk | hk | hk | hk | hk | hk | hk
    · rw [hk]; exact rmay_75 c n _ _ _ w h rfl hk rfl rfl
    · rw [hk]; exact rmay_65 c n _ _ _ w h rfl hk rfl rfl
    · rw [hk]; exact rmay_66 c n _ _ _ w h rfl hk rfl rfl
    · rw [hk]; exact rmay_78 c n _ _ _ w h rfl hk rfl rfl
    · rw [hk]; exact rmay_82 c n _ _ _ w h rfl hk rfl rfl
    · rw [hk]; exact rmay_67 c n _ _ _ w h rfl hk rfl rfl
    · rw [hk, show kindP 80 (n % 9) (seenR n (sideN c)) = pawnP (n % 9) (seenR n (sideN c)) from rfl]
      by_cases h5 : 5 ≤ seenR n (sideN c)
      · rw [show pawnP (n % 9) (seenR n (sideN c)) = true by simp [pawnP, h5]]
        exact rmay_80a c n _ _ _ w h rfl hk rfl rfl h5
      · by_cases h3 : 3 ≤ seenR n (sideN c)
        · rw [show pawnP (n % 9) (seenR n (sideN c)) = (n % 9 % 2 == 0) by simp [pawnP, h3]; omega]
          exact rmay_80b c n _ _ _ w h rfl hk rfl rfl (by omega) h3
        · rw [show pawnP (n % 9) (seenR n (sideN c)) = false by simp [pawnP]; omega]
          exact rmay_80c c n _ _ _ w h rfl hk rfl rfl (by omega)
theorem rmay_is (c : Nat) (n : Int) (b : Bool) (w : World) (h : mayB c n = b) : Calls Tryz.prog 60 #[.int .u8 (c : Int), .int .i64 n] w (Says w (.bool b)) := by subst h; exact rmay_any c n w
end Go.Proofs.YtpogpjebhnoncabGreatDoor

namespace Go.Proofs.YtpogpjebhnoncabGreatDoor
open Go.RowKit Go.Shelf
open M (S)

def lettersL : List Nat := [75, 65, 66, 78, 82, 67, 80, 107, 97, 98, 110, 114, 99, 112]
def lettersS : ByteArray := ⟨#[75, 65, 66, 78, 82, 67, 80, 107, 97, 98, 110, 114, 99, 112]⟩
theorem lettersS_at : ∀ j : Fin 14, bAt lettersS j.val = lettersL.getD j.val 0 := by decide +kernel
theorem letters_in : ∀ j : Fin 14, lettersL.getD j.val 0 ∈ lettersL := by decide +kernel
/-- The count of one letter is what it may be. -/
def okL (s : ByteArray) (c : Nat) : Bool := decide (cntN s 90 c ≤ mostN c) && (kindN c != 75 || cntN s 90 c == 1)
theorem letters_counts (s : ByteArray) : lettersL.all (okL s) = countsB s 90 := by
  unfold lettersL countsB kindsL okL fewB
  simp only [List.all_cons, List.all_nil, Bool.and_true]
  rw [show mostN 75 = 1 from rfl, show mostN 65 = 2 from rfl, show mostN 66 = 2 from rfl, show mostN 78 = 2 from rfl, show mostN 82 = 2 from rfl, show mostN 67 = 2 from rfl, show mostN 80 = 5 from rfl,
    show mostN 107 = 1 from rfl, show mostN 97 = 2 from rfl, show mostN 98 = 2 from rfl, show mostN 110 = 2 from rfl, show mostN 114 = 2 from rfl, show mostN 99 = 2 from rfl, show mostN 112 = 5 from rfl,
    show kindN 75 = 75 from rfl, show kindN 65 = 65 from rfl, show kindN 66 = 66 from rfl, show kindN 78 = 78 from rfl, show kindN 82 = 82 from rfl, show kindN 67 = 67 from rfl, show kindN 80 = 80 from rfl,
    show kindN 107 = 75 from rfl, show kindN 97 = 65 from rfl, show kindN 98 = 66 from rfl, show kindN 110 = 78 from rfl, show kindN 114 = 82 from rfl, show kindN 99 = 67 from rfl, show kindN 112 = 80 from rfl]
  generalize cntN s 90 75 = a1
  generalize cntN s 90 65 = a2
  generalize cntN s 90 66 = a3
  generalize cntN s 90 78 = a4
  generalize cntN s 90 82 = a5
  generalize cntN s 90 67 = a6
  generalize cntN s 90 80 = a7
  rw [show cntN s 90 (75 + 32) = cntN s 90 107 from rfl, show cntN s 90 (65 + 32) = cntN s 90 97 from rfl, show cntN s 90 (66 + 32) = cntN s 90 98 from rfl, show cntN s 90 (78 + 32) = cntN s 90 110 from rfl, show cntN s 90 (82 + 32) = cntN s 90 114 from rfl, show cntN s 90 (67 + 32) = cntN s 90 99 from rfl, show cntN s 90 (80 + 32) = cntN s 90 112 from rfl]
  generalize cntN s 90 107 = b1
  generalize cntN s 90 97 = b2
  generalize cntN s 90 98 = b3
  generalize cntN s 90 110 = b4
  generalize cntN s 90 114 = b5
  generalize cntN s 90 99 = b6
  generalize cntN s 90 112 = b7
  rw [show ((75 : Nat) != 75) = false from rfl, show ((65 : Nat) != 75) = true from rfl, show ((66 : Nat) != 75) = true from rfl, show ((78 : Nat) != 75) = true from rfl, show ((82 : Nat) != 75) = true from rfl, show ((67 : Nat) != 75) = true from rfl, show ((80 : Nat) != 75) = true from rfl, Bool.eq_iff_iff]
  simp only [Bool.true_or, Bool.false_or, Bool.and_true, Bool.and_eq_true, decide_eq_true_eq, beq_iff_eq]
  constructor
  · intro h
    omega
  · intro h
    omega
theorem letters_no {s : ByteArray} {c : Nat} (hc : c ∈ lettersL) (h : okL s c = false) : countsB s 90 = false := by
  rw [← letters_counts, List.all_eq_false.2 ⟨c, hc, by simp [h]⟩]
theorem letters_yes {s : ByteArray} (h : ∀ j, j < 14 → okL s (lettersL.getD j 0) = true) : countsB s 90 = true := by
  rw [← letters_counts, List.all_eq_true]
  intro c hc
  simp only [lettersL, List.mem_cons, List.not_mem_nil, or_false] at hc
  rcases hc with rfl | rfl | rfl | rfl | rfl | rfl | rfl | rfl | rfl | rfl | rfl | rfl | rfl | rfl
  · exact h 0 (by decide)
  · exact h 1 (by decide)
  · exact h 2 (by decide)
  · exact h 3 (by decide)
  · exact h 4 (by decide)
  · exact h 5 (by decide)
  · exact h 6 (by decide)
  · exact h 7 (by decide)
  · exact h 8 (by decide)
  · exact h 9 (by decide)
  · exact h 10 (by decide)
  · exact h 11 (by decide)
  · exact h 12 (by decide)
  · exact h 13 (by decide)
theorem find_cnt {s : ByteArray} (h : isB s = true) (c : Nat) : (findL s c).length = cntN s 90 c := by
  unfold findL cntN
  rw [h]
  rfl
theorem fill_kind {c : Nat} (h : fillB c = true) : (kindN c == 0) = (c == 46) := by
  rcases byte_cases c with ⟨kb, kr, _⟩ | rfl | rfl | rfl | rfl | rfl | rfl | rfl | rfl | rfl | rfl | rfl | rfl | rfl | rfl
  · have h1 : c = 46 := by simpa [fillB, kb, kr] using h
    subst h1
    rfl
  all_goals rfl
theorem pos_keep {w : World} {g : Nat} {s : ByteArray} {W W' : World} (h : W.cell? ⟨g, 0, none⟩ = some (.string s) ∧ Below w.heap.size w W) (hb : Below W.heap.size W W') :
    W'.cell? ⟨g, 0, none⟩ = some (.string s) ∧ Below w.heap.size w W' := by
  obtain ⟨h0, h2⟩ := h
  have hg : g < W.heap.size := World.block_lt_of_cell? _ _ h0
  exact ⟨(hb.cell (p := ⟨g, 0, none⟩) hg).trans h0, h2.trans (hb.mono h2.size)⟩
theorem rfind_is (s : ByteArray) (c n : Nat) (w : World) (hn : (findL s c).length = n) : Calls Tryz.prog 57 #[.string s, .int .u8 (c : Int)] w (GivesN w (findL s c) n) := by subst hn; exact rfind_any s c w
theorem ris_is (s : ByteArray) (b : Bool) (w : World) (h : isB s = b) : Calls Tryz.prog 56 #[.string s] w (Says w (.bool b)) := by subst h; exact ris_any s w
set_option maxRecDepth 100000 in
set_option maxHeartbeats 4000000 in
theorem rcheck_bad (s : ByteArray) (side clock full : Int) (w : World) (h : isB s = false ∨ (isB s = true ∧ (side < 0 ∨ (0 ≤ side ∧ 1 < side) ∨ (0 ≤ side ∧ side ≤ 1 ∧ clock < 0) ∨ (0 ≤ side ∧ side ≤ 1 ∧ 0 ≤ clock ∧ 120 < clock) ∨ (0 ≤ side ∧ side ≤ 1 ∧ 0 ≤ clock ∧ clock ≤ 120 ∧ full < 1) ∨ (0 ≤ side ∧ side ≤ 1 ∧ 0 ≤ clock ∧ clock ≤ 120 ∧ 1 ≤ full ∧ 9999 < full)))) :
    Calls Tryz.prog 39 #[.agg #[.string s, .int .i64 side, .int .i64 clock, .int .i64 full]] w (Gives w (.int .i64 1)) := by
  unfold Gives
  rcases h with hb | ⟨hb, h⟩
  · have B := Lib.hid hb
    clear hb
    go_enter Tryz.func39, Tryz.ntmps39
    go_wp2_with fail
    refine (ris_is s false _ B.out).mono ?_
    rintro e w1 ⟨rfl, rfl⟩
    go_wp2
    go_ret
    exact ⟨rfl, (by repeat (first | exact Below.refl _ _ | (refine Below.setCell ?_ (by first | omega | (simp; done) | (simp; omega) | (simp at *; omega)) _) | (refine Below.alloc ?_ (by first | omega | (simp; done) | (simp; omega) | (simp at *; omega)) _) | refine Below.drew ?_ | (refine below_drewN ?_ _) | (refine Below.trans ?_ (Below.mono (by assumption) (by first | omega | (simp; done) | (simp; omega) | (simp at *; omega))))))⟩
  · have B := Lib.hid hb
    clear hb
    rcases h with h | ⟨h1, h2⟩ | ⟨h1, h2, h3⟩ | ⟨h1, h2, h3, h4⟩ | ⟨h1, h2, h3, h4, h5⟩ | ⟨h1, h2, h3, h4, h5, h6⟩
    all_goals
      go_enter Tryz.func39, Tryz.ntmps39
      go_wp2_with fail
      refine (ris_is s true _ B.out).mono ?_
      rintro e w1 ⟨rfl, rfl⟩
      go_wp2
      go_ret
      exact ⟨rfl, (by repeat (first | exact Below.refl _ _ | (refine Below.setCell ?_ (by first | omega | (simp; done) | (simp; omega) | (simp at *; omega)) _) | (refine Below.alloc ?_ (by first | omega | (simp; done) | (simp; omega) | (simp at *; omega)) _) | refine Below.drew ?_ | (refine below_drewN ?_ _) | (refine Below.trans ?_ (Below.mono (by assumption) (by first | omega | (simp; done) | (simp; omega) | (simp at *; omega))))))⟩
end Go.Proofs.YtpogpjebhnoncabGreatDoor

namespace Go.Proofs.YtpogpjebhnoncabGreatDoor
open Go.RowKit Go.Shelf
open M (S)

set_option maxRecDepth 100000 in
set_option maxHeartbeats 8000000 in
theorem rcheck_good (s : ByteArray) (side clock full : Int) (w : World) (hb : isB s = true) (h1 : 0 ≤ side) (h2 : side ≤ 1) (h3 : 0 ≤ clock) (h4 : clock ≤ 120) (h5 : 1 ≤ full) (h6 : full ≤ 9999) :
    Calls Tryz.prog 39 #[.agg #[.string s, .int .i64 side, .int .i64 clock, .int .i64 full]] w (Gives w (.int .i64 (if countsB s 90 then (if placesB s 90 then 0 else 2) else 3 : Nat))) := by
  unfold Gives
  obtain ⟨res, hres⟩ : ∃ res : Nat, (if countsB s 90 then (if placesB s 90 then 0 else 2) else 3 : Nat) = res := ⟨_, rfl⟩
  rw [hres]
  have Hres := Lib.hid hres
  clear hres
  have B := Lib.hid hb
  have hs := isB_size hb
  have hs1 : 90 ≤ s.size := by omega
  clear hs hb
  have d1 : decide (side < 0) = false := by simp; omega
  have d2 : decide (1 < side) = false := by simp; omega
  have d3 : decide (clock < 0) = false := by simp; omega
  have d4 : decide (120 < clock) = false := by simp; omega
  have d5 : decide (full < 1) = false := by simp; omega
  have d6 : decide (9999 < full) = false := by simp; omega
  have r3 : countsB s 90 = false → res = 3 := fun h => by have := Hres.out; rw [h] at this; exact this.symm
  have r2 : countsB s 90 = true → placesB s 90 = false → res = 2 := fun h h' => by have := Hres.out; rw [h, h'] at this; exact this.symm
  have r0 : countsB s 90 = true → placesB s 90 = true → res = 0 := fun h h' => by have := Hres.out; rw [h, h'] at this; exact this.symm
  have R3 := Lib.hid r3
  have R2 := Lib.hid r2
  have R0 := Lib.hid r0
  clear r3 r2 r0 h1 h2 h3 h4 h5 h6
  go_enter Tryz.func39, Tryz.ntmps39
  go_wp2_with fail
  refine (ris_is s true _ B.out).mono ?_
  rintro e w1 ⟨rfl, rfl⟩
  obtain ⟨W0, hW0⟩ : ∃ W0, w.alloc (.cells #[.string s, .int .i64 side, .int .i64 clock, .int .i64 full] 23) = W0 := ⟨_, rfl⟩
  have hB : Below w.heap.size w W0 := by rw [← hW0]; exact (by repeat (first | exact Below.refl _ _ | (refine Below.setCell ?_ (by first | omega | (simp; done) | (simp; omega) | (simp at *; omega)) _) | (refine Below.alloc ?_ (by first | omega | (simp; done) | (simp; omega) | (simp at *; omega)) _) | refine Below.drew ?_ | (refine below_drewN ?_ _) | (refine Below.trans ?_ (Below.mono (by assumption) (by first | omega | (simp; done) | (simp; omega) | (simp at *; omega))))))
  have bA : Blk W0 w.heap.size 23 #[.string s, .int .i64 side, .int .i64 clock, .int .i64 full] := by rw [← hW0]; exact Blk.new _ _ _ rfl
  have a0 := bA.cell 0
  have a1 := bA.cell 1
  have a2 := bA.cell 2
  have a3 := bA.cell 3
  simp only [List.getElem?_toArray, List.getElem?_cons_zero, List.getElem?_cons_succ] at a0 a1 a2 a3
  rw [hW0]
  clear hW0
  go_wp2_with fail
  rw [show (⟨#[75, 65, 66, 78, 82, 67, 80, 107, 97, 98, 110, 114, 99, 112]⟩ : ByteArray) = lettersS from rfl]
  have hLs : lettersS.size = 14 := rfl
  have hLa : ∀ j, j < 14 → bAt lettersS j = lettersL.getD j 0 := fun j hj => lettersS_at ⟨j, hj⟩
  generalize lettersS = L at hLs hLa ⊢
  have HLs := Lib.hid hLs
  have HLa := Lib.hid hLa
  have hL14 : L.size ≤ 14 := by omega
  have hL14' : 14 ≤ L.size := by omega
  clear hLs hLa a1 a2 a3
  go_loopw [4, 5] (fun i _ wr => ∃ j : Nat, j ≤ 14 ∧ i = .int .i64 j ∧ (∀ u, u < j → okL s (lettersL.getD u 0) = true) ∧ (wr.cell? ⟨w.heap.size, 0, none⟩ = some (.string s) ∧ Below w.heap.size w wr)) (fun i _ _ => 14 - (intOf i).toNat)
  case atStart => exact ⟨0, by omega, rfl, fun u hu => absurd hu (Nat.not_lt_zero u), a0, hB⟩
  case round =>
    obtain ⟨j, hj, rfl, hall, hS⟩ := hrel
    have Hall := Lib.hid hall
    clear hall
    by_cases hlt : j < 14
    · have hjL : j < L.size := by omega
      obtain ⟨x, hx⟩ : ∃ x, bAt L j = x := ⟨_, rfl⟩
      have hbk : L[j].toNat = x := (bAt_eq L j hjL).trans hx
      have hxl : lettersL.getD j 0 = x := (HLa.out j hlt).symm.trans hx
      have hmem : x ∈ lettersL := by rw [← hxl]; exact letters_in ⟨j, hlt⟩
      have Hxl := Lib.hid hxl
      have Hmem := Lib.hid hmem
      obtain ⟨m, hm⟩ : ∃ m, cntN s 90 x = m := ⟨_, rfl⟩
      have Hf : Hid ((findL s x).length = m) := by show _ = _; rw [find_cnt B.out, hm]
      have hok : okL s x = (decide (m ≤ mostN x) && (kindN x != 75 || m == 1)) := by unfold okL; rw [hm]
      obtain ⟨q, hq⟩ : ∃ q, mostN x = q := ⟨_, rfl⟩
      obtain ⟨kd, hkd⟩ : ∃ kd, kindN x = kd := ⟨_, rfl⟩
      rw [hq, hkd] at hok
      have Hq := Lib.hid hq
      have Hkd := Lib.hid hkd
      have Hok := Lib.hid hok
      have hSd : wr.drew.cell? ⟨w.heap.size, 0, none⟩ = some (.string s) ∧ Below w.heap.size w wr.drew := ⟨hS.1, hS.2.drew⟩
      clear hx hxl hmem hm hok hq hkd hS
      go_wp2_with fail
      go_region_held3 (fun W => W.cell? ⟨w.heap.size, 0, none⟩ = some (.string s) ∧ Below w.heap.size w W)
        (first | exact hSd | exact pos_keep (by assumption) hb)
        ((go_at_call 57; refine (rfind_is s x m _ Hf.out).mono ?_; rintro e w2 ⟨A2, k2, rfl, hr2, hb⟩))
      have hS2 : w2.cell? ⟨w.heap.size, 0, none⟩ = some (.string s) ∧ Below w.heap.size w w2 := by assumption
      clear hSd hb hr2
      by_cases c1 : q < m
      · have K : Hid (res = 3) := R3.out (letters_no Hmem.out (by rw [Hok.out, decide_eq_false (by omega)]; rfl))
        have e1 : decide (q < m) = true := by simp; omega
        go_wp2_with fail
        refine (rmost_is x q _ Hq.out).mono ?_
        rintro e w3 ⟨rfl, rfl⟩
        go_wp2
        go_ret
        exact ⟨by rw [K.out]; rfl, hS2.2⟩
      have e1 : decide (q < m) = false := by simp; omega
      by_cases c2 : kd = 75
      · have e2 : ((kd : Int) == 75) = true := by rw [beq_iff_eq]; omega
        by_cases c3 : m = 1
        · have e3 : ((m : Int) != 1) = false := by rw [c3]; rfl
          have K : Hid (okL s x = true) := by show _ = _; rw [Hok.out, decide_eq_true (by omega), c3]; simp
          clear c2 c3
          go_wp2_with fail
          refine (rmost_is x q _ Hq.out).mono ?_
          rintro e w3 ⟨rfl, rfl⟩
          go_wp2_with fail
          refine (rkind_is x kd _ Hkd.out).mono ?_
          rintro e w3 ⟨rfl, rfl⟩
          go_wp2
          go_roundw
          case rel => exact ⟨j + 1, by omega, by go_num, fun u hu => (by
            rcases Nat.lt_or_ge u j with h | h
            · exact Hall.out u h
            · rw [show u = j by omega, Hxl.out]; exact K.out), hS2⟩
          case measure => simp [intOf]; omega
        · have e3 : ((m : Int) != 1) = true := by rw [bne_iff_ne]; omega
          have K : Hid (res = 3) := R3.out (letters_no Hmem.out (by rw [Hok.out, c2]; simp [c3]))
          clear c2 c3
          go_wp2_with fail
          refine (rmost_is x q _ Hq.out).mono ?_
          rintro e w3 ⟨rfl, rfl⟩
          go_wp2_with fail
          refine (rkind_is x kd _ Hkd.out).mono ?_
          rintro e w3 ⟨rfl, rfl⟩
          go_wp2
          go_ret
          exact ⟨by rw [K.out]; rfl, hS2.2⟩
      · have e2 : ((kd : Int) == 75) = false := by rw [beq_eq_false_iff_ne]; omega
        have K : Hid (okL s x = true) := by show _ = _; rw [Hok.out, decide_eq_true (by omega)]; simp [c2]
        clear c2
        go_wp2_with fail
        refine (rmost_is x q _ Hq.out).mono ?_
        rintro e w3 ⟨rfl, rfl⟩
        go_wp2_with fail
        refine (rkind_is x kd _ Hkd.out).mono ?_
        rintro e w3 ⟨rfl, rfl⟩
        go_wp2
        go_roundw
        case rel => exact ⟨j + 1, by omega, by go_num, fun u hu => (by
          rcases Nat.lt_or_ge u j with h | h
          · exact Hall.out u h
          · rw [show u = j by omega, Hxl.out]; exact K.out), hS2⟩
        case measure => simp [intOf]; omega
    · have KC := Lib.hid (letters_yes (s := s) (fun u hu => Hall.out u (by omega)))
      have hLe' : decide (j < L.size) = false := by simp; omega
      go_wp2_with fail
      go_loopw [6] (fun i wr' => ∃ k : Nat, k ≤ 90 ∧ i = .int .i64 k ∧ (∀ u, u < k → ((kindN (bAt s u) == 0) || mayB (bAt s u) u) = true) ∧ (wr'.cell? ⟨w.heap.size, 0, none⟩ = some (.string s) ∧ Below w.heap.size w wr')) (fun i _ => 90 - (intOf i).toNat)
      case atStart => exact ⟨0, by omega, rfl, fun u hu => absurd hu (Nat.not_lt_zero u), hS⟩
      case round =>
        obtain ⟨k, hk, rfl, hall, hS⟩ := hrel
        have Hall := Lib.hid hall
        clear hall
        obtain ⟨c0, hB⟩ := hS
        by_cases hlt : k < 90
        · have hks : k < s.size := by omega
          obtain ⟨x, hx⟩ : ∃ x, bAt s k = x := ⟨_, rfl⟩
          have hbk : s[k].toNat = x := (bAt_eq s k hks).trans hx
          have hfk := fill_kind (isB_fill B.out k hlt)
          rw [hx] at hfk
          by_cases h0 : x = 46
          · have e0 : ((x : Int) != 46) = false := by rw [h0]; rfl
            have K : Hid (((kindN (bAt s k) == 0) || mayB (bAt s k) k) = true) := by show _ = _; rw [hx, hfk, h0]; rfl
            clear h0 hx hfk
            go_wp2
            go_roundw
            case rel => exact ⟨k + 1, by omega, by go_num, fun u hu => (by
              rcases Nat.lt_or_ge u k with h | h
              · exact Hall.out u h
              · rw [show u = k by omega]; exact K.out), c0, hB⟩
            case measure => simp [intOf]; omega
          · have e0 : ((x : Int) != 46) = true := by rw [bne_iff_ne]; omega
            have hk0 : kindN x ≠ 0 := fun h => by rw [h] at hfk; simp at hfk; omega
            cases hm : mayB x k
            · have K : Hid (res = 2) := R2.out KC.out (places_no (s := s) hlt (by rw [hx]; exact hk0) (by rw [hx]; exact hm))
              have Hm := Lib.hid hm
              clear h0 hx hm hfk hk0
              go_wp2_with fail
              refine (rmay_is x k false _ Hm.out).mono ?_
              rintro e w1 ⟨rfl, rfl⟩
              go_wp2
              go_ret
              exact ⟨by rw [K.out]; rfl, hB⟩
            · have K : Hid (((kindN (bAt s k) == 0) || mayB (bAt s k) k) = true) := by show _ = _; rw [hx, hm, Bool.or_true]
              have Hm := Lib.hid hm
              clear h0 hx hm hfk hk0
              go_wp2_with fail
              refine (rmay_is x k true _ Hm.out).mono ?_
              rintro e w1 ⟨rfl, rfl⟩
              go_wp2
              go_roundw
              case rel => exact ⟨k + 1, by omega, by go_num, fun u hu => (by
                rcases Nat.lt_or_ge u k with h | h
                · exact Hall.out u h
                · rw [show u = k by omega]; exact K.out), c0, hB⟩
              case measure => simp [intOf]; omega
        · obtain rfl : k = 90 := by omega
          have K : Hid (res = 0) := R0.out KC.out (places_yes Hall.out)
          go_wp2
          go_ret
          exact ⟨by rw [K.out]; rfl, hB⟩
theorem rcheck_any (s : ByteArray) (side clock full : Int) (w : World) : Calls Tryz.prog 39 #[.agg #[.string s, .int .i64 side, .int .i64 clock, .int .i64 full]] w (Gives w (.int .i64 (checkN s side clock full : Nat))) := by
  cases hb : isB s
  · rw [parts_false (.inl hb)]
    exact rcheck_bad s side clock full w (.inl hb)
  by_cases hg : 0 ≤ side ∧ side ≤ 1 ∧ 0 ≤ clock ∧ clock ≤ 120 ∧ 1 ≤ full ∧ full ≤ 9999
  · obtain ⟨h1, h2, h3, h4, h5, h6⟩ := hg
    have hd : (side == 0 || side == 1) = true := by
      simp only [Bool.or_eq_true, beq_iff_eq]
      omega
    rw [checkN, parts_true hb hd h3 h4 h5 h6, if_pos rfl]
    exact rcheck_good s side clock full w hb h1 h2 h3 h4 h5 h6
  · have hc : checkN s side clock full = 1 := by
      by_cases hd : (side == 0 || side == 1) = true
      · simp only [Bool.or_eq_true, beq_iff_eq] at hd
        exact parts_false (.inr (.inr (by omega)))
      · exact parts_false (.inr (.inl (by simpa using hd)))
    rw [hc]
    exact rcheck_bad s side clock full w (.inr ⟨hb, by omega⟩)
theorem rcheck_is (s : ByteArray) (side clock full k : Int) (w : World) (h : (checkN s side clock full : Int) = k) : Calls Tryz.prog 39 #[.agg #[.string s, .int .i64 side, .int .i64 clock, .int .i64 full]] w (Gives w (.int .i64 k)) := by subst h; exact rcheck_any s side clock full w
end Go.Proofs.YtpogpjebhnoncabGreatDoor
