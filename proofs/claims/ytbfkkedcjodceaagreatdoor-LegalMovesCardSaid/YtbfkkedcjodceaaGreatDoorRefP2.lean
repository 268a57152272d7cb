/- What the document's plain answers of layer 3 come to: May, Most, Points, Check. -/
import Derived.Test.YtbfkkedcjodceaaGreatDoorRefP1
namespace Go.Proofs.YtbfkkedcjodceaaGreatDoor
open Go.RowKit Go.Shelf
open M (S)

set_option maxHeartbeats 1000000 in
theorem rmost_any (c : Nat) (w : World) : Calls Tryz.prog 74 #[.int .u8 (c : Int)] w (Says w (.int .i64 (mostN c : Nat))) := by
  unfold Says
  rcases most_cases c with h | h | h | ⟨h0, h1, h2⟩
  · have K : Hid (mostN c = 0) := by show _ = _; rw [mostN, h]; rfl
    have H := Lib.hid h
    clear h
    go_enter Tryz.func74, Tryz.ntmps74
    go_wp2_with fail
    refine (rkind_any c _).mono ?_
    rintro e w1 ⟨rfl, rfl⟩
    rw [H.out]
    go_wp2
    go_ret
    exact ⟨by rw [K.out]; rfl, rfl⟩
  · have K : Hid (mostN c = 1) := by show _ = _; rw [mostN, h]; rfl
    have H := Lib.hid h
    clear h
    go_enter Tryz.func74, Tryz.ntmps74
    go_wp2_with fail
    refine (rkind_any c _).mono ?_
    rintro e w1 ⟨rfl, rfl⟩
    rw [H.out]
    go_wp2
    go_ret
    exact ⟨by rw [K.out]; rfl, rfl⟩
  · have K : Hid (mostN c = 5) := by show _ = _; rw [mostN, h]; rfl
    have H := Lib.hid h
    clear h
    go_enter Tryz.func74, Tryz.ntmps74
    go_wp2_with fail
    refine (rkind_any c _).mono ?_
    rintro e w1 ⟨rfl, rfl⟩
    rw [H.out]
    go_wp2
    go_ret
    exact ⟨by rw [K.out]; rfl, rfl⟩
  · have K : Hid (mostN c = 2) := by show _ = _; rw [mostN, if_neg h0, if_neg h1, if_neg h2]
    have e0 : ((kindN c : Int) == 0) = false := by rw [beq_eq_false_iff_ne]; omega
    have e1 : ((kindN c : Int) == 75) = false := by rw [beq_eq_false_iff_ne]; omega
    have e2 : ((kindN c : Int) == 80) = false := by rw [beq_eq_false_iff_ne]; omega
    clear h0 h1 h2
    go_enter Tryz.func74, Tryz.ntmps74
    go_wp2_with fail
    refine (rkind_any c _).mono ?_
    rintro e w1 ⟨rfl, rfl⟩
    go_wp2
    go_ret
    exact ⟨by rw [K.out]; rfl, rfl⟩
theorem rmost_is (c k : Nat) (w : World) (h : mostN c = k) : Calls Tryz.prog 74 #[.int .u8 (c : Int)] w (Says w (.int .i64 (k : Int))) := by subst h; exact rmost_any c w
set_option maxHeartbeats 1000000 in
theorem rmay_none (c : Nat) (n : Int) (w : World) (h : sideN c < 0) : Calls Tryz.prog 75 #[.int .u8 (c : Int), .int .i64 n] w (Says w (.bool false)) := by
  unfold Says
  have e0 : decide (sideN c < 0) = true := by simp; exact h
  go_enter Tryz.func75, Tryz.ntmps75
  go_wp2_with fail
  refine (rside_any c _).mono ?_
  rintro e w1 ⟨rfl, rfl⟩
  go_wp2
  go_ret
  exact ⟨rfl, rfl⟩
set_option maxHeartbeats 1000000 in
theorem rmay_no (c : Nat) (n s : Int) (w : World) (h0 : 0 ≤ s) (hs : sideN c = s) (h : realB n s = false) : Calls Tryz.prog 75 #[.int .u8 (c : Int), .int .i64 n] w (Says w (.bool false)) := by
  unfold Says
  have Hs := Lib.hid hs
  have H := Lib.hid h
  clear hs h
  go_enter Tryz.func75, Tryz.ntmps75
  go_wp2_with fail
  refine (rside_is c s _ Hs.out).mono ?_
  rintro e w1 ⟨rfl, rfl⟩
  go_wp2_with fail
  refine (rreal_is n s false _ H.out).mono ?_
  rintro e w1 ⟨rfl, rfl⟩
  go_wp2
  go_ret
  exact ⟨rfl, rfl⟩
set_option maxHeartbeats 1000000 in
theorem rmay_75 (c : Nat) (n s f r : Int) (w : World) (h : realB n s = true) (hs : sideN c = s) (hk : kindN c = 75) (hf : n % 9 = f) (hr : seenR n s = r) :
    Calls Tryz.prog 75 #[.int .u8 (c : Int), .int .i64 n] w (Says w (.bool (inP f r))) := by
  unfold Says
  obtain ⟨hn, hs01⟩ := real_parts h
  have h0 : 0 ≤ s := by omega
  have bd := seen_in (side := s) hn
  rw [hr] at bd
  have b0 : 0 ≤ f := by omega
  have b1 : f ≤ 8 := by omega
  obtain ⟨_, _, b2, b3⟩ := bd
  have F : Hid (fileI n = f) := by show _ = _; rw [fileI, if_pos hn, hf]
  have O : Hid (ownI n s = r) := by show _ = _; rw [own_seen hn, hr]
  have P : Hid (palaceB n s = inP f r) := by show _ = _; rw [palaceB, h, ← inP_seen hn, hf, hr]; rfl
  have Hs := Lib.hid hs
  have H := Lib.hid h
  have Hk := Lib.hid hk
  clear h hs hk hf hr hn hs01
  go_enter Tryz.func75, Tryz.ntmps75
  go_wp2_with fail
  refine (rside_is c s _ Hs.out).mono ?_
  rintro e w1 ⟨rfl, rfl⟩
  go_wp2_with fail
  refine (rreal_is n s true _ H.out).mono ?_
  rintro e w1 ⟨rfl, rfl⟩
  go_wp2_with fail
  refine (rfile_is n f _ F.out).mono ?_
  rintro e w1 ⟨rfl, rfl⟩
  go_wp2_with fail
  refine (rown_is n s r _ O.out).mono ?_
  rintro e w1 ⟨rfl, rfl⟩
  go_wp2_with fail
  refine (rkind_is c 75 _ Hk.out).mono ?_
  rintro e w1 ⟨rfl, rfl⟩
  go_wp2_with fail
  refine (rpalace_is n s _ _ P.out).mono ?_
  rintro e w1 ⟨rfl, rfl⟩
  go_wp2
  go_ret
  exact ⟨rfl, rfl⟩
set_option maxHeartbeats 1000000 in
theorem rmay_65 (c : Nat) (n s f r : Int) (w : World) (h : realB n s = true) (hs : sideN c = s) (hk : kindN c = 65) (hf : n % 9 = f) (hr : seenR n s = r) :
    Calls Tryz.prog 75 #[.int .u8 (c : Int), .int .i64 n] w (Says w (.bool (advP f r))) := by
  unfold Says
  obtain ⟨hn, hs01⟩ := real_parts h
  have h0 : 0 ≤ s := by omega
  have bd := seen_in (side := s) hn
  rw [hr] at bd
  have b0 : 0 ≤ f := by omega
  have b1 : f ≤ 8 := by omega
  obtain ⟨_, _, b2, b3⟩ := bd
  have F : Hid (fileI n = f) := by show _ = _; rw [fileI, if_pos hn, hf]
  have O : Hid (ownI n s = r) := by show _ = _; rw [own_seen hn, hr]
  have P := Lib.hid (spot_all b0 b1 b2 b3).1
  have Hs := Lib.hid hs
  have H := Lib.hid h
  have Hk := Lib.hid hk
  clear h hs hk hf hr hn hs01
  go_enter Tryz.func75, Tryz.ntmps75
  go_wp2_with fail
  refine (rside_is c s _ Hs.out).mono ?_
  rintro e w1 ⟨rfl, rfl⟩
  go_wp2_with fail
  refine (rreal_is n s true _ H.out).mono ?_
  rintro e w1 ⟨rfl, rfl⟩
  go_wp2_with fail
  refine (rfile_is n f _ F.out).mono ?_
  rintro e w1 ⟨rfl, rfl⟩
  go_wp2_with fail
  refine (rown_is n s r _ O.out).mono ?_
  rintro e w1 ⟨rfl, rfl⟩
  go_wp2_with fail
  refine (rkind_is c 65 _ Hk.out).mono ?_
  rintro e w1 ⟨rfl, rfl⟩
  go_wp2_with fail
  refine (radvisor_any f r _).mono ?_
  rintro e w1 ⟨rfl, rfl⟩
  go_wp2
  go_ret
  exact ⟨by rw [← P.out]; rfl, rfl⟩
set_option maxHeartbeats 1000000 in
theorem rmay_66 (c : Nat) (n s f r : Int) (w : World) (h : realB n s = true) (hs : sideN c = s) (hk : kindN c = 66) (hf : n % 9 = f) (hr : seenR n s = r) :
    Calls Tryz.prog 75 #[.int .u8 (c : Int), .int .i64 n] w (Says w (.bool (eleP f r))) := by
  unfold Says
  obtain ⟨hn, hs01⟩ := real_parts h
  have h0 : 0 ≤ s := by omega
  have bd := seen_in (side := s) hn
  rw [hr] at bd
  have b0 : 0 ≤ f := by omega
  have b1 : f ≤ 8 := by omega
  obtain ⟨_, _, b2, b3⟩ := bd
  have F : Hid (fileI n = f) := by show _ = _; rw [fileI, if_pos hn, hf]
  have O : Hid (ownI n s = r) := by show _ = _; rw [own_seen hn, hr]
  have Hs := Lib.hid hs
  have H := Lib.hid h
  have Hk := Lib.hid hk
  clear h hs hk hf hr hn hs01
  go_enter Tryz.func75, Tryz.ntmps75
  go_wp2_with fail
  refine (rside_is c s _ Hs.out).mono ?_
  rintro e w1 ⟨rfl, rfl⟩
  go_wp2_with fail
  refine (rreal_is n s true _ H.out).mono ?_
  rintro e w1 ⟨rfl, rfl⟩
  go_wp2_with fail
  refine (rfile_is n f _ F.out).mono ?_
  rintro e w1 ⟨rfl, rfl⟩
  go_wp2_with fail
  refine (rown_is n s r _ O.out).mono ?_
  rintro e w1 ⟨rfl, rfl⟩
  go_wp2_with fail
  refine (rkind_is c 66 _ Hk.out).mono ?_
  rintro e w1 ⟨rfl, rfl⟩
  go_wp2_with fail
  refine (relephant_any f r _).mono ?_
  rintro e w1 ⟨rfl, rfl⟩
  go_wp2
  go_ret
  exact ⟨rfl, rfl⟩
set_option maxHeartbeats 1000000 in
theorem rmay_78 (c : Nat) (n s f r : Int) (w : World) (h : realB n s = true) (hs : sideN c = s) (hk : kindN c = 78) (hf : n % 9 = f) (hr : seenR n s = r) :
    Calls Tryz.prog 75 #[.int .u8 (c : Int), .int .i64 n] w (Says w (.bool true)) := by
  unfold Says
  obtain ⟨hn, hs01⟩ := real_parts h
  have h0 : 0 ≤ s := by omega
  have bd := seen_in (side := s) hn
  rw [hr] at bd
  have b0 : 0 ≤ f := by omega
  have b1 : f ≤ 8 := by omega
  obtain ⟨_, _, b2, b3⟩ := bd
  have F : Hid (fileI n = f) := by show _ = _; rw [fileI, if_pos hn, hf]
  have O : Hid (ownI n s = r) := by show _ = _; rw [own_seen hn, hr]
  have Hs := Lib.hid hs
  have H := Lib.hid h
  have Hk := Lib.hid hk
  clear h hs hk hf hr hn hs01
  go_enter Tryz.func75, Tryz.ntmps75
  go_wp2_with fail
  refine (rside_is c s _ Hs.out).mono ?_
  rintro e w1 ⟨rfl, rfl⟩
  go_wp2_with fail
  refine (rreal_is n s true _ H.out).mono ?_
  rintro e w1 ⟨rfl, rfl⟩
  go_wp2_with fail
  refine (rfile_is n f _ F.out).mono ?_
  rintro e w1 ⟨rfl, rfl⟩
  go_wp2_with fail
  refine (rown_is n s r _ O.out).mono ?_
  rintro e w1 ⟨rfl, rfl⟩
  go_wp2_with fail
  refine (rkind_is c 78 _ Hk.out).mono ?_
  rintro e w1 ⟨rfl, rfl⟩
  go_wp2
  go_ret
  exact ⟨rfl, rfl⟩
set_option maxHeartbeats 1000000 in
theorem rmay_82 (c : Nat) (n s f r : Int) (w : World) (h : realB n s = true) (hs : sideN c = s) (hk : kindN c = 82) (hf : n % 9 = f) (hr : seenR n s = r) :
    Calls Tryz.prog 75 #[.int .u8 (c : Int), .int .i64 n] w (Says w (.bool true)) := by
  unfold Says
  obtain ⟨hn, hs01⟩ := real_parts h
  have h0 : 0 ≤ s := by omega
  have bd := seen_in (side := s) hn
  rw [hr] at bd
  have b0 : 0 ≤ f := by omega
  have b1 : f ≤ 8 := by omega
  obtain ⟨_, _, b2, b3⟩ := bd
  have F : Hid (fileI n = f) := by show _ = _; rw [fileI, if_pos hn, hf]
  have O : Hid (ownI n s = r) := by show _ = _; rw [own_seen hn, hr]
  have Hs := Lib.hid hs
  have H := Lib.hid h
  have Hk := Lib.hid hk
  clear h hs hk hf hr hn hs01
  go_enter Tryz.func75, Tryz.ntmps75
  go_wp2_with fail
  refine (rside_is c s _ Hs.out).mono ?_
  rintro e w1 ⟨rfl, rfl⟩
  go_wp2_with fail
  refine (rreal_is n s true _ H.out).mono ?_
  rintro e w1 ⟨rfl, rfl⟩
  go_wp2_with fail
  refine (rfile_is n f _ F.out).mono ?_
  rintro e w1 ⟨rfl, rfl⟩
  go_wp2_with fail
  refine (rown_is n s r _ O.out).mono ?_
  rintro e w1 ⟨rfl, rfl⟩
  go_wp2_with fail
  refine (rkind_is c 82 _ Hk.out).mono ?_
  rintro e w1 ⟨rfl, rfl⟩
  go_wp2
  go_ret
  exact ⟨rfl, rfl⟩
set_option maxHeartbeats 1000000 in
theorem rmay_67 (c : Nat) (n s f r : Int) (w : World) (h : realB n s = true) (hs : sideN c = s) (hk : kindN c = 67) (hf : n % 9 = f) (hr : seenR n s = r) :
    Calls Tryz.prog 75 #[.int .u8 (c : Int), .int .i64 n] w (Says w (.bool true)) := by
  unfold Says
  obtain ⟨hn, hs01⟩ := real_parts h
  have h0 : 0 ≤ s := by omega
  have bd := seen_in (side := s) hn
  rw [hr] at bd
  have b0 : 0 ≤ f := by omega
  have b1 : f ≤ 8 := by omega
  obtain ⟨_, _, b2, b3⟩ := bd
  have F : Hid (fileI n = f) := by show _ = _; rw [fileI, if_pos hn, hf]
  have O : Hid (ownI n s = r) := by show _ = _; rw [own_seen hn, hr]
  have Hs := Lib.hid hs
  have H := Lib.hid h
  have Hk := Lib.hid hk
  clear h hs hk hf hr hn hs01
  go_enter Tryz.func75, Tryz.ntmps75
  go_wp2_with fail
  refine (rside_is c s _ Hs.out).mono ?_
  rintro e w1 ⟨rfl, rfl⟩
  go_wp2_with fail
  refine (rreal_is n s true _ H.out).mono ?_
  rintro e w1 ⟨rfl, rfl⟩
  go_wp2_with fail
  refine (rfile_is n f _ F.out).mono ?_
  rintro e w1 ⟨rfl, rfl⟩
  go_wp2_with fail
  refine (rown_is n s r _ O.out).mono ?_
  rintro e w1 ⟨rfl, rfl⟩
  go_wp2_with fail
  refine (rkind_is c 67 _ Hk.out).mono ?_
  rintro e w1 ⟨rfl, rfl⟩
  go_wp2
  go_ret
  exact ⟨rfl, rfl⟩
set_option maxHeartbeats 1000000 in
theorem rmay_80a (c : Nat) (n s f r : Int) (w : World) (h : realB n s = true) (hs : sideN c = s) (hk : kindN c = 80) (hf : n % 9 = f) (hr : seenR n s = r) (h5 : 5 ≤ r) :
    Calls Tryz.prog 75 #[.int .u8 (c : Int), .int .i64 n] w (Says w (.bool true)) := by
  unfold Says
  obtain ⟨hn, hs01⟩ := real_parts h
  have h0 : 0 ≤ s := by omega
  have bd := seen_in (side := s) hn
  rw [hr] at bd
  have b0 : 0 ≤ f := by omega
  have b1 : f ≤ 8 := by omega
  obtain ⟨_, _, b2, b3⟩ := bd
  have F : Hid (fileI n = f) := by show _ = _; rw [fileI, if_pos hn, hf]
  have O : Hid (ownI n s = r) := by show _ = _; rw [own_seen hn, hr]
  have Hs := Lib.hid hs
  have H := Lib.hid h
  have Hk := Lib.hid hk
  clear h hs hk hf hr hn hs01
  go_enter Tryz.func75, Tryz.ntmps75
  go_wp2_with fail
  refine (rside_is c s _ Hs.out).mono ?_
  rintro e w1 ⟨rfl, rfl⟩
  go_wp2_with fail
  refine (rreal_is n s true _ H.out).mono ?_
  rintro e w1 ⟨rfl, rfl⟩
  go_wp2_with fail
  refine (rfile_is n f _ F.out).mono ?_
  rintro e w1 ⟨rfl, rfl⟩
  go_wp2_with fail
  refine (rown_is n s r _ O.out).mono ?_
  rintro e w1 ⟨rfl, rfl⟩
  go_wp2_with fail
  refine (rkind_is c 80 _ Hk.out).mono ?_
  rintro e w1 ⟨rfl, rfl⟩
  go_wp2
  go_ret
  exact ⟨rfl, rfl⟩
set_option maxHeartbeats 1000000 in
theorem rmay_80b (c : Nat) (n s f r : Int) (w : World) (h : realB n s = true) (hs : sideN c = s) (hk : kindN c = 80) (hf : n % 9 = f) (hr : seenR n s = r) (h5 : r < 5) (h3 : 3 ≤ r) :
    Calls Tryz.prog 75 #[.int .u8 (c : Int), .int .i64 n] w (Says w (.bool (f % 2 == 0))) := by
  unfold Says
  obtain ⟨hn, hs01⟩ := real_parts h
  have h0 : 0 ≤ s := by omega
  have bd := seen_in (side := s) hn
  rw [hr] at bd
  have b0 : 0 ≤ f := by omega
  have b1 : f ≤ 8 := by omega
  obtain ⟨_, _, b2, b3⟩ := bd
  have F : Hid (fileI n = f) := by show _ = _; rw [fileI, if_pos hn, hf]
  have O : Hid (ownI n s = r) := by show _ = _; rw [own_seen hn, hr]
  have d5 : decide (5 ≤ r) = false := by simp; omega
  have Hs := Lib.hid hs
  have H := Lib.hid h
  have Hk := Lib.hid hk
  clear h hs hk hf hr hn hs01
  go_enter Tryz.func75, Tryz.ntmps75
  go_wp2_with fail
  refine (rside_is c s _ Hs.out).mono ?_
  rintro e w1 ⟨rfl, rfl⟩
  go_wp2_with fail
  refine (rreal_is n s true _ H.out).mono ?_
  rintro e w1 ⟨rfl, rfl⟩
  go_wp2_with fail
  refine (rfile_is n f _ F.out).mono ?_
  rintro e w1 ⟨rfl, rfl⟩
  go_wp2_with fail
  refine (rown_is n s r _ O.out).mono ?_
  rintro e w1 ⟨rfl, rfl⟩
  go_wp2_with fail
  refine (rkind_is c 80 _ Hk.out).mono ?_
  rintro e w1 ⟨rfl, rfl⟩
  go_wp2
  go_ret
  exact ⟨rfl, rfl⟩
set_option maxHeartbeats 1000000 in
theorem rmay_80c (c : Nat) (n s f r : Int) (w : World) (h : realB n s = true) (hs : sideN c = s) (hk : kindN c = 80) (hf : n % 9 = f) (hr : seenR n s = r) (h3 : r < 3) :
    Calls Tryz.prog 75 #[.int .u8 (c : Int), .int .i64 n] w (Says w (.bool false)) := by
  unfold Says
  obtain ⟨hn, hs01⟩ := real_parts h
  have h0 : 0 ≤ s := by omega
  have bd := seen_in (side := s) hn
  rw [hr] at bd
  have b0 : 0 ≤ f := by omega
  have b1 : f ≤ 8 := by omega
  obtain ⟨_, _, b2, b3⟩ := bd
  have F : Hid (fileI n = f) := by show _ = _; rw [fileI, if_pos hn, hf]
  have O : Hid (ownI n s = r) := by show _ = _; rw [own_seen hn, hr]
  have d5 : decide (5 ≤ r) = false := by simp; omega
  have Hs := Lib.hid hs
  have H := Lib.hid h
  have Hk := Lib.hid hk
  clear h hs hk hf hr hn hs01
  go_enter Tryz.func75, Tryz.ntmps75
  go_wp2_with fail
  refine (rside_is c s _ Hs.out).mono ?_
  rintro e w1 ⟨rfl, rfl⟩
  go_wp2_with fail
  refine (rreal_is n s true _ H.out).mono ?_
  rintro e w1 ⟨rfl, rfl⟩
  go_wp2_with fail
  refine (rfile_is n f _ F.out).mono ?_
  rintro e w1 ⟨rfl, rfl⟩
  go_wp2_with fail
  refine (rown_is n s r _ O.out).mono ?_
  rintro e w1 ⟨rfl, rfl⟩
  go_wp2_with fail
  refine (rkind_is c 80 _ Hk.out).mono ?_
  rintro e w1 ⟨rfl, rfl⟩
  go_wp2
  go_ret
  exact ⟨rfl, rfl⟩
theorem rmay_any (c : Nat) (n : Int) (w : World) : Calls Tryz.prog 75 #[.int .u8 (c : Int), .int .i64 n] w (Says w (.bool (mayB c n))) := by
  cases h : realB n (sideN c)
  · rw [mayB, h]
    by_cases hs : sideN c < 0
    · exact rmay_none c n w hs
    · exact rmay_no c n _ w (by omega) rfl h
  · have hp := real_parts h
    have hs : 0 ≤ sideN c := by omega
    rw [mayB, h, Bool.true_and, ← kindP_seen _ hp.1]
    rcases side_kind hs with hk | hk | hk | hk | hk | hk | hk
    · rw [hk]; exact rmay_75 c n _ _ _ w h rfl hk rfl rfl
    · rw [hk]; exact rmay_65 c n _ _ _ w h rfl hk rfl rfl
    · rw [hk]; exact rmay_66 c n _ _ _ w h rfl hk rfl rfl
    · rw [hk]; exact rmay_78 c n _ _ _ w h rfl hk rfl rfl
    · rw [hk]; exact rmay_82 c n _ _ _ w h rfl hk rfl rfl
    · rw [hk]; exact rmay_67 c n _ _ _ w h rfl hk rfl rfl
    · rw [hk, show kindP 80 (n % 9) (seenR n (sideN c)) = pawnP (n % 9) (seenR n (sideN c)) from rfl]
      by_cases h5 : 5 ≤ seenR n (sideN c)
      · rw [show pawnP (n % 9) (seenR n (sideN c)) = true by simp [pawnP, h5]]
        exact rmay_80a c n _ _ _ w h rfl hk rfl rfl h5
      · by_cases h3 : 3 ≤ seenR n (sideN c)
        · rw [show pawnP (n % 9) (seenR n (sideN c)) = (n % 9 % 2 == 0) by simp [pawnP, h3]; omega]
          exact rmay_80b c n _ _ _ w h rfl hk rfl rfl (by omega) h3
        · rw [show pawnP (n % 9) (seenR n (sideN c)) = false by simp [pawnP]; omega]
          exact rmay_80c c n _ _ _ w h rfl hk rfl rfl (by omega)
theorem rmay_is (c : Nat) (n : Int) (b : Bool) (w : World) (h : mayB c n = b) : Calls Tryz.prog 75 #[.int .u8 (c : Int), .int .i64 n] w (Says w (.bool b)) := by subst h; exact rmay_any c n w
end Go.Proofs.YtbfkkedcjodceaaGreatDoor
