/- What the document's own answers of layer 14 come to, for all inputs. -/
import Derived.Test.YtbdgbihdhbjljaaGreatDoorValueB
import Derived.Test.YtbdgbihdhbjljaaGreatDoorRefPM
namespace Go.Proofs.YtbdgbihdhbjljaaGreatDoor
open Go.RowKit Go.Shelf
open M (S)
attribute [local go_sem] Oper.semAt_some

set_option maxHeartbeats 1000000 in
theorem rkind14_any (c : Nat) (w : World) : Calls Tryz.prog 103 #[.int .u8 (c : Int)] w (Says w (.int .i64 (kindV c))) := by
  unfold Says
  rcases kindN_cases c with h | h | h | h | h | h | h | h
  · have KV : Hid (kindV c = 0) := by show _ = _; unfold kindV; rw [h]; rfl
    have H := Lib.hid h
    clear h
    go_enter Tryz.func103, Tryz.ntmps103
    go_wp2_with fail
    refine (rkind_is c 0 _ H.out).mono ?_
    rintro e w1 ⟨rfl, rfl⟩
    go_wp2_with fail
    go_ret
    exact ⟨by rw [KV.out]; rfl, rfl⟩
  · have KV : Hid (kindV c = 0) := by show _ = _; unfold kindV; rw [h]; rfl
    have H := Lib.hid h
    clear h
    go_enter Tryz.func103, Tryz.ntmps103
    go_wp2_with fail
    refine (rkind_is c 75 _ H.out).mono ?_
    rintro e w1 ⟨rfl, rfl⟩
    go_wp2_with fail
    go_ret
    exact ⟨by rw [KV.out]; rfl, rfl⟩
  · have KV : Hid (kindV c = 40) := by show _ = _; unfold kindV; rw [h]; rfl
    have H := Lib.hid h
    clear h
    go_enter Tryz.func103, Tryz.ntmps103
    go_wp2_with fail
    refine (rkind_is c 65 _ H.out).mono ?_
    rintro e w1 ⟨rfl, rfl⟩
    go_wp2_with fail
    go_ret
    exact ⟨by rw [KV.out]; rfl, rfl⟩
  · have KV : Hid (kindV c = 40) := by show _ = _; unfold kindV; rw [h]; rfl
    have H := Lib.hid h
    clear h
    go_enter Tryz.func103, Tryz.ntmps103
    go_wp2_with fail
    refine (rkind_is c 66 _ H.out).mono ?_
    rintro e w1 ⟨rfl, rfl⟩
    go_wp2_with fail
    go_ret
    exact ⟨by rw [KV.out]; rfl, rfl⟩
  · have KV : Hid (kindV c = 90) := by show _ = _; unfold kindV; rw [h]; rfl
    have H := Lib.hid h
    clear h
    go_enter Tryz.func103, Tryz.ntmps103
    go_wp2_with fail
    refine (rkind_is c 78 _ H.out).mono ?_
    rintro e w1 ⟨rfl, rfl⟩
    go_wp2_with fail
    go_ret
    exact ⟨by rw [KV.out]; rfl, rfl⟩
  · have KV : Hid (kindV c = 200) := by show _ = _; unfold kindV; rw [h]; rfl
    have H := Lib.hid h
    clear h
    go_enter Tryz.func103, Tryz.ntmps103
    go_wp2_with fail
    refine (rkind_is c 82 _ H.out).mono ?_
    rintro e w1 ⟨rfl, rfl⟩
    go_wp2_with fail
    go_ret
    exact ⟨by rw [KV.out]; rfl, rfl⟩
  · have KV : Hid (kindV c = 95) := by show _ = _; unfold kindV; rw [h]; rfl
    have H := Lib.hid h
    clear h
    go_enter Tryz.func103, Tryz.ntmps103
    go_wp2_with fail
    refine (rkind_is c 67 _ H.out).mono ?_
    rintro e w1 ⟨rfl, rfl⟩
    go_wp2_with fail
    go_ret
    exact ⟨by rw [KV.out]; rfl, rfl⟩
  · have KV : Hid (kindV c = 30) := by show _ = _; unfold kindV; rw [h]; rfl
    have H := Lib.hid h
    clear h
    go_enter Tryz.func103, Tryz.ntmps103
    go_wp2_with fail
    refine (rkind_is c 80 _ H.out).mono ?_
    rintro e w1 ⟨rfl, rfl⟩
    go_wp2_with fail
    go_ret
    exact ⟨by rw [KV.out]; rfl, rfl⟩
theorem rkind14_is (c : Nat) (v : Int) (w : World) (h : kindV c = v) : Calls Tryz.prog 103 #[.int .u8 (c : Int)] w (Says w (.int .i64 v)) := by subst h; exact rkind14_any c w
theorem rrank_is (n k : Int) (w : World) (h : rankI n = k) : Calls Tryz.prog 102 #[.int .i64 n] w (Says w (.int .i64 k)) := by subst h; exact rrank_any n w
set_option maxHeartbeats 1000000 in
theorem rpiece_side (c : Nat) (n : Int) (w : World) (h : sideN c < 0) : Calls Tryz.prog 62 #[.int .u8 (c : Int), .int .i64 n] w (Says w (.int .i64 0)) := by
  unfold Says
  have h1 : sideN c = -1 := by have := sideN_ge c; omega
  have H := Lib.hid h1
  clear h h1
  go_enter Tryz.func62, Tryz.ntmps62
  go_wp2_with fail
  refine (rside_is c (-1) _ H.out).mono ?_
  rintro e w1 ⟨rfl, rfl⟩
  go_wp2_with fail
  go_ret
  exact ⟨rfl, rfl⟩
set_option maxHeartbeats 1000000 in
theorem rpiece_off (c : Nat) (n : Int) (w : World) (hs : ¬ sideN c < 0) (hn : ¬ (0 ≤ n ∧ n < 90)) : Calls Tryz.prog 62 #[.int .u8 (c : Int), .int .i64 n] w (Says w (.int .i64 0)) := by
  unfold Says
  obtain ⟨sd, hsd⟩ : ∃ sd, sideN c = sd := ⟨_, rfl⟩
  have d0 : decide (sd < 0) = false := by rw [← hsd]; simpa using hs
  have H := Lib.hid hsd
  by_cases h0 : n < 0
  · have d1 : decide (n < 0) = true := by simpa using h0
    clear hs hn hsd h0
    go_enter Tryz.func62, Tryz.ntmps62
    go_wp2_with fail
    refine (rside_is c sd _ H.out).mono ?_
    rintro e w1 ⟨rfl, rfl⟩
    go_wp2_with fail
    go_ret
    exact ⟨rfl, rfl⟩
  · have d1 : decide (n < 0) = false := by simpa using h0
    have d2 : decide (89 < n) = true := by simp; omega
    clear hs hn hsd h0
    go_enter Tryz.func62, Tryz.ntmps62
    go_wp2_with fail
    refine (rside_is c sd _ H.out).mono ?_
    rintro e w1 ⟨rfl, rfl⟩
    go_wp2_with fail
    go_ret
    exact ⟨rfl, rfl⟩
set_option maxHeartbeats 1000000 in
theorem rpiece_75_0 (c : Nat) (n f r : Int) (w : World) (hk : kindN c = 75) (hs : sideN c = 0) (hn : 0 ≤ n ∧ n < 90) (hf : fileI n = f) (hr : rankI n = r) : Calls Tryz.prog 62 #[.int .u8 (c : Int), .int .i64 n] w (Says w (.int .i64 (pieceV c n))) := by
  unfold Says
  have hp : pieceV c n = kindV c + moreV c n := piece_on hn (by rw [hs]; decide)
  have hkv : kindV c = 0 := by unfold kindV; rw [hk]; rfl
  have d1 : decide (n < 0) = false := by simp; omega
  have d2 : decide (89 < n) = false := by simp; omega
  have b0 : 0 ≤ f := by rw [← hf, file_mod hn]; omega
  have b1 : f ≤ 8 := by rw [← hf, file_mod hn]; omega
  have b2 : 0 ≤ r := by rw [← hr, rank_div hn]; omega
  have b3 : r ≤ 9 := by rw [← hr, rank_div hn]; omega
  have HK := Lib.hid hk
  have HS := Lib.hid hs
  have HF := Lib.hid hf
  have HR := Lib.hid hr
  have HV := Lib.hid hkv
  have KP : Hid (pieceV c n = 0) := by show _ = _; rw [hp, hkv, moreV, hk]; rfl
  clear hk hs hn hf hr hp hkv
  go_enter Tryz.func62, Tryz.ntmps62
  go_wp2_with fail
  refine (rside_is c 0 _ HS.out).mono ?_
  rintro e w1 ⟨rfl, rfl⟩
  go_wp2_with fail
  refine (rfile_is n f _ HF.out).mono ?_
  rintro e w1 ⟨rfl, rfl⟩
  go_wp2_with fail
  refine (rrank_is n r _ HR.out).mono ?_
  rintro e w1 ⟨rfl, rfl⟩
  go_wp2_with fail
  refine (rkind14_is c 0 _ HV.out).mono ?_
  rintro e w1 ⟨rfl, rfl⟩
  go_wp2_with fail
  refine (rkind_is c 75 _ HK.out).mono ?_
  rintro e w1 ⟨rfl, rfl⟩
  go_wp2_with fail
  go_ret
  exact ⟨by rw [KP.out]; rfl, rfl⟩
set_option maxHeartbeats 1000000 in
theorem rpiece_65_0 (c : Nat) (n f r : Int) (w : World) (hk : kindN c = 65) (hs : sideN c = 0) (hn : 0 ≤ n ∧ n < 90) (hf : fileI n = f) (hr : rankI n = r) : Calls Tryz.prog 62 #[.int .u8 (c : Int), .int .i64 n] w (Says w (.int .i64 (pieceV c n))) := by
  unfold Says
  have hp : pieceV c n = kindV c + moreV c n := piece_on hn (by rw [hs]; decide)
  have hkv : kindV c = 40 := by unfold kindV; rw [hk]; rfl
  have d1 : decide (n < 0) = false := by simp; omega
  have d2 : decide (89 < n) = false := by simp; omega
  have b0 : 0 ≤ f := by rw [← hf, file_mod hn]; omega
  have b1 : f ≤ 8 := by rw [← hf, file_mod hn]; omega
  have b2 : 0 ≤ r := by rw [← hr, rank_div hn]; omega
  have b3 : r ≤ 9 := by rw [← hr, rank_div hn]; omega
  have HK := Lib.hid hk
  have HS := Lib.hid hs
  have HF := Lib.hid hf
  have HR := Lib.hid hr
  have HV := Lib.hid hkv
  have KP : Hid (pieceV c n = 40) := by show _ = _; rw [hp, hkv, moreV, hk]; rfl
  clear hk hs hn hf hr hp hkv
  go_enter Tryz.func62, Tryz.ntmps62
  go_wp2_with fail
  refine (rside_is c 0 _ HS.out).mono ?_
  rintro e w1 ⟨rfl, rfl⟩
  go_wp2_with fail
  refine (rfile_is n f _ HF.out).mono ?_
  rintro e w1 ⟨rfl, rfl⟩
  go_wp2_with fail
  refine (rrank_is n r _ HR.out).mono ?_
  rintro e w1 ⟨rfl, rfl⟩
  go_wp2_with fail
  refine (rkind14_is c 40 _ HV.out).mono ?_
  rintro e w1 ⟨rfl, rfl⟩
  go_wp2_with fail
  refine (rkind_is c 65 _ HK.out).mono ?_
  rintro e w1 ⟨rfl, rfl⟩
  go_wp2_with fail
  go_ret
  exact ⟨by rw [KP.out]; rfl, rfl⟩
set_option maxHeartbeats 1000000 in
theorem rpiece_66_0 (c : Nat) (n f r : Int) (w : World) (hk : kindN c = 66) (hs : sideN c = 0) (hn : 0 ≤ n ∧ n < 90) (hf : fileI n = f) (hr : rankI n = r) : Calls Tryz.prog 62 #[.int .u8 (c : Int), .int .i64 n] w (Says w (.int .i64 (pieceV c n))) := by
  unfold Says
  have hp : pieceV c n = kindV c + moreV c n := piece_on hn (by rw [hs]; decide)
  have hkv : kindV c = 40 := by unfold kindV; rw [hk]; rfl
  have d1 : decide (n < 0) = false := by simp; omega
  have d2 : decide (89 < n) = false := by simp; omega
  have b0 : 0 ≤ f := by rw [← hf, file_mod hn]; omega
  have b1 : f ≤ 8 := by rw [← hf, file_mod hn]; omega
  have b2 : 0 ≤ r := by rw [← hr, rank_div hn]; omega
  have b3 : r ≤ 9 := by rw [← hr, rank_div hn]; omega
  have HK := Lib.hid hk
  have HS := Lib.hid hs
  have HF := Lib.hid hf
  have HR := Lib.hid hr
  have HV := Lib.hid hkv
  have KP : Hid (pieceV c n = 40) := by show _ = _; rw [hp, hkv, moreV, hk]; rfl
  clear hk hs hn hf hr hp hkv
  go_enter Tryz.func62, Tryz.ntmps62
  go_wp2_with fail
  refine (rside_is c 0 _ HS.out).mono ?_
  rintro e w1 ⟨rfl, rfl⟩
  go_wp2_with fail
  refine (rfile_is n f _ HF.out).mono ?_
  rintro e w1 ⟨rfl, rfl⟩
  go_wp2_with fail
  refine (rrank_is n r _ HR.out).mono ?_
  rintro e w1 ⟨rfl, rfl⟩
  go_wp2_with fail
  refine (rkind14_is c 40 _ HV.out).mono ?_
  rintro e w1 ⟨rfl, rfl⟩
  go_wp2_with fail
  refine (rkind_is c 66 _ HK.out).mono ?_
  rintro e w1 ⟨rfl, rfl⟩
  go_wp2_with fail
  go_ret
  exact ⟨by rw [KP.out]; rfl, rfl⟩
set_option maxHeartbeats 1000000 in
theorem rpiece_78_0 (c : Nat) (n f r : Int) (w : World) (hk : kindN c = 78) (hs : sideN c = 0) (hn : 0 ≤ n ∧ n < 90) (hf : fileI n = f) (hr : rankI n = r) : Calls Tryz.prog 62 #[.int .u8 (c : Int), .int .i64 n] w (Says w (.int .i64 (pieceV c n))) := by
  unfold Says
  have hp : pieceV c n = kindV c + moreV c n := piece_on hn (by rw [hs]; decide)
  have hkv : kindV c = 90 := by unfold kindV; rw [hk]; rfl
  have d1 : decide (n < 0) = false := by simp; omega
  have d2 : decide (89 < n) = false := by simp; omega
  have b0 : 0 ≤ f := by rw [← hf, file_mod hn]; omega
  have b1 : f ≤ 8 := by rw [← hf, file_mod hn]; omega
  have b2 : 0 ≤ r := by rw [← hr, rank_div hn]; omega
  have b3 : r ≤ 9 := by rw [← hr, rank_div hn]; omega
  have HK := Lib.hid hk
  have HS := Lib.hid hs
  have HF := Lib.hid hf
  have HR := Lib.hid hr
  have HV := Lib.hid hkv
  obtain ⟨a, ha⟩ : ∃ a, max (f - 4) (4 - f) = a := ⟨_, rfl⟩
  have b4 : 0 ≤ a := by omega
  have b5 : a ≤ 4 := by omega
  have KP : Hid (pieceV c n = 90 + r + 4 - a) := by show _ = _; rw [hp, hkv, moreV, hk, if_neg (by decide), if_pos (by decide), hs, seenR, if_neg (by decide), ← ha, ← hr, ← hf, file_mod hn, rank_div hn]; omega
  clear hk hs hn hf hr hp hkv
  go_enter Tryz.func62, Tryz.ntmps62
  go_wp2_with fail
  refine (rside_is c 0 _ HS.out).mono ?_
  rintro e w1 ⟨rfl, rfl⟩
  go_wp2_with fail
  refine (rfile_is n f _ HF.out).mono ?_
  rintro e w1 ⟨rfl, rfl⟩
  go_wp2_with fail
  refine (rrank_is n r _ HR.out).mono ?_
  rintro e w1 ⟨rfl, rfl⟩
  go_wp2_with fail
  refine (rkind14_is c 90 _ HV.out).mono ?_
  rintro e w1 ⟨rfl, rfl⟩
  go_wp2_with fail
  refine (rkind_is c 78 _ HK.out).mono ?_
  rintro e w1 ⟨rfl, rfl⟩
  go_wp2_with fail
  go_ret
  exact ⟨by rw [KP.out, ← ha]; rfl, rfl⟩
set_option maxHeartbeats 1000000 in
theorem rpiece_82_0 (c : Nat) (n f r : Int) (w : World) (hk : kindN c = 82) (hs : sideN c = 0) (hn : 0 ≤ n ∧ n < 90) (hf : fileI n = f) (hr : rankI n = r) : Calls Tryz.prog 62 #[.int .u8 (c : Int), .int .i64 n] w (Says w (.int .i64 (pieceV c n))) := by
  unfold Says
  have hp : pieceV c n = kindV c + moreV c n := piece_on hn (by rw [hs]; decide)
  have hkv : kindV c = 200 := by unfold kindV; rw [hk]; rfl
  have d1 : decide (n < 0) = false := by simp; omega
  have d2 : decide (89 < n) = false := by simp; omega
  have b0 : 0 ≤ f := by rw [← hf, file_mod hn]; omega
  have b1 : f ≤ 8 := by rw [← hf, file_mod hn]; omega
  have b2 : 0 ≤ r := by rw [← hr, rank_div hn]; omega
  have b3 : r ≤ 9 := by rw [← hr, rank_div hn]; omega
  have HK := Lib.hid hk
  have HS := Lib.hid hs
  have HF := Lib.hid hf
  have HR := Lib.hid hr
  have HV := Lib.hid hkv
  obtain ⟨a, ha⟩ : ∃ a, max (f - 4) (4 - f) = a := ⟨_, rfl⟩
  have b4 : 0 ≤ a := by omega
  have b5 : a ≤ 4 := by omega
  have KP : Hid (pieceV c n = 200 + r + 4 - a) := by show _ = _; rw [hp, hkv, moreV, hk, if_neg (by decide), if_pos (by decide), hs, seenR, if_neg (by decide), ← ha, ← hr, ← hf, file_mod hn, rank_div hn]; omega
  clear hk hs hn hf hr hp hkv
  go_enter Tryz.func62, Tryz.ntmps62
  go_wp2_with fail
  refine (rside_is c 0 _ HS.out).mono ?_
  rintro e w1 ⟨rfl, rfl⟩
  go_wp2_with fail
  refine (rfile_is n f _ HF.out).mono ?_
  rintro e w1 ⟨rfl, rfl⟩
  go_wp2_with fail
  refine (rrank_is n r _ HR.out).mono ?_
  rintro e w1 ⟨rfl, rfl⟩
  go_wp2_with fail
  refine (rkind14_is c 200 _ HV.out).mono ?_
  rintro e w1 ⟨rfl, rfl⟩
  go_wp2_with fail
  refine (rkind_is c 82 _ HK.out).mono ?_
  rintro e w1 ⟨rfl, rfl⟩
  go_wp2_with fail
  go_ret
  exact ⟨by rw [KP.out, ← ha]; rfl, rfl⟩
set_option maxHeartbeats 1000000 in
theorem rpiece_67_0 (c : Nat) (n f r : Int) (w : World) (hk : kindN c = 67) (hs : sideN c = 0) (hn : 0 ≤ n ∧ n < 90) (hf : fileI n = f) (hr : rankI n = r) : Calls Tryz.prog 62 #[.int .u8 (c : Int), .int .i64 n] w (Says w (.int .i64 (pieceV c n))) := by
  unfold Says
  have hp : pieceV c n = kindV c + moreV c n := piece_on hn (by rw [hs]; decide)
  have hkv : kindV c = 95 := by unfold kindV; rw [hk]; rfl
  have d1 : decide (n < 0) = false := by simp; omega
  have d2 : decide (89 < n) = false := by simp; omega
  have b0 : 0 ≤ f := by rw [← hf, file_mod hn]; omega
  have b1 : f ≤ 8 := by rw [← hf, file_mod hn]; omega
  have b2 : 0 ≤ r := by rw [← hr, rank_div hn]; omega
  have b3 : r ≤ 9 := by rw [← hr, rank_div hn]; omega
  have HK := Lib.hid hk
  have HS := Lib.hid hs
  have HF := Lib.hid hf
  have HR := Lib.hid hr
  have HV := Lib.hid hkv
  obtain ⟨a, ha⟩ : ∃ a, max (f - 4) (4 - f) = a := ⟨_, rfl⟩
  have b4 : 0 ≤ a := by omega
  have b5 : a ≤ 4 := by omega
  have KP : Hid (pieceV c n = 95 + r + 4 - a) := by show _ = _; rw [hp, hkv, moreV, hk, if_neg (by decide), if_pos (by decide), hs, seenR, if_neg (by decide), ← ha, ← hr, ← hf, file_mod hn, rank_div hn]; omega
  clear hk hs hn hf hr hp hkv
  go_enter Tryz.func62, Tryz.ntmps62
  go_wp2_with fail
  refine (rside_is c 0 _ HS.out).mono ?_
  rintro e w1 ⟨rfl, rfl⟩
  go_wp2_with fail
  refine (rfile_is n f _ HF.out).mono ?_
  rintro e w1 ⟨rfl, rfl⟩
  go_wp2_with fail
  refine (rrank_is n r _ HR.out).mono ?_
  rintro e w1 ⟨rfl, rfl⟩
  go_wp2_with fail
  refine (rkind14_is c 95 _ HV.out).mono ?_
  rintro e w1 ⟨rfl, rfl⟩
  go_wp2_with fail
  refine (rkind_is c 67 _ HK.out).mono ?_
  rintro e w1 ⟨rfl, rfl⟩
  go_wp2_with fail
  go_ret
  exact ⟨by rw [KP.out, ← ha]; rfl, rfl⟩
set_option maxHeartbeats 1000000 in
theorem rpiece_80_0 (c : Nat) (n f r : Int) (w : World) (hk : kindN c = 80) (hs : sideN c = 0) (hn : 0 ≤ n ∧ n < 90) (hf : fileI n = f) (hr : rankI n = r) : Calls Tryz.prog 62 #[.int .u8 (c : Int), .int .i64 n] w (Says w (.int .i64 (pieceV c n))) := by
  unfold Says
  have hp : pieceV c n = kindV c + moreV c n := piece_on hn (by rw [hs]; decide)
  have hkv : kindV c = 30 := by unfold kindV; rw [hk]; rfl
  have d1 : decide (n < 0) = false := by simp; omega
  have d2 : decide (89 < n) = false := by simp; omega
  have b0 : 0 ≤ f := by rw [← hf, file_mod hn]; omega
  have b1 : f ≤ 8 := by rw [← hf, file_mod hn]; omega
  have b2 : 0 ≤ r := by rw [← hr, rank_div hn]; omega
  have b3 : r ≤ 9 := by rw [← hr, rank_div hn]; omega
  have HK := Lib.hid hk
  have HS := Lib.hid hs
  have HF := Lib.hid hf
  have HR := Lib.hid hr
  have HV := Lib.hid hkv
  cases ho : overB n 0
  · have KP : Hid (pieceV c n = 30) := by show _ = _; rw [hp, hkv, moreV, hk, hs, ho]; rfl
    have HO := Lib.hid ho
    clear hk hs hn hf hr hp hkv ho
    go_enter Tryz.func62, Tryz.ntmps62
    go_wp2_with fail
    refine (rside_is c 0 _ HS.out).mono ?_
    rintro e w1 ⟨rfl, rfl⟩
    go_wp2_with fail
    refine (rfile_is n f _ HF.out).mono ?_
    rintro e w1 ⟨rfl, rfl⟩
    go_wp2_with fail
    refine (rrank_is n r _ HR.out).mono ?_
    rintro e w1 ⟨rfl, rfl⟩
    go_wp2_with fail
    refine (rkind14_is c 30 _ HV.out).mono ?_
    rintro e w1 ⟨rfl, rfl⟩
    go_wp2_with fail
    refine (rkind_is c 80 _ HK.out).mono ?_
    rintro e w1 ⟨rfl, rfl⟩
    go_wp2_with fail
    refine (rover_is n 0 false _ HO.out).mono ?_
    rintro e w1 ⟨rfl, rfl⟩
    go_wp2_with fail
    go_ret
    exact ⟨by rw [KP.out]; rfl, rfl⟩
  · have HO := Lib.hid ho
    rcases (show (3 ≤ f ∧ f ≤ 5) ∨ f < 3 ∨ 5 < f by omega) with hc | hc | hc
    · have e3 : decide (3 ≤ f) = true := by simpa using hc.1
      have e5 : decide (f ≤ 5) = true := by simpa using hc.2
      have KP : Hid (pieceV c n = 80) := by show _ = _; rw [hp, hkv, moreV, hk, hs, ho, if_pos rfl, if_pos rfl]; rw [← hf, file_mod hn] at hc; rw [if_pos (by omega)]; rfl
      clear hk hs hn hf hr hp hkv ho hc
      go_enter Tryz.func62, Tryz.ntmps62
      go_wp2_with fail
      refine (rside_is c 0 _ HS.out).mono ?_
      rintro e w1 ⟨rfl, rfl⟩
      go_wp2_with fail
      refine (rfile_is n f _ HF.out).mono ?_
      rintro e w1 ⟨rfl, rfl⟩
      go_wp2_with fail
      refine (rrank_is n r _ HR.out).mono ?_
      rintro e w1 ⟨rfl, rfl⟩
      go_wp2_with fail
      refine (rkind14_is c 30 _ HV.out).mono ?_
      rintro e w1 ⟨rfl, rfl⟩
      go_wp2_with fail
      refine (rkind_is c 80 _ HK.out).mono ?_
      rintro e w1 ⟨rfl, rfl⟩
      go_wp2_with fail
      refine (rover_is n 0 true _ HO.out).mono ?_
      rintro e w1 ⟨rfl, rfl⟩
      go_wp2_with fail
      go_ret
      exact ⟨by rw [KP.out]; rfl, rfl⟩
    · have e3 : decide (3 ≤ f) = false := by simp; omega
      have KP : Hid (pieceV c n = 70) := by show _ = _; rw [hp, hkv, moreV, hk, hs, ho, if_pos rfl, if_pos rfl]; rw [← hf, file_mod hn] at hc; rw [if_neg (by omega)]; rfl
      clear hk hs hn hf hr hp hkv ho hc
      go_enter Tryz.func62, Tryz.ntmps62
      go_wp2_with fail
      refine (rside_is c 0 _ HS.out).mono ?_
      rintro e w1 ⟨rfl, rfl⟩
      go_wp2_with fail
      refine (rfile_is n f _ HF.out).mono ?_
      rintro e w1 ⟨rfl, rfl⟩
      go_wp2_with fail
      refine (rrank_is n r _ HR.out).mono ?_
      rintro e w1 ⟨rfl, rfl⟩
      go_wp2_with fail
      refine (rkind14_is c 30 _ HV.out).mono ?_
      rintro e w1 ⟨rfl, rfl⟩
      go_wp2_with fail
      refine (rkind_is c 80 _ HK.out).mono ?_
      rintro e w1 ⟨rfl, rfl⟩
      go_wp2_with fail
      refine (rover_is n 0 true _ HO.out).mono ?_
      rintro e w1 ⟨rfl, rfl⟩
      go_wp2_with fail
      go_ret
      exact ⟨by rw [KP.out]; rfl, rfl⟩
    · have e3 : decide (3 ≤ f) = true := by simp; omega
      have e5 : decide (f ≤ 5) = false := by simp; omega
      have KP : Hid (pieceV c n = 70) := by show _ = _; rw [hp, hkv, moreV, hk, hs, ho, if_pos rfl, if_pos rfl]; rw [← hf, file_mod hn] at hc; rw [if_neg (by omega)]; rfl
      clear hk hs hn hf hr hp hkv ho hc
      go_enter Tryz.func62, Tryz.ntmps62
      go_wp2_with fail
      refine (rside_is c 0 _ HS.out).mono ?_
      rintro e w1 ⟨rfl, rfl⟩
      go_wp2_with fail
      refine (rfile_is n f _ HF.out).mono ?_
      rintro e w1 ⟨rfl, rfl⟩
      go_wp2_with fail
      refine (rrank_is n r _ HR.out).mono ?_
      rintro e w1 ⟨rfl, rfl⟩
      go_wp2_with fail
      refine (rkind14_is c 30 _ HV.out).mono ?_
      rintro e w1 ⟨rfl, rfl⟩
      go_wp2_with fail
      refine (rkind_is c 80 _ HK.out).mono ?_
      rintro e w1 ⟨rfl, rfl⟩
      go_wp2_with fail
      refine (rover_is n 0 true _ HO.out).mono ?_
      rintro e w1 ⟨rfl, rfl⟩
      go_wp2_with fail
      go_ret
      exact ⟨by rw [KP.out]; rfl, rfl⟩
set_option maxHeartbeats 1000000 in
theorem rpiece_75_1 (c : Nat) (n f r : Int) (w : World) (hk : kindN c = 75) (hs : sideN c = 1) (hn : 0 ≤ n ∧ n < 90) (hf : fileI n = f) (hr : rankI n = r) : Calls Tryz.prog 62 #[.int .u8 (c : Int), .int .i64 n] w (Says w (.int .i64 (pieceV c n))) := by
  unfold Says
  have hp : pieceV c n = kindV c + moreV c n := piece_on hn (by rw [hs]; decide)
  have hkv : kindV c = 0 := by unfold kindV; rw [hk]; rfl
  have d1 : decide (n < 0) = false := by simp; omega
  have d2 : decide (89 < n) = false := by simp; omega
  have b0 : 0 ≤ f := by rw [← hf, file_mod hn]; omega
  have b1 : f ≤ 8 := by rw [← hf, file_mod hn]; omega
  have b2 : 0 ≤ r := by rw [← hr, rank_div hn]; omega
  have b3 : r ≤ 9 := by rw [← hr, rank_div hn]; omega
  have HK := Lib.hid hk
  have HS := Lib.hid hs
  have HF := Lib.hid hf
  have HR := Lib.hid hr
  have HV := Lib.hid hkv
  have KP : Hid (pieceV c n = 0) := by show _ = _; rw [hp, hkv, moreV, hk]; rfl
  clear hk hs hn hf hr hp hkv
  go_enter Tryz.func62, Tryz.ntmps62
  go_wp2_with fail
  refine (rside_is c 1 _ HS.out).mono ?_
  rintro e w1 ⟨rfl, rfl⟩
  go_wp2_with fail
  refine (rfile_is n f _ HF.out).mono ?_
  rintro e w1 ⟨rfl, rfl⟩
  go_wp2_with fail
  refine (rrank_is n r _ HR.out).mono ?_
  rintro e w1 ⟨rfl, rfl⟩
  go_wp2_with fail
  refine (rkind14_is c 0 _ HV.out).mono ?_
  rintro e w1 ⟨rfl, rfl⟩
  go_wp2_with fail
  refine (rkind_is c 75 _ HK.out).mono ?_
  rintro e w1 ⟨rfl, rfl⟩
  go_wp2_with fail
  go_ret
  exact ⟨by rw [KP.out]; rfl, rfl⟩
set_option maxHeartbeats 1000000 in
theorem rpiece_65_1 (c : Nat) (n f r : Int) (w : World) (hk : kindN c = 65) (hs : sideN c = 1) (hn : 0 ≤ n ∧ n < 90) (hf : fileI n = f) (hr : rankI n = r) : Calls Tryz.prog 62 #[.int .u8 (c : Int), .int .i64 n] w (Says w (.int .i64 (pieceV c n))) := by
  unfold Says
  have hp : pieceV c n = kindV c + moreV c n := piece_on hn (by rw [hs]; decide)
  have hkv : kindV c = 40 := by unfold kindV; rw [hk]; rfl
  have d1 : decide (n < 0) = false := by simp; omega
  have d2 : decide (89 < n) = false := by simp; omega
  have b0 : 0 ≤ f := by rw [← hf, file_mod hn]; omega
  have b1 : f ≤ 8 := by rw [← hf, file_mod hn]; omega
  have b2 : 0 ≤ r := by rw [← hr, rank_div hn]; omega
  have b3 : r ≤ 9 := by rw [← hr, rank_div hn]; omega
  have HK := Lib.hid hk
  have HS := Lib.hid hs
  have HF := Lib.hid hf
  have HR := Lib.hid hr
  have HV := Lib.hid hkv
  have KP : Hid (pieceV c n = 40) := by show _ = _; rw [hp, hkv, moreV, hk]; rfl
  clear hk hs hn hf hr hp hkv
  go_enter Tryz.func62, Tryz.ntmps62
  go_wp2_with fail
  refine (rside_is c 1 _ HS.out).mono ?_
  rintro e w1 ⟨rfl, rfl⟩
  go_wp2_with fail
  refine (rfile_is n f _ HF.out).mono ?_
  rintro e w1 ⟨rfl, rfl⟩
  go_wp2_with fail
  refine (rrank_is n r _ HR.out).mono ?_
  rintro e w1 ⟨rfl, rfl⟩
  go_wp2_with fail
  refine (rkind14_is c 40 _ HV.out).mono ?_
  rintro e w1 ⟨rfl, rfl⟩
  go_wp2_with fail
  refine (rkind_is c 65 _ HK.out).mono ?_
  rintro e w1 ⟨rfl, rfl⟩
  go_wp2_with fail
  go_ret
  exact ⟨by rw [KP.out]; rfl, rfl⟩
set_option maxHeartbeats 1000000 in
theorem rpiece_66_1 (c : Nat) (n f r : Int) (w : World) (hk : kindN c = 66) (hs : sideN c = 1) (hn : 0 ≤ n ∧ n < 90) (hf : fileI n = f) (hr : rankI n = r) : Calls Tryz.prog 62 #[.int .u8 (c : Int), .int .i64 n] w (Says w (.int .i64 (pieceV c n))) := by
  unfold Says
  have hp : pieceV c n = kindV c + moreV c n := piece_on hn (by rw [hs]; decide)
  have hkv : kindV c = 40 := by unfold kindV; rw [hk]; rfl
  have d1 : decide (n < 0) = false := by simp; omega
  have d2 : decide (89 < n) = false := by simp; omega
  have b0 : 0 ≤ f := by rw [← hf, file_mod hn]; omega
  have b1 : f ≤ 8 := by rw [← hf, file_mod hn]; omega
  have b2 : 0 ≤ r := by rw [← hr, rank_div hn]; omega
  have b3 : r ≤ 9 := by rw [← hr, rank_div hn]; omega
  have HK := Lib.hid hk
  have HS := Lib.hid hs
  have HF := Lib.hid hf
  have HR := Lib.hid hr
  have HV := Lib.hid hkv
  have KP : Hid (pieceV c n = 40) := by show _ = _; rw [hp, hkv, moreV, hk]; rfl
  clear hk hs hn hf hr hp hkv
  go_enter Tryz.func62, Tryz.ntmps62
  go_wp2_with fail
  refine (rside_is c 1 _ HS.out).mono ?_
  rintro e w1 ⟨rfl, rfl⟩
  go_wp2_with fail
  refine (rfile_is n f _ HF.out).mono ?_
  rintro e w1 ⟨rfl, rfl⟩
  go_wp2_with fail
  refine (rrank_is n r _ HR.out).mono ?_
  rintro e w1 ⟨rfl, rfl⟩
  go_wp2_with fail
  refine (rkind14_is c 40 _ HV.out).mono ?_
  rintro e w1 ⟨rfl, rfl⟩
  go_wp2_with fail
  refine (rkind_is c 66 _ HK.out).mono ?_
  rintro e w1 ⟨rfl, rfl⟩
  go_wp2_with fail
  go_ret
  exact ⟨by rw [KP.out]; rfl, rfl⟩
set_option maxHeartbeats 1000000 in
theorem rpiece_78_1 (c : Nat) (n f r : Int) (w : World) (hk : kindN c = 78) (hs : sideN c = 1) (hn : 0 ≤ n ∧ n < 90) (hf : fileI n = f) (hr : rankI n = r) : Calls Tryz.prog 62 #[.int .u8 (c : Int), .int .i64 n] w (Says w (.int .i64 (pieceV c n))) := by
  unfold Says
  have hp : pieceV c n = kindV c + moreV c n := piece_on hn (by rw [hs]; decide)
  have hkv : kindV c = 90 := by unfold kindV; rw [hk]; rfl
  have d1 : decide (n < 0) = false := by simp; omega
  have d2 : decide (89 < n) = false := by simp; omega
  have b0 : 0 ≤ f := by rw [← hf, file_mod hn]; omega
  have b1 : f ≤ 8 := by rw [← hf, file_mod hn]; omega
  have b2 : 0 ≤ r := by rw [← hr, rank_div hn]; omega
  have b3 : r ≤ 9 := by rw [← hr, rank_div hn]; omega
  have HK := Lib.hid hk
  have HS := Lib.hid hs
  have HF := Lib.hid hf
  have HR := Lib.hid hr
  have HV := Lib.hid hkv
  obtain ⟨a, ha⟩ : ∃ a, max (f - 4) (4 - f) = a := ⟨_, rfl⟩
  have b4 : 0 ≤ a := by omega
  have b5 : a ≤ 4 := by omega
  have KP : Hid (pieceV c n = 90 + (9 - r) + 4 - a) := by show _ = _; rw [hp, hkv, moreV, hk, if_neg (by decide), if_pos (by decide), hs, seenR, if_pos rfl, ← ha, ← hr, ← hf, file_mod hn, rank_div hn]; omega
  clear hk hs hn hf hr hp hkv
  go_enter Tryz.func62, Tryz.ntmps62
  go_wp2_with fail
  refine (rside_is c 1 _ HS.out).mono ?_
  rintro e w1 ⟨rfl, rfl⟩
  go_wp2_with fail
  refine (rfile_is n f _ HF.out).mono ?_
  rintro e w1 ⟨rfl, rfl⟩
  go_wp2_with fail
  refine (rrank_is n r _ HR.out).mono ?_
  rintro e w1 ⟨rfl, rfl⟩
  go_wp2_with fail
  refine (rkind14_is c 90 _ HV.out).mono ?_
  rintro e w1 ⟨rfl, rfl⟩
  go_wp2_with fail
  refine (rkind_is c 78 _ HK.out).mono ?_
  rintro e w1 ⟨rfl, rfl⟩
  go_wp2_with fail
  go_ret
  exact ⟨by rw [KP.out, ← ha]; rfl, rfl⟩
set_option maxHeartbeats 1000000 in
theorem rpiece_82_1 (c : Nat) (n f r : Int) (w : World) (hk : kindN c = 82) (hs : sideN c = 1) (hn : 0 ≤ n ∧ n < 90) (hf : fileI n = f) (hr : rankI n = r) : Calls Tryz.prog 62 #[.int .u8 (c : Int), .int .i64 n] w (Says w (.int .i64 (pieceV c n))) := by
  unfold Says
  have hp : pieceV c n = kindV c + moreV c n := piece_on hn (by rw [hs]; decide)
  have hkv : kindV c = 200 := by unfold kindV; rw [hk]; rfl
  have d1 : decide (n < 0) = false := by simp; omega
  have d2 : decide (89 < n) = false := by simp; omega
  have b0 : 0 ≤ f := by rw [← hf, file_mod hn]; omega
  have b1 : f ≤ 8 := by rw [← hf, file_mod hn]; omega
  have b2 : 0 ≤ r := by rw [← hr, rank_div hn]; omega
  have b3 : r ≤ 9 := by rw [← hr, rank_div hn]; omega
  have HK := Lib.hid hk
  have HS := Lib.hid hs
  have HF := Lib.hid hf
  have HR := Lib.hid hr
  have HV := Lib.hid hkv
  obtain ⟨a, ha⟩ : ∃ a, max (f - 4) (4 - f) = a := ⟨_, rfl⟩
  have b4 : 0 ≤ a := by omega
  have b5 : a ≤ 4 := by omega
  have KP : Hid (pieceV c n = 200 + (9 - r) + 4 - a) := by show _ = _; rw [hp, hkv, moreV, hk, if_neg (by decide), if_pos (by decide), hs, seenR, if_pos rfl, ← ha, ← hr, ← hf, file_mod hn, rank_div hn]; omega
  clear hk hs hn hf hr hp hkv
  go_enter Tryz.func62, Tryz.ntmps62
  go_wp2_with fail
  refine (rside_is c 1 _ HS.out).mono ?_
  rintro e w1 ⟨rfl, rfl⟩
  go_wp2_with fail
  refine (rfile_is n f _ HF.out).mono ?_
  rintro e w1 ⟨rfl, rfl⟩
  go_wp2_with fail
  refine (rrank_is n r _ HR.out).mono ?_
  rintro e w1 ⟨rfl, rfl⟩
  go_wp2_with fail
  refine (rkind14_is c 200 _ HV.out).mono ?_
  rintro e w1 ⟨rfl, rfl⟩
  go_wp2_with fail
  refine (rkind_is c 82 _ HK.out).mono ?_
  rintro e w1 ⟨rfl, rfl⟩
  go_wp2_with fail
  go_ret
  exact ⟨by rw [KP.out, ← ha]; rfl, rfl⟩
set_option maxHeartbeats 1000000 in
theorem rpiece_67_1 (c : Nat) (n f r : Int) (w : World) (hk : kindN c = 67) (hs : sideN c = 1) (hn : 0 ≤ n ∧ n < 90) (hf : fileI n = f) (hr : rankI n = r) : Calls Tryz.prog 62 #[.int .u8 (c : Int), .int .i64 n] w (Says w (.int .i64 (pieceV c n))) := by
  unfold Says
  have hp : pieceV c n = kindV c + moreV c n := piece_on hn (by rw [hs]; decide)
  have hkv : kindV c = 95 := by unfold kindV; rw [hk]; rfl
  have d1 : decide (n < 0) = false := by simp; omega
  have d2 : decide (89 < n) = false := by simp; omega
  have b0 : 0 ≤ f := by rw [← hf, file_mod hn]; omega
  have b1 : f ≤ 8 := by rw [← hf, file_mod hn]; omega
  have b2 : 0 ≤ r := by rw [← hr, rank_div hn]; omega
  have b3 : r ≤ 9 := by rw [← hr, rank_div hn]; omega
  have HK := Lib.hid hk
  have HS := Lib.hid hs
  have HF := Lib.hid hf
  have HR := Lib.hid hr
  have HV := Lib.hid hkv
  obtain ⟨a, ha⟩ : ∃ a, max (f - 4) (4 - f) = a := ⟨_, rfl⟩
  have b4 : 0 ≤ a := by omega
  have b5 : a ≤ 4 := by omega
  have KP : Hid (pieceV c n = 95 + (9 - r) + 4 - a) := by show _ = _; rw [hp, hkv, moreV, hk, if_neg (by decide), if_pos (by decide), hs, seenR, if_pos rfl, ← ha, ← hr, ← hf, file_mod hn, rank_div hn]; omega
  clear hk hs hn hf hr hp hkv
  go_enter Tryz.func62, Tryz.ntmps62
  go_wp2_with fail
  refine (rside_is c 1 _ HS.out).mono ?_
  rintro e w1 ⟨rfl, rfl⟩
  go_wp2_with fail
  refine (rfile_is n f _ HF.out).mono ?_
  rintro e w1 ⟨rfl, rfl⟩
  go_wp2_with fail
  refine (rrank_is n r _ HR.out).mono ?_
  rintro e w1 ⟨rfl, rfl⟩
  go_wp2_with fail
  refine (rkind14_is c 95 _ HV.out).mono ?_
  rintro e w1 ⟨rfl, rfl⟩
  go_wp2_with fail
  refine (rkind_is c 67 _ HK.out).mono ?_
  rintro e w1 ⟨rfl, rfl⟩
  go_wp2_with fail
  go_ret
  exact ⟨by rw [KP.out, ← ha]; rfl, rfl⟩
set_option maxHeartbeats 1000000 in
theorem rpiece_80_1 (c : Nat) (n f r : Int) (w : World) (hk : kindN c = 80) (hs : sideN c = 1) (hn : 0 ≤ n ∧ n < 90) (hf : fileI n = f) (hr : rankI n = r) : Calls Tryz.prog 62 #[.int .u8 (c : Int), .int .i64 n] w (Says w (.int .i64 (pieceV c n))) := by
  unfold Says
  have hp : pieceV c n = kindV c + moreV c n := piece_on hn (by rw [hs]; decide)
  have hkv : kindV c = 30 := by unfold kindV; rw [hk]; rfl
  have d1 : decide (n < 0) = false := by simp; omega
  have d2 : decide (89 < n) = false := by simp; omega
  have b0 : 0 ≤ f := by rw [← hf, file_mod hn]; omega
  have b1 : f ≤ 8 := by rw [← hf, file_mod hn]; omega
  have b2 : 0 ≤ r := by rw [← hr, rank_div hn]; omega
  have b3 : r ≤ 9 := by rw [← hr, rank_div hn]; omega
  have HK := Lib.hid hk
  have HS := Lib.hid hs
  have HF := Lib.hid hf
  have HR := Lib.hid hr
  have HV := Lib.hid hkv
  cases ho : overB n 1
  · have KP : Hid (pieceV c n = 30) := by show _ = _; rw [hp, hkv, moreV, hk, hs, ho]; rfl
    have HO := Lib.hid ho
    clear hk hs hn hf hr hp hkv ho
    go_enter Tryz.func62, Tryz.ntmps62
    go_wp2_with fail
    refine (rside_is c 1 _ HS.out).mono ?_
    rintro e w1 ⟨rfl, rfl⟩
    go_wp2_with fail
    refine (rfile_is n f _ HF.out).mono ?_
    rintro e w1 ⟨rfl, rfl⟩
    go_wp2_with fail
    refine (rrank_is n r _ HR.out).mono ?_
    rintro e w1 ⟨rfl, rfl⟩
    go_wp2_with fail
    refine (rkind14_is c 30 _ HV.out).mono ?_
    rintro e w1 ⟨rfl, rfl⟩
    go_wp2_with fail
    refine (rkind_is c 80 _ HK.out).mono ?_
    rintro e w1 ⟨rfl, rfl⟩
    go_wp2_with fail
    refine (rover_is n 1 false _ HO.out).mono ?_
    rintro e w1 ⟨rfl, rfl⟩
    go_wp2_with fail
    go_ret
    exact ⟨by rw [KP.out]; rfl, rfl⟩
  · have HO := Lib.hid ho
    rcases (show (3 ≤ f ∧ f ≤ 5) ∨ f < 3 ∨ 5 < f by omega) with hc | hc | hc
    · have e3 : decide (3 ≤ f) = true := by simpa using hc.1
      have e5 : decide (f ≤ 5) = true := by simpa using hc.2
      have KP : Hid (pieceV c n = 80) := by show _ = _; rw [hp, hkv, moreV, hk, hs, ho, if_pos rfl, if_pos rfl]; rw [← hf, file_mod hn] at hc; rw [if_pos (by omega)]; rfl
      clear hk hs hn hf hr hp hkv ho hc
      go_enter Tryz.func62, Tryz.ntmps62
      go_wp2_with fail
      refine (rside_is c 1 _ HS.out).mono ?_
      rintro e w1 ⟨rfl, rfl⟩
      go_wp2_with fail
      refine (rfile_is n f _ HF.out).mono ?_
      rintro e w1 ⟨rfl, rfl⟩
      go_wp2_with fail
      refine (rrank_is n r _ HR.out).mono ?_
      rintro e w1 ⟨rfl, rfl⟩
      go_wp2_with fail
      refine (rkind14_is c 30 _ HV.out).mono ?_
      rintro e w1 ⟨rfl, rfl⟩
      go_wp2_with fail
      refine (rkind_is c 80 _ HK.out).mono ?_
      rintro e w1 ⟨rfl, rfl⟩
      go_wp2_with fail
      refine (rover_is n 1 true _ HO.out).mono ?_
      rintro e w1 ⟨rfl, rfl⟩
      go_wp2_with fail
      go_ret
      exact ⟨by rw [KP.out]; rfl, rfl⟩
    · have e3 : decide (3 ≤ f) = false := by simp; omega
      have KP : Hid (pieceV c n = 70) := by show _ = _; rw [hp, hkv, moreV, hk, hs, ho, if_pos rfl, if_pos rfl]; rw [← hf, file_mod hn] at hc; rw [if_neg (by omega)]; rfl
      clear hk hs hn hf hr hp hkv ho hc
      go_enter Tryz.func62, Tryz.ntmps62
      go_wp2_with fail
      refine (rside_is c 1 _ HS.out).mono ?_
      rintro e w1 ⟨rfl, rfl⟩
      go_wp2_with fail
      refine (rfile_is n f _ HF.out).mono ?_
      rintro e w1 ⟨rfl, rfl⟩
      go_wp2_with fail
      refine (rrank_is n r _ HR.out).mono ?_
      rintro e w1 ⟨rfl, rfl⟩
      go_wp2_with fail
      refine (rkind14_is c 30 _ HV.out).mono ?_
      rintro e w1 ⟨rfl, rfl⟩
      go_wp2_with fail
      refine (rkind_is c 80 _ HK.out).mono ?_
      rintro e w1 ⟨rfl, rfl⟩
      go_wp2_with fail
      refine (rover_is n 1 true _ HO.out).mono ?_
      rintro e w1 ⟨rfl, rfl⟩
      go_wp2_with fail
      go_ret
      exact ⟨by rw [KP.out]; rfl, rfl⟩
    · have e3 : decide (3 ≤ f) = true := by simp; omega
      have e5 : decide (f ≤ 5) = false := by simp; omega
      have KP : Hid (pieceV c n = 70) := by show _ = _; rw [hp, hkv, moreV, hk, hs, ho, if_pos rfl, if_pos rfl]; rw [← hf, file_mod hn] at hc; rw [if_neg (by omega)]; rfl
      clear hk hs hn hf hr hp hkv ho hc
      go_enter Tryz.func62, Tryz.ntmps62
      go_wp2_with fail
      refine (rside_is c 1 _ HS.out).mono ?_
      rintro e w1 ⟨rfl, rfl⟩
      go_wp2_with fail
      refine (rfile_is n f _ HF.out).mono ?_
      rintro e w1 ⟨rfl, rfl⟩
      go_wp2_with fail
      refine (rrank_is n r _ HR.out).mono ?_
      rintro e w1 ⟨rfl, rfl⟩
      go_wp2_with fail
      refine (rkind14_is c 30 _ HV.out).mono ?_
      rintro e w1 ⟨rfl, rfl⟩
      go_wp2_with fail
      refine (rkind_is c 80 _ HK.out).mono ?_
      rintro e w1 ⟨rfl, rfl⟩
      go_wp2_with fail
      refine (rover_is n 1 true _ HO.out).mono ?_
      rintro e w1 ⟨rfl, rfl⟩
      go_wp2_with fail
      go_ret
      exact ⟨by rw [KP.out]; rfl, rfl⟩
theorem rpiece14_any (c : Nat) (n : Int) (w : World) : Calls Tryz.prog 62 #[.int .u8 (c : Int), .int .i64 n] w (Says w (.int .i64 (pieceV c n))) := by
  by_cases hs : sideN c < 0
  · rw [piece_empty hs]; exact rpiece_side c n w hs
  · by_cases hn : 0 ≤ n ∧ n < 90
    · rcases side_lt hs with e | e
      · rcases side_kind (c := c) (by omega) with h | h | h | h | h | h | h
        · exact rpiece_75_0 c n _ _ w h e hn rfl rfl
        · exact rpiece_65_0 c n _ _ w h e hn rfl rfl
        · exact rpiece_66_0 c n _ _ w h e hn rfl rfl
        · exact rpiece_78_0 c n _ _ w h e hn rfl rfl
        · exact rpiece_82_0 c n _ _ w h e hn rfl rfl
        · exact rpiece_67_0 c n _ _ w h e hn rfl rfl
        · exact rpiece_80_0 c n _ _ w h e hn rfl rfl
      · rcases side_kind (c := c) (by omega) with h | h | h | h | h | h | h
        · exact rpiece_75_1 c n _ _ w h e hn rfl rfl
        · exact rpiece_65_1 c n _ _ w h e hn rfl rfl
        · exact rpiece_66_1 c n _ _ w h e hn rfl rfl
        · exact rpiece_78_1 c n _ _ w h e hn rfl rfl
        · exact rpiece_82_1 c n _ _ w h e hn rfl rfl
        · exact rpiece_67_1 c n _ _ w h e hn rfl rfl
        · exact rpiece_80_1 c n _ _ w h e hn rfl rfl
    · rw [piece_off hn]; exact rpiece_off c n w hs hn
theorem rpiece14_is (c : Nat) (n v : Int) (w : World) (h : pieceV c n = v) : Calls Tryz.prog 62 #[.int .u8 (c : Int), .int .i64 n] w (Says w (.int .i64 v)) := by subst h; exact rpiece14_any c n w
theorem vsum_bd {f : Nat → Int} (h : ∀ k, -250 ≤ f k ∧ f k ≤ 250) : ∀ n : Nat, -250 * (n : Int) ≤ vsum f n ∧ vsum f n ≤ 250 * (n : Int)
  | 0 => by simp [vsum]
  | n + 1 => by
    have h1 := vsum_bd h n
    have h2 := h n
    rw [vsum]
    omega
theorem term_bd (s : ByteArray) (side : Int) (k : Nat) : -250 ≤ termV s side k ∧ termV s side k ≤ 250 := by
  have h := piece_bd (bAt s k) (k : Int)
  unfold termV
  split <;> omega
set_option maxRecDepth 100000 in
set_option maxHeartbeats 4000000 in
theorem rof14_any (s : ByteArray) (side clock full : Int) (w : World) : Calls Tryz.prog 61 #[.agg #[.string s, .int .i64 side, .int .i64 clock, .int .i64 full]] w (Gives w (.int .i64 (ofV s side))) := by
  unfold Gives
  obtain ⟨W0, hW0⟩ : ∃ W0, w.alloc (.cells #[.string s, .int .i64 side, .int .i64 clock, .int .i64 full] 23) = W0 := ⟨_, rfl⟩
  have hB : Below w.heap.size w W0 := by rw [← hW0]; exact (by repeat (first | exact Below.refl _ _ | (refine Below.setCell ?_ (by first | omega | (simp; done) | (simp; omega) | (simp at *; omega)) _) | (refine Below.alloc ?_ (by first | omega | (simp; done) | (simp; omega) | (simp at *; omega)) _) | refine Below.drew ?_ | (refine below_drewN ?_ _) | (refine Below.trans ?_ (Below.mono (by assumption) (by first | omega | (simp; done) | (simp; omega) | (simp at *; omega))))))
  have bP : Blk W0 w.heap.size 23 #[.string s, .int .i64 side, .int .i64 clock, .int .i64 full] := by rw [← hW0]; exact Blk.new _ _ _ rfl
  have HW := Lib.hid hW0
  clear hW0
  obtain ⟨p0, p1, p2, p3⟩ := vpos_cells bP
  cases hs : isB s
  · have HR : Hid (ofV s side = 0) := by show _ = _; unfold ofV; rw [hs]; rfl
    have HS : Hid (∀ W, Calls Tryz.prog 99 #[.string s] W fun e w' => e = .returned (.bool false) ∧ W = w') := fun W => by have := ris_any s W; rw [hs] at this; exact this
    clear hs
    go_enter Tryz.func61, Tryz.ntmps61
    go_wp2_with fail
    rw [HW.out]
    refine (HS.out _).mono ?_
    rintro e w1 ⟨rfl, rfl⟩
    go_wp2
    go_ret
    exact ⟨by rw [HR.out]; rfl, hB⟩
  · have HZ : Hid (s.size = 90) := isB_size hs
    have HR : Hid (ofV s side = vsum (termV s side) 90) := by show _ = _; unfold ofV; rw [hs, if_pos rfl]
    have HS : Hid (∀ W, Calls Tryz.prog 99 #[.string s] W fun e w' => e = .returned (.bool true) ∧ W = w') := fun W => by have := ris_any s W; rw [hs] at this; exact this
    clear hs
    go_enter Tryz.func61, Tryz.ntmps61
    go_wp2_with fail
    rw [HW.out]
    refine (HS.out _).mono ?_
    rintro e w1 ⟨rfl, rfl⟩
    go_wp2_with fail
    clear p0 p1 p2 p3
    go_loopw [3, 4] (fun x i wr => ∃ k : Nat, k ≤ 90 ∧ x = .int .i64 (vsum (termV s side) k) ∧ i = .int .i64 k ∧ Below W0.heap.size W0 wr) (fun _ i _ => 90 - (intOf i).toNat)
    case atStart => exact ⟨0, by omega, rfl, rfl, Below.refl _ _⟩
    case round =>
      obtain ⟨k, hk, rfl, rfl, hR⟩ := hrel
      obtain ⟨p0, p1, p2, p3⟩ := vpos_cells (bP.next hR)
      have hxb := vsum_bd (term_bd s side) k
      obtain ⟨x, hx⟩ : ∃ x, vsum (termV s side) k = x := ⟨_, rfl⟩
      rw [hx] at hxb
      have x0 : -22500 ≤ x := by omega
      have x1 : x ≤ 22500 := by omega
      simp only [hx]
      by_cases hlt : k < 90
      · obtain ⟨c, hc⟩ : ∃ c, bAt s k = c := ⟨_, rfl⟩
        obtain ⟨sd, hsd⟩ : ∃ sd, sideN c = sd := ⟨_, rfl⟩
        obtain ⟨v, hv⟩ : ∃ v, pieceV c (k : Int) = v := ⟨_, rfl⟩
        have hvb := piece_bd c (k : Int)
        rw [hv] at hvb
        obtain ⟨v0, v1⟩ := hvb
        have hnx : vsum (termV s side) (k + 1) = if (sd == 0) = (side == 0) then x + v else x - v := by
          rw [vsum, hx]
          unfold termV
          rw [hc, hsd, hv]
          split <;> omega
        have hks : k < s.size := by rw [HZ.out]; exact hlt
        have hbk : s[k].toNat = c := (bAt_eq s k hks).trans hc
        have b0 : (0 : Int) ≤ (k : Int) := Int.natCast_nonneg k
        have b1 : (k : Int) < (s.size : Int) := Int.ofNat_lt.2 hks
        have b2 : (k : Int) < 90 := by omega
        have HN := Lib.hid hnx
        have HV := Lib.hid hv
        have HSD := Lib.hid hsd
        clear hnx hv hsd hc hx hxb
        cases e1 : (sd == 0) <;> cases e2 : (side == 0)
        all_goals
          have HC := Lib.hid (And.intro e1 e2)
          have hS : wr.drew.cell? ⟨w.heap.size, 0, none⟩ = some (.string s) ∧ wr.drew.cell? ⟨w.heap.size, 1, none⟩ = some (.int .i64 side) ∧ Below W0.heap.size W0 wr.drew := ⟨p0, p1, hR.drew⟩
          go_wp2_with fail
          clear p0 p1 p2 p3 hR
          go_region_held3 (fun W => W.cell? ⟨w.heap.size, 0, none⟩ = some (.string s) ∧ W.cell? ⟨w.heap.size, 1, none⟩ = some (.int .i64 side) ∧ Below W0.heap.size W0 W)
            (first | exact hS | with_reducible assumption)
            (first | (go_at_call 100; refine (rside_is c sd _ HSD.out).mono ?_; rintro e w3 ⟨rfl, rfl⟩))
          all_goals go_wp2_with fail
          all_goals
            refine (rpiece14_is c (k : Int) v _ HV.out).mono ?_
            rintro e w3 ⟨rfl, rfl⟩
            go_wp2
            go_roundw
            case rel => exact ⟨k + 1, by omega, by rw [HN.out, HC.out.1, HC.out.2]; rfl, by go_num, vs_below (w := W0) (by assumption)⟩
            case measure => simp [intOf]; omega
      · obtain rfl : k = 90 := by omega
        have HX := Lib.hid hx
        clear hx hxb
        go_wp2
        go_ret
        exact ⟨by rw [HR.out, HX.out]; rfl, hB.trans (hR.mono hB.size)⟩
theorem rof14_is (s : ByteArray) (side clock full v : Int) (w : World) (h : ofV s side = v) : Calls Tryz.prog 61 #[.agg #[.string s, .int .i64 side, .int .i64 clock, .int .i64 full]] w (Gives w (.int .i64 v)) := by subst h; exact rof14_any s side clock full w
end Go.Proofs.YtbdgbihdhbjljaaGreatDoor
