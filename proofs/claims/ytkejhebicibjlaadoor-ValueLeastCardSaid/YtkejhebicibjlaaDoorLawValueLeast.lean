/- A piece is worth no less than its kind, and no more than 50 above it; a general nothing: the call answers true. -/
import Derived.Test.YtkejhebicibjlaaDoorValueL
namespace Go.Proofs.YtkejhebicibjlaaDoor.vleast
open Go.RowKit Go.Shelf
open M (S)

set_option maxRecDepth 100000 in
set_option maxHeartbeats 4000000 in
theorem none (c : Nat) (n : Int) (w : World) (hT : Tab w) (h : sideN c < 0 ∨ n < 0 ∨ 89 < n) : Calls Tryd.prog 8 #[.int .u8 (c : Int), .int .i64 n] w (Gives w (.bool true)) := by
  unfold Gives
  obtain ⟨k, hk⟩ : ∃ k, kindV c = k := ⟨_, rfl⟩
  obtain ⟨sd, hsd⟩ : ∃ sd, sideN c = sd := ⟨_, rfl⟩
  have hv : pieceV c n = 0 := by unfold pieceV; rw [if_pos h]
  rw [hsd] at h
  have HK := Lib.hid hk
  have HV := Lib.hid hv
  have HS := Lib.hid hsd
  clear hk hv hsd
  have hc : (decide (sd < 0) = true) ∨ (decide (sd < 0) = false ∧ decide (n < 0) = true) ∨ (decide (sd < 0) = false ∧ decide (n < 0) = false ∧ decide (89 < n) = true) := by
    simp only [decide_eq_true_eq, decide_eq_false_iff_not]
    omega
  clear h
  rcases hc with d0 | ⟨d0, d1⟩ | ⟨d0, d1, d2⟩
  all_goals
    go_enter Tryd.func8, Tryd.ntmps8
    go_wp2_with fail
    refine (vpiece_is c n 0 _ HV.out).mono ?_
    rintro e w2 ⟨rfl, hb⟩
    have hT2 := hT.next hb
    go_wp2_with fail
    refine (vkind_is c k _ HK.out).mono ?_
    rintro e w1 ⟨rfl, rfl⟩
    go_wp2_with fail
    refine (side_is c sd _ HS.out).mono ?_
    rintro e w1 ⟨rfl, rfl⟩
    go_wp2_with fail
    refine (live14_any _ hT2).mono ?_
    rintro e w4 ⟨rfl, hb4⟩
    go_wp2
    go_ret
    exact ⟨rfl, hb.trans (hb4.mono hb.size)⟩
set_option maxRecDepth 100000 in
set_option maxHeartbeats 4000000 in
theorem some_ (c : Nat) (n : Int) (w : World) (hT : Tab w) (h : ¬ sideN c < 0) (hn : 0 ≤ n ∧ n < 90) : Calls Tryd.prog 8 #[.int .u8 (c : Int), .int .i64 n] w (Gives w (.bool true)) := by
  unfold Gives
  obtain ⟨k, hk⟩ : ∃ k, kindV c = k := ⟨_, rfl⟩
  obtain ⟨sd, hsd⟩ : ∃ sd, sideN c = sd := ⟨_, rfl⟩
  obtain ⟨v, hv⟩ : ∃ v, pieceV c n = v := ⟨_, rfl⟩
  obtain ⟨q, hq⟩ : ∃ q, kindN c = q := ⟨_, rfl⟩
  have hp := piece_on hn h
  have hkb := kindV_bd c
  have hmb := more_bd c hn
  have hking : q = 75 → v = 0 := fun e => by
    rw [← hv, hp]
    have : kindN c = 75 := hq.trans e
    unfold kindV moreV
    rw [this]
    rfl
  rw [hk] at hkb hp
  rw [hv] at hp
  have v0 : k ≤ v := by omega
  have v1 : v ≤ k + 50 := by omega
  have k0 : 0 ≤ k := hkb.1
  have k1 : k ≤ 200 := hkb.2
  have d0 : decide (sd < 0) = false := by rw [← hsd]; simpa using h
  have d1 : decide (n < 0) = false := by simp; omega
  have d2 : decide (89 < n) = false := by simp; omega
  have HK := Lib.hid hk
  have HV := Lib.hid hv
  have HS := Lib.hid hsd
  have HQ := Lib.hid hq
  have hc : q = 75 ∧ v = 0 ∨ ¬ (q : Int) = 75 := by
    by_cases e : q = 75
    · left; exact ⟨e, hking e⟩
    · right; omega
  clear hk hsd hv hq hp hkb hmb hking h hn
  rcases hc with ⟨rfl, rfl⟩ | e1
  all_goals
    go_enter Tryd.func8, Tryd.ntmps8
    go_wp2_with fail
    refine (vpiece_is c n _ _ HV.out).mono ?_
    rintro e w2 ⟨rfl, hb⟩
    have hT2 := hT.next hb
    go_wp2_with fail
    refine (vkind_is c k _ HK.out).mono ?_
    rintro e w1 ⟨rfl, rfl⟩
    go_wp2_with fail
    refine (side_is c sd _ HS.out).mono ?_
    rintro e w1 ⟨rfl, rfl⟩
    go_wp2_with fail
    refine (kind_is c _ _ HQ.out).mono ?_
    rintro e w1 ⟨rfl, rfl⟩
    go_wp2_with fail
    refine (live14_any _ hT2).mono ?_
    rintro e w4 ⟨rfl, hb4⟩
    go_wp2
    go_ret
    exact ⟨rfl, hb.trans (hb4.mono hb.size)⟩
theorem walk (c : Nat) (n : Int) (w : World) (hT : Tab w) : Calls Tryd.prog 8 #[.int .u8 (c : Int), .int .i64 n] w (Gives w (.bool true)) := by
  by_cases h : sideN c < 0
  · exact none c n w hT (.inl h)
  · by_cases hn : 0 ≤ n ∧ n < 90
    · exact some_ c n w hT h hn
    · exact none c n w hT (.inr (by omega))
end Go.Proofs.YtkejhebicibjlaaDoor.vleast
