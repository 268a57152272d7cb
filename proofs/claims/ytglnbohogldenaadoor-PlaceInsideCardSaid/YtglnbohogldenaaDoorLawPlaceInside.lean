/- A general, an advisor, and an elephant stay on their side of the river; an advisor in the palace: the call answers true. -/
import Derived.Test.YtglnbohogldenaaDoorLive3
namespace Go.Proofs.YtglnbohogldenaaDoor.inside
open Go.RowKit Go.Shelf
open M (S)

theorem home_facts {c : Nat} {n : Int} (h : mayB c n = true) : realB n (sideN c) = true ∧ (kindN c = 75 ∨ kindN c = 65 → palaceB n (sideN c) = true ∧ overB n (sideN c) = false) ∧ (kindN c = 66 → overB n (sideN c) = false) := by
  rw [mayB, Bool.and_eq_true] at h
  obtain ⟨hr, hk⟩ := h
  have key : inP (seenF n (sideN c)) (seenR n (sideN c)) = true → palaceB n (sideN c) = true ∧ overB n (sideN c) = false := fun hp => by
    rw [palaceB, overB, hr, hp]
    refine ⟨rfl, ?_⟩
    simp only [inP, Bool.and_eq_true, decide_eq_true_eq] at hp
    simp
    omega
  refine ⟨hr, fun h => ?_, fun h => ?_⟩
  · rcases h with h | h
    · rw [h] at hk
      exact key hk
    · rw [h] at hk
      replace hk : advP (seenF n (sideN c)) (seenR n (sideN c)) = true := hk
      rw [advP, Bool.and_eq_true] at hk
      exact key hk.1
  · rw [h] at hk
    replace hk : eleP (seenF n (sideN c)) (seenR n (sideN c)) = true := hk
    rw [overB, hr]
    have : seenR n (sideN c) = 0 ∨ seenR n (sideN c) = 4 ∨ seenR n (sideN c) = 2 := by
      unfold eleP at hk
      split at hk
      · omega
      · split at hk
        · omega
        · cases hk
    simp
    omega
set_option maxRecDepth 100000 in
set_option maxHeartbeats 8000000 in
theorem none (c : Nat) (n : Int) (w : World) (hT : Tab w) (s : Int) (k : Nat) (Hs : Hid (sideN c = s)) (Hk : Hid (kindN c = k)) (B : Hid (mayB c n = false)) :
    Calls Tryd.prog 6 #[.int .u8 (c : Int), .int .i64 n] w (Gives w (.bool true)) := by
  unfold Gives
  go_enter Tryd.func6, Tryd.ntmps6
  go_wp2_with fail
  refine (rside_is c s _ Hs.out).mono ?_
  rintro e w1' ⟨rfl, rfl⟩
  go_wp2_with fail
  refine (rkind_is c k _ Hk.out).mono ?_
  rintro e w2' ⟨rfl, rfl⟩
  go_wp2_with fail
  refine (may_is c n false _ B.out).mono ?_
  rintro e w3 ⟨rfl, hb⟩
  replace hT := hT.next hb
  have hB := hb
  clear hb
  go_wp2_with fail
  refine (live3_any _ hT).mono ?_
  rintro e w4 ⟨rfl, hb⟩
  replace hT := hT.next hb
  replace hB := hB.trans (hb.mono hB.size)
  clear hb
  go_wp2
  go_ret
  exact ⟨rfl, hB⟩
set_option maxRecDepth 100000 in
set_option maxHeartbeats 8000000 in
theorem some75 (c : Nat) (n : Int) (w : World) (hT : Tab w) (s : Int) (Hs : Hid (sideN c = s)) (Hk : Hid (kindN c = 75)) (B : Hid (mayB c n = true)) (h0 : 0 ≤ n) (h1 : n ≤ 89) (h2 : 0 ≤ s) (O : Hid (overB n s = false)) (P : Hid (palaceB n s = true)) :
    Calls Tryd.prog 6 #[.int .u8 (c : Int), .int .i64 n] w (Gives w (.bool true)) := by
  unfold Gives
  go_enter Tryd.func6, Tryd.ntmps6
  go_wp2_with fail
  refine (rside_is c s _ Hs.out).mono ?_
  rintro e w1' ⟨rfl, rfl⟩
  go_wp2_with fail
  refine (rkind_is c 75 _ Hk.out).mono ?_
  rintro e w2' ⟨rfl, rfl⟩
  go_wp2_with fail
  refine (may_is c n true _ B.out).mono ?_
  rintro e w3 ⟨rfl, hb⟩
  replace hT := hT.next hb
  have hB := hb
  clear hb
  go_wp2_with fail
  refine (over_is n s false _ O.out).mono ?_
  rintro e w4 ⟨rfl, hb⟩
  replace hT := hT.next hb
  replace hB := hB.trans (hb.mono hB.size)
  clear hb
  go_wp2_with fail
  refine (palace_is n s true _ P.out).mono ?_
  rintro e w5 ⟨rfl, hb⟩
  replace hT := hT.next hb
  replace hB := hB.trans (hb.mono hB.size)
  clear hb
  go_wp2_with fail
  refine (live3_any _ hT).mono ?_
  rintro e w6 ⟨rfl, hb⟩
  replace hT := hT.next hb
  replace hB := hB.trans (hb.mono hB.size)
  clear hb
  go_wp2
  go_ret
  exact ⟨rfl, hB⟩
set_option maxRecDepth 100000 in
set_option maxHeartbeats 8000000 in
theorem some65 (c : Nat) (n : Int) (w : World) (hT : Tab w) (s : Int) (Hs : Hid (sideN c = s)) (Hk : Hid (kindN c = 65)) (B : Hid (mayB c n = true)) (h0 : 0 ≤ n) (h1 : n ≤ 89) (h2 : 0 ≤ s) (O : Hid (overB n s = false)) (P : Hid (palaceB n s = true)) :
    Calls Tryd.prog 6 #[.int .u8 (c : Int), .int .i64 n] w (Gives w (.bool true)) := by
  unfold Gives
  go_enter Tryd.func6, Tryd.ntmps6
  go_wp2_with fail
  refine (rside_is c s _ Hs.out).mono ?_
  rintro e w1' ⟨rfl, rfl⟩
  go_wp2_with fail
  refine (rkind_is c 65 _ Hk.out).mono ?_
  rintro e w2' ⟨rfl, rfl⟩
  go_wp2_with fail
  refine (may_is c n true _ B.out).mono ?_
  rintro e w3 ⟨rfl, hb⟩
  replace hT := hT.next hb
  have hB := hb
  clear hb
  go_wp2_with fail
  refine (over_is n s false _ O.out).mono ?_
  rintro e w4 ⟨rfl, hb⟩
  replace hT := hT.next hb
  replace hB := hB.trans (hb.mono hB.size)
  clear hb
  go_wp2_with fail
  refine (palace_is n s true _ P.out).mono ?_
  rintro e w5 ⟨rfl, hb⟩
  replace hT := hT.next hb
  replace hB := hB.trans (hb.mono hB.size)
  clear hb
  go_wp2_with fail
  refine (live3_any _ hT).mono ?_
  rintro e w6 ⟨rfl, hb⟩
  replace hT := hT.next hb
  replace hB := hB.trans (hb.mono hB.size)
  clear hb
  go_wp2
  go_ret
  exact ⟨rfl, hB⟩
set_option maxRecDepth 100000 in
set_option maxHeartbeats 8000000 in
theorem some66 (c : Nat) (n : Int) (w : World) (hT : Tab w) (s : Int) (Hs : Hid (sideN c = s)) (Hk : Hid (kindN c = 66)) (B : Hid (mayB c n = true)) (h0 : 0 ≤ n) (h1 : n ≤ 89) (h2 : 0 ≤ s) (O : Hid (overB n s = false)) :
    Calls Tryd.prog 6 #[.int .u8 (c : Int), .int .i64 n] w (Gives w (.bool true)) := by
  unfold Gives
  go_enter Tryd.func6, Tryd.ntmps6
  go_wp2_with fail
  refine (rside_is c s _ Hs.out).mono ?_
  rintro e w1' ⟨rfl, rfl⟩
  go_wp2_with fail
  refine (rkind_is c 66 _ Hk.out).mono ?_
  rintro e w2' ⟨rfl, rfl⟩
  go_wp2_with fail
  refine (may_is c n true _ B.out).mono ?_
  rintro e w3 ⟨rfl, hb⟩
  replace hT := hT.next hb
  have hB := hb
  clear hb
  go_wp2_with fail
  refine (over_is n s false _ O.out).mono ?_
  rintro e w4 ⟨rfl, hb⟩
  replace hT := hT.next hb
  replace hB := hB.trans (hb.mono hB.size)
  clear hb
  go_wp2_with fail
  refine (live3_any _ hT).mono ?_
  rintro e w5 ⟨rfl, hb⟩
  replace hT := hT.next hb
  replace hB := hB.trans (hb.mono hB.size)
  clear hb
  go_wp2
  go_ret
  exact ⟨rfl, hB⟩
set_option maxRecDepth 100000 in
set_option maxHeartbeats 8000000 in
theorem some78 (c : Nat) (n : Int) (w : World) (hT : Tab w) (s : Int) (Hs : Hid (sideN c = s)) (Hk : Hid (kindN c = 78)) (B : Hid (mayB c n = true)) (h0 : 0 ≤ n) (h1 : n ≤ 89) (h2 : 0 ≤ s) :
    Calls Tryd.prog 6 #[.int .u8 (c : Int), .int .i64 n] w (Gives w (.bool true)) := by
  unfold Gives
  go_enter Tryd.func6, Tryd.ntmps6
  go_wp2_with fail
  refine (rside_is c s _ Hs.out).mono ?_
  rintro e w1' ⟨rfl, rfl⟩
  go_wp2_with fail
  refine (rkind_is c 78 _ Hk.out).mono ?_
  rintro e w2' ⟨rfl, rfl⟩
  go_wp2_with fail
  refine (may_is c n true _ B.out).mono ?_
  rintro e w3 ⟨rfl, hb⟩
  replace hT := hT.next hb
  have hB := hb
  clear hb
  go_wp2_with fail
  refine (live3_any _ hT).mono ?_
  rintro e w4 ⟨rfl, hb⟩
  replace hT := hT.next hb
  replace hB := hB.trans (hb.mono hB.size)
  clear hb
  go_wp2
  go_ret
  exact ⟨rfl, hB⟩
set_option maxRecDepth 100000 in
set_option maxHeartbeats 8000000 in
theorem some82 (c : Nat) (n : Int) (w : World) (hT : Tab w) (s : Int) (Hs : Hid (sideN c = s)) (Hk : Hid (kindN c = 82)) (B : Hid (mayB c n = true)) (h0 : 0 ≤ n) (h1 : n ≤ 89) (h2 : 0 ≤ s) :
    Calls Tryd.prog 6 #[.int .u8 (c : Int), .int .i64 n] w (Gives w (.bool true)) := by
  unfold Gives
  go_enter Tryd.func6, Tryd.ntmps6
  go_wp2_with fail
  refine (rside_is c s _ Hs.out).mono ?_
  rintro e w1' ⟨rfl, rfl⟩
  go_wp2_with fail
  refine (rkind_is c 82 _ Hk.out).mono ?_
  rintro e w2' ⟨rfl, rfl⟩
  go_wp2_with fail
  refine (may_is c n true _ B.out).mono ?_
  rintro e w3 ⟨rfl, hb⟩
  replace hT := hT.next hb
  have hB := hb
  clear hb
  go_wp2_with fail
  refine (live3_any _ hT).mono ?_
  rintro e w4 ⟨rfl, hb⟩
  replace hT := hT.next hb
  replace hB := hB.trans (hb.mono hB.size)
  clear hb
  go_wp2
  go_ret
  exact ⟨rfl, hB⟩
set_option maxRecDepth 100000 in
set_option maxHeartbeats 8000000 in
theorem some67 (c : Nat) (n : Int) (w : World) (hT : Tab w) (s : Int) (Hs : Hid (sideN c = s)) (Hk : Hid (kindN c = 67)) (B : Hid (mayB c n = true)) (h0 : 0 ≤ n) (h1 : n ≤ 89) (h2 : 0 ≤ s) :
    Calls Tryd.prog 6 #[.int .u8 (c : Int), .int .i64 n] w (Gives w (.bool true)) := by
  unfold Gives
  go_enter Tryd.func6, Tryd.ntmps6
  go_wp2_with fail
  refine (rside_is c s _ Hs.out).mono ?_
  rintro e w1' ⟨rfl, rfl⟩
  go_wp2_with fail
  refine (rkind_is c 67 _ Hk.out).mono ?_
  rintro e w2' ⟨rfl, rfl⟩
  go_wp2_with fail
  refine (may_is c n true _ B.out).mono ?_
  rintro e w3 ⟨rfl, hb⟩
  replace hT := hT.next hb
  have hB := hb
  clear hb
  go_wp2_with fail
  refine (live3_any _ hT).mono ?_
  rintro e w4 ⟨rfl, hb⟩
  replace hT := hT.next hb
  replace hB := hB.trans (hb.mono hB.size)
  clear hb
  go_wp2
  go_ret
  exact ⟨rfl, hB⟩
set_option maxRecDepth 100000 in
set_option maxHeartbeats 8000000 in
theorem some80 (c : Nat) (n : Int) (w : World) (hT : Tab w) (s : Int) (Hs : Hid (sideN c = s)) (Hk : Hid (kindN c = 80)) (B : Hid (mayB c n = true)) (h0 : 0 ≤ n) (h1 : n ≤ 89) (h2 : 0 ≤ s) :
    Calls Tryd.prog 6 #[.int .u8 (c : Int), .int .i64 n] w (Gives w (.bool true)) := by
  unfold Gives
  go_enter Tryd.func6, Tryd.ntmps6
  go_wp2_with fail
  refine (rside_is c s _ Hs.out).mono ?_
  rintro e w1' ⟨rfl, rfl⟩
  go_wp2_with fail
  refine (rkind_is c 80 _ Hk.out).mono ?_
  rintro e w2' ⟨rfl, rfl⟩
  go_wp2_with fail
  refine (may_is c n true _ B.out).mono ?_
  rintro e w3 ⟨rfl, hb⟩
  replace hT := hT.next hb
  have hB := hb
  clear hb
  go_wp2_with fail
  refine (live3_any _ hT).mono ?_
  rintro e w4 ⟨rfl, hb⟩
  replace hT := hT.next hb
  replace hB := hB.trans (hb.mono hB.size)
  clear hb
  go_wp2
  go_ret
  exact ⟨rfl, hB⟩
theorem walk (c : Nat) (n : Int) (w : World) (hT : Tab w) : Calls Tryd.prog 6 #[.int .u8 (c : Int), .int .i64 n] w (Gives w (.bool true)) := by
  cases h : mayB c n
  · exact none c n w hT _ _ rfl rfl h
  · obtain ⟨hr, h1, h2⟩ := home_facts h
    obtain ⟨hn, hs⟩ := real_parts hr
    have h0 : 0 ≤ sideN c := by omega
    rcases side_kind h0 with hk | hk | hk | hk | hk | hk | hk
    · exact some75 c n w hT _ rfl hk h (by omega) (by omega) h0 (h1 (.inl hk)).2 (h1 (.inl hk)).1
    · exact some65 c n w hT _ rfl hk h (by omega) (by omega) h0 (h1 (.inr hk)).2 (h1 (.inr hk)).1
    · exact some66 c n w hT _ rfl hk h (by omega) (by omega) h0 (h2 hk)
    · exact some78 c n w hT _ rfl hk h (by omega) (by omega) h0
    · exact some82 c n w hT _ rfl hk h (by omega) (by omega) h0
    · exact some67 c n w hT _ rfl hk h (by omega) (by omega) h0
    · exact some80 c n w hT _ rfl hk h (by omega) (by omega) h0
end Go.Proofs.YtglnbohogldenaaDoor.inside
