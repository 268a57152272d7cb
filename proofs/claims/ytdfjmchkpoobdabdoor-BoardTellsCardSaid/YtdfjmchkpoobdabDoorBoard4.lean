/- What the document's plain answers of layer 2 come to. -/
import Derived.Test.YtdfjmchkpoobdabDoorBoard3
namespace Go.Proofs.YtdfjmchkpoobdabDoor
open Go.RowKit Go.Shelf
open M (S)

theorem fill_side (c : Nat) : fillB c = (c == 46 || decide (0 ≤ sideN c)) := by
  unfold fillB sideN
  cases isRed c <;> cases isBlack c <;> simp
theorem sideN_ge (c : Nat) : -1 ≤ sideN c ∧ sideN c ≤ 1 := by
  unfold sideN
  split
  · omega
  · split <;> omega

set_option maxHeartbeats 1000000 in
theorem ris_any (s : ByteArray) (w : World) : Calls Tryd.prog 13 #[.string s] w fun e w' => e = .returned (.bool (isB s)) ∧ w = w' := by
  by_cases hs : s.size = 90
  · have h1 : ((s.size : Int) != 90) = false := by rw [hs]; rfl
    have h90 : 90 ≤ s.size := by omega
    have hall : ∀ k, k ≤ 90 → (∀ j, j < k → fillB (bAt s j) = true) → k = 90 → isB s = true := fun k _ h e => by
      subst e
      simp only [isB, Bool.and_eq_true, decide_eq_true_eq, List.all_eq_true]
      exact ⟨hs, fun j hj => h j (List.mem_range.1 hj)⟩
    have Hall := Lib.hid hall
    clear hs hall
    go_enter Tryd.func13, Tryd.ntmps13
    go_wp2_with fail
    go_loop [3] (fun i => ∃ k : Nat, k ≤ 90 ∧ i = .int .i64 k ∧ ∀ j, j < k → fillB (bAt s j) = true) (fun i => 90 - (intOf i).toNat)
    case atStart => exact ⟨0, by omega, rfl, fun j hj => by omega⟩
    case round =>
      obtain ⟨k, hk, rfl, hf⟩ := hrel
      have Hf := Lib.hid hf
      clear hf
      by_cases hlt : k < 90
      · have hks : k < s.size := by omega
        obtain ⟨x, hx⟩ : ∃ x, bAt s k = x := ⟨_, rfl⟩
        have hbk : s[k].toNat = x := (bAt_eq s k hks).trans hx
        have Hx := Lib.hid hx
        clear hx
        have step : fillB x = true → ∀ j, j < k + 1 → fillB (bAt s j) = true := fun h j hj => by
          rcases Nat.lt_or_ge j k with h' | h'
          · exact Hf.out j h'
          · rw [show j = k by omega, Hx.out]; exact h
        by_cases h46 : x = 46
        · have e0 : ((x : Int) != 46) = false := by rw [h46]; rfl
          have K := Lib.hid (step (by rw [h46]; rfl))
          clear step h46
          go_wp2
          go_round
          case rel => exact ⟨k + 1, by omega, by go_num, K.out⟩
          case measure => simp [intOf]; omega
        · have e0 : ((x : Int) != 46) = true := by rw [bne_iff_ne]; omega
          by_cases hsd : 0 ≤ sideN x
          · have K := Lib.hid (step (by rw [fill_side, decide_eq_true hsd, Bool.or_true]))
            have e1 : decide (sideN x < 0) = false := by simp; omega
            clear step h46
            go_wp2_with fail
            refine (rside_any x _).mono ?_
            rintro e w' ⟨rfl, rfl⟩
            go_wp2
            go_round
            case rel => exact ⟨k + 1, by omega, by go_num, K.out⟩
            case measure => simp [intOf]; omega
          · have K : Hid (isB s = false) := isB_no (k := k) hlt (by rw [Hx.out, fill_side, decide_eq_false hsd]; simp [h46])
            have e1 : decide (sideN x < 0) = true := by simp; omega
            clear step h46
            go_wp2_with fail
            refine (rside_any x _).mono ?_
            rintro e w' ⟨rfl, rfl⟩
            go_wp2
            go_ret
            exact ⟨by rw [K.out]; rfl, rfl⟩
      · have K := Lib.hid (Hall.out k hk Hf.out (by omega))
        go_wp2
        go_ret
        exact ⟨by rw [K.out]; rfl, rfl⟩
  · have h1 : ((s.size : Int) != 90) = true := by rw [bne_iff_ne]; omega
    have K : Hid (isB s = false) := by show _ = _; simp [isB, hs]
    clear hs
    go_enter Tryd.func13, Tryd.ntmps13
    go_wp2
    go_ret
    exact ⟨by rw [K.out]; rfl, rfl⟩

set_option maxHeartbeats 1000000 in
theorem rat_any (s : ByteArray) (n : Int) (w : World) : Calls Tryd.prog 15 #[.string s, .int .i64 n] w fun e w' => e = .returned (.int .u8 (atB s n : Nat)) ∧ w = w' := by
  cases hb : isB s
  · have K : Hid (atB s n = 46) := by show _ = _; simp [atB, hb]
    have B := Lib.hid hb
    clear hb
    go_enter Tryd.func15, Tryd.ntmps15
    go_wp2_with fail
    refine (ris_any _ _).mono ?_
    rintro e w' ⟨rfl, rfl⟩
    rw [B.out]
    go_wp2
    go_ret
    exact ⟨by rw [K.out]; rfl, rfl⟩
  · have B := Lib.hid hb
    by_cases hn : 0 ≤ n ∧ n < 90
    · have hs := isB_size hb
      have hs1 : 90 ≤ s.size := by omega
      have hlt : n.toNat < s.size := by omega
      clear hs
      have K : Hid (atB s n = s[n.toNat].toNat) := by show _ = _; rw [bAt_eq s n.toNat hlt]; simp [atB, hb, sqI_true hn]
      obtain ⟨h0, h1⟩ := hn
      have h2 : n < (s.size : Int) := by omega
      clear hb
      go_enter Tryd.func15, Tryd.ntmps15
      go_wp2_with fail
      refine (ris_any _ _).mono ?_
      rintro e w' ⟨rfl, rfl⟩
      rw [B.out]
      go_wp2
      go_ret
      exact ⟨by rw [K.out]; rfl, rfl⟩
    · have K : Hid (atB s n = 46) := by show _ = _; simp [atB, sqI_false hn]
      by_cases h0 : n < 0
      · clear hn hb
        go_enter Tryd.func15, Tryd.ntmps15
        go_wp2_with fail
        refine (ris_any _ _).mono ?_
        rintro e w' ⟨rfl, rfl⟩
        rw [B.out]
        go_wp2
        go_ret
        exact ⟨by rw [K.out]; rfl, rfl⟩
      · have h1 : 89 < n := by omega
        clear hn hb
        go_enter Tryd.func15, Tryd.ntmps15
        go_wp2_with fail
        refine (ris_any _ _).mono ?_
        rintro e w' ⟨rfl, rfl⟩
        rw [B.out]
        go_wp2
        go_ret
        exact ⟨by rw [K.out]; rfl, rfl⟩
end Go.Proofs.YtdfjmchkpoobdabDoor
