/- How many captures there are with few pieces. No program in it. -/
import Derived.Test.YtbdgbihdhbjljaaGreatDoorQuietA
namespace Go.Proofs.YtbdgbihdhbjljaaGreatDoor

theorem cnt_vsum (p : Nat → Bool) : ∀ n, (((List.range n).filter p).length : Int) = vsum (fun k => if p k then 1 else 0) n := by
  intro n
  induction n with
  | zero => rfl
  | succ n ih =>
    rw [List.range_succ, List.filter_append, List.length_append, vsum, Int.natCast_add, ih]
    congr 1
    cases h : p n <;> simp [h]
theorem vsum_scale (f : Nat → Bool) (c : Int) : ∀ n, vsum (fun k => if f k then c else 0) n = vsum (fun k => if f k then 1 else 0) n * c := by
  intro n
  induction n with
  | zero => simp [vsum]
  | succ n ih =>
    rw [vsum, vsum, ih, Int.add_mul]
    congr 1
    cases f n <;> simp
theorem vsum_both {f g h : Nat → Int} : ∀ n, (∀ k, k < n → f k + g k ≤ h k) → vsum f n + vsum g n ≤ vsum h n
  | 0, _ => by simp [vsum]
  | n + 1, e => by
    have := vsum_both n fun k hk => e k (by omega)
    have := e n (by omega)
    rw [vsum, vsum, vsum]
    omega
theorem len_flat {α : Type} (f : Nat → List α) (c : Nat → Int) : ∀ n, (∀ k, k < n → ((f k).length : Int) ≤ c k) → ((((List.range n).flatMap f).length : Nat) : Int) ≤ vsum c n
  | 0, _ => by simp [vsum]
  | n + 1, h => by
    have h1 := len_flat f c n fun k hk => h k (by omega)
    have h2 := h n (by omega)
    rw [List.range_succ, List.flatMap_append, List.length_append, vsum]
    simp only [List.flatMap_cons, List.flatMap_nil, List.append_nil]
    omega
def ownB (s : ByteArray) (side : Int) (k : Nat) : Bool := decide (sideN (bAt s k) = side)
def foeB (s : ByteArray) (side : Int) (k : Nat) : Bool := decide (bAt s k ≠ 46) && decide (sideN (bAt s k) ≠ side)
theorem caps_few {s : ByteArray} {side clock full : Int} (hw : wellN s side clock full = 0) (h9 : cntP s ≤ 9) : (capsN s side).length ≤ 20 := by
  have h01 := (well_side hw).2
  obtain ⟨E, hE⟩ : ∃ E, vsum (fun k => if foeB s side k then (1 : Int) else 0) 90 = E := ⟨_, rfl⟩
  obtain ⟨o, ho⟩ : ∃ o, vsum (fun k => if ownB s side k then (1 : Int) else 0) 90 = o := ⟨_, rfl⟩
  have hE0 : 0 ≤ E := by rw [← hE]; exact vsum_ge0 90 fun k _ => by split <;> omega
  have ho0 : 0 ≤ o := by rw [← ho]; exact vsum_ge0 90 fun k _ => by split <;> omega
  have hsum : o + E ≤ cntP s := by
    rw [← hE, ← ho]
    refine vsum_both 90 fun k _ => ?_
    unfold oneP ownB foeB
    by_cases e : bAt s k = 46
    · have hs : ¬ sideN (bAt s k) = side := by rw [e]; have : sideN 46 = -1 := by decide
                                               omega
      simp [e] at hs ⊢
      simp [hs]
    · by_cases hs : sideN (bAt s k) = side
      · simp [e, hs]
      · simp [e, hs]
  have hlen : ((capsN s side).length : Int) ≤ o * E := by
    have h1 : (capsN s side).length ≤ ((movesN s side).filter fun m => bAt s m.2 != 46).length := by
      unfold capsN legalN
      rw [List.filter_filter, ← List.countP_eq_length_filter, ← List.countP_eq_length_filter]
      exact List.countP_mono_left fun m _ h => by
        rw [Bool.and_eq_true] at h
        exact h.1
    have h2 : ((((movesN s side).filter fun m => bAt s m.2 != 46).length : Nat) : Int) ≤ vsum (fun k => if ownB s side k then E else 0) 90 := by
      unfold movesN
      rw [List.filter_flatMap]
      refine len_flat _ _ 90 fun a _ => ?_
      unfold movesOf ownB
      by_cases hs : sideN (bAt s a) = side
      · rw [if_pos hs, decide_eq_true hs, if_pos rfl, List.filter_map, List.length_map, ← hE, ← cnt_vsum]
        unfold reachN
        rw [List.filter_filter, ← List.countP_eq_length_filter, ← List.countP_eq_length_filter]
        have hle : (List.range 90).countP (fun b => ((fun m : Nat × Nat => bAt s m.2 != 46) ∘ fun b => (a, b)) b && canB s a b) ≤ (List.range 90).countP (foeB s side) := List.countP_mono_left fun b _ h => by
          rw [Bool.and_eq_true] at h
          have h46 : bAt s b ≠ 46 := by simpa using h.1
          have hp := (can_parts h.2).2.1
          unfold foeB
          rw [Bool.and_eq_true, decide_eq_true_eq, decide_eq_true_eq]
          exact ⟨h46, by rw [← hs]; exact hp⟩
        exact Int.ofNat_le.2 hle
      · rw [if_neg hs, decide_eq_false hs]
        simp
    rw [vsum_scale, ho] at h2
    omega
  have hcase : o = 0 ∨ o = 1 ∨ o = 2 ∨ o = 3 ∨ o = 4 ∨ o = 5 ∨ o = 6 ∨ o = 7 ∨ o = 8 ∨ o = 9 := by omega
  rcases hcase with rfl | rfl | rfl | rfl | rfl | rfl | rfl | rfl | rfl | rfl <;> omega
end Go.Proofs.YtbdgbihdhbjljaaGreatDoor
