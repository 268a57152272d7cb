/- What the code reads of a text: a number. -/
import Derived.Test.YtpogpjebhnoncabGreatDoorFenQ3
import Derived.Lib.AtoiTie
import Derived.Lib.AtoiErrMem
namespace Go.Proofs.YtpogpjebhnoncabGreatDoor
open Go.RowKit Go.Shelf
open M (S)

theorem atoi_digits (u : Nat) (h : u ≤ 9999) : Lib.atoiAll (Lib.decDigits u) = .ok (u : Int) := by
  rw [Lib.atoiAll_short _ (by have := F.digits_len u h; omega)]
  have hd := F.dec_digits u
  have ha := F.digits_all u
  have hne := F.digits_ne u
  cases hl : Lib.decDigits u with
  | nil => exact absurd hl hne
  | cons b r =>
    rw [hl] at hd ha
    have hb := ha b (by simp)
    have h45 : b ≠ 45 := fun e => by subst e; revert hb; decide
    have h43 : b ≠ 43 := fun e => by subst e; revert hb; decide
    have : Lib.atoi (b :: r) = some (u : Int) := by
      simp [Lib.atoi, h45, h43, Lib.decNat, hd]
    rw [this]
    rfl
/-- When a text is a number. -/
theorem num_iff (t : List UInt8) (u : Nat) : F.numL t = some u ↔ Lib.atoiAll t = .ok (u : Int) ∧ u ≤ 9999 ∧ Lib.decDigits u = t := by
  constructor
  · intro h
    obtain ⟨rfl, h9⟩ := F.num_back h
    exact ⟨atoi_digits u h9, h9, rfl⟩
  · rintro ⟨_, h9, rfl⟩
    exact F.num_digits h9
theorem num_not {t : List UInt8} (h : ∀ u : Nat, u ≤ 9999 → Lib.atoiAll t = .ok (u : Int) → Lib.decDigits u ≠ t) : F.numL t = none := by
  cases hn : F.numL t with
  | none => rfl
  | some u =>
    obtain ⟨h1, h2, h3⟩ := (num_iff t u).1 hn
    exact absurd h3 (h u h2 h1)
/-- What readNumber answers. -/
def numR (t : List UInt8) : Value := match F.numL t with
  | some u => .tuple #[.int .i64 (u : Nat), .nilIface]
  | none => .tuple #[.int .i64 0, refV 6]
/-- Atoi's answers. -/
theorem atoi_ok (t : List UInt8) (v : Int) (w : World) (ht : t.length ≤ 4294967281) (h : Lib.atoiAll t = .ok v) : Calls Tryz.prog 42 #[.string (bs t)] w (Gives w (.tuple #[.int .i64 v, .nilIface])) := by
  refine (Tryz.strconv_Atoi_ok (bs t) (by rw [bs_size]; omega) v (by rw [bs_data]; exact h) w).mono fun e w' ⟨he, hw⟩ => ⟨he, ?_⟩
  rcases hw with rfl | ⟨s, rfl⟩
  · exact Below.refl _ _
  · exact Lib.bytesWorld_below _ _ _
/-- It answers a number and an error. -/
def GivesX (w : World) (e : Ending) (w' : World) : Prop := ∃ (n : Int) (te : TypeId) (pe : Value), e = .returned (.tuple #[.int .i64 n, .iface te pe]) ∧ Below w.heap.size w w'
theorem atoi_bad (t : List UInt8) (w : World) (hE : Env w) (ht : t.length ≤ 4294967281) (h : ∀ v, Lib.atoiAll t ≠ .ok v) : Calls Tryz.prog 42 #[.string (bs t)] w (GivesX w) := by
  cases ha : Lib.atoiAll t
  · exact absurd ha (h _)
  · obtain ⟨te, pe, hv⟩ := hE.syn
    exact (Tryz.strconv_Atoi_syntax (bs t) (by rw [bs_size]; omega) (by rw [bs_data]; exact ha) _ w hv (.inr ⟨te, pe, rfl⟩)).mono fun e w' ⟨N, he, _, _, hb⟩ => ⟨_, _, _, he, hb⟩
  · obtain ⟨te, pe, hv⟩ := hE.ran
    exact (Tryz.strconv_Atoi_range (bs t) (by rw [bs_size]; omega) (by rw [bs_data]; exact ha) _ w hv (.inr ⟨te, pe, rfl⟩)).mono fun e w' ⟨N, he, _, _, hb⟩ => ⟨_, _, _, he, hb⟩
set_option maxHeartbeats 1000000 in
theorem readNumber_bad (t : List UInt8) (w : World) (hE : Env w) (ht : t.length ≤ 4294967281) (h : Hid (∀ v, Lib.atoiAll t ≠ .ok v)) : Calls Tryz.prog 148 #[.string (bs t)] w (Gives w (.tuple #[.int .i64 0, refV 6])) := by
  unfold Gives
  go_enter Tryz.func148, Tryz.ntmps148
  go_wp2_with fail
  refine (atoi_bad t _ hE ht h.out).mono ?_
  rintro e w1 ⟨n, te, pe, rfl, hb⟩
  go_wp2_with fail
  refine (malformed_any _).mono ?_
  rintro e w2 ⟨rfl, hb2⟩
  go_wp2
  go_ret2
  exact ⟨rfl, hb.trans (hb2.mono hb.size)⟩
set_option maxHeartbeats 1000000 in
theorem readNumber_out (t : List UInt8) (v : Int) (w : World) (ht : t.length ≤ 4294967281) (h : Hid (Lib.atoiAll t = .ok v)) (hv : v < 0 ∨ (0 ≤ v ∧ 9999 < v)) : Calls Tryz.prog 148 #[.string (bs t)] w (Gives w (.tuple #[.int .i64 0, refV 6])) := by
  unfold Gives
  rcases hv with h0 | ⟨h0, h9⟩
  all_goals
    go_enter Tryz.func148, Tryz.ntmps148
    go_wp2_with fail
    refine (atoi_ok t v _ ht h.out).mono ?_
    rintro e w1 ⟨rfl, hb⟩
    go_wp2_with fail
    refine (malformed_any _).mono ?_
    rintro e w2 ⟨rfl, hb2⟩
    go_wp2
    go_ret2
    exact ⟨rfl, hb.trans (hb2.mono hb.size)⟩
set_option maxHeartbeats 1000000 in
theorem readNumber_in (t : List UInt8) (v : Int) (w : World) (hE : Env w) (ht : t.length ≤ 4294967281) (h : Hid (Lib.atoiAll t = .ok v)) (h0 : 0 ≤ v) (h9 : v ≤ 9999) : Calls Tryz.prog 148 #[.string (bs t)] w (Gives w (if Lib.decDigits v.toNat = t then .tuple #[.int .i64 v, .nilIface] else .tuple #[.int .i64 0, refV 6])) := by
  unfold Gives
  obtain ⟨d, hd⟩ : ∃ d, Lib.decDigits v.toNat = d := ⟨_, rfl⟩
  rw [hd]
  have Hd := Lib.hid hd
  have hcmp : ((bs d).toList == (bs t).toList) = decide (d = t) := by
    rw [ByteArray.toList_eq, ByteArray.toList_eq, bs_data, bs_data, Bool.eq_iff_iff]
    simp
  clear hd
  by_cases e : d = t
  · rw [decide_eq_true e] at hcmp
    rw [if_pos e]
    clear e
    go_enter Tryz.func148, Tryz.ntmps148
    go_wp2_with fail
    refine (atoi_ok t v _ ht h.out).mono ?_
    rintro e w1 ⟨rfl, hb⟩
    go_wp2_with fail
    refine (itoa_any v _ (hE.next hb) (by omega)).mono ?_
    rintro e w2 ⟨rfl, hb2⟩
    rw [Hd.out]
    go_wp2
    go_ret2
    exact ⟨rfl, hb.trans (hb2.mono hb.size)⟩
  · rw [decide_eq_false e] at hcmp
    rw [if_neg e]
    clear e
    go_enter Tryz.func148, Tryz.ntmps148
    go_wp2_with fail
    refine (atoi_ok t v _ ht h.out).mono ?_
    rintro e w1 ⟨rfl, hb⟩
    go_wp2_with fail
    refine (itoa_any v _ (hE.next hb) (by omega)).mono ?_
    rintro e w2 ⟨rfl, hb2⟩
    rw [Hd.out]
    replace hb2 := hb.trans (hb2.mono hb.size)
    go_wp2_with fail
    refine (malformed_any _).mono ?_
    rintro e w3 ⟨rfl, hb3⟩
    go_wp2
    go_ret2
    exact ⟨rfl, hb2.trans (hb3.mono hb2.size)⟩
theorem readNumber_any (t : List UInt8) (w : World) (hE : Env w) (ht : t.length ≤ 4294967281) : Calls Tryz.prog 148 #[.string (bs t)] w (Gives w (numR t)) := by
  unfold numR
  by_cases hx : ∃ v, Lib.atoiAll t = .ok v
  · obtain ⟨v, hv⟩ := hx
    by_cases hr : 0 ≤ v ∧ v ≤ 9999
    · have h := readNumber_in t v w hE ht hv hr.1 hr.2
      obtain ⟨u, rfl⟩ : ∃ u : Nat, v = u := ⟨v.toNat, by omega⟩
      rw [Int.toNat_natCast] at h
      by_cases e : Lib.decDigits u = t
      · rw [if_pos e] at h
        rw [(num_iff t u).2 ⟨hv, by omega, e⟩]
        exact h
      · rw [if_neg e] at h
        rw [num_not fun u' _ h2 e' => e (by
          rw [hv] at h2
          injection h2 with h2
          rw [show u = u' by omega]
          exact e')]
        exact h
    · rw [num_not fun u' h1 h2 _ => hr (by
        rw [hv] at h2
        injection h2 with h2
        omega)]
      exact readNumber_out t v w ht hv (by omega)
  · rw [num_not fun u' _ h2 _ => hx ⟨_, h2⟩]
    exact readNumber_bad t w hE ht fun v hv => hx ⟨v, hv⟩
end Go.Proofs.YtpogpjebhnoncabGreatDoor
