/- Whoever attacks a square on which something of the other side stands reaches it, and nobody else does: the call answers true. -/
import Derived.Test.YtbfkkedcjodceaaDoorLive7
namespace Go.Proofs.YtbfkkedcjodceaaDoor.ctakes
open Go.RowKit Go.Shelf
open M (S)

set_option maxRecDepth 100000 in
set_option maxHeartbeats 8000000 in
theorem large (s : ByteArray) (n : Int) (w : World) (hT : Tab w) (hs : 200 < s.size) : Calls Tryd.prog 11 #[.string s, .int .i64 n] w (Gives w (.bool true)) := by
  unfold Gives
  have hd : decide (200 < (s.size : Int)) = true := by simp; omega
  clear hs
  go_enter Tryd.func11, Tryd.ntmps11
  go_wp2_with fail
  refine (live7_any _ hT).mono ?_
  rintro e w9 ⟨rfl, hb⟩
  go_wp2
  go_ret
  exact ⟨rfl, hb⟩
set_option maxRecDepth 100000 in
set_option maxHeartbeats 8000000 in
theorem noside (s : ByteArray) (n : Int) (w : World) (hT : Tab w) (hs : s.size ≤ 200) (c : Nat) (hc : atB s n = c) (d : Int) (hdd : sideN c = d) (h : d < 0) : Calls Tryd.prog 11 #[.string s, .int .i64 n] w (Gives w (.bool true)) := by
  unfold Gives
  have hd : decide (200 < (s.size : Int)) = false := by simp; omega
  clear hs
  have C := Lib.hid hc
  have D := Lib.hid hdd
  clear hc hdd
  go_enter Tryd.func11, Tryd.ntmps11
  go_wp2_with fail
  refine (at_is s n c _ C.out).mono ?_
  rintro e w1 ⟨rfl, rfl⟩
  go_wp2_with fail
  refine (side_is c d _ D.out).mono ?_
  rintro e w1 ⟨rfl, rfl⟩
  go_wp2_with fail
  refine (live7_any _ hT).mono ?_
  rintro e w9 ⟨rfl, hb⟩
  go_wp2
  go_ret
  exact ⟨rfl, hb⟩
set_option maxRecDepth 100000 in
set_option maxHeartbeats 8000000 in
theorem good (s : ByteArray) (n : Nat) (w : World) (hT : Tab w) (hs : s.size ≤ 200) (hbd : isB s = true) (hn : n < 90) (c : Nat) (hc : atB s (n : Int) = c) (d : Int) (hdd : sideN c = d) (h : d = 0 ∨ d = 1) (hat : bAt s n = c) : Calls Tryd.prog 11 #[.string s, .int .i64 (n : Int)] w (Gives w (.bool true)) := by
  unfold Gives
  have hd : decide (200 < (s.size : Int)) = false := by simp; omega
  clear hs
  obtain ⟨o, ho⟩ : ∃ o : Int, 1 - d = o := ⟨_, rfl⟩
  obtain ⟨p, hp⟩ : ∃ p : Nat → Bool, p = fun a => canB s a n := ⟨_, rfl⟩
  have HL : Hid (attL s (n : Int) o = trues p 90) := by
    show _ = _
    rw [← ho]
    have h1 := att_takes hbd hn (side := d) (by rw [hat, hdd]) (by omega)
    unfold attL
    have h2 : ((1 - d == 0) || (1 - d == 1)) = true := by simp only [Bool.or_eq_true, beq_iff_eq]; omega
    rw [hbd, sqI_true (n := (n : Int)) (by omega), h2, if_pos (by rfl), Int.toNat_natCast, hp]
    unfold attN at h1
    unfold trues
    rw [h1]
  have HP : Hid (∀ k : Nat, k < 90 → canI s (k : Int) (n : Int) = p k) := by
    show ∀ k, _
    intro k hk
    rw [hp]
    unfold canI
    rw [hbd, sqI_true (n := (k : Int)) (by omega), sqI_true (n := (n : Int)) (by omega), Int.toNat_natCast, Int.toNat_natCast]
    rfl
  have i0 : IntKind.i64.wrap (1 - d) = o := by rw [IntWalk.i64_in _ (by omega)]; exact ho
  have g0 : ¬ d < 0 := by omega
  have g1 : ¬ (n : Int) < 0 := by omega
  have g2 : ¬ (89 : Int) < (n : Int) := by omega
  have C := Lib.hid hc
  have D := Lib.hid hdd
  obtain ⟨y0, hi, hz0, hz1, hz2⟩ := info_parts info_int
  clear hbd hc hdd h hat ho hp
  go_enter Tryd.func11, Tryd.ntmps11
  go_wp2_with fail
  refine (at_is s n c _ C.out).mono ?_
  rintro e w1 ⟨rfl, rfl⟩
  go_wp2_with fail
  refine (side_is c d _ D.out).mono ?_
  rintro e w1 ⟨rfl, rfl⟩
  go_wp2_with fail
  refine (att_as s n o _ _ hT HL.out).mono ?_
  rintro e w2 ⟨v, rfl, ho, hb⟩
  obtain ⟨A1, k1, rfl⟩ := own_slice ho
  have rd := Rd.own ho
  have hT2 := hT.next hb
  have hB2 := hb
  clear hb ho hT
  go_wp2_with fail
  go_loopw [7, 8] (fun v i wr => ∃ k : Nat, k ≤ 90 ∧ i = .int .i64 k ∧ wr.ownsRow w2.heap.size 3 1 v (trues p k).length ((trues p k).map iv) ∧ Below w2.heap.size w2 wr) (fun _ i _ => 90 - (intOf i).toNat)
  case atStart => exact ⟨0, by omega, rfl, by simpa [trues] using World.ownsRow_nil w2 w2.heap.size 3 1, Below.refl _ _⟩
  case round =>
    obtain ⟨k, hk, rfl, hown, hB⟩ := hrel
    have hbs := hB.size
    have hle := trues_le p k
    by_cases hlt : k < 90
    · have hst := trues_succ p k
      obtain ⟨r, hr⟩ : ∃ r, p k = r := ⟨_, rfl⟩
      have HR : Hid (canI s (k : Int) (n : Int) = r) := by show _ = _; rw [HP.out k hlt, hr]
      rw [hr] at hst
      clear hr
      cases r
      · have Hs := Lib.hid hst
        clear hst
        go_wp2_with fail
        refine (can_is5 s k n false _ HR.out).mono ?_
        rintro e w3 ⟨rfl, hb⟩
        go_wp2_with fail
        go_roundw
        case rel => exact ⟨k + 1, by omega, by go_num, by rw [Hs.out]; exact own_next hown hb, hB.trans (hb.mono hbs)⟩
        case measure => simp [intOf]; omega
      · have Hs := Lib.hid hst
        clear hst
        go_wp2_with fail
        refine (can_is5 s k n true _ HR.out).mono ?_
        rintro e w3 ⟨rfl, hb⟩
        replace hown := own_next hown hb
        replace hB := hB.trans (hb.mono hbs)
        replace hbs := hB.size
        clear hb
        go_wp2_with (at_builtin; refine wpList_append_own _ rfl _ _ 36 rfl w2.heap.size 3 y0 (.int .i64 0) 1 8 Tryd.underlying36 hi hz0 hz1 hz2 rfl (by decide) _ _ _ rfl (hown.alloc _) ⟨w3.heap.size, 0, none⟩ 1 1 [iv k] rfl rfl (cell_one_new _ _ _) (by simp [Value.oneCell']) (by unfold maxLen; omega) (by omega) (by simp; omega) ?_; intro v' w4 hown' hgrow _)
        go_roundw
        case rel => exact ⟨k + 1, by omega, by go_num, by rw [Hs.out]; simpa using hown', below_app hB hbs hown hgrow⟩
        case measure => simp [intOf]; omega
    · obtain rfl : k = 90 := by omega
      obtain ⟨A2, c2, rfl⟩ := own_slice hown
      have re := Rd.own hown
      have rd2 := rd.next hB
      have hT := hT2.next hB
      replace hB := hB2.trans (hB.mono hB2.size)
      clear hown rd hT2 hB2
      go_wp2_with fail
      refine (ints_true _ _ (trues p 90) _ _ _ _ rd2 re rfl (by omega)).mono ?_
      rintro e w5 ⟨rfl, hb⟩
      replace hT := hT.next hb
      replace hB := hB.trans (hb.mono hB.size)
      clear hb rd2 re
      go_wp2_with fail
      refine (live7_any _ hT).mono ?_
      rintro e w9 ⟨rfl, hb⟩
      go_wp2
      go_ret
      exact ⟨rfl, hB.trans (hb.mono hB.size)⟩
theorem walk (s : ByteArray) (n : Int) (w : World) (hT : Tab w) : Calls Tryd.prog 11 #[.string s, .int .i64 n] w (Gives w (.bool true)) := by
  by_cases hs : s.size ≤ 200
  · by_cases h : sideN (atB s n) < 0
    · exact noside s n w hT hs _ rfl _ rfl h
    · have h2 : isB s = true ∧ sqI n = true := by
        rcases Classical.em (isB s = true ∧ sqI n = true) with h2 | h2
        · exact h2
        · have : atB s n = 46 := by unfold atB; rw [if_neg h2]
          rw [this] at h
          exact absurd (by decide) h
      obtain ⟨h0, h1⟩ := sqI_in h2.2
      obtain ⟨m, rfl⟩ : ∃ m : Nat, n = m := ⟨n.toNat, by omega⟩
      have hat : atB s (m : Int) = bAt s m := by unfold atB; rw [if_pos h2, Int.toNat_natCast]
      exact good s m w hT hs h2.1 (by omega) _ rfl _ rfl (side_cases01 (by omega)) hat.symm
  · exact large s n w hT (by omega)
end Go.Proofs.YtbfkkedcjodceaaDoor.ctakes
