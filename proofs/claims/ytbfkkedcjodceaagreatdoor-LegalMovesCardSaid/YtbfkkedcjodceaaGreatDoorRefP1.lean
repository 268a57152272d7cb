/- What the document's plain answers of layer 3 come to: where pieces may stand; how many there may be. -/
import Derived.Test.YtbfkkedcjodceaaGreatDoorPlace6
namespace Go.Proofs.YtbfkkedcjodceaaGreatDoor
open Go.RowKit Go.Shelf
open M (S)

def advR (f r : Int) : Bool := (f == 4 && r == 1) || ((f == 3 || f == 5) && (r == 0 || r == 2))
theorem spot_fin : ∀ f : Fin 9, ∀ r : Fin 10, advR (f.val : Int) (r.val : Int) = advP (f.val : Int) (r.val : Int) ∧ advP (8 - (f.val : Int)) (r.val : Int) = advP (f.val : Int) (r.val : Int) ∧ eleP (8 - (f.val : Int)) (r.val : Int) = eleP (f.val : Int) (r.val : Int) ∧
    pawnP (8 - (f.val : Int)) (r.val : Int) = pawnP (f.val : Int) (r.val : Int) ∧ inP (8 - (f.val : Int)) (r.val : Int) = inP (f.val : Int) (r.val : Int) := by decide +kernel
theorem spot_all {f r : Int} (h0 : 0 ≤ f) (h1 : f ≤ 8) (h2 : 0 ≤ r) (h3 : r ≤ 9) : advR f r = advP f r ∧ advP (8 - f) r = advP f r ∧ eleP (8 - f) r = eleP f r ∧ pawnP (8 - f) r = pawnP f r ∧ inP (8 - f) r = inP f r := by
  have h := spot_fin ⟨f.toNat, by omega⟩ ⟨r.toNat, by omega⟩
  simp only [Int.toNat_of_nonneg h0, Int.toNat_of_nonneg h2] at h
  exact h
theorem kind_back (k : Nat) {f r : Int} (h0 : 0 ≤ f) (h1 : f ≤ 8) (h2 : 0 ≤ r) (h3 : r ≤ 9) : kindP k (8 - f) r = kindP k f r := by
  obtain ⟨_, a, b, c, d⟩ := spot_all h0 h1 h2 h3
  unfold kindP
  rw [a, b, c, d]
/-- The rank, counted from a side's own. -/
def ownI (n side : Int) : Int := if side = 1 then 9 - rankI n else rankI n
theorem own_seen {n side : Int} (h : 0 ≤ n ∧ n < 90) : ownI n side = seenR n side := by
  unfold ownI seenR rankI
  rw [if_pos h]
theorem inP_seen {n side : Int} (h : 0 ≤ n ∧ n < 90) : inP (n % 9) (seenR n side) = inP (seenF n side) (seenR n side) := by
  have hb := seen_in (side := side) h
  unfold seenF
  split
  · rw [(spot_all (by omega) (by omega) hb.2.2.1 hb.2.2.2).2.2.2.2]
  · rfl
theorem kindP_seen (k : Nat) {n side : Int} (h : 0 ≤ n ∧ n < 90) : kindP k (n % 9) (seenR n side) = kindP k (seenF n side) (seenR n side) := by
  have hb := seen_in (side := side) h
  unfold seenF
  split
  · rw [kind_back k (by omega) (by omega) hb.2.2.1 hb.2.2.2]
  · rfl

set_option maxHeartbeats 1000000 in
theorem rreal_any (n side : Int) (w : World) : Calls Tryz.prog 98 #[.int .i64 n, .int .i64 side] w (Says w (.bool (realB n side))) := by
  unfold Says
  by_cases h0 : n < 0
  · have K : Hid (realB n side = false) := by show _ = _; rw [realB, sqI_false (by omega)]; rfl
    go_enter Tryz.func98, Tryz.ntmps98
    go_wp2
    go_ret
    exact ⟨by rw [K.out]; rfl, rfl⟩
  by_cases h1 : 90 ≤ n
  · have K : Hid (realB n side = false) := by show _ = _; rw [realB, sqI_false (by omega)]; rfl
    have h0' : 0 ≤ n := by omega
    clear h0
    go_enter Tryz.func98, Tryz.ntmps98
    go_wp2
    go_ret
    exact ⟨by rw [K.out]; rfl, rfl⟩
  have K : Hid (realB n side = (side == 0 || side == 1)) := by show _ = _; rw [realB, sqI_true (by omega)]; rfl
  have h0' : 0 ≤ n := by omega
  have h1' : n < 90 := by omega
  clear h0 h1
  by_cases hs : side = 0
  · subst hs
    go_enter Tryz.func98, Tryz.ntmps98
    go_wp2
    go_ret
    exact ⟨by rw [K.out]; rfl, rfl⟩
  · have e0 : (side == 0) = false := by rw [beq_eq_false_iff_ne]; exact hs
    have K2 : Hid (realB n side = (side == 1)) := by show _ = _; rw [K.out, e0]; rfl
    clear hs
    go_enter Tryz.func98, Tryz.ntmps98
    go_wp2
    go_ret
    exact ⟨by rw [K2.out]; rfl, rfl⟩
theorem rreal_is (n side : Int) (b : Bool) (w : World) (h : realB n side = b) : Calls Tryz.prog 98 #[.int .i64 n, .int .i64 side] w (Says w (.bool b)) := by subst h; exact rreal_any n side w
set_option maxHeartbeats 1000000 in
theorem rown_any (n side : Int) (w : World) : Calls Tryz.prog 100 #[.int .i64 n, .int .i64 side] w (Says w (.int .i64 (ownI n side))) := by
  unfold Says
  obtain ⟨r, hr⟩ : ∃ r, rankI n = r := ⟨_, rfl⟩
  have hb : -1 ≤ r ∧ r ≤ 9 := by rw [← hr]; unfold rankI; split <;> omega
  obtain ⟨b0, b1⟩ := hb
  have Hr := Lib.hid hr
  by_cases hs : side = 1
  · subst hs
    have K : Hid (ownI n 1 = 9 - r) := by show _ = _; rw [ownI, if_pos rfl, hr]
    clear hr
    go_enter Tryz.func100, Tryz.ntmps100
    go_wp2_with fail
    refine (rrank_any n _).mono ?_
    rintro e w1 ⟨rfl, rfl⟩
    rw [Hr.out]
    go_wp2
    go_ret
    exact ⟨by rw [K.out]; rfl, rfl⟩
  · have e0 : (side == 1) = false := by rw [beq_eq_false_iff_ne]; exact hs
    have K : Hid (ownI n side = r) := by show _ = _; rw [ownI, if_neg hs, hr]
    clear hr hs
    go_enter Tryz.func100, Tryz.ntmps100
    go_wp2_with fail
    refine (rrank_any n _).mono ?_
    rintro e w1 ⟨rfl, rfl⟩
    rw [Hr.out]
    go_wp2
    go_ret
    exact ⟨by rw [K.out]; rfl, rfl⟩
theorem rown_is (n side r : Int) (w : World) (h : ownI n side = r) : Calls Tryz.prog 100 #[.int .i64 n, .int .i64 side] w (Says w (.int .i64 r)) := by subst h; exact rown_any n side w
theorem rfile_is (n f : Int) (w : World) (h : fileI n = f) : Calls Tryz.prog 99 #[.int .i64 n] w (Says w (.int .i64 f)) := by subst h; exact rfile_any n w
theorem rkind_is (c k : Nat) (w : World) (h : kindN c = k) : Calls Tryz.prog 44 #[.int .u8 (c : Int)] w (Says w (.int .u8 (k : Int))) := by subst h; exact rkind_any c w
theorem rside_is (c : Nat) (k : Int) (w : World) (h : sideN c = k) : Calls Tryz.prog 42 #[.int .u8 (c : Int)] w (Says w (.int .i64 k)) := by subst h; exact rside_any c w
set_option maxHeartbeats 2000000 in
theorem rpalace_any (n side : Int) (w : World) : Calls Tryz.prog 101 #[.int .i64 n, .int .i64 side] w (Says w (.bool (palaceB n side))) := by
  unfold Says
  cases h : realB n side
  · have K : Hid (palaceB n side = false) := by show _ = _; rw [palaceB, h]; rfl
    have H := Lib.hid h
    clear h
    go_enter Tryz.func101, Tryz.ntmps101
    go_wp2_with fail
    refine (rfile_any n _).mono ?_
    rintro e w1 ⟨rfl, rfl⟩
    go_wp2_with fail
    refine (rreal_is n side false _ H.out).mono ?_
    rintro e w1 ⟨rfl, rfl⟩
    go_wp2
    go_ret
    exact ⟨by rw [K.out]; rfl, rfl⟩
  · have hn := (real_parts h).1
    obtain ⟨f, hf⟩ : ∃ f, n % 9 = f := ⟨_, rfl⟩
    obtain ⟨r, hr⟩ : ∃ r, seenR n side = r := ⟨_, rfl⟩
    have K : Hid (palaceB n side = inP f r) := by show _ = _; rw [palaceB, h, ← inP_seen hn, hf, hr]; rfl
    have H := Lib.hid h
    have F : Hid (fileI n = f) := by show _ = _; rw [fileI, if_pos hn, hf]
    have O : Hid (ownI n side = r) := by show _ = _; rw [own_seen hn, hr]
    clear h hf hr hn
    rcases pal_cases f r with h0 | ⟨h0, h1⟩ | ⟨h0, h1, h2⟩ | ⟨h0, h1, h2⟩
    · have K1 := Lib.hid (inP_false (f := f) (r := r) (by omega))
      go_enter Tryz.func101, Tryz.ntmps101
      go_wp2_with fail
      refine (rfile_is n f _ F.out).mono ?_
      rintro e w1 ⟨rfl, rfl⟩
      go_wp2_with fail
      refine (rreal_is n side true _ H.out).mono ?_
      rintro e w1 ⟨rfl, rfl⟩
      go_wp2
      go_ret
      exact ⟨by rw [K.out, K1.out]; rfl, rfl⟩
    · have K1 := Lib.hid (inP_false (f := f) (r := r) (by omega))
      go_enter Tryz.func101, Tryz.ntmps101
      go_wp2_with fail
      refine (rfile_is n f _ F.out).mono ?_
      rintro e w1 ⟨rfl, rfl⟩
      go_wp2_with fail
      refine (rreal_is n side true _ H.out).mono ?_
      rintro e w1 ⟨rfl, rfl⟩
      go_wp2
      go_ret
      exact ⟨by rw [K.out, K1.out]; rfl, rfl⟩
    · have K1 := Lib.hid (inP_false (f := f) (r := r) (by omega))
      have d2 : decide (r ≤ 2) = false := by simp; omega
      go_enter Tryz.func101, Tryz.ntmps101
      go_wp2_with fail
      refine (rfile_is n f _ F.out).mono ?_
      rintro e w1 ⟨rfl, rfl⟩
      go_wp2_with fail
      refine (rreal_is n side true _ H.out).mono ?_
      rintro e w1 ⟨rfl, rfl⟩
      go_wp2_with fail
      refine (rown_is n side r _ O.out).mono ?_
      rintro e w1 ⟨rfl, rfl⟩
      go_wp2
      go_ret
      exact ⟨by rw [K.out, K1.out]; rfl, rfl⟩
    · have K1 := Lib.hid (inP_true (f := f) (r := r) h0 h1 h2)
      have d2 : decide (r ≤ 2) = true := by simp; omega
      go_enter Tryz.func101, Tryz.ntmps101
      go_wp2_with fail
      refine (rfile_is n f _ F.out).mono ?_
      rintro e w1 ⟨rfl, rfl⟩
      go_wp2_with fail
      refine (rreal_is n side true _ H.out).mono ?_
      rintro e w1 ⟨rfl, rfl⟩
      go_wp2_with fail
      refine (rown_is n side r _ O.out).mono ?_
      rintro e w1 ⟨rfl, rfl⟩
      go_wp2
      go_ret
      exact ⟨by rw [K.out, K1.out]; rfl, rfl⟩
theorem rpalace_is (n side : Int) (b : Bool) (w : World) (h : palaceB n side = b) : Calls Tryz.prog 101 #[.int .i64 n, .int .i64 side] w (Says w (.bool b)) := by subst h; exact rpalace_any n side w
set_option maxHeartbeats 2000000 in
theorem rover_any (n side : Int) (w : World) : Calls Tryz.prog 120 #[.int .i64 n, .int .i64 side] w (Says w (.bool (overB n side))) := by
  unfold Says
  cases h : realB n side
  · have K : Hid (overB n side = false) := by show _ = _; rw [overB, h]; rfl
    have H := Lib.hid h
    clear h
    go_enter Tryz.func120, Tryz.ntmps120
    go_wp2_with fail
    refine (rreal_is n side false _ H.out).mono ?_
    rintro e w1 ⟨rfl, rfl⟩
    go_wp2
    go_ret
    exact ⟨by rw [K.out]; rfl, rfl⟩
  · have hn := (real_parts h).1
    obtain ⟨r, hr⟩ : ∃ r, seenR n side = r := ⟨_, rfl⟩
    have K : Hid (overB n side = decide (5 ≤ r)) := by show _ = _; rw [overB, h, hr]; rfl
    have H := Lib.hid h
    have O : Hid (ownI n side = r) := by show _ = _; rw [own_seen hn, hr]
    clear h hr hn
    go_enter Tryz.func120, Tryz.ntmps120
    go_wp2_with fail
    refine (rreal_is n side true _ H.out).mono ?_
    rintro e w1 ⟨rfl, rfl⟩
    go_wp2_with fail
    refine (rown_is n side r _ O.out).mono ?_
    rintro e w1 ⟨rfl, rfl⟩
    go_wp2
    go_ret
    exact ⟨by rw [K.out]; rfl, rfl⟩
theorem rover_is (n side : Int) (b : Bool) (w : World) (h : overB n side = b) : Calls Tryz.prog 120 #[.int .i64 n, .int .i64 side] w (Says w (.bool b)) := by subst h; exact rover_any n side w
set_option maxHeartbeats 4000000 in
theorem relephant_any (f r : Int) (w : World) : Calls Tryz.prog 103 #[.int .i64 f, .int .i64 r] w (Says w (.bool (eleP f r))) := by
  unfold Says
  have h0 : r = 0 ∨ r = 4 ∨ r = 2 ∨ (r ≠ 0 ∧ r ≠ 4 ∧ r ≠ 2) := by omega
  have h1 : f = 2 ∨ f = 6 ∨ f = 0 ∨ f = 4 ∨ f = 8 ∨ (f ≠ 2 ∧ f ≠ 6 ∧ f ≠ 0 ∧ f ≠ 4 ∧ f ≠ 8) := by omega
  rcases h0 with rfl | rfl | rfl | ⟨r0, r4, r2⟩
  iterate 3
    · rcases h1 with rfl | rfl | rfl | rfl | rfl | ⟨f2, f6, f0, f4, f8⟩
      all_goals
        go_enter Tryz.func103, Tryz.ntmps103
        go_wp2
        go_ret
        exact ⟨by first | rfl | simp [eleP, *], rfl⟩
  · clear h1
    go_enter Tryz.func103, Tryz.ntmps103
    go_wp2
    go_ret
    exact ⟨by simp [eleP, *], rfl⟩
set_option maxHeartbeats 4000000 in
theorem radvisor_any (f r : Int) (w : World) : Calls Tryz.prog 102 #[.int .i64 f, .int .i64 r] w (Says w (.bool (advR f r))) := by
  unfold Says
  have h0 : r = 0 ∨ r = 1 ∨ r = 2 ∨ (r ≠ 0 ∧ r ≠ 1 ∧ r ≠ 2) := by omega
  have h1 : f = 3 ∨ f = 4 ∨ f = 5 ∨ (f ≠ 3 ∧ f ≠ 4 ∧ f ≠ 5) := by omega
  rcases h0 with rfl | rfl | rfl | ⟨r0, r4, r2⟩
  all_goals
    rcases h1 with rfl | rfl | rfl | ⟨f2, f6, f0⟩
    all_goals
      go_enter Tryz.func102, Tryz.ntmps102
      go_wp2
      go_ret
      exact ⟨by first | rfl | simp [advR, *], rfl⟩
end Go.Proofs.YtbfkkedcjodceaaGreatDoor
