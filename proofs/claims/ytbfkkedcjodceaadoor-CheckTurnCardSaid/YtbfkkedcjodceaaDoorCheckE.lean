/- What the document's own answers of layer 7 come to. -/
import Derived.Test.YtbfkkedcjodceaaDoorCheckC
import Derived.Test.YtbfkkedcjodceaaDoorReachG
import Derived.Test.YtbfkkedcjodceaaDoorRefP5
namespace Go.Proofs.YtbfkkedcjodceaaDoor
open Go.RowKit Go.Shelf
open M (S)

theorem leastI_hit {s : ByteArray} {c k : Nat} (hk : k < 90) (h : bAt s k = c) (hne : ∀ j, j < k → bAt s j ≠ c) : leastI s c = (k : Int) := by
  have : leastN s c = some k := by
    unfold leastN
    rw [List.find?_range_eq_some]
    refine ⟨by simpa using h, List.mem_range.2 hk, fun j hj => ?_⟩
    simpa using hne j hj
  unfold leastI
  rw [this]
theorem leastI_miss {s : ByteArray} {c : Nat} (hne : ∀ j, j < 90 → bAt s j ≠ c) : leastI s c = -1 := by
  rcases leastI_cases s c with ⟨_, h⟩ | ⟨n, hn, _, _, h⟩
  · exact h
  · exact absurd h (hne n hn)
theorem rof_pawn (side : Int) (c : Nat) (w : World) (hs : side = 0 ∨ side = 1) (hc : pawnOf side = c) : Calls Tryd.prog 71 #[.int .u8 80, .int .i64 side] w (Says w (.int .u8 (c : Int))) := by
  subst hc
  rcases hs with rfl | rfl
  · exact rof_zero 80 w
  · exact rof_one 80 w (by decide)
set_option maxHeartbeats 2000000 in
theorem rput7_is (s : ByteArray) (n c : Nat) (side : Int) (w : World) (hs : s.size = 90) (hn : n < 90) (hside : side = 0 ∨ side = 1) (hc : pawnOf (1 - side) = c) :
    Calls Tryd.prog 69 #[.string s, .int .i64 (n : Int), .int .i64 side] w (Gives w (.string (putS s n c))) := by
  unfold Gives
  have hc256 : c < 256 := by rw [← hc]; exact pawnOf_lt _
  obtain ⟨m, hm⟩ : ∃ m : Int, 1 - side = m := ⟨_, rfl⟩
  have i0 : IntKind.i64.wrap (1 - side) = m := by rw [IntWalk.i64_in _ (by omega)]; exact hm
  have HO := Lib.hid fun W => rof_pawn m c W (by omega) (by rw [← hm]; exact hc)
  have i1 : IntKind.i64.wrap ((n : Int) + 1) = (n : Int) + 1 := IntWalk.i64_in _ (by omega)
  have hcv : ∀ (W : World) (g C : Nat), W.cell? ⟨g, 0, none⟩ = some (.int .u8 (c : Int)) → (convert 70 9 (.slice (some ⟨g, 0, none⟩) 1 C)).run Tryd.prog W = .ok (.string (one c)) W := fun W g C h => one_of W g C c hc256 h
  have h0 : (0 : Int) ≤ (n : Int) := by omega
  have h2 : (n : Int) ≤ (s.size : Int) := by omega
  have h3 : (n : Int) + 1 ≤ (s.size : Int) := by omega
  have h4 : (0 : Int) ≤ (n : Int) + 1 := by omega
  have z1 : (s.extract 0 n).size = n := by simp; omega
  have ha1 : ∀ W : World, (Op.stringOp .add (s.extract 0 n) (one c)).run Tryd.prog W = .ok (.string (s.extract 0 n ++ one c)) W := fun W => run_string_add_sum _ _ _ (by rw [z1, show (one c).size = 1 from rfl]; omega)
  have hp := put_cut s n c (by omega)
  obtain ⟨pre, hpre⟩ : ∃ pre, s.extract 0 n ++ one c = pre := ⟨_, rfl⟩
  have zp : pre.size = n + 1 := by rw [← hpre, ByteArray.size_append, z1]; rfl
  rw [hpre] at ha1 hp
  have ha2 : ∀ W : World, (Op.stringOp .add pre (s.extract (n + 1) s.size)).run Tryd.prog W = .ok (.string (putS s n c)) W := fun W => by
    rw [hp]
    exact run_string_add_sum _ _ _ (by rw [zp]; simp; omega)
  have t1 : ((n : Int) + 1).toNat = n + 1 := by omega
  clear hpre zp z1 hp hside hc hm hs
  go_enter Tryd.func69, Tryd.ntmps69
  go_wp2_with fail
  go_region_with ((go_at_call 71; refine (HO.out _).mono ?_; rintro e w' ⟨rfl, rfl⟩))
  all_goals go_wp2
  all_goals
    go_ret
    exact ⟨rfl, (by repeat (first | exact Below.refl _ _ | (refine Below.setCell ?_ (by first | omega | (simp; done) | (simp; omega) | (simp at *; omega)) _) | (refine Below.alloc ?_ (by first | omega | (simp; done) | (simp; omega) | (simp at *; omega)) _) | refine Below.drew ?_ | (refine below_drewN ?_ _) | (refine Below.trans ?_ (Below.mono (by assumption) (by first | omega | (simp; done) | (simp; omega) | (simp at *; omega))))))⟩
theorem rat_none (s : ByteArray) (n side : Int) (w : World) (h : isB s = false ∨ n < 0 ∨ 89 < n ∨ side < 0 ∨ 1 < side) : Calls Tryd.prog 34 #[.string s, .int .i64 n, .int .i64 side] w (GivesL w []) := by
  cases hb : isB s
  · have B := Lib.hid hb
    clear h hb
    go_enter Tryd.func34, Tryd.ntmps34
    go_wp2_with fail
    refine (ris_is s false _ B.out).mono ?_
    rintro e w' ⟨rfl, rfl⟩
    go_wp2
    go_ret
    exact ⟨none, 0, rfl, fun j u hu => by simp at hu, Below.refl _ _⟩
  · have B := Lib.hid hb
    rw [hb] at h
    clear hb
    by_cases h1 : n < 0
    · clear h
      go_enter Tryd.func34, Tryd.ntmps34
      go_wp2_with fail
      refine (ris_is s true _ B.out).mono ?_
      rintro e w' ⟨rfl, rfl⟩
      go_wp2
      go_ret
      exact ⟨none, 0, rfl, fun j u hu => by simp at hu, Below.refl _ _⟩
    by_cases h2 : 89 < n
    · clear h
      go_enter Tryd.func34, Tryd.ntmps34
      go_wp2_with fail
      refine (ris_is s true _ B.out).mono ?_
      rintro e w' ⟨rfl, rfl⟩
      go_wp2
      go_ret
      exact ⟨none, 0, rfl, fun j u hu => by simp at hu, Below.refl _ _⟩
    by_cases h3 : side < 0
    · clear h
      go_enter Tryd.func34, Tryd.ntmps34
      go_wp2_with fail
      refine (ris_is s true _ B.out).mono ?_
      rintro e w' ⟨rfl, rfl⟩
      go_wp2
      go_ret
      exact ⟨none, 0, rfl, fun j u hu => by simp at hu, Below.refl _ _⟩
    · have h4 : 1 < side := by simp at h; omega
      clear h
      go_enter Tryd.func34, Tryd.ntmps34
      go_wp2_with fail
      refine (ris_is s true _ B.out).mono ?_
      rintro e w' ⟨rfl, rfl⟩
      go_wp2
      go_ret
      exact ⟨none, 0, rfl, fun j u hu => by simp at hu, Below.refl _ _⟩
set_option maxRecDepth 100000 in
set_option maxHeartbeats 2000000 in
theorem rat_some (s : ByteArray) (n : Nat) (side : Int) (w : World) (hb : isB s = true) (hn : n < 90) (hside : side = 0 ∨ side = 1) : Calls Tryd.prog 34 #[.string s, .int .i64 (n : Int), .int .i64 side] w (GivesL w (trues (attB s n side) 90)) := by
  have hs := isB_size hb
  obtain ⟨c, hc⟩ : ∃ c, pawnOf (1 - side) = c := ⟨_, rfl⟩
  obtain ⟨t, ht⟩ : ∃ t, putS s n c = t := ⟨_, rfl⟩
  have hts : 90 ≤ t.size := by rw [← ht, put_size]; omega
  have HPT := Lib.hid fun W => rput7_is s n c side W hs hn hside hc
  rw [ht] at HPT
  obtain ⟨p, hp⟩ : ∃ p : Nat → Bool, p = attB s n side := ⟨_, rfl⟩
  have Hp : Hid (∀ k, p k = ((sideN (bAt t k) == side) && canB t k n)) := by
    show ∀ k, _
    intro k
    rw [hp]
    unfold attB
    rw [hc, ht]
  rw [← hp]
  obtain ⟨i0, hi, hz0, hz1, hz2⟩ := info_parts info_int
  have B := Lib.hid hb
  have g0 : ¬ (n : Int) < 0 := by omega
  have g1 : ¬ (89 : Int) < (n : Int) := by omega
  have g2 : ¬ side < 0 := by omega
  have g3 : ¬ 1 < side := by omega
  clear hb hs hc ht hp hside
  go_enter Tryd.func34, Tryd.ntmps34
  go_wp2_with fail
  refine (ris_is s true _ B.out).mono ?_
  rintro e w' ⟨rfl, rfl⟩
  go_wp2_with fail
  refine (HPT.out _).mono ?_
  rintro e w1 ⟨rfl, hb1⟩
  go_wp2_with fail
  go_loopw [8, 9] (fun v i wr => ∃ k : Nat, k ≤ 90 ∧ i = .int .i64 k ∧ wr.ownsRow w.heap.size 3 1 v (trues p k).length ((trues p k).map iv) ∧ Below w.heap.size w wr) (fun _ i _ => 90 - (intOf i).toNat)
  case atStart => exact ⟨0, by omega, rfl, by simpa [trues] using World.ownsRow_nil w1 w.heap.size 3 1, hb1⟩
  case round =>
    obtain ⟨k, hk, rfl, hown, hB⟩ := hrel
    have hbs := hB.size
    have hle := trues_le p k
    by_cases hlt : k < 90
    · have hst := trues_succ p k
      obtain ⟨x, hx⟩ : ∃ x, bAt t k = x := ⟨_, rfl⟩
      have hks : k < t.size := by omega
      have hbk : t[k].toNat = x := (bAt_eq t k hks).trans hx
      obtain ⟨d, hd⟩ : ∃ d, sideN x = d := ⟨_, rfl⟩
      obtain ⟨r, hr⟩ : ∃ r, canB t k n = r := ⟨_, rfl⟩
      have hpk := Hp.out k
      rw [hx, hd, hr] at hpk
      rw [hpk] at hst
      have HD := Lib.hid hd
      have HR := Lib.hid hr
      clear hx hpk hd hr
      cases hds : (d == side)
      · rw [hds] at hst
        have Hs := Lib.hid hst
        clear hst
        go_wp2_with fail
        refine (rside_is x d _ HD.out).mono ?_
        rintro e w2 ⟨rfl, rfl⟩
        go_wp2_with fail
        go_roundw
        case rel => exact ⟨k + 1, by omega, by go_num, by rw [Hs.out]; exact hown, hB⟩
        case measure => simp [intOf]; omega
      · cases r
        · rw [hds] at hst
          have Hs := Lib.hid hst
          clear hst
          go_wp2_with fail
          refine (rside_is x d _ HD.out).mono ?_
          rintro e w2 ⟨rfl, rfl⟩
          go_wp2_with fail
          refine (fast_is t k n false _ hts hlt hn HR.out).mono ?_
          rintro e w2 ⟨rfl, rfl⟩
          go_wp2_with fail
          go_roundw
          case rel => exact ⟨k + 1, by omega, by go_num, by rw [Hs.out]; exact hown, hB⟩
          case measure => simp [intOf]; omega
        · rw [hds] at hst
          have Hs := Lib.hid hst
          clear hst
          go_wp2_with fail
          refine (rside_is x d _ HD.out).mono ?_
          rintro e w2 ⟨rfl, rfl⟩
          go_wp2_with fail
          refine (fast_is t k n true _ hts hlt hn HR.out).mono ?_
          rintro e w2 ⟨rfl, rfl⟩
          go_wp2_with (at_builtin; refine wpList_append_own _ rfl _ _ 36 rfl w.heap.size 3 i0 (.int .i64 0) 1 8 Tryd.underlying36 hi hz0 hz1 hz2 rfl (by decide) _ _ _ rfl (hown.alloc _) ⟨wr.heap.size, 0, none⟩ 1 1 [iv k] rfl rfl (cell_one_new _ _ _) (by simp [Value.oneCell']) (by unfold maxLen; omega) (by omega) (by simp; omega) ?_; intro v' w2 hown' hgrow _)
          go_roundw
          case rel => exact ⟨k + 1, by omega, by go_num, by rw [Hs.out]; simpa using hown', below_app hB hbs hown hgrow⟩
          case measure => simp [intOf]; omega
    · obtain rfl : k = 90 := by omega
      obtain ⟨A', c', rfl⟩ := own_slice hown
      go_wp2
      go_ret
      exact ⟨A', c', rfl, Rd.own hown, hB⟩
theorem rat_any (s : ByteArray) (n side : Int) (w : World) : Calls Tryd.prog 34 #[.string s, .int .i64 n, .int .i64 side] w (GivesL w (attL s n side)) := by
  unfold attL
  cases h : isB s && sqI n && ((side == 0) || (side == 1))
  · have hh : isB s = false ∨ n < 0 ∨ 89 < n ∨ side < 0 ∨ 1 < side := by
      rw [Bool.and_eq_false_iff, Bool.and_eq_false_iff, Bool.or_eq_false_iff, beq_eq_false_iff_ne, beq_eq_false_iff_ne] at h
      rcases h with (h | h) | h
      · exact .inl h
      · unfold sqI at h
        rw [Bool.and_eq_false_iff, decide_eq_false_iff_not, decide_eq_false_iff_not] at h
        omega
      · omega
    exact rat_none s n side w hh
  · simp only [Bool.and_eq_true, Bool.or_eq_true, beq_iff_eq] at h
    obtain ⟨⟨hb, hn⟩, hs⟩ := h
    obtain ⟨h0, h1⟩ := sqI_in hn
    obtain ⟨m, rfl⟩ : ∃ m : Nat, n = m := ⟨n.toNat, by omega⟩
    rw [if_pos rfl, Int.toNat_natCast]
    exact rat_some s m side w hb (by omega) hs
theorem rat_is (s : ByteArray) (a side : Int) (l : List Int) (n : Nat) (w : World) (h : attL s a side = l) (hn : l.length = n) : Calls Tryd.prog 34 #[.string s, .int .i64 a, .int .i64 side] w (GivesN w l n) := by subst h; subst hn; exact rat_any s a side w
theorem rof_king (side : Int) (c : Nat) (w : World) (hs : side = 0 ∨ side = 1) (hc : kingOf side = c) : Calls Tryd.prog 71 #[.int .u8 75, .int .i64 side] w (Says w (.int .u8 (c : Int))) := by
  subst hc
  rcases hs with rfl | rfl
  · exact rof_zero 75 w
  · exact rof_one 75 w (by decide)
set_option maxRecDepth 100000 in
set_option maxHeartbeats 2000000 in
theorem rgen_some (s : ByteArray) (side : Int) (w : World) (hb : isB s = true) (hside : side = 0 ∨ side = 1) : Calls Tryd.prog 36 #[.string s, .int .i64 side] w (Gives w (.int .i64 (leastI s (kingOf side)))) := by
  unfold Gives
  have hs := isB_size hb
  have hs1 : 90 ≤ s.size := by omega
  obtain ⟨c, hc⟩ : ∃ c, kingOf side = c := ⟨_, rfl⟩
  have HO := Lib.hid fun W => rof_king side c W hside hc
  rw [hc]
  obtain ⟨r, hr⟩ : ∃ r, leastI s c = r := ⟨_, rfl⟩
  have HR := Lib.hid hr
  rw [hr]
  have B := Lib.hid hb
  have g2 : ¬ side < 0 := by omega
  have g3 : ¬ 1 < side := by omega
  clear hb hs hc hr hside
  go_enter Tryd.func36, Tryd.ntmps36
  go_wp2_with fail
  refine (ris_is s true _ B.out).mono ?_
  rintro e w' ⟨rfl, rfl⟩
  go_wp2_with fail
  go_loopw [5] (fun i wr => ∃ k : Nat, k ≤ 90 ∧ i = .int .i64 k ∧ Below w.heap.size w wr ∧ Hid (∀ j, j < k → bAt s j ≠ c)) (fun i _ => 90 - (intOf i).toNat)
  case atStart => exact ⟨0, by omega, rfl, Below.refl _ _, fun j h => absurd h (Nat.not_lt_zero _)⟩
  case round =>
    obtain ⟨k, hk, rfl, hB, NO⟩ := hrel
    by_cases hlt : k < 90
    · have hks : k < s.size := by omega
      obtain ⟨x, hx⟩ : ∃ x, bAt s k = x := ⟨_, rfl⟩
      have hbk : s[k].toNat = x := (bAt_eq s k hks).trans hx
      have HX := Lib.hid hx
      clear hx
      cases he : ((x : Int) == (c : Int))
      · have HE : Hid (x ≠ c) := by
          show _ ≠ _
          intro e
          rw [e] at he
          simp at he
        go_wp2_with fail
        go_region_with ((go_at_call 71; refine (HO.out _).mono ?_; rintro e w2 ⟨rfl, rfl⟩))
        all_goals
          go_wp2_with fail
          go_roundw
          case rel =>
            refine ⟨k + 1, by omega, by go_num, by first | exact hB.drew | exact below_drewN hB _, ?_⟩
            show ∀ j, j < k + 1 → _
            intro j hj
            by_cases e : j = k
            · rw [e, HX.out]
              exact HE.out
            · exact NO.out j (by omega)
          case measure => simp [intOf]; omega
      · have K : Hid (r = (k : Int)) := by
          show _ = _
          rw [← HR.out]
          rw [beq_iff_eq] at he
          exact leastI_hit hlt (by rw [HX.out]; omega) NO.out
        go_wp2_with fail
        go_region_with ((go_at_call 71; refine (HO.out _).mono ?_; rintro e w2 ⟨rfl, rfl⟩))
        all_goals
          go_wp2_with fail
          go_ret
          exact ⟨by rw [K.out]; rfl, by first | exact hB | exact hB.drew | exact Below.refl _ _⟩
    · obtain rfl : k = 90 := by omega
      have K : Hid (r = -1) := by
        show _ = _
        rw [← HR.out]
        exact leastI_miss NO.out
      go_wp2
      go_ret
      exact ⟨by rw [K.out]; rfl, by first | exact hB | exact hB.drew | exact Below.refl _ _⟩
theorem rgen_any (s : ByteArray) (side : Int) (w : World) : Calls Tryd.prog 36 #[.string s, .int .i64 side] w (Gives w (.int .i64 (generalN s side))) := by
  cases hb : isB s
  · have B := Lib.hid hb
    have K : Hid (generalN s side = -1) := general_none (by rw [hb]; rfl)
    clear hb
    unfold Gives
    go_enter Tryd.func36, Tryd.ntmps36
    go_wp2_with fail
    refine (ris_is s false _ B.out).mono ?_
    rintro e w' ⟨rfl, rfl⟩
    go_wp2
    go_ret
    exact ⟨by rw [K.out]; rfl, by first | exact hB | exact hB.drew | exact Below.refl _ _⟩
  · by_cases hs : side = 0 ∨ side = 1
    · rw [general_some (by rw [hb]; rcases hs with rfl | rfl <;> rfl)]
      exact rgen_some s side w hb hs
    · have B := Lib.hid hb
      have K : Hid (generalN s side = -1) := general_none (by
        rw [hb, Bool.true_and, Bool.or_eq_false_iff, beq_eq_false_iff_ne, beq_eq_false_iff_ne]
        omega)
      clear hb
      unfold Gives
      by_cases h1 : side < 0
      · clear hs
        go_enter Tryd.func36, Tryd.ntmps36
        go_wp2_with fail
        refine (ris_is s true _ B.out).mono ?_
        rintro e w' ⟨rfl, rfl⟩
        go_wp2
        go_ret
        exact ⟨by rw [K.out]; rfl, by first | exact hB | exact hB.drew | exact Below.refl _ _⟩
      · have h2 : 1 < side := by omega
        clear hs
        go_enter Tryd.func36, Tryd.ntmps36
        go_wp2_with fail
        refine (ris_is s true _ B.out).mono ?_
        rintro e w' ⟨rfl, rfl⟩
        go_wp2
        go_ret
        exact ⟨by rw [K.out]; rfl, by first | exact hB | exact hB.drew | exact Below.refl _ _⟩
theorem rgen_is (s : ByteArray) (side k : Int) (w : World) (h : generalN s side = k) : Calls Tryd.prog 36 #[.string s, .int .i64 side] w (Gives w (.int .i64 k)) := by subst h; exact rgen_any s side w
end Go.Proofs.YtbfkkedcjodceaaDoor
