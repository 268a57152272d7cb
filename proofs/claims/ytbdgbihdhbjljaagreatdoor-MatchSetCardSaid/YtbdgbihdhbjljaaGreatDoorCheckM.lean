/- Merged: CheckB CheckC CheckD CheckF CheckE CheckG. -/
import Derived.Test.YtbdgbihdhbjljaaGreatDoorCheckA
import Derived.Lib.Bytealg
import Derived.Test.YtbdgbihdhbjljaaGreatDoorBoardM
import Derived.Test.YtbdgbihdhbjljaaGreatDoorDelA
import Derived.Test.YtbdgbihdhbjljaaGreatDoorReachF
import Derived.Test.YtbdgbihdhbjljaaGreatDoorRefP5
import Derived.Test.YtbdgbihdhbjljaaGreatDoorPos3
import Derived.Test.YtbdgbihdhbjljaaGreatDoorReachG

namespace Go.Proofs.YtbdgbihdhbjljaaGreatDoor

theorem index_find (c : UInt8) : ∀ l : List UInt8, Lib.indexByte l c = match (List.range l.length).find? fun n => l.getD n 0 == c with | some n => (n : Int) | none => -1
  | [] => rfl
  | b :: l => by
    rw [List.length_cons, List.range_succ_eq_map, List.find?_cons, Lib.indexByte]
    show (if (b == c) = true then (0 : Int) else _) = match (match b == c with | true => some 0 | false => _) with | some n => (n : Int) | none => -1
    cases h : b == c
    · rw [if_neg (by simp), index_find c l, List.find?_map]
      show _ = match Option.map Nat.succ ((List.range l.length).find? fun n => l.getD n 0 == c) with | some n => (n : Int) | none => -1
      cases (List.range l.length).find? fun n => l.getD n 0 == c with
      | none => rfl
      | some m =>
        have h1 : ((m : Int) == -1) = false := by rw [beq_eq_false_iff_ne]; omega
        show (if ((m : Int) == -1) = true then (-1 : Int) else (m : Int) + 1) = ((m + 1 : Nat) : Int)
        rw [h1]
        simp
    · rfl
theorem find_same7 {p q : Nat → Bool} : ∀ {l : List Nat}, (∀ k ∈ l, p k = q k) → l.find? p = l.find? q
  | [], _ => rfl
  | x :: r, h => by
    rw [List.find?_cons, List.find?_cons, h x (by simp), find_same7 fun k hk => h k (by simp [hk])]
/-- Where a general stands, or -1. -/
def leastI (s : ByteArray) (c : Nat) : Int := match leastN s c with | some n => (n : Int) | none => -1
theorem index_least {s : ByteArray} (hz : s.size = 90) {c : Nat} (hc : c < 256) : Lib.indexByte s.data.toList (Int.toNat (c : Int)).toUInt8 = leastI s c := by
  have hl : s.data.toList.length = 90 := by simpa using hz
  rw [index_find, hl, leastI, leastN]
  congr 1
  refine find_same7 fun k hk => ?_
  have hk := List.mem_range.1 hk
  have h1 : bAt s k = (s.data.toList.getD k 0).toNat := by
    rw [← bAt_eq s k (by omega), List.getD_eq_getElem?_getD, List.getElem?_eq_getElem (by omega)]
    rfl
  rw [h1, Int.toNat_natCast, Bool.eq_iff_iff, beq_iff_eq, beq_iff_eq]
  constructor
  · intro e
    rw [e]
    show (UInt8.ofNat c).toNat = c
    exact UInt8.toNat_ofNat_of_lt' hc
  · intro e
    rw [← e]
    show _ = UInt8.ofNat _
    exact (UInt8.ofNat_toNat).symm
theorem leastI_cases (s : ByteArray) (c : Nat) : (leastN s c = none ∧ leastI s c = -1) ∨ ∃ n, n < 90 ∧ leastN s c = some n ∧ leastI s c = (n : Int) ∧ bAt s n = c := by
  unfold leastI
  cases h : leastN s c with
  | none => exact .inl ⟨rfl, rfl⟩
  | some n => exact .inr ⟨n, (least_some h).1, rfl, rfl, (least_some h).2⟩
theorem general_none {s : ByteArray} {side : Int} (h : (isB s && ((side == 0) || (side == 1))) = false) : generalN s side = -1 := by unfold generalN; rw [h]; rfl
theorem general_some {s : ByteArray} {side : Int} (h : (isB s && ((side == 0) || (side == 1))) = true) : generalN s side = leastI s (kingOf side) := by unfold generalN; rw [h]; rfl
theorem general_cases (s : ByteArray) (side : Int) : generalN s side = -1 ∨ ∃ n : Nat, n < 90 ∧ generalN s side = n ∧ isB s = true ∧ (side = 0 ∨ side = 1) ∧ leastN s (kingOf side) = some n := by
  cases h : isB s && ((side == 0) || (side == 1))
  · exact .inl (general_none h)
  · rw [general_some h]
    rcases leastI_cases s (kingOf side) with ⟨_, e⟩ | ⟨n, hn, e, e2, _⟩
    · exact .inl e
    · simp only [Bool.and_eq_true, Bool.or_eq_true, beq_iff_eq] at h
      exact .inr ⟨n, hn, e2, h.1, h.2, e⟩
/-- Do the generals face one another, by where they stand? -/
theorem facing_gen (s : ByteArray) : facingB s = (decide (0 ≤ generalN s 0) && decide (0 ≤ generalN s 1) && (generalN s 0 % 9 == generalN s 1 % 9) && (betweenV s (generalN s 0) (generalN s 1) == 0)) := by
  cases hb : isB s
  · have h0 : generalN s 0 = -1 := general_none (by rw [hb]; rfl)
    rw [h0]
    unfold facingB
    rw [hb]
    cases leastN s 75 <;> cases leastN s 107 <;> rfl
  · have h0 : generalN s 0 = leastI s 75 := general_some (by rw [hb]; rfl)
    have h1 : generalN s 1 = leastI s 107 := general_some (by rw [hb]; rfl)
    rw [h0, h1]
    unfold facingB
    rcases leastI_cases s 75 with ⟨ea, va⟩ | ⟨a, ha, ea, va, ka⟩
    · rw [ea, va]
      rfl
    rcases leastI_cases s 107 with ⟨eb, vb⟩ | ⟨b, hb9, eb, vb, kb⟩
    · rw [eb, vb, ea, va]
      simp
    · rw [ea, eb, va, vb, hb]
      have hne : a ≠ b := fun e => by rw [e, kb] at ka; cases ka
      have e1 : ((a : Int) % 9 == (b : Int) % 9) = (a % 9 == b % 9) := by
        rw [Bool.eq_iff_iff, beq_iff_eq, beq_iff_eq]
        omega
      rw [e1]
      by_cases e : a % 9 = b % 9
      · have hl : lineB a b = true := by simp [lineB, e, hne]
        have e2 : betweenV s (a : Int) (b : Int) = (betweenN s a b : Int) := by
          unfold betweenV betweenI
          rw [hb, sqI_true (by omega), sqI_true (by omega), Int.toNat_natCast, Int.toNat_natCast, hl]
          rfl
        rw [e2]
        have e3 : ((betweenN s a b : Int) == 0) = (betweenN s a b == 0) := by
          rw [Bool.eq_iff_iff, beq_iff_eq, beq_iff_eq]
          omega
        rw [e3]
        simp
      · have : (a % 9 == b % 9) = false := by rw [beq_eq_false_iff_ne]; exact e
        simp [this]
/-- The code's way: by files that are told of -1 too. -/
theorem facing_file (s : ByteArray) : facingB s = ((fileI (generalN s 0) == fileI (generalN s 1)) && (betweenV s (generalN s 0) (generalN s 1) == 0)) := by
  rw [facing_gen]
  have hbt : ∀ x y : Int, (x = -1 ∨ y = -1) → (betweenV s x y == 0) = false := fun x y h => by
    have : betweenV s x y = -1 := by
      unfold betweenV
      rcases h with rfl | rfl
      · rw [sqI_false (by omega)]; simp
      · rw [sqI_false (n := -1) (by omega)]; simp
    rw [this]
    rfl
  rcases general_cases s 0 with h0 | ⟨a, ha, h0, _⟩
  · rw [hbt _ _ (.inl h0)]
    simp
  rcases general_cases s 1 with h1 | ⟨b, hb, h1, _⟩
  · rw [hbt _ _ (.inr h1)]
    simp
  · rw [h0, h1, fileI, fileI, if_pos (by omega), if_pos (by omega)]
    simp
theorem in_att (s : ByteArray) (side : Int) : inB s side = ((attL s (generalN s side) (1 - side)).length != 0) := by
  unfold inB attL
  cases h : isB s && ((side == 0) || (side == 1))
  · rw [general_none h]
    rw [sqI_false (n := -1) (by omega)]
    simp
  · rw [general_some h]
    have hh := h
    simp only [Bool.and_eq_true, Bool.or_eq_true, beq_iff_eq] at hh
    rcases leastI_cases s (kingOf side) with ⟨ea, va⟩ | ⟨a, ha, ea, va, ka⟩
    · rw [ea, va, sqI_false (n := -1) (by omega)]
      simp
    · rw [ea, va, sqI_true (n := (a : Int)) (by omega), hh.1]
      have hs : ((1 - side == 0) || (1 - side == 1)) = true := by
        simp only [Bool.or_eq_true, beq_iff_eq]
        omega
      rw [hs]
      simp [attN, trues]
theorem att_len (s : ByteArray) (n side : Int) : (attL s n side).length ≤ 90 := by
  unfold attL
  split
  · exact trues_le _ _
  · simp
end Go.Proofs.YtbdgbihdhbjljaaGreatDoor

namespace Go.Proofs.YtbdgbihdhbjljaaGreatDoor

/-- The board with a pawn of the other side on the square. -/
def stoodS (s : ByteArray) (n side : Int) : ByteArray := putB s n (pawnOf (1 - side))
theorem of_side7 {c : Nat} {side : Int} (h : 0 ≤ side) : ofSide c side = (sideN c == side) := by
  unfold ofSide
  by_cases e : c = 46
  · subst e
    have : sideN 46 = -1 := by decide
    rw [this]
    have : ((-1 : Int) == side) = false := by rw [beq_eq_false_iff_ne]; omega
    rw [this]
    rfl
  · have : (c != 46) = true := by rw [bne_iff_ne]; exact e
    rw [this, Bool.true_and]
theorem of_none {s : ByteArray} (hb : isB s = true) {side : Int} (h : ¬ (side = 0 ∨ side = 1)) {k : Nat} (hk : k < 90) : ofSide (bAt s k) side = false := by
  unfold ofSide
  have hf := isB_fill hb k hk
  rw [fill_side, Bool.or_eq_true, decide_eq_true_eq, beq_iff_eq] at hf
  rcases hf with hf | hf
  · rw [hf]
    rfl
  · have h01 := side_cases01 hf
    have : (sideN (bAt s k) == side) = false := by
      rw [beq_eq_false_iff_ne]
      intro e
      rw [e] at h01
      exact h h01
    rw [this, Bool.and_false]
theorem filter_trues (q : Nat → Bool) (p : Int → Bool) (m : Nat) : (trues q m).filter p = trues (fun k => q k && p (k : Int)) m := by
  unfold trues
  rw [List.filter_map, List.filter_filter]
  congr 1
  refine List.filter_congr fun k _ => ?_
  rw [Bool.and_comm]
  rfl
theorem att_filter (s : ByteArray) (n side : Int) : ((piecesL (stoodS s n side) side).filter fun x => !(!canI (stoodS s n side) x n)) = attL s n side := by
  simp only [Bool.not_not]
  unfold attL
  cases hb : isB s
  · have e : stoodS s n side = s := by unfold stoodS putB; rw [hb]; simp
    rw [e]
    unfold piecesL
    rw [hb]
    rfl
  cases hn : sqI n
  · have e : stoodS s n side = s := by unfold stoodS putB; rw [hn]; simp
    rw [e]
    have : ∀ x, canI s x n = false := fun x => by unfold canI; rw [hn]; simp
    simp [this]
  obtain ⟨h0, h1⟩ := sqI_in hn
  obtain ⟨m, rfl⟩ : ∃ m : Nat, n = m := ⟨n.toNat, by omega⟩
  have hm : m < 90 := by omega
  have e : stoodS s (m : Int) side = putS s m (pawnOf (1 - side)) := by
    unfold stoodS putB
    rw [hb, hn, pawnOf_fill, Int.toNat_natCast]
    rfl
  have hbd : isB (putS s m (pawnOf (1 - side))) = true := put_is_board hb m _ (pawnOf_lt _) (pawnOf_fill _)
  rw [e, piecesL, if_pos hbd, filter_trues]
  by_cases hs : side = 0 ∨ side = 1
  · have h2 : ((side == 0) || (side == 1)) = true := by
      simp only [Bool.or_eq_true, beq_iff_eq]
      exact hs
    rw [h2, if_pos (by rfl), Int.toNat_natCast]
    unfold trues
    congr 1
    refine List.filter_congr fun k hk => ?_
    have hk := List.mem_range.1 hk
    unfold attB canI
    rw [hbd, hn, sqI_true (n := (k : Int)) (by omega), Int.toNat_natCast, Int.toNat_natCast, of_side7 (by omega)]
    simp
  · have h2 : ((side == 0) || (side == 1)) = false := by
      rw [Bool.eq_false_iff]
      intro h3
      simp only [Bool.or_eq_true, beq_iff_eq] at h3
      exact hs h3
    rw [h2]
    simp only [Bool.and_false, Bool.false_eq_true, if_false]
    unfold trues
    rw [List.map_eq_nil_iff, List.filter_eq_nil_iff]
    intro k hk
    rw [of_none hbd hs (List.mem_range.1 hk)]
    simp
end Go.Proofs.YtbdgbihdhbjljaaGreatDoor

namespace Go.Proofs.YtbdgbihdhbjljaaGreatDoor
open Go.RowKit Go.Shelf
open M (S)

set_option maxHeartbeats 1000000 in
theorem general_any (s : ByteArray) (side : Int) (w : World) : Calls Tryz.prog 125 #[.string s, .int .i64 side] w (Says w (.int .i64 (generalN s side))) := by
  unfold Says
  cases hb : isB s
  · have B := Lib.hid hb
    have K : Hid (generalN s side = -1) := general_none (by rw [hb]; rfl)
    clear hb
    go_enter Tryz.func125, Tryz.ntmps125
    go_wp2_with fail
    refine (is_is s false _ B.out).mono ?_
    rintro e w1 ⟨rfl, rfl⟩
    go_wp2
    go_ret
    exact ⟨by rw [K.out]; rfl, rfl⟩
  · have hz := isB_size hb
    have B := Lib.hid hb
    by_cases h0 : side = 0
    · subst h0
      have K : Hid (generalN s 0 = leastI s 75) := general_some (by rw [hb]; rfl)
      have X := Lib.hid (index_least hz (c := 75) (by decide))
      clear hb hz
      go_enter Tryz.func125, Tryz.ntmps125
      go_wp2_with fail
      refine (is_is s true _ B.out).mono ?_
      rintro e w1 ⟨rfl, rfl⟩
      go_wp2_with fail
      refine (byte_index s 75 _).mono ?_
      rintro e w2 ⟨rfl, rfl⟩
      go_wp2
      go_ret
      exact ⟨by rw [K.out, ← X.out]; rfl, rfl⟩
    · by_cases h1 : side = 1
      · subst h1
        have K : Hid (generalN s 1 = leastI s 107) := general_some (by rw [hb]; rfl)
        have X := Lib.hid (index_least hz (c := 107) (by decide))
        clear hb hz h0
        go_enter Tryz.func125, Tryz.ntmps125
        go_wp2_with fail
        refine (is_is s true _ B.out).mono ?_
        rintro e w1 ⟨rfl, rfl⟩
        go_wp2_with fail
        refine (byte_index s 107 _).mono ?_
        rintro e w2 ⟨rfl, rfl⟩
        go_wp2
        go_ret
        exact ⟨by rw [K.out, ← X.out]; rfl, rfl⟩
      · have K : Hid (generalN s side = -1) := general_none (by
          rw [hb, Bool.true_and, Bool.or_eq_false_iff, beq_eq_false_iff_ne, beq_eq_false_iff_ne]
          exact ⟨h0, h1⟩)
        have e0 : (side == 0) = false := by rw [beq_eq_false_iff_ne]; exact h0
        have e1 : (side == 1) = false := by rw [beq_eq_false_iff_ne]; exact h1
        clear hb hz h0 h1
        go_enter Tryz.func125, Tryz.ntmps125
        go_wp2_with fail
        refine (is_is s true _ B.out).mono ?_
        rintro e w1 ⟨rfl, rfl⟩
        go_wp2
        go_ret
        exact ⟨by rw [K.out]; rfl, rfl⟩
theorem general_is (s : ByteArray) (side k : Int) (w : World) (h : generalN s side = k) : Calls Tryz.prog 125 #[.string s, .int .i64 side] w (Says w (.int .i64 k)) := by subst h; exact general_any s side w
set_option maxHeartbeats 1000000 in
theorem facing_any (s : ByteArray) (w : World) : Calls Tryz.prog 78 #[.string s] w (Says w (.bool (facingB s))) := by
  unfold Says
  obtain ⟨a, ha⟩ : ∃ a, generalN s 0 = a := ⟨_, rfl⟩
  obtain ⟨b, hb⟩ : ∃ b, generalN s 1 = b := ⟨_, rfl⟩
  obtain ⟨f, hf⟩ : ∃ f, fileI a = f := ⟨_, rfl⟩
  obtain ⟨g, hg⟩ : ∃ g, fileI b = g := ⟨_, rfl⟩
  obtain ⟨k, hk⟩ : ∃ k, betweenV s a b = k := ⟨_, rfl⟩
  have K0 := Lib.hid (facing_file s)
  rw [ha, hb, hf, hg, hk] at K0
  have HA := Lib.hid ha
  have HB := Lib.hid hb
  have HF := Lib.hid hf
  have HG := Lib.hid hg
  have HK := Lib.hid hk
  clear ha hb hf hg hk
  cases he : (f == g)
  · have K : Hid (facingB s = false) := by show _ = _; rw [K0.out, he]; rfl
    clear K0
    go_enter Tryz.func78, Tryz.ntmps78
    go_wp2_with fail
    refine (general_is s 0 a _ HA.out).mono ?_
    rintro e w1 ⟨rfl, rfl⟩
    go_wp2_with fail
    refine (general_is s 1 b _ HB.out).mono ?_
    rintro e w1 ⟨rfl, rfl⟩
    go_wp2_with fail
    refine (file_is a f _ HF.out).mono ?_
    rintro e w1 ⟨rfl, rfl⟩
    go_wp2_with fail
    refine (file_is b g _ HG.out).mono ?_
    rintro e w1 ⟨rfl, rfl⟩
    go_wp2
    go_ret
    exact ⟨by rw [K.out]; rfl, rfl⟩
  · have K : Hid (facingB s = (k == 0)) := by show _ = _; rw [K0.out, he]; rfl
    clear K0
    go_enter Tryz.func78, Tryz.ntmps78
    go_wp2_with fail
    refine (general_is s 0 a _ HA.out).mono ?_
    rintro e w1 ⟨rfl, rfl⟩
    go_wp2_with fail
    refine (general_is s 1 b _ HB.out).mono ?_
    rintro e w1 ⟨rfl, rfl⟩
    go_wp2_with fail
    refine (file_is a f _ HF.out).mono ?_
    rintro e w1 ⟨rfl, rfl⟩
    go_wp2_with fail
    refine (file_is b g _ HG.out).mono ?_
    rintro e w1 ⟨rfl, rfl⟩
    go_wp2_with fail
    refine (between_is5 s a b k _ HK.out).mono ?_
    rintro e w1 ⟨rfl, rfl⟩
    go_wp2
    go_ret
    exact ⟨by rw [K.out]; rfl, rfl⟩
theorem facing_is (s : ByteArray) (v : Bool) (w : World) (h : facingB s = v) : Calls Tryz.prog 78 #[.string s] w (Says w (.bool v)) := by subst h; exact facing_any s w
theorem victim_is (side : Int) (w : World) : Calls Tryz.prog 172 #[.int .i64 side] w (Says w (.int .u8 (pawnOf (1 - side) : Nat))) := by
  unfold Says
  by_cases h : side = 0
  · subst h
    go_enter Tryz.func172, Tryz.ntmps172
    go_wp2
    go_ret
    exact ⟨rfl, rfl⟩
  · have e0 : (side == 0) = false := by rw [beq_eq_false_iff_ne]; exact h
    have K : Hid (pawnOf (1 - side) = 80) := by show _ = _; unfold pawnOf; rw [if_neg (by omega)]
    clear h
    go_enter Tryz.func172, Tryz.ntmps172
    go_wp2
    go_ret
    exact ⟨by rw [K.out]; rfl, rfl⟩
theorem victim_as (side : Int) (c : Nat) (w : World) (h : pawnOf (1 - side) = c) : Calls Tryz.prog 172 #[.int .i64 side] w (Says w (.int .u8 (c : Int))) := by subst h; exact victim_is side w
theorem other_is (side k : Int) (w : World) (h : side = 0 ∨ side = 1) (hk : 1 - side = k) : Calls Tryz.prog 80 #[.int .i64 side] w (Says w (.int .i64 k)) := by
  unfold Says
  subst hk
  rcases h with rfl | rfl
  all_goals
    go_enter Tryz.func80, Tryz.ntmps80
    go_wp2
    go_ret
    exact ⟨rfl, rfl⟩
theorem other_some (side : Int) (w : World) : Calls Tryz.prog 80 #[.int .i64 side] w fun e w' => ∃ k, e = .returned (.int .i64 k) ∧ w = w' := by
  go_enter Tryz.func80, Tryz.ntmps80
  go_wp2
  go_ret
  exact ⟨_, rfl, rfl⟩
theorem att1_any (s : ByteArray) (x n : Int) (g0 g1 : Nat) (W : World) (c0 : W.cell? ⟨g0, 0, none⟩ = some (.string s)) (c1 : W.cell? ⟨g1, 0, none⟩ = some (.int .i64 n)) :
    Calls Tryz.prog 173 #[.int .i64 x, .pointer (some ⟨g0, 0, none⟩), .pointer (some ⟨g1, 0, none⟩)] W fun e w' => e = .returned (.bool (!canI s x n)) ∧ Below W.heap.size W w' := by
  obtain ⟨v, hv⟩ : ∃ v, canI s x n = v := ⟨_, rfl⟩
  rw [hv]
  have HV := Lib.hid hv
  clear hv
  go_enter Tryz.func173, Tryz.ntmps173
  go_wp2_with fail
  refine (can_is5 s x n v _ HV.out).mono ?_
  rintro e w1 ⟨rfl, hb⟩
  go_wp2
  go_ret
  exact ⟨rfl, hb⟩
theorem put_as (s t : ByteArray) (n : Int) (c : Nat) (w : World) (hc : c < 256) (h : putB s n c = t) : Calls Tryz.prog 171 #[.string s, .int .i64 n, .int .u8 (c : Int)] w (Gives w (.string t)) := by subst h; exact put_is s n c w hc
theorem below_same {w w1 : World} (h : w = w1) : Below w.heap.size w w1 := by subst h; exact Below.refl _ _
/-- What the region keeps: the square's number in memory; the table. -/
abbrev NT (w : World) (g : Nat) (n : Int) (W : World) : Prop := W.cell? ⟨g, 0, none⟩ = some (.int .i64 n) ∧ Tab W ∧ Below w.heap.size w W
theorem nT_keep {w : World} {g : Nat} {n : Int} {W W' : World} (h : NT w g n W) (hb : Below W.heap.size W W') : NT w g n W' := by
  obtain ⟨h0, h1, h2⟩ := h
  exact ⟨(hb.cell (p := ⟨g, 0, none⟩) (World.block_lt_of_cell? _ _ h0)).trans h0, h1.next hb, h2.trans (hb.mono h2.size)⟩
theorem nT_set {w : World} {g : Nat} {n : Int} {W X : World} (h : NT w g n W) (hx : NT w g n X) (u : Value) : NT w g n (W.setCell ⟨X.heap.size, 0, none⟩ u) := by
  obtain ⟨h0, h1, h2⟩ := h
  have hg : g < X.heap.size := World.block_lt_of_cell? _ _ hx.1
  refine ⟨?_, h1.below ((Below.refl X.heap.size W).setCell (p := ⟨X.heap.size, 0, none⟩) (Nat.le_refl _) u) hx.2.1.lt, h2.setCell (p := ⟨X.heap.size, 0, none⟩) hx.2.2.size u⟩
  rw [World.cell?_setCell_other _ _ _ _ (by intro e; injection e with e1; omega)]
  exact h0
theorem with_two {P Q R : Prop} (h : P ∧ Q) (k : P → Q → R) : R := k h.1 h.2
theorem box_two {W w1 w2 : World} {v : Value} {t : TypeId} (h : W.alloc (.cells #[v] t) = w1) (hb : Below w1.heap.size w1 w2) : w2.cell? ⟨W.heap.size, 0, none⟩ = some v ∧ w2.frozen? ⟨W.heap.size, 0, none⟩ = false := by
  have h1 : Blk w1 W.heap.size t #[v] := by rw [← h]; exact Blk.new _ _ _ rfl
  exact ⟨(h1.next hb).cell 0, (h1.next hb).frozen 0⟩
theorem box_drew {W w1 w2 : World} {v : Value} {t : TypeId} (h : (W.alloc (.cells #[v] t)).drew = w1) (hb : Below w1.heap.size w1 w2) : w2.cell? ⟨W.heap.size, 0, none⟩ = some v ∧ w2.frozen? ⟨W.heap.size, 0, none⟩ = false := by
  have h1 : Blk w1 W.heap.size t #[v] := by rw [← h]; exact (Blk.new W t #[v] rfl).next (Below.refl _ _).drew
  exact ⟨(h1.next hb).cell 0, (h1.next hb).frozen 0⟩
theorem att_del (s st : ByteArray) (n side : Int) (HF : Hid (((piecesL st side).filter fun x => !(!canI st x n)) = attL s n side)) (W3 w4 : World) (g0 g1 : Nat) (c0 : W3.cell? ⟨g0, 0, none⟩ = some (.string st)) (c1 : W3.cell? ⟨g1, 0, none⟩ = some (.int .i64 n)) (v : Value) (ho : w4.ownsRow W3.heap.size 3 1 v (piecesL st side).length ((piecesL st side).map iv)) (hb4 : Below W3.heap.size W3 w4) :
    Calls Tryz.prog 160 #[v, .func (.func 173) #[] #[.pointer (some ⟨g0, 0, none⟩), .pointer (some ⟨g1, 0, none⟩)]] w4 fun e w' => ∃ v', e = .returned v' ∧ w'.ownsRow W3.heap.size 3 1 v' (attL s n side).length ((attL s n side).map iv) ∧ Below W3.heap.size W3 w' := by
  have hm : (piecesL st side).length ≤ 1000000 := by
    have : (piecesL st side).length ≤ 90 := by
      unfold piecesL
      split
      · exact trues_le _ _
      · simp
    omega
  have eg : ∀ args w, (callFunc 173 args).run Tryz.prog w = .ok (.enter 173 args) w := enters_of Tryz.func173 (by kernel_rfl) rfl
  have hcl : PredOn 173 #[.pointer (some ⟨g0, 0, none⟩), .pointer (some ⟨g1, 0, none⟩)] iv (fun x => !canI st x n) (piecesL st side) W3 := fun W x _ hb => att1_any st x n _ _ W ((hb.cell (p := ⟨g0, 0, none⟩) (World.block_lt_of_cell? _ _ c0)).trans c0) ((hb.cell (p := ⟨g1, 0, none⟩) (World.block_lt_of_cell? _ _ c1)).trans c1)
  have := del_ints (piecesL st side) (fun x => !canI st x n) 173 _ eg v _ W3 w4 hcl ho rfl hm hb4
  rw [HF.out] at this
  exact this
set_option maxHeartbeats 4000000 in
theorem att_any (s : ByteArray) (n side : Int) (w : World) (hT : Tab w) : Calls Tryz.prog 128 #[.string s, .int .i64 n, .int .i64 side] w (OwnL w (attL s n side)) := by
  have HF := Lib.hid (att_filter s n side)
  obtain ⟨c, hc⟩ : ∃ c, pawnOf (1 - side) = c := ⟨_, rfl⟩
  have hc256 : c < 256 := by rw [← hc]; exact pawnOf_lt _
  obtain ⟨st, hst⟩ : ∃ st, stoodS s n side = st := ⟨_, rfl⟩
  have HP : Hid (putB s n c = st) := by show _ = _; rw [← hst, ← hc]; rfl
  have HC := Lib.hid hc
  rw [hst] at HF
  obtain ⟨W0, hW0⟩ : ∃ W0, w.alloc (.cells #[.int .i64 n] 3) = W0 := ⟨_, rfl⟩
  have hB : Below w.heap.size w W0 := by rw [← hW0]; exact (by repeat (first | exact Below.refl _ _ | (refine Below.setCell ?_ (by first | omega | (simp; done) | (simp; omega) | (simp at *; omega)) _) | (refine Below.alloc ?_ (by first | omega | (simp; done) | (simp; omega) | (simp at *; omega)) _) | refine Below.drew ?_ | (refine below_drewN ?_ _) | (refine Below.trans ?_ (Below.mono (by assumption) (by first | omega | (simp; done) | (simp; omega) | (simp at *; omega))))))
  have bN : Blk W0 w.heap.size 3 #[.int .i64 n] := by rw [← hW0]; exact Blk.new _ _ _ rfl
  have HW := Lib.hid hW0
  have hT0 := hT.next hB
  have hS0 : NT w w.heap.size n W0 := ⟨bN.cell 0, hT0, hB⟩
  have hS : NT w w.heap.size n W0.drew := nT_keep hS0 (Below.refl _ _).drew
  clear hc hst hW0 hB bN hT0 hT
  go_enter Tryz.func128, Tryz.ntmps128
  go_wp2_with fail
  rw [HW.out]
  go_region_held3 (fun W => W.cell? ⟨w.heap.size, 0, none⟩ = some (.int .i64 n) ∧ Tab W ∧ Below w.heap.size w W)
    (first | exact hS | exact nT_keep (by assumption) hb | exact nT_keep (by assumption) ((Below.refl _ _).alloc (Nat.le_refl _) _) | exact nT_set (by assumption) (by assumption) _)
    (first
      | (go_at_call 172; refine (victim_as side c _ HC.out).mono ?_; rintro e w1 ⟨rfl, hw⟩; have hb := below_same hw; have h1 : NT w w.heap.size n w1 := nT_keep (by assumption) hb)
      | (go_at_call 171; refine (put_as s st n c _ hc256 HP.out).mono ?_; rintro e w2 ⟨rfl, hb⟩; have h2 : NT w w.heap.size n w2 := nT_keep (by assumption) hb; (first | (refine with_two (box_drew hw hb) ?_; intro q1 q2) | (refine with_two (box_two rfl hb) ?_; intro q1 q2) | skip)))
  · obtain ⟨W3, hW3⟩ : ∃ W3, w2.alloc (.cells #[.string st] 9) = W3 := ⟨_, rfl⟩
    have cS : W3.cell? ⟨w2.heap.size, 0, none⟩ = some (.string st) := by rw [← hW3]; exact (Blk.new _ _ _ rfl).cell 0
    rename_i hh
    rw [hW3] at hh ⊢
    obtain ⟨cN, hT3, hB3⟩ := hh
    clear hW3  hb hw h1 h2 hS hS0 HW HP HC
    go_wp2_with fail
    refine (pieces_own st side _ hT3).mono ?_
    rintro e w4 ⟨v, rfl, ho, hb4⟩
    have hdel := Lib.hid (att_del s st n side HF W3 w4 _ _ cS cN v ho hb4)
    obtain ⟨A', c', rfl⟩ := own_slice ho
    clear ho
    go_wp2_with fail
    refine hdel.out.mono ?_
    rintro e w5 ⟨v5, rfl, ho5, hb5⟩
    go_wp2
    go_ret
    exact ⟨_, rfl, own_mono ho5 hB3.size, hB3.trans (hb5.mono hB3.size)⟩
  · obtain ⟨W3, hW3⟩ : ∃ W3, w2.setCell ⟨w1.heap.size, 0, none⟩ (.string st) = W3 := ⟨_, rfl⟩
    have cS : W3.cell? ⟨w1.heap.size, 0, none⟩ = some (.string st) := by rw [← hW3]; exact World.cell?_setCell_same' _ _ _ (by rw [q1]; rfl)
    rename_i hh
    rw [hW3] at hh ⊢
    obtain ⟨cN, hT3, hB3⟩ := hh
    clear hW3 q1 q2 hb hw h1 h2 hS hS0 HW HP HC
    go_wp2_with fail
    refine (pieces_own st side _ hT3).mono ?_
    rintro e w4 ⟨v, rfl, ho, hb4⟩
    have hdel := Lib.hid (att_del s st n side HF W3 w4 _ _ cS cN v ho hb4)
    obtain ⟨A', c', rfl⟩ := own_slice ho
    clear ho
    go_wp2_with fail
    refine hdel.out.mono ?_
    rintro e w5 ⟨v5, rfl, ho5, hb5⟩
    go_wp2
    go_ret
    exact ⟨_, rfl, own_mono ho5 hB3.size, hB3.trans (hb5.mono hB3.size)⟩
  · obtain ⟨W3, hW3⟩ : ∃ W3, w2.setCell ⟨W0.heap.size, 0, none⟩ (.string st) = W3 := ⟨_, rfl⟩
    have cS : W3.cell? ⟨W0.heap.size, 0, none⟩ = some (.string st) := by rw [← hW3]; exact World.cell?_setCell_same' _ _ _ (by rw [q1]; rfl)
    rename_i hh
    rw [hW3] at hh ⊢
    obtain ⟨cN, hT3, hB3⟩ := hh
    clear hW3 q1 q2 hb hw h1 h2 hS hS0 HW HP HC
    go_wp2_with fail
    refine (pieces_own st side _ hT3).mono ?_
    rintro e w4 ⟨v, rfl, ho, hb4⟩
    have hdel := Lib.hid (att_del s st n side HF W3 w4 _ _ cS cN v ho hb4)
    obtain ⟨A', c', rfl⟩ := own_slice ho
    clear ho
    go_wp2_with fail
    refine hdel.out.mono ?_
    rintro e w5 ⟨v5, rfl, ho5, hb5⟩
    go_wp2
    go_ret
    exact ⟨_, rfl, own_mono ho5 hB3.size, hB3.trans (hb5.mono hB3.size)⟩
end Go.Proofs.YtbdgbihdhbjljaaGreatDoor

namespace Go.Proofs.YtbdgbihdhbjljaaGreatDoor
open Go.RowKit Go.Shelf
open M (S)

theorem att_as (s : ByteArray) (a side : Int) (l : List Int) (w : World) (hT : Tab w) (h : attL s a side = l) : Calls Tryz.prog 128 #[.string s, .int .i64 a, .int .i64 side] w (OwnL w l) := by subst h; exact att_any s a side w hT
theorem in_out {s : ByteArray} {side : Int} (h : ¬ (side = 0 ∨ side = 1)) : generalN s side = -1 ∧ inB s side = false := by
  have h1 : (isB s && ((side == 0) || (side == 1))) = false := by
    rw [Bool.and_eq_false_iff, Bool.or_eq_false_iff, beq_eq_false_iff_ne, beq_eq_false_iff_ne]
    exact .inr ⟨fun e => h (.inl e), fun e => h (.inr e)⟩
  refine ⟨general_none h1, ?_⟩
  unfold inB
  rw [h1]
  rfl
theorem att_neg (s : ByteArray) (k : Int) : attL s (-1) k = [] := by
  unfold attL
  rw [sqI_false (n := -1) (by omega)]
  simp
set_option maxHeartbeats 1000000 in
theorem in_any (s : ByteArray) (side : Int) (w : World) (hT : Tab w) : Calls Tryz.prog 79 #[.string s, .int .i64 side] w (Gives w (.bool (inB s side))) := by
  unfold Gives
  obtain ⟨n, hn⟩ : ∃ n, generalN s side = n := ⟨_, rfl⟩
  by_cases h : side = 0 ∨ side = 1
  · obtain ⟨l, hl⟩ : ∃ l, attL s n (1 - side) = l := ⟨_, rfl⟩
    obtain ⟨k, hk⟩ : ∃ k, 1 - side = k := ⟨_, rfl⟩
    have K : Hid (inB s side = decide (0 < l.length)) := by
      show _ = _
      rw [in_att, hn, hl, Bool.eq_iff_iff, bne_iff_ne, decide_eq_true_eq]
      omega
    rw [hk] at hl
    have HN := Lib.hid hn
    have HL := Lib.hid hl
    have HK := Lib.hid hk
    have HS := Lib.hid h
    clear hn hl hk h
    go_enter Tryz.func79, Tryz.ntmps79
    go_wp2_with fail
    refine (general_is s side n _ HN.out).mono ?_
    rintro e w1 ⟨rfl, rfl⟩
    go_wp2_with fail
    refine (other_is side k _ HS.out HK.out).mono ?_
    rintro e w1 ⟨rfl, rfl⟩
    go_wp2_with fail
    refine (att_as s n k l _ hT HL.out).mono ?_
    rintro e w3 ⟨v, rfl, ho, hb⟩
    obtain ⟨A', c', rfl⟩ := own_slice ho
    go_wp2
    go_ret
    exact ⟨by rw [K.out]; rfl, hb⟩
  · obtain ⟨h1, h2⟩ := in_out (s := s) h
    have HN := Lib.hid h1
    have K := Lib.hid h2
    clear hn h h1 h2
    go_enter Tryz.func79, Tryz.ntmps79
    go_wp2_with fail
    refine (general_is s side (-1) _ HN.out).mono ?_
    rintro e w1 ⟨rfl, rfl⟩
    go_wp2_with fail
    refine (other_some side _).mono ?_
    rintro e w1 ⟨k, rfl, rfl⟩
    go_wp2_with fail
    refine (att_as s (-1) k [] _ hT (att_neg s k)).mono ?_
    rintro e w3 ⟨v, rfl, ho, hb⟩
    obtain ⟨A', c', rfl⟩ := own_slice ho
    go_wp2
    go_ret
    exact ⟨by rw [K.out]; rfl, hb⟩
theorem in_is (s : ByteArray) (side : Int) (v : Bool) (w : World) (hT : Tab w) (h : inB s side = v) : Calls Tryz.prog 79 #[.string s, .int .i64 side] w (Gives w (.bool v)) := by subst h; exact in_any s side w hT
theorem ppos_cells7 {W : World} {g : Nat} {t : TypeId} {s : ByteArray} {a b c : Int} (h : Blk W g t #[.string s, .int .i64 a, .int .i64 b, .int .i64 c]) : W.cell? ⟨g, 0, none⟩ = some (.string s) ∧ W.cell? ⟨g, 1, none⟩ = some (.int .i64 a) ∧ W.cell? ⟨g, 2, none⟩ = some (.int .i64 b) ∧ W.cell? ⟨g, 3, none⟩ = some (.int .i64 c) := ⟨h.cell 0, h.cell 1, h.cell 2, h.cell 3⟩
set_option maxRecDepth 100000 in
set_option maxHeartbeats 4000000 in
theorem well_any (s : ByteArray) (side clock full : Int) (w : World) (hT : Tab w) : Calls Tryz.prog 42 #[.agg #[.string s, .int .i64 side, .int .i64 clock, .int .i64 full]] w (Gives w (.int .i64 (wellN s side clock full))) := by
  unfold Gives
  obtain ⟨W0, hW0⟩ : ∃ W0, w.alloc (.cells #[.string s, .int .i64 side, .int .i64 clock, .int .i64 full] 23) = W0 := ⟨_, rfl⟩
  have hB : Below w.heap.size w W0 := by rw [← hW0]; exact (by repeat (first | exact Below.refl _ _ | (refine Below.setCell ?_ (by first | omega | (simp; done) | (simp; omega) | (simp at *; omega)) _) | (refine Below.alloc ?_ (by first | omega | (simp; done) | (simp; omega) | (simp at *; omega)) _) | refine Below.drew ?_ | (refine below_drewN ?_ _) | (refine Below.trans ?_ (Below.mono (by assumption) (by first | omega | (simp; done) | (simp; omega) | (simp at *; omega))))))
  have bP : Blk W0 w.heap.size 23 #[.string s, .int .i64 side, .int .i64 clock, .int .i64 full] := by rw [← hW0]; exact Blk.new _ _ _ rfl
  replace hT := hT.next hB
  have HW := Lib.hid hW0
  clear hW0
  obtain ⟨k, hk⟩ : ∃ k : Int, (checkN s side clock full : Int) = k := ⟨_, rfl⟩
  have HK := Lib.hid hk
  by_cases h0 : k = 0
  · subst h0
    have hside : side = 0 ∨ side = 1 := by
      have hp := (check_zero hk).1
      simp only [partsB, Bool.and_eq_true, Bool.or_eq_true, beq_iff_eq, decide_eq_true_eq] at hp
      exact hp.1.1.1.1.2
    obtain ⟨f, hf⟩ : ∃ f, facingB s = f := ⟨_, rfl⟩
    have HF := Lib.hid hf
    cases f
    · obtain ⟨v, hv⟩ : ∃ v, inB s (1 - side) = v := ⟨_, rfl⟩
      obtain ⟨o, ho⟩ : ∃ o, 1 - side = o := ⟨_, rfl⟩
      have K : Hid (wellN s side clock full = if v then 5 else 0) := by
        show _ = _
        unfold wellN
        rw [if_pos hk, hf, hv]
        rfl
      rw [ho] at hv
      have HV := Lib.hid hv
      have HO := Lib.hid ho
      have HS := Lib.hid hside
      clear hk hf hv ho hside
      go_enter Tryz.func42, Tryz.ntmps42
      go_wp2_with fail
      rw [HW.out]
      refine (check_is s side clock full 0 _ HK.out).mono ?_
      rintro e w1 ⟨rfl, hb⟩
      replace hT := hT.next hb
      replace bP := bP.next hb
      replace hB := hB.trans (hb.mono hB.size)
      clear hb
      obtain ⟨p0, p1, p2, p3⟩ := ppos_cells7 bP
      go_wp2_with fail
      refine (facing_is s false _ HF.out).mono ?_
      rintro e w2 ⟨rfl, rfl⟩
      have hS : w1.drew.cell? ⟨w.heap.size, 0, none⟩ = some (.string s) ∧ w1.drew.cell? ⟨w.heap.size, 1, none⟩ = some (.int .i64 side) ∧ w1.drew.cell? ⟨w.heap.size, 2, none⟩ = some (.int .i64 clock) ∧ w1.drew.cell? ⟨w.heap.size, 3, none⟩ = some (.int .i64 full) ∧ Tab w1.drew ∧ Below w.heap.size w w1.drew := ⟨p0, p1, p2, p3, hT.next (Below.refl _ _).drew, hB.drew⟩
      clear bP hB hT
      go_wp2_with fail
      go_region_held3 (fun W => W.cell? ⟨w.heap.size, 0, none⟩ = some (.string s) ∧ W.cell? ⟨w.heap.size, 1, none⟩ = some (.int .i64 side) ∧ W.cell? ⟨w.heap.size, 2, none⟩ = some (.int .i64 clock) ∧ W.cell? ⟨w.heap.size, 3, none⟩ = some (.int .i64 full) ∧ Tab W ∧ Below w.heap.size w W)
        (first | exact hS | exact posT_keep (by assumption) hb)
        (first
          | (go_at_call 80; refine (other_is side o _ HS.out HO.out).mono ?_; rintro e w3 ⟨rfl, hw⟩; have hb := below_same hw)
          | (go_at_call 79; refine (in_is s o v _ ?_ HV.out).mono ?_; (exact posT_tab (by assumption)); rintro e w4 ⟨rfl, hb⟩))
      rename_i hh
      have hB := posT_below hh
      clear hh
      cases v
      · go_wp2
        go_ret
        exact ⟨by rw [K.out]; rfl, hB⟩
      · go_wp2
        go_ret
        exact ⟨by rw [K.out]; rfl, hB⟩
    · have K : Hid (wellN s side clock full = 4) := by
        show _ = _
        unfold wellN
        rw [if_pos hk, hf]
        rfl
      clear hk hf hside
      go_enter Tryz.func42, Tryz.ntmps42
      go_wp2_with fail
      rw [HW.out]
      refine (check_is s side clock full 0 _ HK.out).mono ?_
      rintro e w1 ⟨rfl, hb⟩
      replace bP := bP.next hb
      replace hB := hB.trans (hb.mono hB.size)
      clear hb
      obtain ⟨p0, p1, p2, p3⟩ := ppos_cells7 bP
      go_wp2_with fail
      refine (facing_is s true _ HF.out).mono ?_
      rintro e w2 ⟨rfl, rfl⟩
      go_wp2
      go_ret
      exact ⟨by rw [K.out]; rfl, hB⟩
  · have K : Hid (wellN s side clock full = k) := by
      show _ = _
      unfold wellN
      rw [hk, if_neg h0]
    have e1 : (k != 0) = true := by rw [bne_iff_ne]; exact h0
    clear hk h0
    go_enter Tryz.func42, Tryz.ntmps42
    go_wp2_with fail
    rw [HW.out]
    refine (check_is s side clock full k _ HK.out).mono ?_
    rintro e w1 ⟨rfl, hb⟩
    go_wp2
    go_ret
    exact ⟨by rw [K.out]; rfl, hB.trans (hb.mono hB.size)⟩
theorem well_is (s : ByteArray) (side clock full k : Int) (w : World) (hT : Tab w) (h : wellN s side clock full = k) : Calls Tryz.prog 42 #[.agg #[.string s, .int .i64 side, .int .i64 clock, .int .i64 full]] w (Gives w (.int .i64 k)) := by subst h; exact well_any s side clock full w hT
end Go.Proofs.YtbdgbihdhbjljaaGreatDoor

namespace Go.Proofs.YtbdgbihdhbjljaaGreatDoor
open Go.RowKit Go.Shelf
open M (S)

theorem leastI_hit {s : ByteArray} {c k : Nat} (hk : k < 90) (h : bAt s k = c) (hne : ∀ j, j < k → bAt s j ≠ c) : leastI s c = (k : Int) := by
  have : leastN s c = some k := by
    unfold leastN
    rw [List.find?_range_eq_some]
    refine ⟨by simpa using h, List.mem_range.2 hk, fun j hj => ?_⟩
    simpa using hne j hj
  unfold leastI
  rw [this]
theorem leastI_miss {s : ByteArray} {c : Nat} (hne : ∀ j, j < 90 → bAt s j ≠ c) : leastI s c = -1 := by
  rcases leastI_cases s c with ⟨_, h⟩ | ⟨n, hn, _, _, h⟩
  · exact h
  · exact absurd h (hne n hn)
theorem rof_pawn (side : Int) (c : Nat) (w : World) (hs : side = 0 ∨ side = 1) (hc : pawnOf side = c) : Calls Tryz.prog 115 #[.int .u8 80, .int .i64 side] w (Says w (.int .u8 (c : Int))) := by
  subst hc
  rcases hs with rfl | rfl
  · exact rof_zero 80 w
  · exact rof_one 80 w (by decide)
set_option maxHeartbeats 2000000 in
theorem rput7_is (s : ByteArray) (n c : Nat) (side : Int) (w : World) (hs : s.size = 90) (hn : n < 90) (hside : side = 0 ∨ side = 1) (hc : pawnOf (1 - side) = c) :
    Calls Tryz.prog 156 #[.string s, .int .i64 (n : Int), .int .i64 side] w (Gives w (.string (putS s n c))) := by
  unfold Gives
  have hc256 : c < 256 := by rw [← hc]; exact pawnOf_lt _
  obtain ⟨m, hm⟩ : ∃ m : Int, 1 - side = m := ⟨_, rfl⟩
  have i0 : IntKind.i64.wrap (1 - side) = m := by rw [IntWalk.i64_in _ (by omega)]; exact hm
  have HO := Lib.hid fun W => rof_pawn m c W (by omega) (by rw [← hm]; exact hc)
  have i1 : IntKind.i64.wrap ((n : Int) + 1) = (n : Int) + 1 := IntWalk.i64_in _ (by omega)
  have hcv : ∀ (W : World) (g C : Nat), W.cell? ⟨g, 0, none⟩ = some (.int .u8 (c : Int)) → (convert 112 9 (.slice (some ⟨g, 0, none⟩) 1 C)).run Tryz.prog W = .ok (.string (one c)) W := fun W g C h => one_of W g C c hc256 h
  have h0 : (0 : Int) ≤ (n : Int) := by omega
  have h2 : (n : Int) ≤ (s.size : Int) := by omega
  have h3 : (n : Int) + 1 ≤ (s.size : Int) := by omega
  have h4 : (0 : Int) ≤ (n : Int) + 1 := by omega
  have z1 : (s.extract 0 n).size = n := by simp; omega
  have ha1 : ∀ W : World, (Op.stringOp .add (s.extract 0 n) (one c)).run Tryz.prog W = .ok (.string (s.extract 0 n ++ one c)) W := fun W => run_string_add_sum _ _ _ (by rw [z1, show (one c).size = 1 from rfl]; omega)
  have hp := put_cut s n c (by omega)
  obtain ⟨pre, hpre⟩ : ∃ pre, s.extract 0 n ++ one c = pre := ⟨_, rfl⟩
  have zp : pre.size = n + 1 := by rw [← hpre, ByteArray.size_append, z1]; rfl
  rw [hpre] at ha1 hp
  have ha2 : ∀ W : World, (Op.stringOp .add pre (s.extract (n + 1) s.size)).run Tryz.prog W = .ok (.string (putS s n c)) W := fun W => by
    rw [hp]
    exact run_string_add_sum _ _ _ (by rw [zp]; simp; omega)
  have t1 : ((n : Int) + 1).toNat = n + 1 := by omega
  clear hpre zp z1 hp hside hc hm hs
  go_enter Tryz.func156, Tryz.ntmps156
  go_wp2_with fail
  go_region_with ((go_at_call 115; refine (HO.out _).mono ?_; rintro e w' ⟨rfl, rfl⟩))
  all_goals go_wp2
  all_goals
    go_ret
    exact ⟨rfl, (by repeat (first | exact Below.refl _ _ | (refine Below.setCell ?_ (by first | omega | (simp; done) | (simp; omega) | (simp at *; omega)) _) | (refine Below.alloc ?_ (by first | omega | (simp; done) | (simp; omega) | (simp at *; omega)) _) | refine Below.drew ?_ | (refine below_drewN ?_ _) | (refine Below.trans ?_ (Below.mono (by assumption) (by first | omega | (simp; done) | (simp; omega) | (simp at *; omega))))))⟩
theorem rat_none (s : ByteArray) (n side : Int) (w : World) (h : isB s = false ∨ n < 0 ∨ 89 < n ∨ side < 0 ∨ 1 < side) : Calls Tryz.prog 114 #[.string s, .int .i64 n, .int .i64 side] w (GivesL w []) := by
  cases hb : isB s
  · have B := Lib.hid hb
    clear h hb
    go_enter Tryz.func114, Tryz.ntmps114
    go_wp2_with fail
    refine (ris_is s false _ B.out).mono ?_
    rintro e w' ⟨rfl, rfl⟩
    go_wp2
    go_ret
    exact ⟨none, 0, rfl, fun j u hu => by simp at hu, Below.refl _ _⟩
  · have B := Lib.hid hb
    rw [hb] at h
    clear hb
    by_cases h1 : n < 0
    · clear h
      go_enter Tryz.func114, Tryz.ntmps114
      go_wp2_with fail
      refine (ris_is s true _ B.out).mono ?_
      rintro e w' ⟨rfl, rfl⟩
      go_wp2
      go_ret
      exact ⟨none, 0, rfl, fun j u hu => by simp at hu, Below.refl _ _⟩
    by_cases h2 : 89 < n
    · clear h
      go_enter Tryz.func114, Tryz.ntmps114
      go_wp2_with fail
      refine (ris_is s true _ B.out).mono ?_
      rintro e w' ⟨rfl, rfl⟩
      go_wp2
      go_ret
      exact ⟨none, 0, rfl, fun j u hu => by simp at hu, Below.refl _ _⟩
    by_cases h3 : side < 0
    · clear h
      go_enter Tryz.func114, Tryz.ntmps114
      go_wp2_with fail
      refine (ris_is s true _ B.out).mono ?_
      rintro e w' ⟨rfl, rfl⟩
      go_wp2
      go_ret
      exact ⟨none, 0, rfl, fun j u hu => by simp at hu, Below.refl _ _⟩
    · have h4 : 1 < side := by simp at h; omega
      clear h
      go_enter Tryz.func114, Tryz.ntmps114
      go_wp2_with fail
      refine (ris_is s true _ B.out).mono ?_
      rintro e w' ⟨rfl, rfl⟩
      go_wp2
      go_ret
      exact ⟨none, 0, rfl, fun j u hu => by simp at hu, Below.refl _ _⟩
set_option maxRecDepth 100000 in
set_option maxHeartbeats 2000000 in
theorem rat_some (s : ByteArray) (n : Nat) (side : Int) (w : World) (hb : isB s = true) (hn : n < 90) (hside : side = 0 ∨ side = 1) : Calls Tryz.prog 114 #[.string s, .int .i64 (n : Int), .int .i64 side] w (GivesL w (trues (attB s n side) 90)) := by
  have hs := isB_size hb
  obtain ⟨c, hc⟩ : ∃ c, pawnOf (1 - side) = c := ⟨_, rfl⟩
  obtain ⟨t, ht⟩ : ∃ t, putS s n c = t := ⟨_, rfl⟩
  have hts : 90 ≤ t.size := by rw [← ht, put_size]; omega
  have HPT := Lib.hid fun W => rput7_is s n c side W hs hn hside hc
  rw [ht] at HPT
  obtain ⟨p, hp⟩ : ∃ p : Nat → Bool, p = attB s n side := ⟨_, rfl⟩
  have Hp : Hid (∀ k, p k = ((sideN (bAt t k) == side) && canB t k n)) := by
    show ∀ k, _
    intro k
    rw [hp]
    unfold attB
    rw [hc, ht]
  rw [← hp]
  obtain ⟨i0, hi, hz0, hz1, hz2⟩ := info_parts info_int
  have B := Lib.hid hb
  have g0 : ¬ (n : Int) < 0 := by omega
  have g1 : ¬ (89 : Int) < (n : Int) := by omega
  have g2 : ¬ side < 0 := by omega
  have g3 : ¬ 1 < side := by omega
  clear hb hs hc ht hp hside
  go_enter Tryz.func114, Tryz.ntmps114
  go_wp2_with fail
  refine (ris_is s true _ B.out).mono ?_
  rintro e w' ⟨rfl, rfl⟩
  go_wp2_with fail
  refine (HPT.out _).mono ?_
  rintro e w1 ⟨rfl, hb1⟩
  go_wp2_with fail
  go_loopw [8, 9] (fun v i wr => ∃ k : Nat, k ≤ 90 ∧ i = .int .i64 k ∧ wr.ownsRow w.heap.size 3 1 v (trues p k).length ((trues p k).map iv) ∧ Below w.heap.size w wr) (fun _ i _ => 90 - (intOf i).toNat)
  case atStart => exact ⟨0, by omega, rfl, by simpa [trues] using World.ownsRow_nil w1 w.heap.size 3 1, hb1⟩
  case round =>
    obtain ⟨k, hk, rfl, hown, hB⟩ := hrel
    have hbs := hB.size
    have hle := trues_le p k
    by_cases hlt : k < 90
    · have hst := trues_succ p k
      obtain ⟨x, hx⟩ : ∃ x, bAt t k = x := ⟨_, rfl⟩
      have hks : k < t.size := by omega
      have hbk : t[k].toNat = x := (bAt_eq t k hks).trans hx
      obtain ⟨d, hd⟩ : ∃ d, sideN x = d := ⟨_, rfl⟩
      obtain ⟨r, hr⟩ : ∃ r, canB t k n = r := ⟨_, rfl⟩
      have hpk := Hp.out k
      rw [hx, hd, hr] at hpk
      rw [hpk] at hst
      have HD := Lib.hid hd
      have HR := Lib.hid hr
      clear hx hpk hd hr
      cases hds : (d == side)
      · rw [hds] at hst
        have Hs := Lib.hid hst
        clear hst
        go_wp2_with fail
        refine (rside_is x d _ HD.out).mono ?_
        rintro e w2 ⟨rfl, rfl⟩
        go_wp2_with fail
        go_roundw
        case rel => exact ⟨k + 1, by omega, by go_num, by rw [Hs.out]; exact hown, hB⟩
        case measure => simp [intOf]; omega
      · cases r
        · rw [hds] at hst
          have Hs := Lib.hid hst
          clear hst
          go_wp2_with fail
          refine (rside_is x d _ HD.out).mono ?_
          rintro e w2 ⟨rfl, rfl⟩
          go_wp2_with fail
          refine (fast_is t k n false _ hts hlt hn HR.out).mono ?_
          rintro e w2 ⟨rfl, rfl⟩
          go_wp2_with fail
          go_roundw
          case rel => exact ⟨k + 1, by omega, by go_num, by rw [Hs.out]; exact hown, hB⟩
          case measure => simp [intOf]; omega
        · rw [hds] at hst
          have Hs := Lib.hid hst
          clear hst
          go_wp2_with fail
          refine (rside_is x d _ HD.out).mono ?_
          rintro e w2 ⟨rfl, rfl⟩
          go_wp2_with fail
          refine (fast_is t k n true _ hts hlt hn HR.out).mono ?_
          rintro e w2 ⟨rfl, rfl⟩
          go_wp2_with (at_builtin; refine wpList_append_own _ rfl _ _ 106 rfl w.heap.size 3 i0 (.int .i64 0) 1 8 Tryz.underlying106 hi hz0 hz1 hz2 rfl (by decide) _ _ _ rfl (hown.alloc _) ⟨wr.heap.size, 0, none⟩ 1 1 [iv k] rfl rfl (cell_one_new _ _ _) (by simp [Value.oneCell']) (by unfold maxLen; omega) (by omega) (by simp; omega) ?_; intro v' w2 hown' hgrow _)
          go_roundw
          case rel => exact ⟨k + 1, by omega, by go_num, by rw [Hs.out]; simpa using hown', below_app hB hbs hown hgrow⟩
          case measure => simp [intOf]; omega
    · obtain rfl : k = 90 := by omega
      obtain ⟨A', c', rfl⟩ := own_slice hown
      go_wp2
      go_ret
      exact ⟨A', c', rfl, Rd.own hown, hB⟩
theorem rat_any (s : ByteArray) (n side : Int) (w : World) : Calls Tryz.prog 114 #[.string s, .int .i64 n, .int .i64 side] w (GivesL w (attL s n side)) := by
  unfold attL
  cases h : isB s && sqI n && ((side == 0) || (side == 1))
  · have hh : isB s = false ∨ n < 0 ∨ 89 < n ∨ side < 0 ∨ 1 < side := by
      rw [Bool.and_eq_false_iff, Bool.and_eq_false_iff, Bool.or_eq_false_iff, beq_eq_false_iff_ne, beq_eq_false_iff_ne] at h
      rcases h with (h | h) | h
      · exact .inl h
      · unfold sqI at h
        rw [Bool.and_eq_false_iff, decide_eq_false_iff_not, decide_eq_false_iff_not] at h
        omega
      · omega
    exact rat_none s n side w hh
  · simp only [Bool.and_eq_true, Bool.or_eq_true, beq_iff_eq] at h
    obtain ⟨⟨hb, hn⟩, hs⟩ := h
    obtain ⟨h0, h1⟩ := sqI_in hn
    obtain ⟨m, rfl⟩ : ∃ m : Nat, n = m := ⟨n.toNat, by omega⟩
    rw [if_pos rfl, Int.toNat_natCast]
    exact rat_some s m side w hb (by omega) hs
theorem rat_is (s : ByteArray) (a side : Int) (l : List Int) (n : Nat) (w : World) (h : attL s a side = l) (hn : l.length = n) : Calls Tryz.prog 114 #[.string s, .int .i64 a, .int .i64 side] w (GivesN w l n) := by subst h; subst hn; exact rat_any s a side w
theorem rof_king (side : Int) (c : Nat) (w : World) (hs : side = 0 ∨ side = 1) (hc : kingOf side = c) : Calls Tryz.prog 115 #[.int .u8 75, .int .i64 side] w (Says w (.int .u8 (c : Int))) := by
  subst hc
  rcases hs with rfl | rfl
  · exact rof_zero 75 w
  · exact rof_one 75 w (by decide)
set_option maxRecDepth 100000 in
set_option maxHeartbeats 2000000 in
theorem rgen_some (s : ByteArray) (side : Int) (w : World) (hb : isB s = true) (hside : side = 0 ∨ side = 1) : Calls Tryz.prog 112 #[.string s, .int .i64 side] w (Gives w (.int .i64 (leastI s (kingOf side)))) := by
  unfold Gives
  have hs := isB_size hb
  have hs1 : 90 ≤ s.size := by omega
  obtain ⟨c, hc⟩ : ∃ c, kingOf side = c := ⟨_, rfl⟩
  have HO := Lib.hid fun W => rof_king side c W hside hc
  rw [hc]
  obtain ⟨r, hr⟩ : ∃ r, leastI s c = r := ⟨_, rfl⟩
  have HR := Lib.hid hr
  rw [hr]
  have B := Lib.hid hb
  have g2 : ¬ side < 0 := by omega
  have g3 : ¬ 1 < side := by omega
  clear hb hs hc hr hside
  go_enter Tryz.func112, Tryz.ntmps112
  go_wp2_with fail
  refine (ris_is s true _ B.out).mono ?_
  rintro e w' ⟨rfl, rfl⟩
  go_wp2_with fail
  go_loopw [5] (fun i wr => ∃ k : Nat, k ≤ 90 ∧ i = .int .i64 k ∧ Below w.heap.size w wr ∧ Hid (∀ j, j < k → bAt s j ≠ c)) (fun i _ => 90 - (intOf i).toNat)
  case atStart => exact ⟨0, by omega, rfl, Below.refl _ _, fun j h => absurd h (Nat.not_lt_zero _)⟩
  case round =>
    obtain ⟨k, hk, rfl, hB, NO⟩ := hrel
    by_cases hlt : k < 90
    · have hks : k < s.size := by omega
      obtain ⟨x, hx⟩ : ∃ x, bAt s k = x := ⟨_, rfl⟩
      have hbk : s[k].toNat = x := (bAt_eq s k hks).trans hx
      have HX := Lib.hid hx
      clear hx
      cases he : ((x : Int) == (c : Int))
      · have HE : Hid (x ≠ c) := by
          show _ ≠ _
          intro e
          rw [e] at he
          simp at he
        go_wp2_with fail
        go_region_with ((go_at_call 115; refine (HO.out _).mono ?_; rintro e w2 ⟨rfl, rfl⟩))
        all_goals
          go_wp2_with fail
          go_roundw
          case rel =>
            refine ⟨k + 1, by omega, by go_num, by first | exact hB.drew | exact below_drewN hB _, ?_⟩
            show ∀ j, j < k + 1 → _
            intro j hj
            by_cases e : j = k
            · rw [e, HX.out]
              exact HE.out
            · exact NO.out j (by omega)
          case measure => simp [intOf]; omega
      · have K : Hid (r = (k : Int)) := by
          show _ = _
          rw [← HR.out]
          rw [beq_iff_eq] at he
          exact leastI_hit hlt (by rw [HX.out]; omega) NO.out
        go_wp2_with fail
        go_region_with ((go_at_call 115; refine (HO.out _).mono ?_; rintro e w2 ⟨rfl, rfl⟩))
        all_goals
          go_wp2_with fail
          go_ret
          exact ⟨by rw [K.out]; rfl, by first | exact hB | exact hB.drew | exact Below.refl _ _⟩
    · obtain rfl : k = 90 := by omega
      have K : Hid (r = -1) := by
        show _ = _
        rw [← HR.out]
        exact leastI_miss NO.out
      go_wp2
      go_ret
      exact ⟨by rw [K.out]; rfl, by first | exact hB | exact hB.drew | exact Below.refl _ _⟩
theorem rgen_any (s : ByteArray) (side : Int) (w : World) : Calls Tryz.prog 112 #[.string s, .int .i64 side] w (Gives w (.int .i64 (generalN s side))) := by
  cases hb : isB s
  · have B := Lib.hid hb
    have K : Hid (generalN s side = -1) := general_none (by rw [hb]; rfl)
    clear hb
    unfold Gives
    go_enter Tryz.func112, Tryz.ntmps112
    go_wp2_with fail
    refine (ris_is s false _ B.out).mono ?_
    rintro e w' ⟨rfl, rfl⟩
    go_wp2
    go_ret
    exact ⟨by rw [K.out]; rfl, by first | exact hB | exact hB.drew | exact Below.refl _ _⟩
  · by_cases hs : side = 0 ∨ side = 1
    · rw [general_some (by rw [hb]; rcases hs with rfl | rfl <;> rfl)]
      exact rgen_some s side w hb hs
    · have B := Lib.hid hb
      have K : Hid (generalN s side = -1) := general_none (by
        rw [hb, Bool.true_and, Bool.or_eq_false_iff, beq_eq_false_iff_ne, beq_eq_false_iff_ne]
        omega)
      clear hb
      unfold Gives
      by_cases h1 : side < 0
      · clear hs
        go_enter Tryz.func112, Tryz.ntmps112
        go_wp2_with fail
        refine (ris_is s true _ B.out).mono ?_
        rintro e w' ⟨rfl, rfl⟩
        go_wp2
        go_ret
        exact ⟨by rw [K.out]; rfl, by first | exact hB | exact hB.drew | exact Below.refl _ _⟩
      · have h2 : 1 < side := by omega
        clear hs
        go_enter Tryz.func112, Tryz.ntmps112
        go_wp2_with fail
        refine (ris_is s true _ B.out).mono ?_
        rintro e w' ⟨rfl, rfl⟩
        go_wp2
        go_ret
        exact ⟨by rw [K.out]; rfl, by first | exact hB | exact hB.drew | exact Below.refl _ _⟩
theorem rgen_is (s : ByteArray) (side k : Int) (w : World) (h : generalN s side = k) : Calls Tryz.prog 112 #[.string s, .int .i64 side] w (Gives w (.int .i64 k)) := by subst h; exact rgen_any s side w
end Go.Proofs.YtbdgbihdhbjljaaGreatDoor

namespace Go.Proofs.YtbdgbihdhbjljaaGreatDoor
open Go.RowKit Go.Shelf
open M (S)

set_option maxHeartbeats 1000000 in
theorem rfacing_any (s : ByteArray) (w : World) : Calls Tryz.prog 68 #[.string s] w (Gives w (.bool (facingB s))) := by
  unfold Gives
  have K0 := facing_gen s
  rcases general_cases s 0 with ha | ⟨a, ha, ea, _⟩
  · obtain ⟨b, hb⟩ : ∃ b, generalN s 1 = b := ⟨_, rfl⟩
    have K : Hid (facingB s = false) := by show _ = _; rw [K0, ha]; rfl
    have HA := Lib.hid ha
    have HB := Lib.hid hb
    clear K0 ha hb
    go_enter Tryz.func68, Tryz.ntmps68
    go_wp2_with fail
    refine (rgen_is s 0 (-1) _ HA.out).mono ?_
    rintro e w1 ⟨rfl, hb1⟩
    go_wp2_with fail
    refine (rgen_is s 1 b _ HB.out).mono ?_
    rintro e w2 ⟨rfl, hb2⟩
    go_wp2
    go_ret
    exact ⟨by rw [K.out]; rfl, hb1.trans (hb2.mono hb1.size)⟩
  rcases general_cases s 1 with hb | ⟨b, hb, eb, _⟩
  · have K : Hid (facingB s = false) := by show _ = _; rw [K0, ea, hb]; simp
    have HA := Lib.hid ea
    have HB := Lib.hid hb
    have a0 : (0 : Int) ≤ (a : Int) := by omega
    clear K0 ea hb
    go_enter Tryz.func68, Tryz.ntmps68
    go_wp2_with fail
    refine (rgen_is s 0 a _ HA.out).mono ?_
    rintro e w1 ⟨rfl, hb1⟩
    go_wp2_with fail
    refine (rgen_is s 1 (-1) _ HB.out).mono ?_
    rintro e w2 ⟨rfl, hb2⟩
    go_wp2
    go_ret
    exact ⟨by rw [K.out]; rfl, hb1.trans (hb2.mono hb1.size)⟩
  · obtain ⟨k, hk⟩ : ∃ k, betweenV s (a : Int) (b : Int) = k := ⟨_, rfl⟩
    have a0 : (0 : Int) ≤ (a : Int) := by omega
    have b0 : (0 : Int) ≤ (b : Int) := by omega
    have m1 : Int.tmod (a : Int) 9 = (a : Int) % 9 := Int.tmod_eq_emod_of_nonneg a0
    have m2 : Int.tmod (b : Int) 9 = (b : Int) % 9 := Int.tmod_eq_emod_of_nonneg b0
    obtain ⟨x, hx⟩ : ∃ x, (a : Int) % 9 = x := ⟨_, rfl⟩
    obtain ⟨y, hy⟩ : ∃ y, (b : Int) % 9 = y := ⟨_, rfl⟩
    have K1 : facingB s = ((x == y) && (k == 0)) := by
      rw [K0, ea, eb, hk, hx, hy]
      simp
    have HA := Lib.hid ea
    have HB := Lib.hid eb
    have HK := Lib.hid hk
    rw [hx] at m1
    rw [hy] at m2
    clear K0 ea eb hk
    cases hxy : (x == y)
    · have K : Hid (facingB s = false) := by show _ = _; rw [K1, hxy]; rfl
      clear K1
      go_enter Tryz.func68, Tryz.ntmps68
      go_wp2_with fail
      refine (rgen_is s 0 a _ HA.out).mono ?_
      rintro e w1 ⟨rfl, hb1⟩
      go_wp2_with fail
      refine (rgen_is s 1 b _ HB.out).mono ?_
      rintro e w2 ⟨rfl, hb2⟩
      go_wp2
      go_ret
      exact ⟨by rw [K.out]; rfl, hb1.trans (hb2.mono hb1.size)⟩
    · have K : Hid (facingB s = (k == 0)) := by show _ = _; rw [K1, hxy]; rfl
      clear K1
      go_enter Tryz.func68, Tryz.ntmps68
      go_wp2_with fail
      refine (rgen_is s 0 a _ HA.out).mono ?_
      rintro e w1 ⟨rfl, hb1⟩
      go_wp2_with fail
      refine (rgen_is s 1 b _ HB.out).mono ?_
      rintro e w2 ⟨rfl, hb2⟩
      go_wp2_with fail
      refine (rBetween_is s a b k _ HK.out).mono ?_
      rintro e w3 ⟨rfl, rfl⟩
      go_wp2
      go_ret
      exact ⟨by rw [K.out]; rfl, hb1.trans (hb2.mono hb1.size)⟩
theorem rfacing_is (s : ByteArray) (v : Bool) (w : World) (h : facingB s = v) : Calls Tryz.prog 68 #[.string s] w (Gives w (.bool v)) := by subst h; exact rfacing_any s w
set_option maxHeartbeats 1000000 in
theorem rin_any (s : ByteArray) (side : Int) (w : World) : Calls Tryz.prog 69 #[.string s, .int .i64 side] w (Gives w (.bool (inB s side))) := by
  unfold Gives
  rcases general_cases s side with ha | ⟨a, ha, ea, _, hs, _⟩
  · have K : Hid (inB s side = false) := by
      show _ = _
      rw [in_att, ha, att_neg]
      rfl
    have HA := Lib.hid ha
    clear ha
    go_enter Tryz.func69, Tryz.ntmps69
    go_wp2_with fail
    refine (rgen_is s side (-1) _ HA.out).mono ?_
    rintro e w1 ⟨rfl, hb1⟩
    go_wp2
    go_ret
    exact ⟨by rw [K.out]; rfl, hb1⟩
  · obtain ⟨l, hl⟩ : ∃ l, attL s (a : Int) (1 - side) = l := ⟨_, rfl⟩
    obtain ⟨m, hm⟩ : ∃ m, l.length = m := ⟨_, rfl⟩
    obtain ⟨k, hk⟩ : ∃ k : Int, 1 - side = k := ⟨_, rfl⟩
    have K : Hid (inB s side = decide (0 < m)) := by
      show _ = _
      rw [in_att, ea, hl, hm, Bool.eq_iff_iff, bne_iff_ne, decide_eq_true_eq]
      omega
    have i0 : IntKind.i64.wrap (1 - side) = k := by rw [IntWalk.i64_in _ (by omega)]; exact hk
    have a0 : (0 : Int) ≤ (a : Int) := by omega
    rw [hk] at hl
    have HA := Lib.hid ea
    have HL := Lib.hid hl
    have HM := Lib.hid hm
    clear ea hl hm hk hs
    go_enter Tryz.func69, Tryz.ntmps69
    go_wp2_with fail
    refine (rgen_is s side a _ HA.out).mono ?_
    rintro e w1 ⟨rfl, hb1⟩
    go_wp2_with fail
    refine (rat_is s a k l m _ HL.out HM.out).mono ?_
    rintro e w2 ⟨A', c', rfl, _, hb2⟩
    go_wp2
    go_ret
    exact ⟨by rw [K.out]; rfl, hb1.trans (hb2.mono hb1.size)⟩
theorem rin_is (s : ByteArray) (side : Int) (v : Bool) (w : World) (h : inB s side = v) : Calls Tryz.prog 69 #[.string s, .int .i64 side] w (Gives w (.bool v)) := by subst h; exact rin_any s side w
set_option maxRecDepth 100000 in
set_option maxHeartbeats 4000000 in
theorem rwell_any (s : ByteArray) (side clock full : Int) (w : World) : Calls Tryz.prog 38 #[.agg #[.string s, .int .i64 side, .int .i64 clock, .int .i64 full]] w (Gives w (.int .i64 (wellN s side clock full))) := by
  unfold Gives
  obtain ⟨W0, hW0⟩ : ∃ W0, w.alloc (.cells #[.string s, .int .i64 side, .int .i64 clock, .int .i64 full] 23) = W0 := ⟨_, rfl⟩
  have hB : Below w.heap.size w W0 := by rw [← hW0]; exact (by repeat (first | exact Below.refl _ _ | (refine Below.setCell ?_ (by first | omega | (simp; done) | (simp; omega) | (simp at *; omega)) _) | (refine Below.alloc ?_ (by first | omega | (simp; done) | (simp; omega) | (simp at *; omega)) _) | refine Below.drew ?_ | (refine below_drewN ?_ _) | (refine Below.trans ?_ (Below.mono (by assumption) (by first | omega | (simp; done) | (simp; omega) | (simp at *; omega))))))
  have bP : Blk W0 w.heap.size 23 #[.string s, .int .i64 side, .int .i64 clock, .int .i64 full] := by rw [← hW0]; exact Blk.new _ _ _ rfl
  have HW := Lib.hid hW0
  clear hW0
  obtain ⟨k, hk⟩ : ∃ k : Int, (checkN s side clock full : Int) = k := ⟨_, rfl⟩
  have HK := Lib.hid hk
  by_cases h0 : k = 0
  · subst h0
    have hside : side = 0 ∨ side = 1 := by
      have hp := (check_zero hk).1
      simp only [partsB, Bool.and_eq_true, Bool.or_eq_true, beq_iff_eq, decide_eq_true_eq] at hp
      exact hp.1.1.1.1.2
    obtain ⟨f, hf⟩ : ∃ f, facingB s = f := ⟨_, rfl⟩
    have HF := Lib.hid hf
    cases f
    · obtain ⟨v, hv⟩ : ∃ v, inB s (1 - side) = v := ⟨_, rfl⟩
      obtain ⟨o, ho⟩ : ∃ o, 1 - side = o := ⟨_, rfl⟩
      have K : Hid (wellN s side clock full = if v then 5 else 0) := by
        show _ = _
        unfold wellN
        rw [if_pos hk, hf, hv]
        rfl
      have i0 : IntKind.i64.wrap (1 - side) = o := by rw [IntWalk.i64_in _ (by omega)]; exact ho
      rw [ho] at hv
      have HV := Lib.hid hv
      clear hk hf hv ho hside
      go_enter Tryz.func38, Tryz.ntmps38
      go_wp2_with fail
      rw [HW.out]
      refine (rcheck_is s side clock full 0 _ HK.out).mono ?_
      rintro e w1 ⟨rfl, hb⟩
      replace bP := bP.next hb
      replace hB := hB.trans (hb.mono hB.size)
      clear hb
      obtain ⟨p0, p1, p2, p3⟩ := ppos_cells7 bP
      go_wp2_with fail
      refine (rfacing_is s false _ HF.out).mono ?_
      rintro e w2 ⟨rfl, hb⟩
      replace bP := bP.next hb
      replace hB := hB.trans (hb.mono hB.size)
      clear hb p0 p1 p2 p3
      obtain ⟨p0, p1, p2, p3⟩ := ppos_cells7 bP
      go_wp2_with fail
      refine (rin_is s o v _ HV.out).mono ?_
      rintro e w3 ⟨rfl, hb⟩
      replace hB := hB.trans (hb.mono hB.size)
      clear hb p0 p1 p2 p3 bP
      cases v
      · go_wp2
        go_ret
        exact ⟨by rw [K.out]; rfl, hB⟩
      · go_wp2
        go_ret
        exact ⟨by rw [K.out]; rfl, hB⟩
    · have K : Hid (wellN s side clock full = 4) := by
        show _ = _
        unfold wellN
        rw [if_pos hk, hf]
        rfl
      clear hk hf hside
      go_enter Tryz.func38, Tryz.ntmps38
      go_wp2_with fail
      rw [HW.out]
      refine (rcheck_is s side clock full 0 _ HK.out).mono ?_
      rintro e w1 ⟨rfl, hb⟩
      replace bP := bP.next hb
      replace hB := hB.trans (hb.mono hB.size)
      clear hb
      obtain ⟨p0, p1, p2, p3⟩ := ppos_cells7 bP
      go_wp2_with fail
      refine (rfacing_is s true _ HF.out).mono ?_
      rintro e w2 ⟨rfl, hb⟩
      go_wp2
      go_ret
      exact ⟨by rw [K.out]; rfl, hB.trans (hb.mono hB.size)⟩
  · have K : Hid (wellN s side clock full = k) := by
      show _ = _
      unfold wellN
      rw [hk, if_neg h0]
    have e1 : (k != 0) = true := by rw [bne_iff_ne]; exact h0
    clear hk h0
    go_enter Tryz.func38, Tryz.ntmps38
    go_wp2_with fail
    rw [HW.out]
    refine (rcheck_is s side clock full k _ HK.out).mono ?_
    rintro e w1 ⟨rfl, hb⟩
    go_wp2
    go_ret
    exact ⟨by rw [K.out]; rfl, hB.trans (hb.mono hB.size)⟩
theorem rwell_is (s : ByteArray) (side clock full k : Int) (w : World) (h : wellN s side clock full = k) : Calls Tryz.prog 38 #[.agg #[.string s, .int .i64 side, .int .i64 clock, .int .i64 full]] w (Gives w (.int .i64 k)) := by subst h; exact rwell_any s side clock full w
end Go.Proofs.YtbdgbihdhbjljaaGreatDoor
