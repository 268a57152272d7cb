/- What CardJudgePlays needs, part 3: taken together by a program (tools/prune.py). -/
import Derived.Lib.TrailingZeros
import Derived.Test.YtpogpjebhnoncaaGreatDoorRows
import Derived.WalkKit
import Derived.WalkSpells
import Derived.WalkLawsBesides
import Derived.Outline
import Derived.Laws.BitsAllLaws
import Derived.Laws.OwnMore
import Derived.Deep.RegionWith
import Derived.Deep.RegionHeld3
import Derived.Deep.QuietTactic
import Derived.BigQuiet
import Derived.RangeFuncBox
import Derived.RangeFuncCalls
import Derived.RangeFuncLeaves
import Derived.RangeFuncNested
import Derived.Shelf.Abstract
import Derived.OwnWalkIn
import Derived.TacticsInMore
import Derived.LoopNIn
import Derived.LoopIn
import Derived.Maps.AppendAt
import Derived.Lib.Hide
import Derived.Laws.IdiomStrings
import Derived.Laws.EntriesVeiled
import Derived.Lib.Strings
import Derived.Lib.Walk
import Derived.Lib.Bytealg
import Derived.Shelf.Strings.Search1
import Derived.Ground.SlgfProg
import Derived.Shelf.SlicesE.IndexFunc
import Derived.Shelf.SlicesE.DeleteFunc
import Derived.Test.YtpogpjebhnoncaaGreatDoorProg
import Derived.Lib.OwnBridge
import Derived.Lib.SliceRun
import Derived.Deep.LoopGhost
import Derived.Shelf.Small.Strs
import Derived.Shelf.Slices.Turned
import Derived.Deep.AppendLies
import Derived.Deep.RegionHeldLaw
import Derived.Deep.RegionHeld
import Derived.Deep.RegionLaw
import Derived.Test.YtpogpjebhnoncaaGreatDoorCards
import Derived.Test.YtpogpjebhnoncaaGreatDoorTie
import Derived.ProofKit
import Derived.OpenShut
import Derived.Deep.DeepHandedRow
import Derived.Lib.LaidTab
import Derived.Lib.SmallJoins
import Derived.Deep.SlicePairs
import Derived.Test.YtpogpjebhnoncaaGreatDoorJp2
namespace Go.Proofs.YtpogpjebhnoncaaGreatDoor
theorem index_find (c : UInt8) : ∀ l : List UInt8, Lib.indexByte l c = match (List.range l.length).find? fun n => l.getD n 0 == c with | some n => (n : Int) | none => -1
  | [] => rfl
  | b :: l => by
    rw [List.length_cons, List.range_succ_eq_map, List.find?_cons, Lib.indexByte]
    show (if (b == c) = true then (0 : Int) else _) = match (match b == c with | true => some 0 | false => _) with | some n => (n : Int) | none => -1
    cases h : b == c
    · rw [if_neg (by simp), index_find c l, List.find?_map]
      show _ = match Option.map Nat.succ ((List.range l.length).find? fun n => l.getD n 0 == c) with | some n => (n : Int) | none => -1
      cases (List.range l.length).find? fun n => l.getD n 0 == c with
      | none => rfl
      | some m =>
        have h1 : ((m : Int) == -1) = false := by rw [beq_eq_false_iff_ne]; omega
        show (if ((m : Int) == -1) = true then (-1 : Int) else (m : Int) + 1) = ((m + 1 : Nat) : Int)
        rw [h1]
        simp
    · rfl
theorem find_same7 {p q : Nat → Bool} : ∀ {l : List Nat}, (∀ k ∈ l, p k = q k) → l.find? p = l.find? q
  | [], _ => rfl
  | x :: r, h => by
    rw [List.find?_cons, List.find?_cons, h x (by simp), find_same7 fun k hk => h k (by simp [hk])]
def leastI (s : ByteArray) (c : Nat) : Int := match leastN s c with | some n => (n : Int) | none => -1
theorem index_least {s : ByteArray} (hz : s.size = 90) {c : Nat} (hc : c < 256) : Lib.indexByte s.data.toList (Int.toNat (c : Int)).toUInt8 = leastI s c := by
  have hl : s.data.toList.length = 90 := by simpa using hz
  rw [index_find, hl, leastI, leastN]
  congr 1
  refine find_same7 fun k hk => ?_
  have hk := List.mem_range.1 hk
  have h1 : bAt s k = (s.data.toList.getD k 0).toNat := by
    rw [← bAt_eq s k (by omega), List.getD_eq_getElem?_getD, List.getElem?_eq_getElem (by omega)]
    rfl
  rw [h1, Int.toNat_natCast, Bool.eq_iff_iff, beq_iff_eq, beq_iff_eq]
  constructor
  · intro e
    rw [e]
    show (UInt8.ofNat c).toNat = c
    exact UInt8.toNat_ofNat_of_lt' hc
  · intro e
    rw [← e]
    show _ = UInt8.ofNat _
    exact (UInt8.ofNat_toNat).symm
theorem leastI_cases (s : ByteArray) (c : Nat) : (leastN s c = none ∧ leastI s c = -1) ∨ ∃ n, n < 90 ∧ leastN s c = some n ∧ leastI s c = (n : Int) ∧ bAt s n = c := by
  unfold leastI
  cases h : leastN s c with
  | none => exact .inl ⟨rfl, rfl⟩
  | some n => exact .inr ⟨n, (least_some h).1, rfl, rfl, (least_some h).2⟩
theorem general_none {s : ByteArray} {side : Int} (h : (isB s && ((side == 0) || (side == 1))) = false) : generalN s side = -1 := by unfold generalN; rw [h]; rfl
theorem general_some {s : ByteArray} {side : Int} (h : (isB s && ((side == 0) || (side == 1))) = true) : generalN s side = leastI s (kingOf side) := by unfold generalN; rw [h]; rfl
theorem general_cases (s : ByteArray) (side : Int) : generalN s side = -1 ∨ ∃ n : Nat, n < 90 ∧ generalN s side = n ∧ isB s = true ∧ (side = 0 ∨ side = 1) ∧ leastN s (kingOf side) = some n := by
  cases h : isB s && ((side == 0) || (side == 1))
  · exact .inl (general_none h)
  · rw [general_some h]
    rcases leastI_cases s (kingOf side) with ⟨_, e⟩ | ⟨n, hn, e, e2, _⟩
    · exact .inl e
    · simp only [Bool.and_eq_true, Bool.or_eq_true, beq_iff_eq] at h
      exact .inr ⟨n, hn, e2, h.1, h.2, e⟩
theorem facing_gen (s : ByteArray) : facingB s = (decide (0 ≤ generalN s 0) && decide (0 ≤ generalN s 1) && (generalN s 0 % 9 == generalN s 1 % 9) && (betweenV s (generalN s 0) (generalN s 1) == 0)) := by
  cases hb : isB s
  · have h0 : generalN s 0 = -1 := general_none (by rw [hb]; rfl)
    rw [h0]
    unfold facingB
    rw [hb]
    cases leastN s 75 <;> cases leastN s 107 <;> rfl
  · have h0 : generalN s 0 = leastI s 75 := general_some (by rw [hb]; rfl)
    have h1 : generalN s 1 = leastI s 107 := general_some (by rw [hb]; rfl)
    rw [h0, h1]
    unfold facingB
    rcases leastI_cases s 75 with ⟨ea, va⟩ | ⟨a, ha, ea, va, ka⟩
    · rw [ea, va]
      rfl
    rcases leastI_cases s 107 with ⟨eb, vb⟩ | ⟨b, hb9, eb, vb, kb⟩
    · rw [eb, vb, ea, va]
      simp
    · rw [ea, eb, va, vb, hb]
      have hne : a ≠ b := fun e => by rw [e, kb] at ka; cases ka
      have e1 : ((a : Int) % 9 == (b : Int) % 9) = (a % 9 == b % 9) := by
        rw [Bool.eq_iff_iff, beq_iff_eq, beq_iff_eq]
        omega
      rw [e1]
      by_cases e : a % 9 = b % 9
      · have hl : lineB a b = true := by simp [lineB, e, hne]
        have e2 : betweenV s (a : Int) (b : Int) = (betweenN s a b : Int) := by
          unfold betweenV betweenI
          rw [hb, sqI_true (by omega), sqI_true (by omega), Int.toNat_natCast, Int.toNat_natCast, hl]
          rfl
        rw [e2]
        have e3 : ((betweenN s a b : Int) == 0) = (betweenN s a b == 0) := by
          rw [Bool.eq_iff_iff, beq_iff_eq, beq_iff_eq]
          omega
        rw [e3]
        simp
      · have : (a % 9 == b % 9) = false := by rw [beq_eq_false_iff_ne]; exact e
        simp [this]
theorem facing_file (s : ByteArray) : facingB s = ((fileI (generalN s 0) == fileI (generalN s 1)) && (betweenV s (generalN s 0) (generalN s 1) == 0)) := by
  rw [facing_gen]
  have hbt : ∀ x y : Int, (x = -1 ∨ y = -1) → (betweenV s x y == 0) = false := fun x y h => by
    have : betweenV s x y = -1 := by
      unfold betweenV
      rcases h with rfl | rfl
      · rw [sqI_false (by omega)]; simp
      · rw [sqI_false (n := -1) (by omega)]; simp
    rw [this]
    rfl
  rcases general_cases s 0 with h0 | ⟨a, ha, h0, _⟩
  · rw [hbt _ _ (.inl h0)]
    simp
  rcases general_cases s 1 with h1 | ⟨b, hb, h1, _⟩
  · rw [hbt _ _ (.inr h1)]
    simp
  · rw [h0, h1, fileI, fileI, if_pos (by omega), if_pos (by omega)]
    simp
theorem in_att (s : ByteArray) (side : Int) : inB s side = ((attL s (generalN s side) (1 - side)).length != 0) := by
  unfold inB attL
  cases h : isB s && ((side == 0) || (side == 1))
  · rw [general_none h]
    rw [sqI_false (n := -1) (by omega)]
    simp
  · rw [general_some h]
    have hh := h
    simp only [Bool.and_eq_true, Bool.or_eq_true, beq_iff_eq] at hh
    rcases leastI_cases s (kingOf side) with ⟨ea, va⟩ | ⟨a, ha, ea, va, ka⟩
    · rw [ea, va, sqI_false (n := -1) (by omega)]
      simp
    · rw [ea, va, sqI_true (n := (a : Int)) (by omega), hh.1]
      have hs : ((1 - side == 0) || (1 - side == 1)) = true := by
        simp only [Bool.or_eq_true, beq_iff_eq]
        omega
      rw [hs]
      simp [attN, trues]
end Go.Proofs.YtpogpjebhnoncaaGreatDoor
namespace Go.Proofs.YtpogpjebhnoncaaGreatDoor
def stoodS (s : ByteArray) (n side : Int) : ByteArray := putB s n (pawnOf (1 - side))
theorem of_side7 {c : Nat} {side : Int} (h : 0 ≤ side) : ofSide c side = (sideN c == side) := by
  unfold ofSide
  by_cases e : c = 46
  · subst e
    have : sideN 46 = -1 := by decide
    rw [this]
    have : ((-1 : Int) == side) = false := by rw [beq_eq_false_iff_ne]; omega
    rw [this]
    rfl
  · have : (c != 46) = true := by rw [bne_iff_ne]; exact e
    rw [this, Bool.true_and]
theorem of_none {s : ByteArray} (hb : isB s = true) {side : Int} (h : ¬ (side = 0 ∨ side = 1)) {k : Nat} (hk : k < 90) : ofSide (bAt s k) side = false := by
  unfold ofSide
  have hf := isB_fill hb k hk
  rw [fill_side, Bool.or_eq_true, decide_eq_true_eq, beq_iff_eq] at hf
  rcases hf with hf | hf
  · rw [hf]
    rfl
  · have h01 := side_cases01 hf
    have : (sideN (bAt s k) == side) = false := by
      rw [beq_eq_false_iff_ne]
      intro e
      rw [e] at h01
      exact h h01
    rw [this, Bool.and_false]
theorem filter_trues (q : Nat → Bool) (p : Int → Bool) (m : Nat) : (trues q m).filter p = trues (fun k => q k && p (k : Int)) m := by
  unfold trues
  rw [List.filter_map, List.filter_filter]
  congr 1
  refine List.filter_congr fun k _ => ?_
  rw [Bool.and_comm]
  rfl
theorem att_filter (s : ByteArray) (n side : Int) : ((piecesL (stoodS s n side) side).filter fun x => !(!canI (stoodS s n side) x n)) = attL s n side := by
  simp only [Bool.not_not]
  unfold attL
  cases hb : isB s
  · have e : stoodS s n side = s := by unfold stoodS putB; rw [hb]; simp
    rw [e]
    unfold piecesL
    rw [hb]
    rfl
  cases hn : sqI n
  · have e : stoodS s n side = s := by unfold stoodS putB; rw [hn]; simp
    rw [e]
    have : ∀ x, canI s x n = false := fun x => by unfold canI; rw [hn]; simp
    simp [this]
  obtain ⟨h0, h1⟩ := sqI_in hn
  obtain ⟨m, rfl⟩ : ∃ m : Nat, n = m := ⟨n.toNat, by omega⟩
  have hm : m < 90 := by omega
  have e : stoodS s (m : Int) side = putS s m (pawnOf (1 - side)) := by
    unfold stoodS putB
    rw [hb, hn, pawnOf_fill, Int.toNat_natCast]
    rfl
  have hbd : isB (putS s m (pawnOf (1 - side))) = true := put_is_board hb m _ (pawnOf_lt _) (pawnOf_fill _)
  rw [e, piecesL, if_pos hbd, filter_trues]
  by_cases hs : side = 0 ∨ side = 1
  · have h2 : ((side == 0) || (side == 1)) = true := by
      simp only [Bool.or_eq_true, beq_iff_eq]
      exact hs
    rw [h2, if_pos (by rfl), Int.toNat_natCast]
    unfold trues
    congr 1
    refine List.filter_congr fun k hk => ?_
    have hk := List.mem_range.1 hk
    unfold attB canI
    rw [hbd, hn, sqI_true (n := (k : Int)) (by omega), Int.toNat_natCast, Int.toNat_natCast, of_side7 (by omega)]
    simp
  · have h2 : ((side == 0) || (side == 1)) = false := by
      rw [Bool.eq_false_iff]
      intro h3
      simp only [Bool.or_eq_true, beq_iff_eq] at h3
      exact hs h3
    rw [h2]
    simp only [Bool.and_false, Bool.false_eq_true, if_false]
    unfold trues
    rw [List.map_eq_nil_iff, List.filter_eq_nil_iff]
    intro k hk
    rw [of_none hbd hs (List.mem_range.1 hk)]
    simp
end Go.Proofs.YtpogpjebhnoncaaGreatDoor
namespace Go.Proofs.YtpogpjebhnoncaaGreatDoor
open Go.RowKit Go.Shelf
open M (S)
set_option maxHeartbeats 1000000 in
theorem general_any (s : ByteArray) (side : Int) (w : World) : Calls Tryz.prog 128 #[.string s, .int .i64 side] w (Says w (.int .i64 (generalN s side))) := by
  unfold Says
  cases hb : isB s
  · have B := Lib.hid hb
    have K : Hid (generalN s side = -1) := general_none (by rw [hb]; rfl)
    clear hb
    go_enter Tryz.func128, Tryz.ntmps128
    go_wp2_with fail
    refine (is_is s false _ B.out).mono ?_
    rintro e w1 ⟨rfl, rfl⟩
    go_wp2
    go_ret
    exact ⟨by rw [K.out]; rfl, rfl⟩
  · have hz := isB_size hb
    have B := Lib.hid hb
    by_cases h0 : side = 0
    · subst h0
      have K : Hid (generalN s 0 = leastI s 75) := general_some (by rw [hb]; rfl)
      have X := Lib.hid (index_least hz (c := 75) (by decide))
      clear hb hz
      go_enter Tryz.func128, Tryz.ntmps128
      go_wp2_with fail
      refine (is_is s true _ B.out).mono ?_
      rintro e w1 ⟨rfl, rfl⟩
      go_wp2_with fail
      refine (byte_index s 75 _).mono ?_
      rintro e w2 ⟨rfl, rfl⟩
      go_wp2
      go_ret
      exact ⟨by rw [K.out, ← X.out]; rfl, rfl⟩
    · by_cases h1 : side = 1
      · subst h1
        have K : Hid (generalN s 1 = leastI s 107) := general_some (by rw [hb]; rfl)
        have X := Lib.hid (index_least hz (c := 107) (by decide))
        clear hb hz h0
        go_enter Tryz.func128, Tryz.ntmps128
        go_wp2_with fail
        refine (is_is s true _ B.out).mono ?_
        rintro e w1 ⟨rfl, rfl⟩
        go_wp2_with fail
        refine (byte_index s 107 _).mono ?_
        rintro e w2 ⟨rfl, rfl⟩
        go_wp2
        go_ret
        exact ⟨by rw [K.out, ← X.out]; rfl, rfl⟩
      · have K : Hid (generalN s side = -1) := general_none (by
          rw [hb, Bool.true_and, Bool.or_eq_false_iff, beq_eq_false_iff_ne, beq_eq_false_iff_ne]
          exact ⟨h0, h1⟩)
        have e0 : (side == 0) = false := by rw [beq_eq_false_iff_ne]; exact h0
        have e1 : (side == 1) = false := by rw [beq_eq_false_iff_ne]; exact h1
        clear hb hz h0 h1
        go_enter Tryz.func128, Tryz.ntmps128
        go_wp2_with fail
        refine (is_is s true _ B.out).mono ?_
        rintro e w1 ⟨rfl, rfl⟩
        go_wp2
        go_ret
        exact ⟨by rw [K.out]; rfl, rfl⟩
theorem general_is (s : ByteArray) (side k : Int) (w : World) (h : generalN s side = k) : Calls Tryz.prog 128 #[.string s, .int .i64 side] w (Says w (.int .i64 k)) := by subst h; exact general_any s side w
set_option maxHeartbeats 1000000 in
theorem facing_any (s : ByteArray) (w : World) : Calls Tryz.prog 76 #[.string s] w (Says w (.bool (facingB s))) := by
  unfold Says
  obtain ⟨a, ha⟩ : ∃ a, generalN s 0 = a := ⟨_, rfl⟩
  obtain ⟨b, hb⟩ : ∃ b, generalN s 1 = b := ⟨_, rfl⟩
  obtain ⟨f, hf⟩ : ∃ f, fileI a = f := ⟨_, rfl⟩
  obtain ⟨g, hg⟩ : ∃ g, fileI b = g := ⟨_, rfl⟩
  obtain ⟨k, hk⟩ : ∃ k, betweenV s a b = k := ⟨_, rfl⟩
  have K0 := Lib.hid (facing_file s)
  rw [ha, hb, hf, hg, hk] at K0
  have HA := Lib.hid ha
  have HB := Lib.hid hb
  have HF := Lib.hid hf
  have HG := Lib.hid hg
  have HK := Lib.hid hk
  clear ha hb hf hg hk
  cases he : (f == g)
  · have K : Hid (facingB s = false) := by show _ = _; rw [K0.out, he]; rfl
    clear K0
    go_enter Tryz.func76, Tryz.ntmps76
    go_wp2_with fail
    refine (general_is s 0 a _ HA.out).mono ?_
    rintro e w1 ⟨rfl, rfl⟩
    go_wp2_with fail
    refine (general_is s 1 b _ HB.out).mono ?_
    rintro e w1 ⟨rfl, rfl⟩
    go_wp2_with fail
    refine (file_is a f _ HF.out).mono ?_
    rintro e w1 ⟨rfl, rfl⟩
    go_wp2_with fail
    refine (file_is b g _ HG.out).mono ?_
    rintro e w1 ⟨rfl, rfl⟩
    go_wp2
    go_ret
    exact ⟨by rw [K.out]; rfl, rfl⟩
  · have K : Hid (facingB s = (k == 0)) := by show _ = _; rw [K0.out, he]; rfl
    clear K0
    go_enter Tryz.func76, Tryz.ntmps76
    go_wp2_with fail
    refine (general_is s 0 a _ HA.out).mono ?_
    rintro e w1 ⟨rfl, rfl⟩
    go_wp2_with fail
    refine (general_is s 1 b _ HB.out).mono ?_
    rintro e w1 ⟨rfl, rfl⟩
    go_wp2_with fail
    refine (file_is a f _ HF.out).mono ?_
    rintro e w1 ⟨rfl, rfl⟩
    go_wp2_with fail
    refine (file_is b g _ HG.out).mono ?_
    rintro e w1 ⟨rfl, rfl⟩
    go_wp2_with fail
    refine (between_is5 s a b k _ HK.out).mono ?_
    rintro e w1 ⟨rfl, rfl⟩
    go_wp2
    go_ret
    exact ⟨by rw [K.out]; rfl, rfl⟩
theorem facing_is (s : ByteArray) (v : Bool) (w : World) (h : facingB s = v) : Calls Tryz.prog 76 #[.string s] w (Says w (.bool v)) := by subst h; exact facing_any s w
theorem victim_is (side : Int) (w : World) : Calls Tryz.prog 181 #[.int .i64 side] w (Says w (.int .u8 (pawnOf (1 - side) : Nat))) := by
  unfold Says
  by_cases h : side = 0
  · subst h
    go_enter Tryz.func181, Tryz.ntmps181
    go_wp2
    go_ret
    exact ⟨rfl, rfl⟩
  · have e0 : (side == 0) = false := by rw [beq_eq_false_iff_ne]; exact h
    have K : Hid (pawnOf (1 - side) = 80) := by show _ = _; unfold pawnOf; rw [if_neg (by omega)]
    clear h
    go_enter Tryz.func181, Tryz.ntmps181
    go_wp2
    go_ret
    exact ⟨by rw [K.out]; rfl, rfl⟩
theorem victim_as (side : Int) (c : Nat) (w : World) (h : pawnOf (1 - side) = c) : Calls Tryz.prog 181 #[.int .i64 side] w (Says w (.int .u8 (c : Int))) := by subst h; exact victim_is side w
theorem other_is (side k : Int) (w : World) (h : side = 0 ∨ side = 1) (hk : 1 - side = k) : Calls Tryz.prog 78 #[.int .i64 side] w (Says w (.int .i64 k)) := by
  unfold Says
  subst hk
  rcases h with rfl | rfl
  all_goals
    go_enter Tryz.func78, Tryz.ntmps78
    go_wp2
    go_ret
    exact ⟨rfl, rfl⟩
theorem other_some (side : Int) (w : World) : Calls Tryz.prog 78 #[.int .i64 side] w fun e w' => ∃ k, e = .returned (.int .i64 k) ∧ w = w' := by
  go_enter Tryz.func78, Tryz.ntmps78
  go_wp2
  go_ret
  exact ⟨_, rfl, rfl⟩
theorem att1_any (s : ByteArray) (x n : Int) (g0 g1 : Nat) (W : World) (c0 : W.cell? ⟨g0, 0, none⟩ = some (.string s)) (c1 : W.cell? ⟨g1, 0, none⟩ = some (.int .i64 n)) :
    Calls Tryz.prog 183 #[.int .i64 x, .pointer (some ⟨g0, 0, none⟩), .pointer (some ⟨g1, 0, none⟩)] W fun e w' => e = .returned (.bool (!canI s x n)) ∧ Below W.heap.size W w' := by
  obtain ⟨v, hv⟩ : ∃ v, canI s x n = v := ⟨_, rfl⟩
  rw [hv]
  have HV := Lib.hid hv
  clear hv
  go_enter Tryz.func183, Tryz.ntmps183
  go_wp2_with fail
  refine (can_is5 s x n v _ HV.out).mono ?_
  rintro e w1 ⟨rfl, hb⟩
  go_wp2
  go_ret
  exact ⟨rfl, hb⟩
theorem put_as (s t : ByteArray) (n : Int) (c : Nat) (w : World) (hc : c < 256) (h : putB s n c = t) : Calls Tryz.prog 180 #[.string s, .int .i64 n, .int .u8 (c : Int)] w (Gives w (.string t)) := by subst h; exact put_is s n c w hc
theorem below_same {w w1 : World} (h : w = w1) : Below w.heap.size w w1 := by subst h; exact Below.refl _ _
abbrev NT (w : World) (g : Nat) (n : Int) (W : World) : Prop := W.cell? ⟨g, 0, none⟩ = some (.int .i64 n) ∧ Tab W ∧ Below w.heap.size w W
theorem nT_keep {w : World} {g : Nat} {n : Int} {W W' : World} (h : NT w g n W) (hb : Below W.heap.size W W') : NT w g n W' := by
  obtain ⟨h0, h1, h2⟩ := h
  exact ⟨(hb.cell (p := ⟨g, 0, none⟩) (World.block_lt_of_cell? _ _ h0)).trans h0, h1.next hb, h2.trans (hb.mono h2.size)⟩
theorem nT_set {w : World} {g : Nat} {n : Int} {W X : World} (h : NT w g n W) (hx : NT w g n X) (u : Value) : NT w g n (W.setCell ⟨X.heap.size, 0, none⟩ u) := by
  obtain ⟨h0, h1, h2⟩ := h
  have hg : g < X.heap.size := World.block_lt_of_cell? _ _ hx.1
  refine ⟨?_, h1.below ((Below.refl X.heap.size W).setCell (p := ⟨X.heap.size, 0, none⟩) (Nat.le_refl _) u) hx.2.1.lt, h2.setCell (p := ⟨X.heap.size, 0, none⟩) hx.2.2.size u⟩
  rw [World.cell?_setCell_other _ _ _ _ (by intro e; injection e with e1; omega)]
  exact h0
theorem with_two {P Q R : Prop} (h : P ∧ Q) (k : P → Q → R) : R := k h.1 h.2
theorem box_two {W w1 w2 : World} {v : Value} {t : TypeId} (h : W.alloc (.cells #[v] t) = w1) (hb : Below w1.heap.size w1 w2) : w2.cell? ⟨W.heap.size, 0, none⟩ = some v ∧ w2.frozen? ⟨W.heap.size, 0, none⟩ = false := by
  have h1 : Blk w1 W.heap.size t #[v] := by rw [← h]; exact Blk.new _ _ _ rfl
  exact ⟨(h1.next hb).cell 0, (h1.next hb).frozen 0⟩
theorem box_drew {W w1 w2 : World} {v : Value} {t : TypeId} (h : (W.alloc (.cells #[v] t)).drew = w1) (hb : Below w1.heap.size w1 w2) : w2.cell? ⟨W.heap.size, 0, none⟩ = some v ∧ w2.frozen? ⟨W.heap.size, 0, none⟩ = false := by
  have h1 : Blk w1 W.heap.size t #[v] := by rw [← h]; exact (Blk.new W t #[v] rfl).next (Below.refl _ _).drew
  exact ⟨(h1.next hb).cell 0, (h1.next hb).frozen 0⟩
theorem att_del (s st : ByteArray) (n side : Int) (HF : Hid (((piecesL st side).filter fun x => !(!canI st x n)) = attL s n side)) (W3 w4 : World) (g0 g1 : Nat) (c0 : W3.cell? ⟨g0, 0, none⟩ = some (.string st)) (c1 : W3.cell? ⟨g1, 0, none⟩ = some (.int .i64 n)) (v : Value) (ho : w4.ownsRow W3.heap.size 3 1 v (piecesL st side).length ((piecesL st side).map iv)) (hb4 : Below W3.heap.size W3 w4) :
    Calls Tryz.prog 168 #[v, .func (.func 183) #[] #[.pointer (some ⟨g0, 0, none⟩), .pointer (some ⟨g1, 0, none⟩)]] w4 fun e w' => ∃ v', e = .returned v' ∧ w'.ownsRow W3.heap.size 3 1 v' (attL s n side).length ((attL s n side).map iv) ∧ Below W3.heap.size W3 w' := by
  have hm : (piecesL st side).length ≤ 1000000 := by
    have : (piecesL st side).length ≤ 90 := by
      unfold piecesL
      split
      · exact trues_le _ _
      · simp
    omega
  have eg : ∀ args w, (callFunc 183 args).run Tryz.prog w = .ok (.enter 183 args) w := enters_of Tryz.func183 (by kernel_rfl) rfl
  have hcl : PredOn 183 #[.pointer (some ⟨g0, 0, none⟩), .pointer (some ⟨g1, 0, none⟩)] iv (fun x => !canI st x n) (piecesL st side) W3 := fun W x _ hb => att1_any st x n _ _ W ((hb.cell (p := ⟨g0, 0, none⟩) (World.block_lt_of_cell? _ _ c0)).trans c0) ((hb.cell (p := ⟨g1, 0, none⟩) (World.block_lt_of_cell? _ _ c1)).trans c1)
  have := del_ints (piecesL st side) (fun x => !canI st x n) 183 _ eg v _ W3 w4 hcl ho rfl hm hb4
  rw [HF.out] at this
  exact this
set_option maxHeartbeats 4000000 in
theorem att_any (s : ByteArray) (n side : Int) (w : World) (hT : Tab w) : Calls Tryz.prog 131 #[.string s, .int .i64 n, .int .i64 side] w (OwnL w (attL s n side)) := by
  have HF := Lib.hid (att_filter s n side)
  obtain ⟨c, hc⟩ : ∃ c, pawnOf (1 - side) = c := ⟨_, rfl⟩
  have hc256 : c < 256 := by rw [← hc]; exact pawnOf_lt _
  obtain ⟨st, hst⟩ : ∃ st, stoodS s n side = st := ⟨_, rfl⟩
  have HP : Hid (putB s n c = st) := by show _ = _; rw [← hst, ← hc]; rfl
  have HC := Lib.hid hc
  rw [hst] at HF
  obtain ⟨W0, hW0⟩ : ∃ W0, w.alloc (.cells #[.int .i64 n] 3) = W0 := ⟨_, rfl⟩
  have hB : Below w.heap.size w W0 := by rw [← hW0]; exact (by repeat (first | exact Below.refl _ _ | (refine Below.setCell ?_ (by first | omega | (simp; done) | (simp; omega) | (simp at *; omega)) _) | (refine Below.alloc ?_ (by first | omega | (simp; done) | (simp; omega) | (simp at *; omega)) _) | refine Below.drew ?_ | (refine below_drewN ?_ _) | (refine Below.trans ?_ (Below.mono (by assumption) (by first | omega | (simp; done) | (simp; omega) | (simp at *; omega))))))
  have bN : Blk W0 w.heap.size 3 #[.int .i64 n] := by rw [← hW0]; exact Blk.new _ _ _ rfl
  have HW := Lib.hid hW0
  have hT0 := hT.next hB
  have hS0 : NT w w.heap.size n W0 := ⟨bN.cell 0, hT0, hB⟩
  have hS : NT w w.heap.size n W0.drew := nT_keep hS0 (Below.refl _ _).drew
  clear hc hst hW0 hB bN hT0 hT
  go_enter Tryz.func131, Tryz.ntmps131
  go_wp2_with fail
  rw [HW.out]
  go_region_held3 (fun W => W.cell? ⟨w.heap.size, 0, none⟩ = some (.int .i64 n) ∧ Tab W ∧ Below w.heap.size w W)
    (first | exact hS | exact nT_keep (by assumption) hb | exact nT_keep (by assumption) ((Below.refl _ _).alloc (Nat.le_refl _) _) | exact nT_set (by assumption) (by assumption) _)
    (first
      | (go_at_call 181; refine (victim_as side c _ HC.out).mono ?_; rintro e w1 ⟨rfl, hw⟩; have hb := below_same hw; have h1 : NT w w.heap.size n w1 := nT_keep (by assumption) hb)
      | (go_at_call 180; refine (put_as s st n c _ hc256 HP.out).mono ?_; rintro e w2 ⟨rfl, hb⟩; have h2 : NT w w.heap.size n w2 := nT_keep (by assumption) hb; (first | (refine with_two (box_drew hw hb) ?_; intro q1 q2) | (refine with_two (box_two rfl hb) ?_; intro q1 q2) | skip)))
  · obtain ⟨W3, hW3⟩ : ∃ W3, w2.alloc (.cells #[.string st] 9) = W3 := ⟨_, rfl⟩
    have cS : W3.cell? ⟨w2.heap.size, 0, none⟩ = some (.string st) := by rw [← hW3]; exact (Blk.new _ _ _ rfl).cell 0
    rename_i hh
    rw [hW3] at hh ⊢
    obtain ⟨cN, hT3, hB3⟩ := hh
    clear hW3  hb hw h1 h2 hS hS0 HW HP HC
    go_wp2_with fail
    refine (pieces_own st side _ hT3).mono ?_
    rintro e w4 ⟨v, rfl, ho, hb4⟩
    have hdel := Lib.hid (att_del s st n side HF W3 w4 _ _ cS cN v ho hb4)
    obtain ⟨A', c', rfl⟩ := own_slice ho
    clear ho
    go_wp2_with fail
    refine hdel.out.mono ?_
    rintro e w5 ⟨v5, rfl, ho5, hb5⟩
    go_wp2
    go_ret
    exact ⟨_, rfl, own_mono ho5 hB3.size, hB3.trans (hb5.mono hB3.size)⟩
  · obtain ⟨W3, hW3⟩ : ∃ W3, w2.setCell ⟨w1.heap.size, 0, none⟩ (.string st) = W3 := ⟨_, rfl⟩
    have cS : W3.cell? ⟨w1.heap.size, 0, none⟩ = some (.string st) := by rw [← hW3]; exact World.cell?_setCell_same' _ _ _ (by rw [q1]; rfl)
    rename_i hh
    rw [hW3] at hh ⊢
    obtain ⟨cN, hT3, hB3⟩ := hh
    clear hW3 q1 q2 hb hw h1 h2 hS hS0 HW HP HC
    go_wp2_with fail
    refine (pieces_own st side _ hT3).mono ?_
    rintro e w4 ⟨v, rfl, ho, hb4⟩
    have hdel := Lib.hid (att_del s st n side HF W3 w4 _ _ cS cN v ho hb4)
    obtain ⟨A', c', rfl⟩ := own_slice ho
    clear ho
    go_wp2_with fail
    refine hdel.out.mono ?_
    rintro e w5 ⟨v5, rfl, ho5, hb5⟩
    go_wp2
    go_ret
    exact ⟨_, rfl, own_mono ho5 hB3.size, hB3.trans (hb5.mono hB3.size)⟩
  · obtain ⟨W3, hW3⟩ : ∃ W3, w2.setCell ⟨W0.heap.size, 0, none⟩ (.string st) = W3 := ⟨_, rfl⟩
    have cS : W3.cell? ⟨W0.heap.size, 0, none⟩ = some (.string st) := by rw [← hW3]; exact World.cell?_setCell_same' _ _ _ (by rw [q1]; rfl)
    rename_i hh
    rw [hW3] at hh ⊢
    obtain ⟨cN, hT3, hB3⟩ := hh
    clear hW3 q1 q2 hb hw h1 h2 hS hS0 HW HP HC
    go_wp2_with fail
    refine (pieces_own st side _ hT3).mono ?_
    rintro e w4 ⟨v, rfl, ho, hb4⟩
    have hdel := Lib.hid (att_del s st n side HF W3 w4 _ _ cS cN v ho hb4)
    obtain ⟨A', c', rfl⟩ := own_slice ho
    clear ho
    go_wp2_with fail
    refine hdel.out.mono ?_
    rintro e w5 ⟨v5, rfl, ho5, hb5⟩
    go_wp2
    go_ret
    exact ⟨_, rfl, own_mono ho5 hB3.size, hB3.trans (hb5.mono hB3.size)⟩
end Go.Proofs.YtpogpjebhnoncaaGreatDoor
namespace Go.Proofs.YtpogpjebhnoncaaGreatDoor
open Go.RowKit Go.Shelf
open M (S)
theorem att_as (s : ByteArray) (a side : Int) (l : List Int) (w : World) (hT : Tab w) (h : attL s a side = l) : Calls Tryz.prog 131 #[.string s, .int .i64 a, .int .i64 side] w (OwnL w l) := by subst h; exact att_any s a side w hT
theorem in_out {s : ByteArray} {side : Int} (h : ¬ (side = 0 ∨ side = 1)) : generalN s side = -1 ∧ inB s side = false := by
  have h1 : (isB s && ((side == 0) || (side == 1))) = false := by
    rw [Bool.and_eq_false_iff, Bool.or_eq_false_iff, beq_eq_false_iff_ne, beq_eq_false_iff_ne]
    exact .inr ⟨fun e => h (.inl e), fun e => h (.inr e)⟩
  refine ⟨general_none h1, ?_⟩
  unfold inB
  rw [h1]
  rfl
theorem att_neg (s : ByteArray) (k : Int) : attL s (-1) k = [] := by
  unfold attL
  rw [sqI_false (n := -1) (by omega)]
  simp
set_option maxHeartbeats 1000000 in
theorem in_any (s : ByteArray) (side : Int) (w : World) (hT : Tab w) : Calls Tryz.prog 77 #[.string s, .int .i64 side] w (Gives w (.bool (inB s side))) := by
  unfold Gives
  obtain ⟨n, hn⟩ : ∃ n, generalN s side = n := ⟨_, rfl⟩
  by_cases h : side = 0 ∨ side = 1
  · obtain ⟨l, hl⟩ : ∃ l, attL s n (1 - side) = l := ⟨_, rfl⟩
    obtain ⟨k, hk⟩ : ∃ k, 1 - side = k := ⟨_, rfl⟩
    have K : Hid (inB s side = decide (0 < l.length)) := by
      show _ = _
      rw [in_att, hn, hl, Bool.eq_iff_iff, bne_iff_ne, decide_eq_true_eq]
      omega
    rw [hk] at hl
    have HN := Lib.hid hn
    have HL := Lib.hid hl
    have HK := Lib.hid hk
    have HS := Lib.hid h
    clear hn hl hk h
    go_enter Tryz.func77, Tryz.ntmps77
    go_wp2_with fail
    refine (general_is s side n _ HN.out).mono ?_
    rintro e w1 ⟨rfl, rfl⟩
    go_wp2_with fail
    refine (other_is side k _ HS.out HK.out).mono ?_
    rintro e w1 ⟨rfl, rfl⟩
    go_wp2_with fail
    refine (att_as s n k l _ hT HL.out).mono ?_
    rintro e w3 ⟨v, rfl, ho, hb⟩
    obtain ⟨A', c', rfl⟩ := own_slice ho
    go_wp2
    go_ret
    exact ⟨by rw [K.out]; rfl, hb⟩
  · obtain ⟨h1, h2⟩ := in_out (s := s) h
    have HN := Lib.hid h1
    have K := Lib.hid h2
    clear hn h h1 h2
    go_enter Tryz.func77, Tryz.ntmps77
    go_wp2_with fail
    refine (general_is s side (-1) _ HN.out).mono ?_
    rintro e w1 ⟨rfl, rfl⟩
    go_wp2_with fail
    refine (other_some side _).mono ?_
    rintro e w1 ⟨k, rfl, rfl⟩
    go_wp2_with fail
    refine (att_as s (-1) k [] _ hT (att_neg s k)).mono ?_
    rintro e w3 ⟨v, rfl, ho, hb⟩
    obtain ⟨A', c', rfl⟩ := own_slice ho
    go_wp2
    go_ret
    exact ⟨by rw [K.out]; rfl, hb⟩
theorem in_is (s : ByteArray) (side : Int) (v : Bool) (w : World) (hT : Tab w) (h : inB s side = v) : Calls Tryz.prog 77 #[.string s, .int .i64 side] w (Gives w (.bool v)) := by subst h; exact in_any s side w hT
theorem ppos_cells7 {W : World} {g : Nat} {t : TypeId} {s : ByteArray} {a b c : Int} (h : Blk W g t #[.string s, .int .i64 a, .int .i64 b, .int .i64 c]) : W.cell? ⟨g, 0, none⟩ = some (.string s) ∧ W.cell? ⟨g, 1, none⟩ = some (.int .i64 a) ∧ W.cell? ⟨g, 2, none⟩ = some (.int .i64 b) ∧ W.cell? ⟨g, 3, none⟩ = some (.int .i64 c) := ⟨h.cell 0, h.cell 1, h.cell 2, h.cell 3⟩
set_option maxRecDepth 100000 in
set_option maxHeartbeats 4000000 in
theorem well_any (s : ByteArray) (side clock full : Int) (w : World) (hT : Tab w) : Calls Tryz.prog 36 #[.agg #[.string s, .int .i64 side, .int .i64 clock, .int .i64 full]] w (Gives w (.int .i64 (wellN s side clock full))) := by
  unfold Gives
  obtain ⟨W0, hW0⟩ : ∃ W0, w.alloc (.cells #[.string s, .int .i64 side, .int .i64 clock, .int .i64 full] 23) = W0 := ⟨_, rfl⟩
  have hB : Below w.heap.size w W0 := by rw [← hW0]; exact (by repeat (first | exact Below.refl _ _ | (refine Below.setCell ?_ (by first | omega | (simp; done) | (simp; omega) | (simp at *; omega)) _) | (refine Below.alloc ?_ (by first | omega | (simp; done) | (simp; omega) | (simp at *; omega)) _) | refine Below.drew ?_ | (refine below_drewN ?_ _) | (refine Below.trans ?_ (Below.mono (by assumption) (by first | omega | (simp; done) | (simp; omega) | (simp at *; omega))))))
  have bP : Blk W0 w.heap.size 23 #[.string s, .int .i64 side, .int .i64 clock, .int .i64 full] := by rw [← hW0]; exact Blk.new _ _ _ rfl
  replace hT := hT.next hB
  have HW := Lib.hid hW0
  clear hW0
  obtain ⟨k, hk⟩ : ∃ k : Int, (checkN s side clock full : Int) = k := ⟨_, rfl⟩
  have HK := Lib.hid hk
  by_cases h0 : k = 0
  · subst h0
    have hside : side = 0 ∨ side = 1 := by
      have hp := (check_zero hk).1
      simp only [partsB, Bool.and_eq_true, Bool.or_eq_true, beq_iff_eq, decide_eq_true_eq] at hp
      exact hp.1.1.1.1.2
    obtain ⟨f, hf⟩ : ∃ f, facingB s = f := ⟨_, rfl⟩
    have HF := Lib.hid hf
    cases f
    · obtain ⟨v, hv⟩ : ∃ v, inB s (1 - side) = v := ⟨_, rfl⟩
      obtain ⟨o, ho⟩ : ∃ o, 1 - side = o := ⟨_, rfl⟩
      have K : Hid (wellN s side clock full = if v then 5 else 0) := by
        show _ = _
        unfold wellN
        rw [if_pos hk, hf, hv]
        rfl
      rw [ho] at hv
      have HV := Lib.hid hv
      have HO := Lib.hid ho
      have HS := Lib.hid hside
      clear hk hf hv ho hside
      go_enter Tryz.func36, Tryz.ntmps36
      go_wp2_with fail
      rw [HW.out]
      refine (check_is s side clock full 0 _ HK.out).mono ?_
      rintro e w1 ⟨rfl, hb⟩
      replace hT := hT.next hb
      replace bP := bP.next hb
      replace hB := hB.trans (hb.mono hB.size)
      clear hb
      obtain ⟨p0, p1, p2, p3⟩ := ppos_cells7 bP
      go_wp2_with fail
      refine (facing_is s false _ HF.out).mono ?_
      rintro e w2 ⟨rfl, rfl⟩
      have hS : w1.drew.cell? ⟨w.heap.size, 0, none⟩ = some (.string s) ∧ w1.drew.cell? ⟨w.heap.size, 1, none⟩ = some (.int .i64 side) ∧ w1.drew.cell? ⟨w.heap.size, 2, none⟩ = some (.int .i64 clock) ∧ w1.drew.cell? ⟨w.heap.size, 3, none⟩ = some (.int .i64 full) ∧ Tab w1.drew ∧ Below w.heap.size w w1.drew := ⟨p0, p1, p2, p3, hT.next (Below.refl _ _).drew, hB.drew⟩
      clear bP hB hT
      go_wp2_with fail
      go_region_held3 (fun W => W.cell? ⟨w.heap.size, 0, none⟩ = some (.string s) ∧ W.cell? ⟨w.heap.size, 1, none⟩ = some (.int .i64 side) ∧ W.cell? ⟨w.heap.size, 2, none⟩ = some (.int .i64 clock) ∧ W.cell? ⟨w.heap.size, 3, none⟩ = some (.int .i64 full) ∧ Tab W ∧ Below w.heap.size w W)
        (first | exact hS | exact posT_keep (by assumption) hb)
        (first
          | (go_at_call 78; refine (other_is side o _ HS.out HO.out).mono ?_; rintro e w3 ⟨rfl, hw⟩; have hb := below_same hw)
          | (go_at_call 77; refine (in_is s o v _ ?_ HV.out).mono ?_; (exact posT_tab (by assumption)); rintro e w4 ⟨rfl, hb⟩))
      rename_i hh
      have hB := posT_below hh
      clear hh
      cases v
      · go_wp2
        go_ret
        exact ⟨by rw [K.out]; rfl, hB⟩
      · go_wp2
        go_ret
        exact ⟨by rw [K.out]; rfl, hB⟩
    · have K : Hid (wellN s side clock full = 4) := by
        show _ = _
        unfold wellN
        rw [if_pos hk, hf]
        rfl
      clear hk hf hside
      go_enter Tryz.func36, Tryz.ntmps36
      go_wp2_with fail
      rw [HW.out]
      refine (check_is s side clock full 0 _ HK.out).mono ?_
      rintro e w1 ⟨rfl, hb⟩
      replace bP := bP.next hb
      replace hB := hB.trans (hb.mono hB.size)
      clear hb
      obtain ⟨p0, p1, p2, p3⟩ := ppos_cells7 bP
      go_wp2_with fail
      refine (facing_is s true _ HF.out).mono ?_
      rintro e w2 ⟨rfl, rfl⟩
      go_wp2
      go_ret
      exact ⟨by rw [K.out]; rfl, hB⟩
  · have K : Hid (wellN s side clock full = k) := by
      show _ = _
      unfold wellN
      rw [hk, if_neg h0]
    have e1 : (k != 0) = true := by rw [bne_iff_ne]; exact h0
    clear hk h0
    go_enter Tryz.func36, Tryz.ntmps36
    go_wp2_with fail
    rw [HW.out]
    refine (check_is s side clock full k _ HK.out).mono ?_
    rintro e w1 ⟨rfl, hb⟩
    go_wp2
    go_ret
    exact ⟨by rw [K.out]; rfl, hB.trans (hb.mono hB.size)⟩
theorem well_is (s : ByteArray) (side clock full k : Int) (w : World) (hT : Tab w) (h : wellN s side clock full = k) : Calls Tryz.prog 36 #[.agg #[.string s, .int .i64 side, .int .i64 clock, .int .i64 full]] w (Gives w (.int .i64 k)) := by subst h; exact well_any s side clock full w hT
end Go.Proofs.YtpogpjebhnoncaaGreatDoor
namespace Go.Proofs.YtpogpjebhnoncaaGreatDoor
open Go.RowKit Go.Shelf
open M (S)
theorem leastI_hit {s : ByteArray} {c k : Nat} (hk : k < 90) (h : bAt s k = c) (hne : ∀ j, j < k → bAt s j ≠ c) : leastI s c = (k : Int) := by
  have : leastN s c = some k := by
    unfold leastN
    rw [List.find?_range_eq_some]
    refine ⟨by simpa using h, List.mem_range.2 hk, fun j hj => ?_⟩
    simpa using hne j hj
  unfold leastI
  rw [this]
theorem leastI_miss {s : ByteArray} {c : Nat} (hne : ∀ j, j < 90 → bAt s j ≠ c) : leastI s c = -1 := by
  rcases leastI_cases s c with ⟨_, h⟩ | ⟨n, hn, _, _, h⟩
  · exact h
  · exact absurd h (hne n hn)
theorem rof_pawn (side : Int) (c : Nat) (w : World) (hs : side = 0 ∨ side = 1) (hc : pawnOf side = c) : Calls Tryz.prog 117 #[.int .u8 80, .int .i64 side] w (Says w (.int .u8 (c : Int))) := by
  subst hc
  rcases hs with rfl | rfl
  · exact rof_zero 80 w
  · exact rof_one 80 w (by decide)
set_option maxHeartbeats 2000000 in
theorem rput7_is (s : ByteArray) (n c : Nat) (side : Int) (w : World) (hs : s.size = 90) (hn : n < 90) (hside : side = 0 ∨ side = 1) (hc : pawnOf (1 - side) = c) :
    Calls Tryz.prog 194 #[.string s, .int .i64 (n : Int), .int .i64 side] w (Gives w (.string (putS s n c))) := by
  unfold Gives
  have hc256 : c < 256 := by rw [← hc]; exact pawnOf_lt _
  obtain ⟨m, hm⟩ : ∃ m : Int, 1 - side = m := ⟨_, rfl⟩
  have i0 : IntKind.i64.wrap (1 - side) = m := by rw [IntWalk.i64_in _ (by omega)]; exact hm
  have HO := Lib.hid fun W => rof_pawn m c W (by omega) (by rw [← hm]; exact hc)
  have i1 : IntKind.i64.wrap ((n : Int) + 1) = (n : Int) + 1 := IntWalk.i64_in _ (by omega)
  have hcv : ∀ (W : World) (g C : Nat), W.cell? ⟨g, 0, none⟩ = some (.int .u8 (c : Int)) → (convert 146 9 (.slice (some ⟨g, 0, none⟩) 1 C)).run Tryz.prog W = .ok (.string (one c)) W := fun W g C h => one_of W g C c hc256 h
  have h0 : (0 : Int) ≤ (n : Int) := by omega
  have h2 : (n : Int) ≤ (s.size : Int) := by omega
  have h3 : (n : Int) + 1 ≤ (s.size : Int) := by omega
  have h4 : (0 : Int) ≤ (n : Int) + 1 := by omega
  have z1 : (s.extract 0 n).size = n := by simp; omega
  have ha1 : ∀ W : World, (Op.stringOp .add (s.extract 0 n) (one c)).run Tryz.prog W = .ok (.string (s.extract 0 n ++ one c)) W := fun W => run_string_add_sum _ _ _ (by rw [z1, show (one c).size = 1 from rfl]; omega)
  have hp := put_cut s n c (by omega)
  obtain ⟨pre, hpre⟩ : ∃ pre, s.extract 0 n ++ one c = pre := ⟨_, rfl⟩
  have zp : pre.size = n + 1 := by rw [← hpre, ByteArray.size_append, z1]; rfl
  rw [hpre] at ha1 hp
  have ha2 : ∀ W : World, (Op.stringOp .add pre (s.extract (n + 1) s.size)).run Tryz.prog W = .ok (.string (putS s n c)) W := fun W => by
    rw [hp]
    exact run_string_add_sum _ _ _ (by rw [zp]; simp; omega)
  have t1 : ((n : Int) + 1).toNat = n + 1 := by omega
  clear hpre zp z1 hp hside hc hm hs
  go_enter Tryz.func194, Tryz.ntmps194
  go_wp2_with fail
  go_region_with ((go_at_call 117; refine (HO.out _).mono ?_; rintro e w' ⟨rfl, rfl⟩))
  all_goals go_wp2
  all_goals
    go_ret
    exact ⟨rfl, (by repeat (first | exact Below.refl _ _ | (refine Below.setCell ?_ (by first | omega | (simp; done) | (simp; omega) | (simp at *; omega)) _) | (refine Below.alloc ?_ (by first | omega | (simp; done) | (simp; omega) | (simp at *; omega)) _) | refine Below.drew ?_ | (refine below_drewN ?_ _) | (refine Below.trans ?_ (Below.mono (by assumption) (by first | omega | (simp; done) | (simp; omega) | (simp at *; omega))))))⟩
theorem rat_none (s : ByteArray) (n side : Int) (w : World) (h : isB s = false ∨ n < 0 ∨ 89 < n ∨ side < 0 ∨ 1 < side) : Calls Tryz.prog 140 #[.string s, .int .i64 n, .int .i64 side] w (GivesL w []) := by
  cases hb : isB s
  · have B := Lib.hid hb
    clear h hb
    go_enter Tryz.func140, Tryz.ntmps140
    go_wp2_with fail
    refine (ris_is s false _ B.out).mono ?_
    rintro e w' ⟨rfl, rfl⟩
    go_wp2
    go_ret
    exact ⟨none, 0, rfl, fun j u hu => by simp at hu, Below.refl _ _⟩
  · have B := Lib.hid hb
    rw [hb] at h
    clear hb
    by_cases h1 : n < 0
    · clear h
      go_enter Tryz.func140, Tryz.ntmps140
      go_wp2_with fail
      refine (ris_is s true _ B.out).mono ?_
      rintro e w' ⟨rfl, rfl⟩
      go_wp2
      go_ret
      exact ⟨none, 0, rfl, fun j u hu => by simp at hu, Below.refl _ _⟩
    by_cases h2 : 89 < n
    · clear h
      go_enter Tryz.func140, Tryz.ntmps140
      go_wp2_with fail
      refine (ris_is s true _ B.out).mono ?_
      rintro e w' ⟨rfl, rfl⟩
      go_wp2
      go_ret
      exact ⟨none, 0, rfl, fun j u hu => by simp at hu, Below.refl _ _⟩
    by_cases h3 : side < 0
    · clear h
      go_enter Tryz.func140, Tryz.ntmps140
      go_wp2_with fail
      refine (ris_is s true _ B.out).mono ?_
      rintro e w' ⟨rfl, rfl⟩
      go_wp2
      go_ret
      exact ⟨none, 0, rfl, fun j u hu => by simp at hu, Below.refl _ _⟩
    · have h4 : 1 < side := by simp at h; omega
      clear h
      go_enter Tryz.func140, Tryz.ntmps140
      go_wp2_with fail
      refine (ris_is s true _ B.out).mono ?_
      rintro e w' ⟨rfl, rfl⟩
      go_wp2
      go_ret
      exact ⟨none, 0, rfl, fun j u hu => by simp at hu, Below.refl _ _⟩
set_option maxRecDepth 100000 in
set_option maxHeartbeats 2000000 in
theorem rat_some (s : ByteArray) (n : Nat) (side : Int) (w : World) (hb : isB s = true) (hn : n < 90) (hside : side = 0 ∨ side = 1) : Calls Tryz.prog 140 #[.string s, .int .i64 (n : Int), .int .i64 side] w (GivesL w (trues (attB s n side) 90)) := by
  have hs := isB_size hb
  obtain ⟨c, hc⟩ : ∃ c, pawnOf (1 - side) = c := ⟨_, rfl⟩
  obtain ⟨t, ht⟩ : ∃ t, putS s n c = t := ⟨_, rfl⟩
  have hts : 90 ≤ t.size := by rw [← ht, put_size]; omega
  have HPT := Lib.hid fun W => rput7_is s n c side W hs hn hside hc
  rw [ht] at HPT
  obtain ⟨p, hp⟩ : ∃ p : Nat → Bool, p = attB s n side := ⟨_, rfl⟩
  have Hp : Hid (∀ k, p k = ((sideN (bAt t k) == side) && canB t k n)) := by
    show ∀ k, _
    intro k
    rw [hp]
    unfold attB
    rw [hc, ht]
  rw [← hp]
  obtain ⟨i0, hi, hz0, hz1, hz2⟩ := info_parts info_int
  have B := Lib.hid hb
  have g0 : ¬ (n : Int) < 0 := by omega
  have g1 : ¬ (89 : Int) < (n : Int) := by omega
  have g2 : ¬ side < 0 := by omega
  have g3 : ¬ 1 < side := by omega
  clear hb hs hc ht hp hside
  go_enter Tryz.func140, Tryz.ntmps140
  go_wp2_with fail
  refine (ris_is s true _ B.out).mono ?_
  rintro e w' ⟨rfl, rfl⟩
  go_wp2_with fail
  refine (HPT.out _).mono ?_
  rintro e w1 ⟨rfl, hb1⟩
  go_wp2_with fail
  go_loopw [8, 9] (fun v i wr => ∃ k : Nat, k ≤ 90 ∧ i = .int .i64 k ∧ wr.ownsRow w.heap.size 3 1 v (trues p k).length ((trues p k).map iv) ∧ Below w.heap.size w wr) (fun _ i _ => 90 - (intOf i).toNat)
  case atStart => exact ⟨0, by omega, rfl, by simpa [trues] using World.ownsRow_nil w1 w.heap.size 3 1, hb1⟩
  case round =>
    obtain ⟨k, hk, rfl, hown, hB⟩ := hrel
    have hbs := hB.size
    have hle := trues_le p k
    by_cases hlt : k < 90
    · have hst := trues_succ p k
      obtain ⟨x, hx⟩ : ∃ x, bAt t k = x := ⟨_, rfl⟩
      have hks : k < t.size := by omega
      have hbk : t[k].toNat = x := (bAt_eq t k hks).trans hx
      obtain ⟨d, hd⟩ : ∃ d, sideN x = d := ⟨_, rfl⟩
      obtain ⟨r, hr⟩ : ∃ r, canB t k n = r := ⟨_, rfl⟩
      have hpk := Hp.out k
      rw [hx, hd, hr] at hpk
      rw [hpk] at hst
      have HD := Lib.hid hd
      have HR := Lib.hid hr
      clear hx hpk hd hr
      cases hds : (d == side)
      · rw [hds] at hst
        have Hs := Lib.hid hst
        clear hst
        go_wp2_with fail
        refine (rside_is x d _ HD.out).mono ?_
        rintro e w2 ⟨rfl, rfl⟩
        go_wp2_with fail
        go_roundw
        case rel => exact ⟨k + 1, by omega, by go_num, by rw [Hs.out]; exact hown, hB⟩
        case measure => simp [intOf]; omega
      · cases r
        · rw [hds] at hst
          have Hs := Lib.hid hst
          clear hst
          go_wp2_with fail
          refine (rside_is x d _ HD.out).mono ?_
          rintro e w2 ⟨rfl, rfl⟩
          go_wp2_with fail
          refine (fast_is t k n false _ hts hlt hn HR.out).mono ?_
          rintro e w2 ⟨rfl, rfl⟩
          go_wp2_with fail
          go_roundw
          case rel => exact ⟨k + 1, by omega, by go_num, by rw [Hs.out]; exact hown, hB⟩
          case measure => simp [intOf]; omega
        · rw [hds] at hst
          have Hs := Lib.hid hst
          clear hst
          go_wp2_with fail
          refine (rside_is x d _ HD.out).mono ?_
          rintro e w2 ⟨rfl, rfl⟩
          go_wp2_with fail
          refine (fast_is t k n true _ hts hlt hn HR.out).mono ?_
          rintro e w2 ⟨rfl, rfl⟩
          go_wp2_with (at_builtin; refine wpList_append_own _ rfl _ _ 152 rfl w.heap.size 3 i0 (.int .i64 0) 1 8 Tryz.underlying152 hi hz0 hz1 hz2 rfl (by decide) _ _ _ rfl (hown.alloc _) ⟨wr.heap.size, 0, none⟩ 1 1 [iv k] rfl rfl (cell_one_new _ _ _) (by simp [Value.oneCell']) (by unfold maxLen; omega) (by omega) (by simp; omega) ?_; intro v' w2 hown' hgrow _)
          go_roundw
          case rel => exact ⟨k + 1, by omega, by go_num, by rw [Hs.out]; simpa using hown', below_app hB hbs hown hgrow⟩
          case measure => simp [intOf]; omega
    · obtain rfl : k = 90 := by omega
      obtain ⟨A', c', rfl⟩ := own_slice hown
      go_wp2
      go_ret
      exact ⟨A', c', rfl, Rd.own hown, hB⟩
theorem rat_any (s : ByteArray) (n side : Int) (w : World) : Calls Tryz.prog 140 #[.string s, .int .i64 n, .int .i64 side] w (GivesL w (attL s n side)) := by
  unfold attL
  cases h : isB s && sqI n && ((side == 0) || (side == 1))
  · have hh : isB s = false ∨ n < 0 ∨ 89 < n ∨ side < 0 ∨ 1 < side := by
      rw [Bool.and_eq_false_iff, Bool.and_eq_false_iff, Bool.or_eq_false_iff, beq_eq_false_iff_ne, beq_eq_false_iff_ne] at h
      rcases h with (h | h) | h
      · exact .inl h
      · unfold sqI at h
        rw [Bool.and_eq_false_iff, decide_eq_false_iff_not, decide_eq_false_iff_not] at h
        omega
      · omega
    exact rat_none s n side w hh
  · simp only [Bool.and_eq_true, Bool.or_eq_true, beq_iff_eq] at h
    obtain ⟨⟨hb, hn⟩, hs⟩ := h
    obtain ⟨h0, h1⟩ := sqI_in hn
    obtain ⟨m, rfl⟩ : ∃ m : Nat, n = m := ⟨n.toNat, by omega⟩
    rw [if_pos rfl, Int.toNat_natCast]
    exact rat_some s m side w hb (by omega) hs
theorem rat_is (s : ByteArray) (a side : Int) (l : List Int) (n : Nat) (w : World) (h : attL s a side = l) (hn : l.length = n) : Calls Tryz.prog 140 #[.string s, .int .i64 a, .int .i64 side] w (GivesN w l n) := by subst h; subst hn; exact rat_any s a side w
theorem rof_king (side : Int) (c : Nat) (w : World) (hs : side = 0 ∨ side = 1) (hc : kingOf side = c) : Calls Tryz.prog 117 #[.int .u8 75, .int .i64 side] w (Says w (.int .u8 (c : Int))) := by
  subst hc
  rcases hs with rfl | rfl
  · exact rof_zero 75 w
  · exact rof_one 75 w (by decide)
set_option maxRecDepth 100000 in
set_option maxHeartbeats 2000000 in
theorem rgen_some (s : ByteArray) (side : Int) (w : World) (hb : isB s = true) (hside : side = 0 ∨ side = 1) : Calls Tryz.prog 138 #[.string s, .int .i64 side] w (Gives w (.int .i64 (leastI s (kingOf side)))) := by
  unfold Gives
  have hs := isB_size hb
  have hs1 : 90 ≤ s.size := by omega
  obtain ⟨c, hc⟩ : ∃ c, kingOf side = c := ⟨_, rfl⟩
  have HO := Lib.hid fun W => rof_king side c W hside hc
  rw [hc]
  obtain ⟨r, hr⟩ : ∃ r, leastI s c = r := ⟨_, rfl⟩
  have HR := Lib.hid hr
  rw [hr]
  have B := Lib.hid hb
  have g2 : ¬ side < 0 := by omega
  have g3 : ¬ 1 < side := by omega
  clear hb hs hc hr hside
  go_enter Tryz.func138, Tryz.ntmps138
  go_wp2_with fail
  refine (ris_is s true _ B.out).mono ?_
  rintro e w' ⟨rfl, rfl⟩
  go_wp2_with fail
  go_loopw [5] (fun i wr => ∃ k : Nat, k ≤ 90 ∧ i = .int .i64 k ∧ Below w.heap.size w wr ∧ Hid (∀ j, j < k → bAt s j ≠ c)) (fun i _ => 90 - (intOf i).toNat)
  case atStart => exact ⟨0, by omega, rfl, Below.refl _ _, fun j h => absurd h (Nat.not_lt_zero _)⟩
  case round =>
    obtain ⟨k, hk, rfl, hB, NO⟩ := hrel
    by_cases hlt : k < 90
    · have hks : k < s.size := by omega
      obtain ⟨x, hx⟩ : ∃ x, bAt s k = x := ⟨_, rfl⟩
      have hbk : s[k].toNat = x := (bAt_eq s k hks).trans hx
      have HX := Lib.hid hx
      clear hx
      cases he : ((x : Int) == (c : Int))
      · have HE : Hid (x ≠ c) := by
          show _ ≠ _
          intro e
          rw [e] at he
          simp at he
        go_wp2_with fail
        go_region_with ((go_at_call 117; refine (HO.out _).mono ?_; rintro e w2 ⟨rfl, rfl⟩))
        all_goals
          go_wp2_with fail
          go_roundw
          case rel =>
            refine ⟨k + 1, by omega, by go_num, by first | exact hB.drew | exact below_drewN hB _, ?_⟩
            show ∀ j, j < k + 1 → _
            intro j hj
            by_cases e : j = k
            · rw [e, HX.out]
              exact HE.out
            · exact NO.out j (by omega)
          case measure => simp [intOf]; omega
      · have K : Hid (r = (k : Int)) := by
          show _ = _
          rw [← HR.out]
          rw [beq_iff_eq] at he
          exact leastI_hit hlt (by rw [HX.out]; omega) NO.out
        go_wp2_with fail
        go_region_with ((go_at_call 117; refine (HO.out _).mono ?_; rintro e w2 ⟨rfl, rfl⟩))
        all_goals
          go_wp2_with fail
          go_ret
          exact ⟨by rw [K.out]; rfl, by first | exact hB | exact hB.drew | exact Below.refl _ _⟩
    · obtain rfl : k = 90 := by omega
      have K : Hid (r = -1) := by
        show _ = _
        rw [← HR.out]
        exact leastI_miss NO.out
      go_wp2
      go_ret
      exact ⟨by rw [K.out]; rfl, by first | exact hB | exact hB.drew | exact Below.refl _ _⟩
theorem rgen_any (s : ByteArray) (side : Int) (w : World) : Calls Tryz.prog 138 #[.string s, .int .i64 side] w (Gives w (.int .i64 (generalN s side))) := by
  cases hb : isB s
  · have B := Lib.hid hb
    have K : Hid (generalN s side = -1) := general_none (by rw [hb]; rfl)
    clear hb
    unfold Gives
    go_enter Tryz.func138, Tryz.ntmps138
    go_wp2_with fail
    refine (ris_is s false _ B.out).mono ?_
    rintro e w' ⟨rfl, rfl⟩
    go_wp2
    go_ret
    exact ⟨by rw [K.out]; rfl, by first | exact hB | exact hB.drew | exact Below.refl _ _⟩
  · by_cases hs : side = 0 ∨ side = 1
    · rw [general_some (by rw [hb]; rcases hs with rfl | rfl <;> rfl)]
      exact rgen_some s side w hb hs
    · have B := Lib.hid hb
      have K : Hid (generalN s side = -1) := general_none (by
        rw [hb, Bool.true_and, Bool.or_eq_false_iff, beq_eq_false_iff_ne, beq_eq_false_iff_ne]
        omega)
      clear hb
      unfold Gives
      by_cases h1 : side < 0
      · clear hs
        go_enter Tryz.func138, Tryz.ntmps138
        go_wp2_with fail
        refine (ris_is s true _ B.out).mono ?_
        rintro e w' ⟨rfl, rfl⟩
        go_wp2
        go_ret
        exact ⟨by rw [K.out]; rfl, by first | exact hB | exact hB.drew | exact Below.refl _ _⟩
      · have h2 : 1 < side := by omega
        clear hs
        go_enter Tryz.func138, Tryz.ntmps138
        go_wp2_with fail
        refine (ris_is s true _ B.out).mono ?_
        rintro e w' ⟨rfl, rfl⟩
        go_wp2
        go_ret
        exact ⟨by rw [K.out]; rfl, by first | exact hB | exact hB.drew | exact Below.refl _ _⟩
theorem rgen_is (s : ByteArray) (side k : Int) (w : World) (h : generalN s side = k) : Calls Tryz.prog 138 #[.string s, .int .i64 side] w (Gives w (.int .i64 k)) := by subst h; exact rgen_any s side w
end Go.Proofs.YtpogpjebhnoncaaGreatDoor
namespace Go.Proofs.YtpogpjebhnoncaaGreatDoor
open Go.RowKit Go.Shelf
open M (S)
set_option maxHeartbeats 1000000 in
theorem rfacing_any (s : ByteArray) (w : World) : Calls Tryz.prog 81 #[.string s] w (Gives w (.bool (facingB s))) := by
  unfold Gives
  have K0 := facing_gen s
  rcases general_cases s 0 with ha | ⟨a, ha, ea, _⟩
  · obtain ⟨b, hb⟩ : ∃ b, generalN s 1 = b := ⟨_, rfl⟩
    have K : Hid (facingB s = false) := by show _ = _; rw [K0, ha]; rfl
    have HA := Lib.hid ha
    have HB := Lib.hid hb
    clear K0 ha hb
    go_enter Tryz.func81, Tryz.ntmps81
    go_wp2_with fail
    refine (rgen_is s 0 (-1) _ HA.out).mono ?_
    rintro e w1 ⟨rfl, hb1⟩
    go_wp2_with fail
    refine (rgen_is s 1 b _ HB.out).mono ?_
    rintro e w2 ⟨rfl, hb2⟩
    go_wp2
    go_ret
    exact ⟨by rw [K.out]; rfl, hb1.trans (hb2.mono hb1.size)⟩
  rcases general_cases s 1 with hb | ⟨b, hb, eb, _⟩
  · have K : Hid (facingB s = false) := by show _ = _; rw [K0, ea, hb]; simp
    have HA := Lib.hid ea
    have HB := Lib.hid hb
    have a0 : (0 : Int) ≤ (a : Int) := by omega
    clear K0 ea hb
    go_enter Tryz.func81, Tryz.ntmps81
    go_wp2_with fail
    refine (rgen_is s 0 a _ HA.out).mono ?_
    rintro e w1 ⟨rfl, hb1⟩
    go_wp2_with fail
    refine (rgen_is s 1 (-1) _ HB.out).mono ?_
    rintro e w2 ⟨rfl, hb2⟩
    go_wp2
    go_ret
    exact ⟨by rw [K.out]; rfl, hb1.trans (hb2.mono hb1.size)⟩
  · obtain ⟨k, hk⟩ : ∃ k, betweenV s (a : Int) (b : Int) = k := ⟨_, rfl⟩
    have a0 : (0 : Int) ≤ (a : Int) := by omega
    have b0 : (0 : Int) ≤ (b : Int) := by omega
    have m1 : Int.tmod (a : Int) 9 = (a : Int) % 9 := Int.tmod_eq_emod_of_nonneg a0
    have m2 : Int.tmod (b : Int) 9 = (b : Int) % 9 := Int.tmod_eq_emod_of_nonneg b0
    obtain ⟨x, hx⟩ : ∃ x, (a : Int) % 9 = x := ⟨_, rfl⟩
    obtain ⟨y, hy⟩ : ∃ y, (b : Int) % 9 = y := ⟨_, rfl⟩
    have K1 : facingB s = ((x == y) && (k == 0)) := by
      rw [K0, ea, eb, hk, hx, hy]
      simp
    have HA := Lib.hid ea
    have HB := Lib.hid eb
    have HK := Lib.hid hk
    rw [hx] at m1
    rw [hy] at m2
    clear K0 ea eb hk
    cases hxy : (x == y)
    · have K : Hid (facingB s = false) := by show _ = _; rw [K1, hxy]; rfl
      clear K1
      go_enter Tryz.func81, Tryz.ntmps81
      go_wp2_with fail
      refine (rgen_is s 0 a _ HA.out).mono ?_
      rintro e w1 ⟨rfl, hb1⟩
      go_wp2_with fail
      refine (rgen_is s 1 b _ HB.out).mono ?_
      rintro e w2 ⟨rfl, hb2⟩
      go_wp2
      go_ret
      exact ⟨by rw [K.out]; rfl, hb1.trans (hb2.mono hb1.size)⟩
    · have K : Hid (facingB s = (k == 0)) := by show _ = _; rw [K1, hxy]; rfl
      clear K1
      go_enter Tryz.func81, Tryz.ntmps81
      go_wp2_with fail
      refine (rgen_is s 0 a _ HA.out).mono ?_
      rintro e w1 ⟨rfl, hb1⟩
      go_wp2_with fail
      refine (rgen_is s 1 b _ HB.out).mono ?_
      rintro e w2 ⟨rfl, hb2⟩
      go_wp2_with fail
      refine (rBetween_is s a b k _ HK.out).mono ?_
      rintro e w3 ⟨rfl, rfl⟩
      go_wp2
      go_ret
      exact ⟨by rw [K.out]; rfl, hb1.trans (hb2.mono hb1.size)⟩
theorem rfacing_is (s : ByteArray) (v : Bool) (w : World) (h : facingB s = v) : Calls Tryz.prog 81 #[.string s] w (Gives w (.bool v)) := by subst h; exact rfacing_any s w
set_option maxHeartbeats 1000000 in
theorem rin_any (s : ByteArray) (side : Int) (w : World) : Calls Tryz.prog 82 #[.string s, .int .i64 side] w (Gives w (.bool (inB s side))) := by
  unfold Gives
  rcases general_cases s side with ha | ⟨a, ha, ea, _, hs, _⟩
  · have K : Hid (inB s side = false) := by
      show _ = _
      rw [in_att, ha, att_neg]
      rfl
    have HA := Lib.hid ha
    clear ha
    go_enter Tryz.func82, Tryz.ntmps82
    go_wp2_with fail
    refine (rgen_is s side (-1) _ HA.out).mono ?_
    rintro e w1 ⟨rfl, hb1⟩
    go_wp2
    go_ret
    exact ⟨by rw [K.out]; rfl, hb1⟩
  · obtain ⟨l, hl⟩ : ∃ l, attL s (a : Int) (1 - side) = l := ⟨_, rfl⟩
    obtain ⟨m, hm⟩ : ∃ m, l.length = m := ⟨_, rfl⟩
    obtain ⟨k, hk⟩ : ∃ k : Int, 1 - side = k := ⟨_, rfl⟩
    have K : Hid (inB s side = decide (0 < m)) := by
      show _ = _
      rw [in_att, ea, hl, hm, Bool.eq_iff_iff, bne_iff_ne, decide_eq_true_eq]
      omega
    have i0 : IntKind.i64.wrap (1 - side) = k := by rw [IntWalk.i64_in _ (by omega)]; exact hk
    have a0 : (0 : Int) ≤ (a : Int) := by omega
    rw [hk] at hl
    have HA := Lib.hid ea
    have HL := Lib.hid hl
    have HM := Lib.hid hm
    clear ea hl hm hk hs
    go_enter Tryz.func82, Tryz.ntmps82
    go_wp2_with fail
    refine (rgen_is s side a _ HA.out).mono ?_
    rintro e w1 ⟨rfl, hb1⟩
    go_wp2_with fail
    refine (rat_is s a k l m _ HL.out HM.out).mono ?_
    rintro e w2 ⟨A', c', rfl, _, hb2⟩
    go_wp2
    go_ret
    exact ⟨by rw [K.out]; rfl, hb1.trans (hb2.mono hb1.size)⟩
theorem rin_is (s : ByteArray) (side : Int) (v : Bool) (w : World) (h : inB s side = v) : Calls Tryz.prog 82 #[.string s, .int .i64 side] w (Gives w (.bool v)) := by subst h; exact rin_any s side w
set_option maxRecDepth 100000 in
set_option maxHeartbeats 4000000 in
theorem rwell_any (s : ByteArray) (side clock full : Int) (w : World) : Calls Tryz.prog 38 #[.agg #[.string s, .int .i64 side, .int .i64 clock, .int .i64 full]] w (Gives w (.int .i64 (wellN s side clock full))) := by
  unfold Gives
  obtain ⟨W0, hW0⟩ : ∃ W0, w.alloc (.cells #[.string s, .int .i64 side, .int .i64 clock, .int .i64 full] 23) = W0 := ⟨_, rfl⟩
  have hB : Below w.heap.size w W0 := by rw [← hW0]; exact (by repeat (first | exact Below.refl _ _ | (refine Below.setCell ?_ (by first | omega | (simp; done) | (simp; omega) | (simp at *; omega)) _) | (refine Below.alloc ?_ (by first | omega | (simp; done) | (simp; omega) | (simp at *; omega)) _) | refine Below.drew ?_ | (refine below_drewN ?_ _) | (refine Below.trans ?_ (Below.mono (by assumption) (by first | omega | (simp; done) | (simp; omega) | (simp at *; omega))))))
  have bP : Blk W0 w.heap.size 23 #[.string s, .int .i64 side, .int .i64 clock, .int .i64 full] := by rw [← hW0]; exact Blk.new _ _ _ rfl
  have HW := Lib.hid hW0
  clear hW0
  obtain ⟨k, hk⟩ : ∃ k : Int, (checkN s side clock full : Int) = k := ⟨_, rfl⟩
  have HK := Lib.hid hk
  by_cases h0 : k = 0
  · subst h0
    have hside : side = 0 ∨ side = 1 := by
      have hp := (check_zero hk).1
      simp only [partsB, Bool.and_eq_true, Bool.or_eq_true, beq_iff_eq, decide_eq_true_eq] at hp
      exact hp.1.1.1.1.2
    obtain ⟨f, hf⟩ : ∃ f, facingB s = f := ⟨_, rfl⟩
    have HF := Lib.hid hf
    cases f
    · obtain ⟨v, hv⟩ : ∃ v, inB s (1 - side) = v := ⟨_, rfl⟩
      obtain ⟨o, ho⟩ : ∃ o, 1 - side = o := ⟨_, rfl⟩
      have K : Hid (wellN s side clock full = if v then 5 else 0) := by
        show _ = _
        unfold wellN
        rw [if_pos hk, hf, hv]
        rfl
      have i0 : IntKind.i64.wrap (1 - side) = o := by rw [IntWalk.i64_in _ (by omega)]; exact ho
      rw [ho] at hv
      have HV := Lib.hid hv
      clear hk hf hv ho hside
      go_enter Tryz.func38, Tryz.ntmps38
      go_wp2_with fail
      rw [HW.out]
      refine (rcheck_is s side clock full 0 _ HK.out).mono ?_
      rintro e w1 ⟨rfl, hb⟩
      replace bP := bP.next hb
      replace hB := hB.trans (hb.mono hB.size)
      clear hb
      obtain ⟨p0, p1, p2, p3⟩ := ppos_cells7 bP
      go_wp2_with fail
      refine (rfacing_is s false _ HF.out).mono ?_
      rintro e w2 ⟨rfl, hb⟩
      replace bP := bP.next hb
      replace hB := hB.trans (hb.mono hB.size)
      clear hb p0 p1 p2 p3
      obtain ⟨p0, p1, p2, p3⟩ := ppos_cells7 bP
      go_wp2_with fail
      refine (rin_is s o v _ HV.out).mono ?_
      rintro e w3 ⟨rfl, hb⟩
      replace hB := hB.trans (hb.mono hB.size)
      clear hb p0 p1 p2 p3 bP
      cases v
      · go_wp2
        go_ret
        exact ⟨by rw [K.out]; rfl, hB⟩
      · go_wp2
        go_ret
        exact ⟨by rw [K.out]; rfl, hB⟩
    · have K : Hid (wellN s side clock full = 4) := by
        show _ = _
        unfold wellN
        rw [if_pos hk, hf]
        rfl
      clear hk hf hside
      go_enter Tryz.func38, Tryz.ntmps38
      go_wp2_with fail
      rw [HW.out]
      refine (rcheck_is s side clock full 0 _ HK.out).mono ?_
      rintro e w1 ⟨rfl, hb⟩
      replace bP := bP.next hb
      replace hB := hB.trans (hb.mono hB.size)
      clear hb
      obtain ⟨p0, p1, p2, p3⟩ := ppos_cells7 bP
      go_wp2_with fail
      refine (rfacing_is s true _ HF.out).mono ?_
      rintro e w2 ⟨rfl, hb⟩
      go_wp2
      go_ret
      exact ⟨by rw [K.out]; rfl, hB.trans (hb.mono hB.size)⟩
  · have K : Hid (wellN s side clock full = k) := by
      show _ = _
      unfold wellN
      rw [hk, if_neg h0]
    have e1 : (k != 0) = true := by rw [bne_iff_ne]; exact h0
    clear hk h0
    go_enter Tryz.func38, Tryz.ntmps38
    go_wp2_with fail
    rw [HW.out]
    refine (rcheck_is s side clock full k _ HK.out).mono ?_
    rintro e w1 ⟨rfl, hb⟩
    go_wp2
    go_ret
    exact ⟨by rw [K.out]; rfl, hB.trans (hb.mono hB.size)⟩
theorem rwell_is (s : ByteArray) (side clock full k : Int) (w : World) (h : wellN s side clock full = k) : Calls Tryz.prog 38 #[.agg #[.string s, .int .i64 side, .int .i64 clock, .int .i64 full]] w (Gives w (.int .i64 k)) := by subst h; exact rwell_any s side clock full w
end Go.Proofs.YtpogpjebhnoncaaGreatDoor
namespace Go.Proofs.YtpogpjebhnoncaaGreatDoor
theorem check_other {s : ByteArray} {side clock full : Int} (h : (checkN s side clock full : Int) = 0) : (side = 0 ∨ side = 1) ∧ (checkN s (1 - side) clock full : Int) = 0 := by
  obtain ⟨hp, hc, hpl⟩ := check_zero h
  have hnum : (side = 0 ∨ side = 1) ∧ 0 ≤ clock ∧ clock ≤ 120 ∧ 1 ≤ full ∧ full ≤ 9999 := by
    simp only [partsB, Bool.and_eq_true, Bool.or_eq_true, beq_iff_eq, decide_eq_true_eq] at hp
    exact ⟨hp.1.1.1.1.2, hp.1.1.1.2, hp.1.1.2, hp.1.2, hp.2⟩
  obtain ⟨h1, h2, h3, h4, h5⟩ := hnum
  refine ⟨h1, ?_⟩
  have hp2 := parts_true (side := 1 - side) (parts_board hp) (by rcases h1 with rfl | rfl <;> rfl) h2 h3 h4 h5
  rw [checkN, hp2, hc, hpl]
  rfl
theorem well_zero {s : ByteArray} {side clock full : Int} (h : wellN s side clock full = 0) : (checkN s side clock full : Int) = 0 ∧ facingB s = false ∧ inB s (1 - side) = false := by
  unfold wellN at h
  by_cases h0 : (checkN s side clock full : Int) = 0
  · rw [if_pos h0] at h
    refine ⟨h0, ?_⟩
    cases hf : facingB s
    · cases hi : inB s (1 - side)
      · exact ⟨rfl, rfl⟩
      · rw [hf, hi] at h
        exact absurd h (by decide)
    · rw [hf] at h
      exact absurd h (by simp)
  · rw [if_neg h0] at h
    exact absurd h h0
def safeB (s : ByteArray) (side : Int) : Bool := !facingB s && !inB s side
def behindS (s : ByteArray) (m : Nat × Nat) : ByteArray := movedS s m.1 m.2 (bAt s m.1)
def legalB (s : ByteArray) (side : Int) (m : Nat × Nat) : Bool := (kindN (bAt s m.2) != 75) && safeB (behindS s m) side
def legalN (s : ByteArray) (side : Int) : List (Nat × Nat) := (movesN s side).filter (legalB s side)
theorem legal_mem {s : ByteArray} {side : Int} {m : Nat × Nat} : m ∈ legalN s side ↔ m.1 < 90 ∧ m.2 < 90 ∧ sideN (bAt s m.1) = side ∧ canB s m.1 m.2 = true ∧ kindN (bAt s m.2) ≠ 75 ∧ safeB (behindS s m) side = true := by
  obtain ⟨a, b⟩ := m
  unfold legalN legalB
  rw [List.mem_filter, moves_mem, Bool.and_eq_true, bne_iff_ne]
  constructor
  · rintro ⟨⟨h1, h2, h3, h4⟩, h5, h6⟩
    exact ⟨h1, h2, h3, h4, h5, h6⟩
  · rintro ⟨h1, h2, h3, h4, h5, h6⟩
    exact ⟨⟨h1, h2, h3, h4⟩, h5, h6⟩
theorem well_behind {s : ByteArray} {side clock full : Int} (h : (checkN s side clock full : Int) = 0) {a b : Nat} (ha : a < 90) (hb : b < 90) (hcan : canB s a b = true) (hk : kindN (bAt s b) ≠ 75) : (wellN (behindS s (a, b)) (1 - side) (clockA s clock b) (fullA side full) = 0) ↔ safeB (behindS s (a, b)) side = true := by
  have h1 : (checkN (behindS s (a, b)) (1 - side) (clockA s clock b) (fullA side full) : Int) = 0 := check_moved h ha hb hcan hk
  unfold wellN safeB
  rw [if_pos h1, show (1 : Int) - (1 - side) = side by omega]
  cases facingB (behindS s (a, b)) <;> cases inB (behindS s (a, b)) side <;> simp
end Go.Proofs.YtpogpjebhnoncaaGreatDoor
namespace Go.Proofs.YtpogpjebhnoncaaGreatDoor
open Go.RowKit
def leavesI (s : ByteArray) (side clock full a b : Int) : Bool := isM s side a b && (kindN (bAt s b.toNat) != 75) && (wellN (movedS s a.toNat b.toNat (bAt s a.toNat)) (1 - side) (clockA s clock b.toNat) (fullA side full) == 0)
def leavesB (s : ByteArray) (side clock full : Int) (m : Nat × Nat) : Bool := leavesI s side clock full m.1 m.2
def legalV (s : ByteArray) (side clock full : Int) : List (Nat × Nat) := if wellN s side clock full = 0 then (movesV s side clock full).filter (leavesB s side clock full) else []
def hasV (s : ByteArray) (side clock full : Int) : Bool := (movesV s side clock full).any (leavesB s side clock full)
def endV (s : ByteArray) (side clock full : Int) : Int := if wellN s side clock full = 0 then (if hasV s side clock full then 0 else if inB s side then 1 else 2) else 0
def noneV (k : Int) : Value := .tuple #[.agg #[.string ⟨#[]⟩, .int .i64 0, .int .i64 0, .int .i64 0], .int .u8 0, .int .i64 k]
def makeV (s : ByteArray) (side clock full a b : Int) : Value := if wellN s side clock full = 0 then (if leavesI s side clock full a b then applyV s side clock full a b else noneV 7) else noneV (wellN s side clock full)
def isV (s : ByteArray) (side clock full a b : Int) : Bool := (wellN s side clock full == 0) && leavesI s side clock full a b
theorem well_check {s : ByteArray} {side clock full : Int} (h : wellN s side clock full = 0) : checkN s side clock full = 0 := by
  have := (well_zero h).1
  omega
theorem isM_two {s : ByteArray} {side : Int} (hB : isB s = true) {a b : Nat} (ha : a < 90) (hb : b < 90) : isM s side (a : Int) (b : Int) = (canB s a b && (sideN (bAt s a) == side)) := by
  unfold isM canI
  rw [hB, sqI_true (n := (a : Int)) (by omega), sqI_true (n := (b : Int)) (by omega), Int.toNat_natCast, Int.toNat_natCast]
  rfl
theorem leaves_legal {s : ByteArray} {side clock full : Int} (hc : (checkN s side clock full : Int) = 0) {m : Nat × Nat} (h : m ∈ movesN s side) : leavesB s side clock full m = legalB s side m := by
  obtain ⟨a, b⟩ := m
  obtain ⟨ha, hb, hs, hcan⟩ := moves_mem.1 h
  have hbd := parts_board (check_zero hc).1
  unfold leavesB leavesI legalB
  rw [isM_two hbd ha hb, hcan, hs, Int.toNat_natCast, Int.toNat_natCast]
  simp only [beq_self_eq_true, Bool.and_true, Bool.true_and]
  by_cases hk : kindN (bAt s b) = 75
  · rw [hk]
    rfl
  · have := well_behind hc ha hb hcan hk
    have e : (wellN (movedS s a b (bAt s a)) (1 - side) (clockA s clock b) (fullA side full) == 0) = safeB (behindS s (a, b)) side := by
      rw [Bool.eq_iff_iff, beq_iff_eq]
      exact this
    rw [e]
theorem legal_same (s : ByteArray) (side clock full : Int) : legalV s side clock full = if wellN s side clock full = 0 then legalN s side else [] := by
  unfold legalV
  split
  · rename_i h
    have hc := well_check h
    have hc' : (checkN s side clock full : Int) = 0 := by omega
    rw [movesV, if_pos hc]
    unfold legalN
    exact List.filter_congr fun m hm => leaves_legal hc' hm
  · rfl
theorem has_legal (s : ByteArray) (side clock full : Int) (h : wellN s side clock full = 0) : hasV s side clock full = ((legalV s side clock full).length != 0) := by
  unfold hasV legalV
  rw [if_pos h, Bool.eq_iff_iff, List.any_eq_true, bne_iff_ne, ne_eq, List.length_eq_zero_iff, List.filter_eq_nil_iff]
  constructor
  · rintro ⟨m, h1, h2⟩ h3
    exact h3 m h1 h2
  · intro h3
    rcases Classical.em (∃ m, m ∈ movesV s side clock full ∧ leavesB s side clock full m = true) with h4 | h4
    · exact h4
    · exact absurd (fun m hm hl => h4 ⟨m, hm, hl⟩) h3
end Go.Proofs.YtpogpjebhnoncaaGreatDoor
namespace Go.Proofs.YtpogpjebhnoncaaGreatDoor
open Go.RowKit Go.Shelf
open M (S)
abbrev aggM (m : Nat × Nat) : Value := .agg #[.int .i64 (m.1 : Int), .int .i64 (m.2 : Int)]
set_option maxHeartbeats 2000000 in
theorem idx_moves (l : List (Nat × Nat)) (p : Nat × Nat → Bool) (fn : Nat) (lb : Array Value) (eg : ∀ args w, (callFunc fn args).run Tryz.prog w = .ok (.enter fn args) w) (g n cap : Nat) (Wb W : World) (hp : PredOn fn lb aggM p l Wb) (hr : RowAt W Wb.heap.size 54 2 g n cap (mvs l)) (hn : l.length = n) (hm : n ≤ 1000000) (hb : Below Wb.heap.size Wb W) :
    Calls Tryz.prog 92 #[.slice (some ⟨g, 0, none⟩) n cap, .func (.func fn) #[] lb] W fun e w' => FirstAt p l e ∧ Below W.heap.size W w' := by
  have HN := Lib.hid hn
  have HP := Lib.hid hp
  clear hn hp
  go_enter Tryz.func92, Tryz.ntmps92
  go_wp2
  go_loopg [5, 8] n (fun gg _ s8 wr => ∃ kk : Nat, kk ≤ n ∧ n - kk ≤ gg ∧ s8 = .int .i64 kk ∧ Below W.heap.size W wr ∧ Hid (∀ j (hj : j < l.length), j < kk → p l[j] = false))
  case atStart => exact ⟨0, Nat.zero_le _, by omega, rfl, Below.refl _ _, fun j _ hj => absurd hj (Nat.not_lt_zero _)⟩
  case round =>
    obtain ⟨kk, hkk, hg, rfl, BW, NO⟩ := hrel
    by_cases hlt : kk < n
    · have hltz : (kk : Int) < (n : Int) := by omega
      have hkl : kk < l.length := by rw [HN.out]; exact hlt
      have hR := hr.next BW
      obtain ⟨m0, m1⟩ := mvs_at l kk hkl
      have hc0 : wr.cell? ⟨g, kk * 2, none⟩ = some (.int .i64 (l[kk].1 : Int)) := by rw [hR.cell (by omega), Nat.mul_comm]; exact m0
      have hc1 : wr.cell? ⟨g, kk * 2 + 1, none⟩ = some (.int .i64 (l[kk].2 : Int)) := by rw [hR.cell (by omega), Nat.mul_comm]; exact m1
      have hcall := HP.out wr l[kk] (List.getElem_mem hkl) (hb.trans (BW.mono hb.size))
      obtain ⟨⟨u, v⟩, hy⟩ : ∃ y, l[kk] = y := ⟨_, rfl⟩
      have HY := Lib.hid hy
      rw [hy] at hc0 hc1 hcall
      clear hy hR m0 m1
      cases hq : p (u, v)
      · rw [hq] at hcall
        have HQ := Lib.hid hq
        clear hq
        go_wp2_with fail
        go_at_fn fn
        refine hcall.mono ?_
        rintro e w' ⟨rfl, hb'⟩
        go_wp2_with fail
        go_roundg (n - (kk + 1))
        case measure => omega
        case rel =>
          refine ⟨kk + 1, by omega, by omega, by go_num, BW.trans (hb'.mono BW.size), ?_⟩
          show ∀ j (hj : j < l.length), j < kk + 1 → _
          intro j hj hjk
          by_cases e : j = kk
          · subst e
            rw [HY.out]
            exact HQ.out
          · exact NO.out j hj (by omega)
      · rw [hq] at hcall
        have HQ := Lib.hid hq
        clear hq
        go_wp2_with fail
        go_at_fn fn
        refine hcall.mono ?_
        rintro e w' ⟨rfl, hb'⟩
        go_wp2_with fail
        go_ret
        exact ⟨.inr ⟨kk, hkl, rfl, by rw [HY.out]; exact HQ.out, fun t ht => NO.out t (by omega) ht⟩, BW.trans (hb'.mono BW.size)⟩
    · have hltz : ¬ (kk : Int) < (n : Int) := by omega
      obtain rfl : kk = n := by omega
      go_wp2
      go_ret
      refine ⟨.inl ⟨rfl, fun x hx => ?_⟩, BW⟩
      obtain ⟨j, hj, rfl⟩ := List.mem_iff_getElem.1 hx
      exact NO.out j hj (by rw [← HN.out]; exact hj)
theorem idx_none (fv : Value) (w : World) : Calls Tryz.prog 92 #[.slice none 0 0, fv] w fun e w' => e = .returned (.int .i64 (-1)) ∧ w = w' := by
  go_enter Tryz.func92, Tryz.ntmps92
  go_wp2
  go_loopg [5, 8] 0 (fun gg _ s8 wr => s8 = .int .i64 0 ∧ w = wr)
  case atStart => exact ⟨rfl, rfl⟩
  case round =>
    obtain ⟨rfl, rfl⟩ := hrel
    go_wp2
    go_ret
    exact ⟨rfl, rfl⟩
theorem idx_own (l : List (Nat × Nat)) (p : Nat × Nat → Bool) (fn : Nat) (lb : Array Value) (eg : ∀ args w, (callFunc fn args).run Tryz.prog w = .ok (.enter fn args) w) (v : Value) (n : Nat) (Wb W : World) (hp : PredOn fn lb aggM p l Wb) (ho : W.ownsRow Wb.heap.size 54 2 v n (mvs l)) (hn : l.length = n) (hm : n ≤ 1000000) (hb : Below Wb.heap.size Wb W) :
    Calls Tryz.prog 92 #[v, .func (.func fn) #[] lb] W fun e w' => FirstAt p l e ∧ Below W.heap.size W w' := by
  rcases row_of_own ho with ⟨rfl, rfl⟩ | ⟨g, cap, rfl, hrow⟩
  · have hl : l = [] := List.eq_nil_of_length_eq_zero hn
    subst hl
    exact (idx_none _ W).mono fun e w' ⟨he, hw⟩ => ⟨.inl ⟨he, fun x hx => by simp at hx⟩, hw ▸ Below.refl _ _⟩
  · exact idx_moves l p fn lb eg g n cap Wb W hp hrow hn hm hb
theorem contains_own (l : List (Nat × Nat)) (p : Nat × Nat → Bool) (fn : Nat) (lb : Array Value) (eg : ∀ args w, (callFunc fn args).run Tryz.prog w = .ok (.enter fn args) w) (v : Value) (n : Nat) (Wb W : World) (hp : PredOn fn lb aggM p l Wb) (ho : W.ownsRow Wb.heap.size 54 2 v n (mvs l)) (hn : l.length = n) (hm : n ≤ 1000000) (hb : Below Wb.heap.size Wb W) :
    Calls Tryz.prog 50 #[v, .func (.func fn) #[] lb] W (Gives W (.bool (l.any p))) := by
  unfold Gives
  have hidx := Lib.hid (idx_own l p fn lb eg v n Wb W hp ho hn hm hb)
  obtain ⟨A, c, rfl⟩ := owns_slice ho
  clear hp ho hn hm hb
  go_enter Tryz.func50, Tryz.ntmps50
  go_wp2_with fail
  refine hidx.out.mono ?_
  rintro e w1 ⟨hres, hb1⟩
  rcases hres with ⟨rfl, hall⟩ | ⟨i, hi, rfl, ht, _⟩
  · have K : Hid (l.any p = false) := by
      show _ = _
      rw [List.any_eq_false]
      intro x hx
      rw [hall x hx]
      simp
    clear hall
    go_wp2
    go_ret
    exact ⟨by rw [K.out]; rfl, hb1⟩
  · have K : Hid (l.any p = true) := by
      show _ = _
      rw [List.any_eq_true]
      exact ⟨_, List.getElem_mem hi, ht⟩
    have h0 : (0 : Int) ≤ (i : Int) := by omega
    clear ht
    go_wp2
    go_ret
    exact ⟨by rw [K.out]; rfl, hb1⟩
end Go.Proofs.YtpogpjebhnoncaaGreatDoor
namespace Go.Proofs.YtpogpjebhnoncaaGreatDoor
open Go.RowKit Go.Shelf
open M (S)
theorem apply_bad_value {s : ByteArray} {side clock full a b : Int} (hc : checkN s side clock full = 0) (h : ¬ (isM s side a b = true ∧ kindN (bAt s b.toNat) ≠ 75)) : applyV s side clock full a b = noneV 7 := by
  unfold applyV noneV
  rw [if_neg (fun e => e hc), if_neg h]
theorem apply_good_value {s : ByteArray} {side clock full a b : Int} (hc : checkN s side clock full = 0) (h : isM s side a b = true ∧ kindN (bAt s b.toNat) ≠ 75) : applyV s side clock full a b = .tuple #[.agg #[.string (movedS s a.toNat b.toNat (bAt s a.toNat)), .int .i64 (1 - side), .int .i64 (clockA s clock b.toNat), .int .i64 (fullA side full)], .int .u8 (takenN s b.toNat : Nat), .int .i64 0] := by
  unfold applyV
  rw [if_neg (fun e => e hc), if_pos h]
theorem leaves_good {s : ByteArray} {side clock full a b : Int} (h : isM s side a b = true ∧ kindN (bAt s b.toNat) ≠ 75) : leavesI s side clock full a b = (wellN (movedS s a.toNat b.toNat (bAt s a.toNat)) (1 - side) (clockA s clock b.toNat) (fullA side full) == 0) := by
  unfold leavesI
  rw [h.1, show (kindN (bAt s b.toNat) != 75) = true by rw [bne_iff_ne]; exact h.2]
  rfl
theorem leaves_bad {s : ByteArray} {side clock full a b : Int} (h : ¬ (isM s side a b = true ∧ kindN (bAt s b.toNat) ≠ 75)) : leavesI s side clock full a b = false := by
  rw [Bool.eq_false_iff]
  intro h2
  unfold leavesI at h2
  simp only [Bool.and_eq_true, bne_iff_ne] at h2
  exact h h2.1
theorem pm_start {w W1 : World} {x y z u m n : Value} (h : (w.alloc (.cells #[x, y, z, u] 23)).alloc (.cells #[m, n] 54) = W1) :
    Below w.heap.size w W1 ∧ Blk W1 w.heap.size 23 #[x, y, z, u] ∧ Blk W1 (w.heap.size + 1) 54 #[m, n] := by
  subst h
  exact ⟨(by repeat (first | exact Below.refl _ _ | (refine Below.setCell ?_ (by first | omega | (simp; done) | (simp; omega) | (simp at *; omega)) _) | (refine Below.alloc ?_ (by first | omega | (simp; done) | (simp; omega) | (simp at *; omega)) _) | refine Below.drew ?_ | (refine below_drewN ?_ _) | (refine Below.trans ?_ (Below.mono (by assumption) (by first | omega | (simp; done) | (simp; omega) | (simp at *; omega)))))), (Blk.new _ _ _ rfl).alloc _, Blk.new _ _ _ (by simp)⟩
set_option maxRecDepth 100000 in
set_option maxHeartbeats 4000000 in
theorem leaves_any (s : ByteArray) (side clock full a b : Int) (w : World) (hT : Tab w) (hc : checkN s side clock full = 0) :
    Calls Tryz.prog 162 #[.agg #[.string s, .int .i64 side, .int .i64 clock, .int .i64 full], .agg #[.int .i64 a, .int .i64 b]] w (Gives w (.bool (leavesI s side clock full a b))) := by
  unfold Gives
  obtain ⟨W1, hW1⟩ : ∃ W1, (w.alloc (.cells #[.string s, .int .i64 side, .int .i64 clock, .int .i64 full] 23)).alloc (.cells #[.int .i64 a, .int .i64 b] 54) = W1 := ⟨_, rfl⟩
  obtain ⟨hB, bP, bM⟩ := pm_start hW1
  obtain ⟨p0, p1, p2, p3⟩ := ppos_cells bP
  have m0 : W1.cell? ⟨w.heap.size + 1, 0, none⟩ = some (.int .i64 a) := bM.cell 0
  have m1 : W1.cell? ⟨w.heap.size + 1, 1, none⟩ = some (.int .i64 b) := bM.cell 1
  replace hT := hT.next hB
  by_cases h : isM s side a b = true ∧ kindN (bAt s b.toNat) ≠ 75
  · obtain ⟨q, hq⟩ : ∃ q, movedS s a.toNat b.toNat (bAt s a.toNat) = q := ⟨_, rfl⟩
    obtain ⟨y, hy⟩ : ∃ y : Int, 1 - side = y := ⟨_, rfl⟩
    obtain ⟨z, hz⟩ : ∃ z, clockA s clock b.toNat = z := ⟨_, rfl⟩
    obtain ⟨u, hu⟩ : ∃ u, fullA side full = u := ⟨_, rfl⟩
    obtain ⟨t, ht⟩ : ∃ t : Int, (takenN s b.toNat : Nat) = t := ⟨_, rfl⟩
    obtain ⟨k, hk⟩ : ∃ k, wellN q y z u = k := ⟨_, rfl⟩
    have hV := apply_good_value hc h
    have K : Hid (leavesI s side clock full a b = (k == 0)) := by show _ = _; rw [leaves_good h, hq, hy, hz, hu, hk]
    rw [hq, hy, hz, hu, ht] at hV
    have HV := Lib.hid hV
    have HK := Lib.hid hk
    clear hV hk hq hy hz hu ht h hc
    go_enter Tryz.func162, Tryz.ntmps162
    go_wp2_with fail
    refine (apply_is s side clock full a b _ _ HV.out).mono ?_
    rintro e w2 ⟨rfl, hb⟩
    replace hT := hT.next hb
    replace hB := hB.trans (hb.mono hB.size)
    clear hb p0 p1 p2 p3 m0 m1 bP bM hW1
    obtain ⟨W3, hW3⟩ : ∃ W3, w2.alloc (.cells #[.string q, .int .i64 y, .int .i64 z, .int .i64 u] 23) = W3 := ⟨_, rfl⟩
    have hb3 : Below w2.heap.size w2 W3 := by rw [← hW3]; exact (by repeat (first | exact Below.refl _ _ | (refine Below.setCell ?_ (by first | omega | (simp; done) | (simp; omega) | (simp at *; omega)) _) | (refine Below.alloc ?_ (by first | omega | (simp; done) | (simp; omega) | (simp at *; omega)) _) | refine Below.drew ?_ | (refine below_drewN ?_ _) | (refine Below.trans ?_ (Below.mono (by assumption) (by first | omega | (simp; done) | (simp; omega) | (simp at *; omega))))))
    have bQ : Blk W3 w2.heap.size 23 #[.string q, .int .i64 y, .int .i64 z, .int .i64 u] := by rw [← hW3]; exact Blk.new _ _ _ rfl
    replace hT := hT.next hb3
    replace hB := hB.trans (hb3.mono hB.size)
    obtain ⟨q0, q1, q2, q3⟩ := ppos_cells bQ
    clear hb3 bQ
    go_wp2_with fail
    refine (well_is q y z u k _ hT HK.out).mono ?_
    rintro e w4 ⟨rfl, hb⟩
    go_wp2
    go_ret
    exact ⟨by rw [K.out]; rfl, hB.trans (hb.mono hB.size)⟩
  · have hV := apply_bad_value hc h
    have K : Hid (leavesI s side clock full a b = false) := leaves_bad h
    unfold noneV at hV
    have HV := Lib.hid hV
    clear hV h hc
    go_enter Tryz.func162, Tryz.ntmps162
    go_wp2_with fail
    refine (apply_is s side clock full a b _ _ HV.out).mono ?_
    rintro e w2 ⟨rfl, hb⟩
    replace hB := hB.trans (hb.mono hB.size)
    clear hb p0 p1 p2 p3 m0 m1 bP bM hW1 hT
    obtain ⟨W3, hW3⟩ : ∃ W3, w2.alloc (.cells #[.string ⟨#[]⟩, .int .i64 0, .int .i64 0, .int .i64 0] 23) = W3 := ⟨_, rfl⟩
    have hb3 : Below w2.heap.size w2 W3 := by rw [← hW3]; exact (by repeat (first | exact Below.refl _ _ | (refine Below.setCell ?_ (by first | omega | (simp; done) | (simp; omega) | (simp at *; omega)) _) | (refine Below.alloc ?_ (by first | omega | (simp; done) | (simp; omega) | (simp at *; omega)) _) | refine Below.drew ?_ | (refine below_drewN ?_ _) | (refine Below.trans ?_ (Below.mono (by assumption) (by first | omega | (simp; done) | (simp; omega) | (simp at *; omega))))))
    have bQ : Blk W3 w2.heap.size 23 #[.string ⟨#[]⟩, .int .i64 0, .int .i64 0, .int .i64 0] := by rw [← hW3]; exact Blk.new _ _ _ rfl
    obtain ⟨q0, q1, q2, q3⟩ := ppos_cells bQ
    obtain ⟨f0, f1, f2, f3⟩ := ppos_frozen bQ
    have hBs := hB.size
    replace hB := hB.trans (hb3.mono hB.size)
    have hBg : Below w.heap.size w ((((W3.setCell ⟨w2.heap.size, 0, none⟩ (.string ⟨#[]⟩)).setCell ⟨w2.heap.size, 1, none⟩ (.int .i64 0)).setCell ⟨w2.heap.size, 2, none⟩ (.int .i64 0)).setCell ⟨w2.heap.size, 3, none⟩ (.int .i64 0)) := (((hB.setCell (p := ⟨w2.heap.size, 0, none⟩) hBs _).setCell (p := ⟨w2.heap.size, 1, none⟩) hBs _).setCell (p := ⟨w2.heap.size, 2, none⟩) hBs _).setCell (p := ⟨w2.heap.size, 3, none⟩) hBs _
    clear hb3 bQ
    go_wp2_with fail
    go_ret
    exact ⟨by rw [K.out]; rfl, by first | exact hB | exact hBg⟩
end Go.Proofs.YtpogpjebhnoncaaGreatDoor
namespace Go.Proofs.YtpogpjebhnoncaaGreatDoor
open Go.RowKit Go.Shelf
open M (S)
set_option maxHeartbeats 2000000 in
theorem has1_any (s : ByteArray) (side clock full : Int) (m : Nat × Nat) (g : Nat) (W : World) (hT : Tab W) (hc : checkN s side clock full = 0) (bP : Blk W g 23 #[.string s, .int .i64 side, .int .i64 clock, .int .i64 full]) :
    Calls Tryz.prog 166 #[aggM m, .pointer (some ⟨g, 0, none⟩)] W fun e w' => e = .returned (.bool (leavesB s side clock full m)) ∧ Below W.heap.size W w' := by
  obtain ⟨u, v⟩ := m
  obtain ⟨r, hr⟩ : ∃ r, leavesI s side clock full u v = r := ⟨_, rfl⟩
  have HL := Lib.hid fun w hT => (leaves_any s side clock full u v w hT hc)
  have e0 : leavesB s side clock full (u, v) = r := hr
  rw [e0]
  rw [hr] at HL
  obtain ⟨W1, hW1⟩ : ∃ W1, W.alloc (.cells #[.int .i64 (u : Int), .int .i64 (v : Int)] 54) = W1 := ⟨_, rfl⟩
  have hB : Below W.heap.size W W1 := by rw [← hW1]; exact (by repeat (first | exact Below.refl _ _ | (refine Below.setCell ?_ (by first | omega | (simp; done) | (simp; omega) | (simp at *; omega)) _) | (refine Below.alloc ?_ (by first | omega | (simp; done) | (simp; omega) | (simp at *; omega)) _) | refine Below.drew ?_ | (refine below_drewN ?_ _) | (refine Below.trans ?_ (Below.mono (by assumption) (by first | omega | (simp; done) | (simp; omega) | (simp at *; omega))))))
  have bM : Blk W1 W.heap.size 54 #[.int .i64 (u : Int), .int .i64 (v : Int)] := by rw [← hW1]; exact Blk.new _ _ _ rfl
  obtain ⟨p0, p1, p2, p3⟩ := ppos_cells (bP.next hB)
  have m0 : W1.cell? ⟨W.heap.size, 0, none⟩ = some (.int .i64 (u : Int)) := bM.cell 0
  have m1 : W1.cell? ⟨W.heap.size, 1, none⟩ = some (.int .i64 (v : Int)) := bM.cell 1
  have hT1 := hT.next hB
  clear hr e0 hc bP bM
  go_enter Tryz.func166, Tryz.ntmps166
  go_wp2_with fail
  refine (HL.out _ hT1).mono ?_
  rintro e w2 ⟨rfl, hb⟩
  go_wp2
  go_ret
  exact ⟨rfl, hB.trans (hb.mono hB.size)⟩
set_option maxRecDepth 100000 in
set_option maxHeartbeats 4000000 in
theorem has_move (s : ByteArray) (side clock full : Int) (r : Bool) (w : World) (hT : Tab w) (hc : checkN s side clock full = 0) (h : hasV s side clock full = r) :
    Calls Tryz.prog 118 #[.agg #[.string s, .int .i64 side, .int .i64 clock, .int .i64 full]] w (Gives w (.bool r)) := by
  unfold Gives
  obtain ⟨l, hl⟩ : ∃ l, movesV s side clock full = l := ⟨_, rfl⟩
  obtain ⟨n, hn⟩ : ∃ n, l.length = n := ⟨_, rfl⟩
  have hm : n ≤ 1000000 := by have := movesV_len s side clock full; rw [hl, hn] at this; omega
  have hany : l.any (leavesB s side clock full) = r := by rw [← h, ← hl]; rfl
  have HA := Lib.hid hany
  have HL := Lib.hid hl
  have HN := Lib.hid hn
  obtain ⟨W1, hW1⟩ : ∃ W1, w.alloc (.cells #[.string s, .int .i64 side, .int .i64 clock, .int .i64 full] 23) = W1 := ⟨_, rfl⟩
  have hB : Below w.heap.size w W1 := by rw [← hW1]; exact (by repeat (first | exact Below.refl _ _ | (refine Below.setCell ?_ (by first | omega | (simp; done) | (simp; omega) | (simp at *; omega)) _) | (refine Below.alloc ?_ (by first | omega | (simp; done) | (simp; omega) | (simp at *; omega)) _) | refine Below.drew ?_ | (refine below_drewN ?_ _) | (refine Below.trans ?_ (Below.mono (by assumption) (by first | omega | (simp; done) | (simp; omega) | (simp at *; omega))))))
  have bP : Blk W1 w.heap.size 23 #[.string s, .int .i64 side, .int .i64 clock, .int .i64 full] := by rw [← hW1]; exact Blk.new _ _ _ rfl
  replace hT := hT.next hB
  obtain ⟨p0, p1, p2, p3⟩ := ppos_cells bP
  clear hl hn hany h
  go_enter Tryz.func118, Tryz.ntmps118
  go_wp2_with fail
  refine (moves_own s side clock full l n _ hT HL.out HN.out).mono ?_
  rintro e w3 ⟨v, rfl, ho, hb⟩
  have hcl : PredOn 166 #[.pointer (some ⟨w.heap.size, 0, none⟩)] aggM (leavesB s side clock full) l W1 := fun W x _ hbx => has1_any s side clock full x _ W (hT.next hbx) hc (bP.next hbx)
  have eg : ∀ args w, (callFunc 166 args).run Tryz.prog w = .ok (.enter 166 args) w := enters_of Tryz.func166 (by kernel_rfl) rfl
  have hcon := Lib.hid (contains_own l (leavesB s side clock full) 166 _ eg v n W1 w3 hcl ho HN.out hm hb)
  obtain ⟨A', c', rfl⟩ := owns_slice ho
  replace hB := hB.trans (hb.mono hB.size)
  clear hcl ho p0 p1 p2 p3 hc hb hW1
  go_wp2_with fail
  refine hcon.out.mono ?_
  rintro e w5 ⟨rfl, hb⟩
  rw [HA.out]
  go_wp2
  go_ret
  exact ⟨rfl, hB.trans (hb.mono hB.size)⟩
set_option maxRecDepth 100000 in
set_option maxHeartbeats 4000000 in
theorem end_any (s : ByteArray) (side clock full : Int) (w : World) (hT : Tab w) :
    Calls Tryz.prog 72 #[.agg #[.string s, .int .i64 side, .int .i64 clock, .int .i64 full]] w (Gives w (.int .i64 (endV s side clock full))) := by
  unfold Gives
  obtain ⟨k, hk⟩ : ∃ k, wellN s side clock full = k := ⟨_, rfl⟩
  have HK := Lib.hid hk
  obtain ⟨W1, hW1⟩ : ∃ W1, w.alloc (.cells #[.string s, .int .i64 side, .int .i64 clock, .int .i64 full] 23) = W1 := ⟨_, rfl⟩
  have hB : Below w.heap.size w W1 := by rw [← hW1]; exact (by repeat (first | exact Below.refl _ _ | (refine Below.setCell ?_ (by first | omega | (simp; done) | (simp; omega) | (simp at *; omega)) _) | (refine Below.alloc ?_ (by first | omega | (simp; done) | (simp; omega) | (simp at *; omega)) _) | refine Below.drew ?_ | (refine below_drewN ?_ _) | (refine Below.trans ?_ (Below.mono (by assumption) (by first | omega | (simp; done) | (simp; omega) | (simp at *; omega))))))
  have bP : Blk W1 w.heap.size 23 #[.string s, .int .i64 side, .int .i64 clock, .int .i64 full] := by rw [← hW1]; exact Blk.new _ _ _ rfl
  replace hT := hT.next hB
  obtain ⟨p0, p1, p2, p3⟩ := ppos_cells bP
  by_cases h0 : k = 0
  · subst h0
    have hc := well_check hk
    obtain ⟨r, hr⟩ : ∃ r, hasV s side clock full = r := ⟨_, rfl⟩
    have HC := Lib.hid hc
    have HR := Lib.hid hr
    cases r
    · obtain ⟨i, hi⟩ : ∃ i, inB s side = i := ⟨_, rfl⟩
      have HI := Lib.hid hi
      have K : Hid (endV s side clock full = if i then 1 else 2) := by show _ = _; unfold endV; rw [if_pos hk, hr, hi]; rfl
      clear hk hc hr hi
      go_enter Tryz.func72, Tryz.ntmps72
      go_wp2_with fail
      refine (well_is s side clock full 0 _ hT HK.out).mono ?_
      rintro e w2 ⟨rfl, hb⟩
      replace hT := hT.next hb
      replace bP := bP.next hb
      replace hB := hB.trans (hb.mono hB.size)
      clear hb p0 p1 p2 p3 hW1
      obtain ⟨p0, p1, p2, p3⟩ := ppos_cells bP
      go_wp2_with fail
      refine (has_move s side clock full false _ hT HC.out HR.out).mono ?_
      rintro e w3 ⟨rfl, hb⟩
      replace hT := hT.next hb
      replace bP := bP.next hb
      replace hB := hB.trans (hb.mono hB.size)
      clear hb p0 p1 p2 p3
      obtain ⟨p0, p1, p2, p3⟩ := ppos_cells bP
      go_wp2_with fail
      refine (in_is s side i _ hT HI.out).mono ?_
      rintro e w4 ⟨rfl, hb⟩
      replace hB := hB.trans (hb.mono hB.size)
      clear hb p0 p1 p2 p3
      cases i
      · go_wp2
        go_ret
        exact ⟨by rw [K.out]; rfl, hB⟩
      · go_wp2
        go_ret
        exact ⟨by rw [K.out]; rfl, hB⟩
    · have K : Hid (endV s side clock full = 0) := by show _ = _; unfold endV; rw [if_pos hk, hr]; rfl
      clear hk hc hr
      go_enter Tryz.func72, Tryz.ntmps72
      go_wp2_with fail
      refine (well_is s side clock full 0 _ hT HK.out).mono ?_
      rintro e w2 ⟨rfl, hb⟩
      replace hT := hT.next hb
      replace bP := bP.next hb
      replace hB := hB.trans (hb.mono hB.size)
      clear hb p0 p1 p2 p3 hW1
      obtain ⟨p0, p1, p2, p3⟩ := ppos_cells bP
      go_wp2_with fail
      refine (has_move s side clock full true _ hT HC.out HR.out).mono ?_
      rintro e w3 ⟨rfl, hb⟩
      go_wp2
      go_ret
      exact ⟨by rw [K.out]; rfl, hB.trans (hb.mono hB.size)⟩
  · have K : Hid (endV s side clock full = 0) := by show _ = _; unfold endV; rw [if_neg (by rw [hk]; exact h0)]
    have e1 : (k != 0) = true := by rw [bne_iff_ne]; exact h0
    clear hk h0
    go_enter Tryz.func72, Tryz.ntmps72
    go_wp2_with fail
    refine (well_is s side clock full k _ hT HK.out).mono ?_
    rintro e w2 ⟨rfl, hb⟩
    go_wp2
    go_ret
    exact ⟨by rw [K.out]; rfl, hB.trans (hb.mono hB.size)⟩
theorem end_is (s : ByteArray) (side clock full k : Int) (w : World) (hT : Tab w) (h : endV s side clock full = k) : Calls Tryz.prog 72 #[.agg #[.string s, .int .i64 side, .int .i64 clock, .int .i64 full]] w (Gives w (.int .i64 k)) := by subst h; exact end_any s side clock full w hT
set_option maxRecDepth 100000 in
set_option maxHeartbeats 4000000 in
theorem make_bad (s : ByteArray) (side clock full a b k : Int) (w : World) (hT : Tab w) (hk : wellN s side clock full = k) (h0 : (k != 0) = true) :
    Calls Tryz.prog 37 #[.agg #[.string s, .int .i64 side, .int .i64 clock, .int .i64 full], .agg #[.int .i64 a, .int .i64 b]] w (Gives w (noneV k)) := by
  unfold Gives noneV
  obtain ⟨W1, hW1⟩ : ∃ W1, ((w.alloc (.cells #[.string s, .int .i64 side, .int .i64 clock, .int .i64 full] 23)).alloc (.cells #[.int .i64 a, .int .i64 b] 54)).alloc (.cells #[.string ⟨#[]⟩, .int .i64 0, .int .i64 0, .int .i64 0] 23) = W1 := ⟨_, rfl⟩
  obtain ⟨hB, bP, bM, bR⟩ := ap_start hW1
  obtain ⟨p0, p1, p2, p3⟩ := ppos_cells bP
  replace hT := hT.next hB
  have HC := Lib.hid hk
  have HW := Lib.hid hW1
  clear hk hW1
  go_enter Tryz.func37, Tryz.ntmps37
  go_wp2_with fail
  rw [HW.out]
  have f0 := ppos_frozen bR
  go_wp2_with fail
  refine (well_is s side clock full k _ hT HC.out).mono ?_
  rintro e w1 ⟨rfl, hb⟩
  have bR1 := bR.next hb
  obtain ⟨g0, g1, g2, g3⟩ := ppos_cells bR1
  obtain ⟨f0, f1, f2, f3⟩ := ppos_frozen bR1
  go_wp2_with fail
  refine bodyPost_ret (res_pos3 rfl _ _ rfl (mvEnd (bR1) (by omega) (hB.trans (hb.mono hB.size))).1) rfl ⟨rfl, (mvEnd (bR1) (by omega) (hB.trans (hb.mono hB.size))).2⟩
set_option maxRecDepth 100000 in
set_option maxHeartbeats 1500000 in
theorem make_none (s : ByteArray) (side clock full a b : Int) (w : World) (hT : Tab w) (hk : wellN s side clock full = 0) (h : ¬ (isM s side a b = true ∧ kindN (bAt s b.toNat) ≠ 75)) :
    Calls Tryz.prog 37 #[.agg #[.string s, .int .i64 side, .int .i64 clock, .int .i64 full], .agg #[.int .i64 a, .int .i64 b]] w (Gives w (noneV 7)) := by
  have hV := apply_bad_value (well_check hk) h
  unfold noneV at hV
  unfold Gives noneV
  obtain ⟨W1, hW1⟩ : ∃ W1, ((w.alloc (.cells #[.string s, .int .i64 side, .int .i64 clock, .int .i64 full] 23)).alloc (.cells #[.int .i64 a, .int .i64 b] 54)).alloc (.cells #[.string ⟨#[]⟩, .int .i64 0, .int .i64 0, .int .i64 0] 23) = W1 := ⟨_, rfl⟩
  obtain ⟨hB, bP, bM, bR⟩ := ap_start hW1
  obtain ⟨p0, p1, p2, p3⟩ := ppos_cells bP
  replace hT := hT.next hB
  have HC := Lib.hid hk
  have HV := Lib.hid hV
  have HW := Lib.hid hW1
  clear hk hW1 h hV
  go_enter Tryz.func37, Tryz.ntmps37
  go_wp2_with fail
  rw [HW.out]
  have f0 := ppos_frozen bR
  go_wp2_with fail
  refine (well_is s side clock full 0 _ hT HC.out).mono ?_
  rintro e w1 ⟨rfl, hb⟩
  have hB1 := hB.trans (hb.mono hB.size)
  have bR1 := bR.next hb
  have bM1 := bM.next hb
  obtain ⟨q0, q1, q2, q3⟩ := ppos_cells (bP.next hb)
  have m0 : w1.cell? ⟨w.heap.size + 1, 0, none⟩ = some (.int .i64 a) := bM1.cell 0
  have m1 : w1.cell? ⟨w.heap.size + 1, 1, none⟩ = some (.int .i64 b) := bM1.cell 1
  clear hb bP bM p0 p1 p2 p3
  go_wp2_with fail
  refine (apply_is s side clock full a b _ _ HV.out).mono ?_
  rintro e w2 ⟨rfl, hb⟩
  have hB2 := hB1.trans (hb.mono hB1.size)
  have bR2 := bR1.next hb
  clear hb q0 q1 q2 q3 m0 m1 bR1 bM1 f0
  obtain ⟨W3, hW3⟩ : ∃ W3, w2.alloc (.cells #[.string ⟨#[]⟩, .int .i64 0, .int .i64 0, .int .i64 0] 23) = W3 := ⟨_, rfl⟩
  have hb3 : Below w2.heap.size w2 W3 := by rw [← hW3]; exact (by repeat (first | exact Below.refl _ _ | (refine Below.setCell ?_ (by first | omega | (simp; done) | (simp; omega) | (simp at *; omega)) _) | (refine Below.alloc ?_ (by first | omega | (simp; done) | (simp; omega) | (simp at *; omega)) _) | refine Below.drew ?_ | (refine below_drewN ?_ _) | (refine Below.trans ?_ (Below.mono (by assumption) (by first | omega | (simp; done) | (simp; omega) | (simp at *; omega))))))
  have bQ : Blk W3 w2.heap.size 23 #[.string ⟨#[]⟩, .int .i64 0, .int .i64 0, .int .i64 0] := by rw [← hW3]; exact Blk.new _ _ _ rfl
  have bR3 := bR2.next hb3
  have hB3 := hB2.trans (hb3.mono hB2.size)
  have hlt := bR2.lt
  have hBs := hB2.size
  have nq : w.heap.size + 2 ≠ w2.heap.size := by omega
  have nq1 : w.heap.size + 1 + 1 ≠ w2.heap.size := by omega
  have nq2 : w2.heap.size ≠ w.heap.size + 1 + 1 := by omega
  obtain ⟨q0, q1, q2, q3⟩ := ppos_cells bQ
  obtain ⟨z0, z1, z2, z3⟩ := ppos_frozen bQ
  obtain ⟨g0, g1, g2, g3⟩ := ppos_cells bR3
  obtain ⟨f0, f1, f2, f3⟩ := ppos_frozen bR3
  obtain ⟨W4, hW4⟩ : ∃ W4, (((W3.setCell ⟨w2.heap.size, 0, none⟩ (.string ⟨#[]⟩)).setCell ⟨w2.heap.size, 1, none⟩ (.int .i64 0)).setCell ⟨w2.heap.size, 2, none⟩ (.int .i64 0)).setCell ⟨w2.heap.size, 3, none⟩ (.int .i64 0) = W4 := ⟨_, rfl⟩
  have bR4 : Blk W4 (w.heap.size + 2) 23 #[.string ⟨#[]⟩, .int .i64 0, .int .i64 0, .int .i64 0] := by rw [← hW4]; exact (((bR3.far (p := ⟨w2.heap.size, 0, none⟩) nq _).far (p := ⟨w2.heap.size, 1, none⟩) nq _).far (p := ⟨w2.heap.size, 2, none⟩) nq _).far (p := ⟨w2.heap.size, 3, none⟩) nq _
  have hB4 : Below w.heap.size w W4 := by rw [← hW4]; exact (((hB3.setCell (p := ⟨w2.heap.size, 0, none⟩) hBs _).setCell (p := ⟨w2.heap.size, 1, none⟩) hBs _).setCell (p := ⟨w2.heap.size, 2, none⟩) hBs _).setCell (p := ⟨w2.heap.size, 3, none⟩) hBs _
  obtain ⟨j0, j1, j2, j3⟩ := ppos_cells bR4
  obtain ⟨k0, k1, k2, k3⟩ := ppos_frozen bR4
  have HR3 := Lib.hid bR3
  have HB3 := Lib.hid hB3
  have HR4 := Lib.hid bR4
  have HB4 := Lib.hid hB4
  clear hb3 bQ bR3 hB3 bR4 hB4 bR2
  go_wp2_with fail
  subst hW4
  refine bodyPost_ret (res_pos3 rfl _ _ rfl (mvEnd (HR4.out) (by omega) (HB4.out)).1) rfl ⟨rfl, (mvEnd (HR4.out) (by omega) (HB4.out)).2⟩
set_option maxRecDepth 100000 in
set_option maxHeartbeats 4000000 in
theorem make_good (s : ByteArray) (side clock full a b : Int) (q : ByteArray) (y z u t k : Int) (w : World) (hT : Tab w) (hk : wellN s side clock full = 0) (hV : applyV s side clock full a b = .tuple #[.agg #[.string q, .int .i64 y, .int .i64 z, .int .i64 u], .int .u8 t, .int .i64 0]) (hq : wellN q y z u = k) (V : Value) (hR : V = if k = 0 then .tuple #[.agg #[.string q, .int .i64 y, .int .i64 z, .int .i64 u], .int .u8 t, .int .i64 0] else noneV 7) :
    Calls Tryz.prog 37 #[.agg #[.string s, .int .i64 side, .int .i64 clock, .int .i64 full], .agg #[.int .i64 a, .int .i64 b]] w (Gives w V) := by
  unfold Gives
  have HRV := Lib.hid hR
  clear hR
  obtain ⟨W1, hW1⟩ : ∃ W1, ((w.alloc (.cells #[.string s, .int .i64 side, .int .i64 clock, .int .i64 full] 23)).alloc (.cells #[.int .i64 a, .int .i64 b] 54)).alloc (.cells #[.string ⟨#[]⟩, .int .i64 0, .int .i64 0, .int .i64 0] 23) = W1 := ⟨_, rfl⟩
  obtain ⟨hB, bP, bM, bR⟩ := ap_start hW1
  obtain ⟨p0, p1, p2, p3⟩ := ppos_cells bP
  replace hT := hT.next hB
  have HC := Lib.hid hk
  have HV := Lib.hid hV
  have HQ := Lib.hid hq
  have HW := Lib.hid hW1
  clear hk hW1 hV hq
  go_enter Tryz.func37, Tryz.ntmps37
  go_wp2_with fail
  rw [HW.out]
  have f0 := ppos_frozen bR
  go_wp2_with fail
  refine (well_is s side clock full 0 _ hT HC.out).mono ?_
  rintro e w1 ⟨rfl, hb⟩
  have hB1 := hB.trans (hb.mono hB.size)
  have bR1 := bR.next hb
  have bM1 := bM.next hb
  replace hT := hT.next hb
  obtain ⟨q0, q1, q2, q3⟩ := ppos_cells (bP.next hb)
  have m0 : w1.cell? ⟨w.heap.size + 1, 0, none⟩ = some (.int .i64 a) := bM1.cell 0
  have m1 : w1.cell? ⟨w.heap.size + 1, 1, none⟩ = some (.int .i64 b) := bM1.cell 1
  clear hb bP bM p0 p1 p2 p3
  go_wp2_with fail
  refine (apply_is s side clock full a b _ _ HV.out).mono ?_
  rintro e w2 ⟨rfl, hb⟩
  have hB2 := hB1.trans (hb.mono hB1.size)
  have bR2 := bR1.next hb
  replace hT := hT.next hb
  clear hb q0 q1 q2 q3 m0 m1 bR1 bM1 f0
  obtain ⟨W3, hW3⟩ : ∃ W3, w2.alloc (.cells #[.string q, .int .i64 y, .int .i64 z, .int .i64 u] 23) = W3 := ⟨_, rfl⟩
  have hb3 : Below w2.heap.size w2 W3 := by rw [← hW3]; exact (by repeat (first | exact Below.refl _ _ | (refine Below.setCell ?_ (by first | omega | (simp; done) | (simp; omega) | (simp at *; omega)) _) | (refine Below.alloc ?_ (by first | omega | (simp; done) | (simp; omega) | (simp at *; omega)) _) | refine Below.drew ?_ | (refine below_drewN ?_ _) | (refine Below.trans ?_ (Below.mono (by assumption) (by first | omega | (simp; done) | (simp; omega) | (simp at *; omega))))))
  have bQ : Blk W3 w2.heap.size 23 #[.string q, .int .i64 y, .int .i64 z, .int .i64 u] := by rw [← hW3]; exact Blk.new _ _ _ rfl
  have bR3 := bR2.next hb3
  have hB3 := hB2.trans (hb3.mono hB2.size)
  replace hT := hT.next hb3
  have hlt := bR2.lt
  have nq1 : w.heap.size + 1 + 1 ≠ w2.heap.size := by omega
  have nq2 : w2.heap.size ≠ w.heap.size + 1 + 1 := by omega
  obtain ⟨q0, q1, q2, q3⟩ := ppos_cells bQ
  clear hb3 bR2
  go_wp2_with fail
  refine (well_is q y z u k _ hT HQ.out).mono ?_
  rintro e w4 ⟨rfl, hb⟩
  have bR4 := bR3.next hb
  have bQ4 := bQ.next hb
  have hB4 := hB3.trans (hb.mono hB3.size)
  clear hb q0 q1 q2 q3 bQ bR3 hB3 hW3 hT
  obtain ⟨q0, q1, q2, q3⟩ := ppos_cells bQ4
  obtain ⟨g0, g1, g2, g3⟩ := ppos_cells bR4
  obtain ⟨f0, f1, f2, f3⟩ := ppos_frozen bR4
  by_cases h0 : k = 0
  · have HRP : Hid (V = .tuple #[.agg #[.string q, .int .i64 y, .int .i64 z, .int .i64 u], .int .u8 t, .int .i64 0]) := by
      show _ = _
      rw [HRV.out]
      exact if_pos h0
    subst h0
    go_wp2_with fail
    refine bodyPost_ret (res_pos3 rfl _ _ rfl (mvEnd bR4 (by omega) hB4).1) rfl ⟨by rw [HRP.out]; rfl, (mvEnd bR4 (by omega) hB4).2⟩
  · have e1 : (k != 0) = true := by rw [bne_iff_ne]; exact h0
    have HRN : Hid (V = noneV 7) := by show _ = _; rw [HRV.out, if_neg h0]
    clear h0
    go_wp2_with fail
    refine bodyPost_ret (res_pos3 rfl _ _ rfl (mvEnd bR4 (by omega) hB4).1) rfl ⟨by rw [HRN.out]; rfl, (mvEnd bR4 (by omega) hB4).2⟩
theorem make_any (s : ByteArray) (side clock full a b : Int) (w : World) (hT : Tab w) :
    Calls Tryz.prog 37 #[.agg #[.string s, .int .i64 side, .int .i64 clock, .int .i64 full], .agg #[.int .i64 a, .int .i64 b]] w (Gives w (makeV s side clock full a b)) := by
  unfold makeV
  by_cases hk : wellN s side clock full = 0
  · rw [if_pos hk]
    by_cases h : isM s side a b = true ∧ kindN (bAt s b.toNat) ≠ 75
    · have := make_good s side clock full a b _ _ _ _ _ _ w hT hk (apply_good_value (well_check hk) h) rfl _ rfl
      rw [leaves_good h, apply_good_value (well_check hk) h]
      simp only [beq_iff_eq]
      exact this
    · rw [leaves_bad h, if_neg (by simp)]
      exact make_none s side clock full a b w hT hk h
  · rw [if_neg hk]
    exact make_bad s side clock full a b _ w hT rfl (by rw [bne_iff_ne]; exact hk)
theorem make_is (s : ByteArray) (side clock full a b : Int) (v : Value) (w : World) (hT : Tab w) (h : makeV s side clock full a b = v) : Calls Tryz.prog 37 #[.agg #[.string s, .int .i64 side, .int .i64 clock, .int .i64 full], .agg #[.int .i64 a, .int .i64 b]] w (Gives w v) := by subst h; exact make_any s side clock full a b w hT
end Go.Proofs.YtpogpjebhnoncaaGreatDoor
namespace Go.Proofs.YtpogpjebhnoncaaGreatDoor
open Go.RowKit Go.Shelf
open M (S)
end Go.Proofs.YtpogpjebhnoncaaGreatDoor
namespace Go.Proofs.YtpogpjebhnoncaaGreatDoor
def couldB (s : ByteArray) (side : Int) (a b : Nat) : Bool := (sideN (bAt s a) == side) && canB s a b && legalB s side (a, b)
def couldI (s : ByteArray) (side a b : Int) : Bool := isB s && sqI a && sqI b && couldB s side a.toNat b.toNat
def takesG (s : ByteArray) (side : Int) : List (Nat × Nat) := if isB s && ((side == 0) || (side == 1)) then (legalN s side).filter fun m => bAt s m.2 != 46 else []
def againB (s : ByteArray) (side : Int) (b : Nat) : Bool := (List.range 90).any fun n => couldB s side n b
def guardB (s : ByteArray) (a b : Nat) : Bool := couldB s (sideN (bAt s a)) a b && againB (behindS s (a, b)) (1 - sideN (bAt s a)) b
def guardI (s : ByteArray) (a b : Int) : Bool := isB s && sqI a && sqI b && guardB s a.toNat b.toNat
theorem could_parts {s : ByteArray} {side : Int} {a b : Nat} : couldB s side a b = true ↔ sideN (bAt s a) = side ∧ canB s a b = true ∧ kindN (bAt s b) ≠ 75 ∧ safeB (behindS s (a, b)) side = true := by
  unfold couldB legalB
  simp only [Bool.and_eq_true, beq_iff_eq, bne_iff_ne, ne_eq]
  constructor
  · rintro ⟨⟨h1, h2⟩, h3, h4⟩
    exact ⟨h1, h2, h3, h4⟩
  · rintro ⟨h1, h2, h3, h4⟩
    exact ⟨⟨h1, h2⟩, h3, h4⟩
theorem could_legal {s : ByteArray} {side : Int} {a b : Nat} (ha : a < 90) (hb : b < 90) : couldB s side a b = true ↔ (a, b) ∈ legalN s side := by
  rw [could_parts, legal_mem]
  constructor
  · rintro ⟨h1, h2, h3, h4⟩
    exact ⟨ha, hb, h1, h2, h3, h4⟩
  · rintro ⟨_, _, h1, h2, h3, h4⟩
    exact ⟨h1, h2, h3, h4⟩
theorem could_sides {s : ByteArray} {side : Int} {a b : Nat} (h : couldB s side a b = true) : side = 0 ∨ side = 1 := by
  obtain ⟨h1, h2, _⟩ := could_parts.1 h
  unfold canB at h2
  simp only [Bool.and_eq_true, decide_eq_true_eq] at h2
  have := sideN_ge (bAt s a)
  omega
theorem sqI_iff {n : Int} : sqI n = true ↔ 0 ≤ n ∧ n < 90 := by
  unfold sqI
  rw [Bool.and_eq_true, decide_eq_true_eq, decide_eq_true_eq]
theorem couldI_parts {s : ByteArray} {side a b : Int} (h : couldI s side a b = true) : isB s = true ∧ (0 ≤ a ∧ a < 90) ∧ (0 ≤ b ∧ b < 90) ∧ couldB s side a.toNat b.toNat = true := by
  unfold couldI at h
  simp only [Bool.and_eq_true, sqI_iff] at h
  exact ⟨h.1.1.1, h.1.1.2, h.1.2, h.2⟩
theorem couldI_nat {s : ByteArray} (hs : isB s = true) {side : Int} {a b : Nat} (ha : a < 90) (hb : b < 90) : couldI s side (a : Int) (b : Int) = couldB s side a b := by
  unfold couldI
  rw [hs, sqI_true (by omega), sqI_true (by omega), Int.toNat_natCast, Int.toNat_natCast]
  rfl
theorem guardI_could {s : ByteArray} {a b : Int} (h : guardI s a b = true) : couldI s (sideN (bAt s a.toNat)) a b = true := by
  unfold guardI guardB at h
  simp only [Bool.and_eq_true] at h
  unfold couldI
  simp only [Bool.and_eq_true]
  exact ⟨h.1, h.2.1⟩
theorem guardI_nat {s : ByteArray} (hs : isB s = true) {a b : Nat} (ha : a < 90) (hb : b < 90) : guardI s (a : Int) (b : Int) = guardB s a b := by
  unfold guardI
  rw [hs, sqI_true (by omega), sqI_true (by omega), Int.toNat_natCast, Int.toNat_natCast]
  rfl
theorem takes_mem {s : ByteArray} {side : Int} {a b : Nat} : (a, b) ∈ takesG s side ↔ isB s = true ∧ a < 90 ∧ b < 90 ∧ couldB s side a b = true ∧ bAt s b ≠ 46 := by
  unfold takesG
  by_cases h : (isB s && ((side == 0) || (side == 1))) = true
  · rw [if_pos h, List.mem_filter, legal_mem, bne_iff_ne]
    have hb : isB s = true := by
      rw [Bool.and_eq_true] at h
      exact h.1
    constructor
    · rintro ⟨⟨h1, h2, h3, h4, h5, h6⟩, h7⟩
      exact ⟨hb, h1, h2, could_parts.2 ⟨h3, h4, h5, h6⟩, h7⟩
    · rintro ⟨_, h1, h2, h3, h7⟩
      exact ⟨legal_mem.1 ((could_legal h1 h2).1 h3), h7⟩
  · rw [if_neg h]
    constructor
    · intro hm
      cases hm
    · rintro ⟨h1, _, _, h3, _⟩
      have := could_sides h3
      refine absurd ?_ h
      rw [h1, Bool.true_and, Bool.or_eq_true, beq_iff_eq, beq_iff_eq]
      exact this
theorem takes_len (s : ByteArray) (side : Int) : (takesG s side).length ≤ 8100 := by
  unfold takesG
  split
  · refine Nat.le_trans (List.length_filter_le _ _) ?_
    unfold legalN
    refine Nat.le_trans (List.length_filter_le _ _) ?_
    unfold movesN
    rw [List.length_flatMap]
    have h1 : ∀ a, (movesOf s side a).length ≤ 90 := fun a => by
      unfold movesOf
      split
      · rw [List.length_map]
        exact Nat.le_trans (List.length_filter_le _ _) (by simp)
      · simp
    have h2 : ∀ l : List Nat, (l.map fun a => (movesOf s side a).length).sum ≤ l.length * 90 := fun l => by
      induction l with
      | nil => simp
      | cons x r ih =>
        simp only [List.map_cons, List.sum_cons, List.length_cons]
        have := h1 x
        omega
    have := h2 (List.range 90)
    simpa using this
  · simp
theorem could_to {s : ByteArray} (hs : isB s = true) {side : Int} {a b : Nat} (hb : b < 90) (h : couldB s side a b = true) (h46 : bAt s b ≠ 46) : sideN (bAt s b) = 1 - side := by
  obtain ⟨h1, h2, _⟩ := could_parts.1 h
  have hsd := could_sides h
  unfold canB at h2
  simp only [Bool.and_eq_true, bne_iff_ne, ne_eq, decide_eq_true_eq] at h2
  have hf := isB_fill hs b hb
  rw [fill_side, Bool.or_eq_true, beq_iff_eq, decide_eq_true_eq] at hf
  have h3 := sideN_ge (bAt s b)
  have h4 := h2.1.2
  rw [h1] at h4
  rcases hf with hf | hf
  · exact absurd hf h46
  · omega
theorem fmap_filter {α β : Type} (p : β → Bool) (f : α → List β) (l : List α) : (l.flatMap f).filter p = l.flatMap fun a => (f a).filter p := by
  induction l with
  | nil => rfl
  | cons x r ih => rw [List.flatMap_cons, List.flatMap_cons, List.filter_append, ih]
theorem fmap_if {α β : Type} (q : α → Bool) (f : α → List β) (l : List α) (h : ∀ x ∈ l, q x = false → f x = []) : (l.filter q).flatMap f = l.flatMap f := by
  induction l with
  | nil => rfl
  | cons x r ih =>
    rw [List.filter_cons, List.flatMap_cons]
    have ih := ih fun y hy => h y (List.mem_cons_of_mem _ hy)
    cases e : q x
    · rw [if_neg (by simp), ih, h x (by simp) e]
      rfl
    · rw [if_pos rfl, List.flatMap_cons, ih]
theorem of_side15 {c : Nat} {side : Int} (h : 0 ≤ side) : ofSide c side = (sideN c == side) := by
  unfold ofSide
  by_cases e : sideN c = side
  · have h46 : (c != 46) = true := by
      rw [bne_iff_ne]
      rintro rfl
      rw [show sideN 46 = -1 by decide] at e
      omega
    rw [h46, Bool.true_and]
  · have : (sideN c == side) = false := by rw [beq_eq_false_iff_ne]; exact e
    rw [this, Bool.and_false]
def goG (s : ByteArray) (side : Int) (goals : List Nat) (a : Nat) : List (Nat × Nat) := (goals.filter fun b => couldB s side a b).map fun b => (a, b)
def ownN (s : ByteArray) (side : Int) : List Nat := (List.range 90).filter fun k => ofSide (bAt s k) side
theorem takes_gone {s : ByteArray} (hs : isB s = true) {side : Int} (h : side = 0 ∨ side = 1) : (ownN s side).flatMap (goG s side (ownN s (1 - side))) = takesG s side := by
  unfold takesG legalN movesN
  rw [hs, show (true && ((side == 0) || (side == 1))) = true by rcases h with rfl | rfl <;> rfl, if_pos rfl, List.filter_filter, fmap_filter]
  unfold ownN
  rw [fmap_if]
  · rw [List.flatMap_def, List.flatMap_def]
    congr 1
    refine List.map_congr_left fun a ha => ?_
    have ha := List.mem_range.1 ha
    unfold goG movesOf
    by_cases e : sideN (bAt s a) = side
    · rw [if_pos e]
      unfold reachN
      rw [List.filter_map, List.filter_filter, List.filter_filter]
      congr 1
      refine List.filter_congr fun b hb => ?_
      have hb := List.mem_range.1 hb
      show (couldB s side a b && ofSide (bAt s b) (1 - side)) = (((bAt s b != 46) && legalB s side (a, b)) && canB s a b)
      rw [Bool.eq_iff_iff]
      rw [of_side15 (by omega), Bool.and_eq_true, Bool.and_eq_true, Bool.and_eq_true, beq_iff_eq, bne_iff_ne]
      constructor
      · rintro ⟨h1, h2⟩
        have h3 := h1
        unfold couldB at h1
        simp only [Bool.and_eq_true] at h1
        refine ⟨⟨?_, h1.2⟩, h1.1.2⟩
        rintro e46
        rw [e46, show sideN 46 = -1 by decide] at h2
        omega
      · rintro ⟨⟨h1, h2⟩, h3⟩
        have h4 : couldB s side a b = true := by
          unfold couldB
          rw [h2, h3, e]
          simp
        exact ⟨h4, could_to hs hb h4 h1⟩
    · rw [if_neg e]
      have : ∀ b, couldB s side a b = false := fun b => by
        cases e2 : couldB s side a b
        · rfl
        · exact absurd (could_parts.1 e2).1 e
      simp [this]
  · intro a _ hq
    rw [of_side15 (by omega), beq_eq_false_iff_ne] at hq
    unfold goG
    have : ∀ b, couldB s side a b = false := fun b => by
      cases e2 : couldB s side a b
      · rfl
      · exact absurd (could_parts.1 e2).1 hq
    simp [this]
theorem gone_one {s : ByteArray} {side : Int} (h : 0 ≤ side) {b : Nat} : againB s side b = (ownN s side).any fun n => couldB s side n b := by
  unfold againB ownN
  rw [Bool.eq_iff_iff, List.any_eq_true, List.any_eq_true]
  constructor
  · rintro ⟨n, hn, hc⟩
    refine ⟨n, List.mem_filter.2 ⟨hn, ?_⟩, hc⟩
    rw [of_side15 h, beq_iff_eq]
    exact (could_parts.1 hc).1
  · rintro ⟨n, hn, hc⟩
    exact ⟨n, (List.mem_filter.1 hn).1, hc⟩
end Go.Proofs.YtpogpjebhnoncaaGreatDoor
namespace Go.Proofs.YtpogpjebhnoncaaGreatDoor
end Go.Proofs.YtpogpjebhnoncaaGreatDoor
namespace Go.Proofs.YtpogpjebhnoncaaGreatDoor
end Go.Proofs.YtpogpjebhnoncaaGreatDoor
namespace Go.Proofs.YtpogpjebhnoncaaGreatDoor
open Go.RowKit Go.Shelf
open M (S)
theorem gother_is (side k : Int) (w : World) (h0 : 0 ≤ side) (h1 : side ≤ 1) (hk : 1 - side = k) : Calls Tryz.prog 246 #[.int .i64 side] w (Says w (.int .i64 k)) := by
  unfold Says
  subst hk
  go_enter Tryz.func246, Tryz.ntmps246
  go_wp2
  go_ret
  exact ⟨by go_num, rfl⟩
theorem gother_some (side : Int) (w : World) : Calls Tryz.prog 246 #[.int .i64 side] w fun e w' => ∃ k, e = .returned (.int .i64 k) ∧ w = w' := by
  go_enter Tryz.func246, Tryz.ntmps246
  go_wp2
  go_ret
  exact ⟨_, rfl, rfl⟩
theorem gside_g (c : Nat) (k : Int) (w : World) (h : sideN c = k) : Calls Tryz.prog 185 #[.int .u8 (c : Int)] w (Gives w (.int .i64 k)) := (side_is c k w h).mono fun _ _ ⟨a, b⟩ => ⟨a, b ▸ Below.refl _ _⟩
theorem gkind_g (c k : Nat) (w : World) (h : kindN c = k) : Calls Tryz.prog 133 #[.int .u8 (c : Int)] w (Gives w (.int .u8 (k : Int))) := (kind_is c k w h).mono fun _ _ ⟨a, b⟩ => ⟨a, b ▸ Below.refl _ _⟩
theorem mv2_keep {w : World} {p0 p1 : Value} {g : Nat} {W W' : World} (hS : W.cell? ⟨g, 0, none⟩ = some p0 ∧ W.cell? ⟨g, 1, none⟩ = some p1 ∧ Below w.heap.size w W) (hb : Below W.heap.size W W') :
    W'.cell? ⟨g, 0, none⟩ = some p0 ∧ W'.cell? ⟨g, 1, none⟩ = some p1 ∧ Below w.heap.size w W' := by
  obtain ⟨h0, h1, h4⟩ := hS
  exact ⟨(hb.cell (p := ⟨g, 0, none⟩) (cell_lt h0)).trans h0, (hb.cell (p := ⟨g, 1, none⟩) (cell_lt h1)).trans h1, h4.trans (hb.mono h4.size)⟩
theorem behind_put {s : ByteArray} (hs : isB s = true) {a b : Nat} (ha : a < 90) (hb : b < 90) : putB (putB s (a : Int) 46) (b : Int) (bAt s a) = behindS s (a, b) := by
  have e1 : putB s (a : Int) 46 = putS s a 46 := by
    unfold putB
    rw [if_pos ⟨hs, sqI_true (by omega), by decide⟩, Int.toNat_natCast]
  rw [e1]
  unfold putB
  rw [if_pos ⟨put_is_board hs a 46 (by decide) (by decide), sqI_true (by omega), isB_fill hs a ha⟩, Int.toNat_natCast]
  rfl
set_option maxRecDepth 100000 in
set_option maxHeartbeats 4000000 in
theorem gmoved_is (s q : ByteArray) (a b : Nat) (w : World) (hs : isB s = true) (ha : a < 90) (hb : b < 90) (hq : behindS s (a, b) = q) : Calls Tryz.prog 283 #[.string s, .agg #[.int .i64 (a : Int), .int .i64 (b : Int)]] w (Gives w (.string q)) := by
  unfold Gives
  obtain ⟨W0, hW0⟩ : ∃ W0, w.alloc (.cells #[.int .i64 (a : Int), .int .i64 (b : Int)] 54) = W0 := ⟨_, rfl⟩
  have hB : Below w.heap.size w W0 := by rw [← hW0]; exact (by repeat (first | exact Below.refl _ _ | (refine Below.setCell ?_ (by first | omega | (simp; done) | (simp; omega) | (simp at *; omega)) _) | (refine Below.alloc ?_ (by first | omega | (simp; done) | (simp; omega) | (simp at *; omega)) _) | refine Below.drew ?_ | (refine below_drewN ?_ _) | (refine Below.trans ?_ (Below.mono (by assumption) (by first | omega | (simp; done) | (simp; omega) | (simp at *; omega))))))
  have bM : Blk W0 w.heap.size 54 #[.int .i64 (a : Int), .int .i64 (b : Int)] := by rw [← hW0]; exact Blk.new _ _ _ rfl
  have hS : W0.drew.cell? ⟨w.heap.size, 0, none⟩ = some (.int .i64 (a : Int)) ∧ W0.drew.cell? ⟨w.heap.size, 1, none⟩ = some (.int .i64 (b : Int)) ∧ Below w.heap.size w W0.drew := ⟨bM.cell 0, bM.cell 1, hB.drew⟩
  obtain ⟨c, hc⟩ : ∃ c, bAt s a = c := ⟨_, rfl⟩
  have hz := isB_size hs
  have has : a < s.size := by omega
  have hbk : s[a].toNat = c := (bAt_eq s a has).trans hc
  have hc8 : c < 256 := by rw [← hc]; exact bAt_lt s a
  obtain ⟨t, ht⟩ : ∃ t, putB s (a : Int) 46 = t := ⟨_, rfl⟩
  have hq2 : putB t (b : Int) c = q := by rw [← ht, ← hc, ← hq]; exact behind_put hs ha hb
  have HW := Lib.hid hW0
  have H1 := Lib.hid ht
  have H2 := Lib.hid hq2
  clear hW0 hB bM hs hc hz ht hq2 hq ha hb
  go_enter Tryz.func283, Tryz.ntmps283
  go_wp2_with fail
  rw [HW.out]
  go_region_held3 (fun W => W.cell? ⟨w.heap.size, 0, none⟩ = some (.int .i64 (a : Int)) ∧ W.cell? ⟨w.heap.size, 1, none⟩ = some (.int .i64 (b : Int)) ∧ Below w.heap.size w W)
    (first | exact hS | exact mv2_keep (by assumption) hb)
    (first | (go_at_call 180; refine (put_as _ _ _ _ _ (by first | decide | assumption) (by first | with_reducible exact H1.out | with_reducible exact H2.out)).mono ?_; rintro e w1 ⟨rfl, hb⟩))
  all_goals
    go_wp2
    go_ret
    exact ⟨rfl, (by assumption : _ ∧ _ ∧ Below w.heap.size w _).2.2⟩
set_option maxRecDepth 100000 in
set_option maxHeartbeats 4000000 in
theorem gcan_far (s : ByteArray) (side a b : Int) (w : World) (h : canI s a b = false) : Calls Tryz.prog 272 #[.string s, .int .i64 side, .agg #[.int .i64 a, .int .i64 b]] w (Gives w (.bool false)) := by
  unfold Gives
  obtain ⟨W0, hW0⟩ : ∃ W0, w.alloc (.cells #[.int .i64 a, .int .i64 b] 54) = W0 := ⟨_, rfl⟩
  have hB : Below w.heap.size w W0 := by rw [← hW0]; exact (by repeat (first | exact Below.refl _ _ | (refine Below.setCell ?_ (by first | omega | (simp; done) | (simp; omega) | (simp at *; omega)) _) | (refine Below.alloc ?_ (by first | omega | (simp; done) | (simp; omega) | (simp at *; omega)) _) | refine Below.drew ?_ | (refine below_drewN ?_ _) | (refine Below.trans ?_ (Below.mono (by assumption) (by first | omega | (simp; done) | (simp; omega) | (simp at *; omega))))))
  have bM : Blk W0 w.heap.size 54 #[.int .i64 a, .int .i64 b] := by rw [← hW0]; exact Blk.new _ _ _ rfl
  have hS : W0.cell? ⟨w.heap.size, 0, none⟩ = some (.int .i64 a) ∧ W0.cell? ⟨w.heap.size, 1, none⟩ = some (.int .i64 b) ∧ Below w.heap.size w W0 := ⟨bM.cell 0, bM.cell 1, hB⟩
  have HW := Lib.hid hW0
  have HC := Lib.hid h
  clear hW0 hB bM h
  go_enter Tryz.func272, Tryz.ntmps272
  go_wp2_with fail
  rw [HW.out]
  obtain ⟨m0, m1, hB⟩ := hS
  refine (can_is5 s a b _ _ HC.out).mono ?_
  rintro e w2 ⟨rfl, hb⟩
  obtain ⟨m0, m1, hB⟩ := mv2_keep ⟨m0, m1, hB⟩ hb
  clear hb
  go_wp2
  go_ret
  exact ⟨rfl, hB⟩
set_option maxRecDepth 100000 in
set_option maxHeartbeats 4000000 in
theorem gcan_side (s : ByteArray) (side y : Int) (a b c : Nat) (w : World) (h : canI s (a : Int) (b : Int) = true) (has : a < s.size) (hbk : s[a].toNat = c) (hy : sideN c = y) (hne : y ≠ side) : Calls Tryz.prog 272 #[.string s, .int .i64 side, .agg #[.int .i64 (a : Int), .int .i64 (b : Int)]] w (Gives w (.bool false)) := by
  unfold Gives
  obtain ⟨W0, hW0⟩ : ∃ W0, w.alloc (.cells #[.int .i64 (a : Int), .int .i64 (b : Int)] 54) = W0 := ⟨_, rfl⟩
  have hB : Below w.heap.size w W0 := by rw [← hW0]; exact (by repeat (first | exact Below.refl _ _ | (refine Below.setCell ?_ (by first | omega | (simp; done) | (simp; omega) | (simp at *; omega)) _) | (refine Below.alloc ?_ (by first | omega | (simp; done) | (simp; omega) | (simp at *; omega)) _) | refine Below.drew ?_ | (refine below_drewN ?_ _) | (refine Below.trans ?_ (Below.mono (by assumption) (by first | omega | (simp; done) | (simp; omega) | (simp at *; omega))))))
  have bM : Blk W0 w.heap.size 54 #[.int .i64 (a : Int), .int .i64 (b : Int)] := by rw [← hW0]; exact Blk.new _ _ _ rfl
  have hS : W0.cell? ⟨w.heap.size, 0, none⟩ = some (.int .i64 (a : Int)) ∧ W0.cell? ⟨w.heap.size, 1, none⟩ = some (.int .i64 (b : Int)) ∧ Below w.heap.size w W0 := ⟨bM.cell 0, bM.cell 1, hB⟩
  have n1 : (y != side) = true := by rw [bne_iff_ne]; exact hne
  have HW := Lib.hid hW0
  have HC := Lib.hid h
  have HY := Lib.hid hy
  clear hW0 hB bM h hy hne
  go_enter Tryz.func272, Tryz.ntmps272
  go_wp2_with fail
  rw [HW.out]
  obtain ⟨m0, m1, hB⟩ := hS
  refine (can_is5 s a b _ _ HC.out).mono ?_
  rintro e w2 ⟨rfl, hb⟩
  obtain ⟨m0, m1, hB⟩ := mv2_keep ⟨m0, m1, hB⟩ hb
  clear hb
  go_wp2_with fail
  refine (gside_g c y _ HY.out).mono ?_
  rintro e w3 ⟨rfl, hb⟩
  replace m0 := (hb.cell (p := ⟨w.heap.size, 0, none⟩) (cell_lt m0)).trans m0
  replace m1 := (hb.cell (p := ⟨w.heap.size, 1, none⟩) (cell_lt m1)).trans m1
  replace hB := hB.trans (hb.mono hB.size)
  clear hb
  go_wp2
  go_ret
  exact ⟨rfl, hB⟩
set_option maxRecDepth 100000 in
set_option maxHeartbeats 8000000 in
theorem gcan_king (s : ByteArray) (side : Int) (a b c d k : Nat) (w : World) (h : canI s (a : Int) (b : Int) = true) (has : a < s.size) (hbs : b < s.size) (hbk : s[a].toNat = c) (hbd : s[b].toNat = d) (hy : sideN c = side) (hkd : kindN d = k) (hk75 : k = 75) : Calls Tryz.prog 272 #[.string s, .int .i64 side, .agg #[.int .i64 (a : Int), .int .i64 (b : Int)]] w (Gives w (.bool false)) := by
  unfold Gives
  obtain ⟨W0, hW0⟩ : ∃ W0, w.alloc (.cells #[.int .i64 (a : Int), .int .i64 (b : Int)] 54) = W0 := ⟨_, rfl⟩
  have hB : Below w.heap.size w W0 := by rw [← hW0]; exact (by repeat (first | exact Below.refl _ _ | (refine Below.setCell ?_ (by first | omega | (simp; done) | (simp; omega) | (simp at *; omega)) _) | (refine Below.alloc ?_ (by first | omega | (simp; done) | (simp; omega) | (simp at *; omega)) _) | refine Below.drew ?_ | (refine below_drewN ?_ _) | (refine Below.trans ?_ (Below.mono (by assumption) (by first | omega | (simp; done) | (simp; omega) | (simp at *; omega))))))
  have bM : Blk W0 w.heap.size 54 #[.int .i64 (a : Int), .int .i64 (b : Int)] := by rw [← hW0]; exact Blk.new _ _ _ rfl
  have hS : W0.cell? ⟨w.heap.size, 0, none⟩ = some (.int .i64 (a : Int)) ∧ W0.cell? ⟨w.heap.size, 1, none⟩ = some (.int .i64 (b : Int)) ∧ Below w.heap.size w W0 := ⟨bM.cell 0, bM.cell 1, hB⟩
  have n1 : (side != side) = false := by simp
  have n2 : ((k : Int) == 75) = true := by rw [beq_iff_eq]; omega
  have HW := Lib.hid hW0
  have HC := Lib.hid h
  have HY := Lib.hid hy
  have HK := Lib.hid hkd
  clear hW0 hB bM h hy hkd hk75
  go_enter Tryz.func272, Tryz.ntmps272
  go_wp2_with fail
  rw [HW.out]
  obtain ⟨m0, m1, hB⟩ := hS
  refine (can_is5 s a b _ _ HC.out).mono ?_
  rintro e w2 ⟨rfl, hb⟩
  obtain ⟨m0, m1, hB⟩ := mv2_keep ⟨m0, m1, hB⟩ hb
  clear hb
  go_wp2_with fail
  refine (gside_g c side _ HY.out).mono ?_
  rintro e w3 ⟨rfl, hb⟩
  replace m0 := (hb.cell (p := ⟨w.heap.size, 0, none⟩) (cell_lt m0)).trans m0
  replace m1 := (hb.cell (p := ⟨w.heap.size, 1, none⟩) (cell_lt m1)).trans m1
  replace hB := hB.trans (hb.mono hB.size)
  clear hb
  go_wp2_with fail
  refine (gkind_g d k _ HK.out).mono ?_
  rintro e w4 ⟨rfl, hb⟩
  replace m0 := (hb.cell (p := ⟨w.heap.size, 0, none⟩) (cell_lt m0)).trans m0
  replace m1 := (hb.cell (p := ⟨w.heap.size, 1, none⟩) (cell_lt m1)).trans m1
  replace hB := hB.trans (hb.mono hB.size)
  clear hb
  go_wp2
  go_ret
  exact ⟨rfl, hB⟩
set_option maxRecDepth 100000 in
set_option maxHeartbeats 8000000 in
theorem gcan_goes (s q : ByteArray) (side : Int) (a b c d k : Nat) (f i : Bool) (w : World) (hT : Tab w) (h : canI s (a : Int) (b : Int) = true) (hs : isB s = true) (ha : a < 90) (hb9 : b < 90) (has : a < s.size) (hbs : b < s.size) (hbk : s[a].toNat = c) (hbd : s[b].toNat = d) (hy : sideN c = side) (hkd : kindN d = k) (hk75 : k ≠ 75) (hq : behindS s (a, b) = q) (hf : facingB q = f) (hi : inB q side = i) : Calls Tryz.prog 272 #[.string s, .int .i64 side, .agg #[.int .i64 (a : Int), .int .i64 (b : Int)]] w (Gives w (.bool (!f && !i))) := by
  unfold Gives
  obtain ⟨W0, hW0⟩ : ∃ W0, w.alloc (.cells #[.int .i64 (a : Int), .int .i64 (b : Int)] 54) = W0 := ⟨_, rfl⟩
  have hB : Below w.heap.size w W0 := by rw [← hW0]; exact (by repeat (first | exact Below.refl _ _ | (refine Below.setCell ?_ (by first | omega | (simp; done) | (simp; omega) | (simp at *; omega)) _) | (refine Below.alloc ?_ (by first | omega | (simp; done) | (simp; omega) | (simp at *; omega)) _) | refine Below.drew ?_ | (refine below_drewN ?_ _) | (refine Below.trans ?_ (Below.mono (by assumption) (by first | omega | (simp; done) | (simp; omega) | (simp at *; omega))))))
  have bM : Blk W0 w.heap.size 54 #[.int .i64 (a : Int), .int .i64 (b : Int)] := by rw [← hW0]; exact Blk.new _ _ _ rfl
  have hS : W0.cell? ⟨w.heap.size, 0, none⟩ = some (.int .i64 (a : Int)) ∧ W0.cell? ⟨w.heap.size, 1, none⟩ = some (.int .i64 (b : Int)) ∧ Below w.heap.size w W0 := ⟨bM.cell 0, bM.cell 1, hB⟩
  have n1 : (side != side) = false := by simp
  have n2 : ((k : Int) == 75) = false := by rw [beq_eq_false_iff_ne]; omega
  have HW := Lib.hid hW0
  have HC := Lib.hid h
  have HY := Lib.hid hy
  have HK := Lib.hid hkd
  have HQ := Lib.hid (fun W => gmoved_is s q a b W hs ha hb9 hq)
  have HF := Lib.hid hf
  have HI := Lib.hid hi
  clear hW0 hB bM h hy hkd hk75 hs hq hf hi
  go_enter Tryz.func272, Tryz.ntmps272
  go_wp2_with fail
  rw [HW.out]
  obtain ⟨m0, m1, hB⟩ := hS
  refine (can_is5 s a b _ _ HC.out).mono ?_
  rintro e w2 ⟨rfl, hb⟩
  obtain ⟨m0, m1, hB⟩ := mv2_keep ⟨m0, m1, hB⟩ hb
  clear hb
  go_wp2_with fail
  refine (gside_g c side _ HY.out).mono ?_
  rintro e w3 ⟨rfl, hb⟩
  replace m0 := (hb.cell (p := ⟨w.heap.size, 0, none⟩) (cell_lt m0)).trans m0
  replace m1 := (hb.cell (p := ⟨w.heap.size, 1, none⟩) (cell_lt m1)).trans m1
  replace hB := hB.trans (hb.mono hB.size)
  clear hb
  go_wp2_with fail
  refine (gkind_g d k _ HK.out).mono ?_
  rintro e w4 ⟨rfl, hb⟩
  replace m0 := (hb.cell (p := ⟨w.heap.size, 0, none⟩) (cell_lt m0)).trans m0
  replace m1 := (hb.cell (p := ⟨w.heap.size, 1, none⟩) (cell_lt m1)).trans m1
  replace hB := hB.trans (hb.mono hB.size)
  clear hb
  go_wp2_with fail
  refine (HQ.out _).mono ?_
  rintro e w5 ⟨rfl, hb⟩
  replace hB := hB.trans (hb.mono hB.size)
  clear hb m0 m1
  cases f
  · go_wp2_with fail
    refine (facing_is q false _ HF.out).mono ?_
    rintro e w6 ⟨rfl, rfl⟩
    go_wp2_with fail
    refine (in_is q side i _ (hT.below hB hT.lt) HI.out).mono ?_
    rintro e w7 ⟨rfl, hb⟩
    go_wp2
    go_ret
    exact ⟨rfl, hB.trans (hb.mono hB.size)⟩
  · go_wp2_with fail
    refine (facing_is q true _ HF.out).mono ?_
    rintro e w6 ⟨rfl, rfl⟩
    go_wp2
    go_ret
    exact ⟨rfl, hB⟩
theorem gcan_any (s : ByteArray) (side a b : Int) (w : World) (hT : Tab w) : Calls Tryz.prog 272 #[.string s, .int .i64 side, .agg #[.int .i64 a, .int .i64 b]] w (Gives w (.bool (couldI s side a b))) := by
  cases hc : canI s a b
  · have : couldI s side a b = false := by
      cases e : couldI s side a b
      · rfl
      · obtain ⟨h1, h2, h3, h4⟩ := couldI_parts e
        have : canI s a b = true := by
          unfold canI
          rw [h1, sqI_true h2, sqI_true h3, (could_parts.1 h4).2.1]
          rfl
        rw [hc] at this
        cases this
    rw [this]
    exact gcan_far s side a b w hc
  · obtain ⟨hi, ha, hb, hcan⟩ : isB s = true ∧ sqI a = true ∧ sqI b = true ∧ canB s a.toNat b.toNat = true := by
      unfold canI at hc
      simp only [Bool.and_eq_true] at hc
      exact ⟨hc.1.1.1, hc.1.1.2, hc.1.2, hc.2⟩
    obtain ⟨a0, a1⟩ := sqI_iff.1 ha
    obtain ⟨b0, b1⟩ := sqI_iff.1 hb
    obtain ⟨x, rfl⟩ : ∃ x : Nat, a = x := ⟨a.toNat, by omega⟩
    obtain ⟨y, rfl⟩ : ∃ y : Nat, b = y := ⟨b.toNat, by omega⟩
    have hz := isB_size hi
    have hx : x < 90 := by omega
    have hy : y < 90 := by omega
    rw [couldI_nat hi hx hy]
    simp only [Int.toNat_natCast] at hcan
    have hxb := bAt_eq s x (by omega)
    have hyb := bAt_eq s y (by omega)
    by_cases hsd : sideN (bAt s x) = side
    · by_cases hk : kindN (bAt s y) = 75
      · have : couldB s side x y = false := by
          cases e : couldB s side x y
          · rfl
          · exact absurd hk (could_parts.1 e).2.2.1
        rw [this]
        exact gcan_king s side x y _ _ _ w hc (by omega) (by omega) hxb hyb hsd rfl hk
      · have : couldB s side x y = (!facingB (behindS s (x, y)) && !inB (behindS s (x, y)) side) := by
          unfold couldB legalB
          rw [hsd, hcan, beq_self_eq_true, Bool.true_and, Bool.true_and]
          show ((kindN (bAt s y) != 75) && _) = _
          rw [show (kindN (bAt s y) != 75) = true by rw [bne_iff_ne]; exact hk, Bool.true_and]
          rfl
        rw [this]
        exact gcan_goes s _ side x y _ _ _ _ _ w hT hc hi hx hy (by omega) (by omega) hxb hyb hsd rfl hk rfl rfl rfl
    · have : couldB s side x y = false := by
        cases e : couldB s side x y
        · rfl
        · exact absurd (could_parts.1 e).1 hsd
      rw [this]
      exact gcan_side s side _ x y _ w hc (by omega) hxb rfl hsd
theorem gcan_is (s : ByteArray) (side a b : Int) (v : Bool) (w : World) (hT : Tab w) (h : couldI s side a b = v) : Calls Tryz.prog 272 #[.string s, .int .i64 side, .agg #[.int .i64 a, .int .i64 b]] w (Gives w (.bool v)) := by subst h; exact gcan_any s side a b w hT
end Go.Proofs.YtpogpjebhnoncaaGreatDoor
namespace Go.Proofs.YtpogpjebhnoncaaGreatDoor
open Go.RowKit Go.Shelf
structure KeptT (T B : Nat) (W W' : World) : Prop where
  os : W'.os = W.os
  tape : W'.tape = W.tape
  output : W'.output = W.output
  size : W.heap.size ≤ W'.heap.size
  low : ∀ k, k < B → k ≠ T → W'.heap[k]? = W.heap[k]?
  rows : ∀ k c f, B ≤ k → W.heap[k]? = some (.cells c 3 f) → W'.heap[k]? = some (.cells c 3 f)
theorem KeptT.refl (T B : Nat) (W : World) : KeptT T B W W := ⟨rfl, rfl, rfl, Nat.le_refl _, fun _ _ _ => rfl, fun _ _ _ _ h => h⟩
theorem KeptT.trans {T B : Nat} {a b c : World} (h : KeptT T B a b) (k : KeptT T B b c) : KeptT T B a c :=
  ⟨k.os.trans h.os, k.tape.trans h.tape, k.output.trans h.output, Nat.le_trans h.size k.size, fun j h1 h2 => (k.low j h1 h2).trans (h.low j h1 h2), fun j c f h1 h2 => k.rows j c f h1 (h.rows j c f h1 h2)⟩
theorem KeptT.next {T B : Nat} {W W' : World} (hB : B ≤ W.heap.size) (h : Below W.heap.size W W') : KeptT T B W W' :=
  ⟨h.os, h.tape, h.output, h.size, fun k hk _ => h.block k (by omega), fun k c f _ e => (h.block k (Array.getElem?_eq_some_iff.1 e).1).trans e⟩
theorem KeptT.grown {T B : Nat} {W W' : World} {r : Option Nat} (hB : B ≤ W.heap.size) (h : W.grownBy W' r) (hr : ∀ k, some k = r → B ≤ k) (hi : ∀ k c f, some k = r → W.heap[k]? ≠ some (.cells c 3 f)) : KeptT T B W W' := by
  have f := Below.grown (B := W.heap.size) (Below.refl _ W) h (Nat.le_refl _)
  refine ⟨?_, ?_, ?_, h.size, fun k hk _ => h.block k (by omega) fun e => ?_, fun k c f hk e => (h.block k (Array.getElem?_eq_some_iff.1 e).1 fun e' => hi k c f e' e).trans e⟩
  · exact h.os
  · exact h.tape
  · exact h.output
  · have := hr k e
    omega
theorem KeptT.put {T B : Nat} (W : World) (l : Nat) (o o' : Obj) (hl : B ≤ l) (h : W.heap[l]? = some o) (ho : o.isCells = false) (_ : o.isWalk = false) : KeptT T B W (W.putObj l o') :=
  KeptT.grown (Nat.le_of_lt (Nat.lt_of_le_of_lt hl (Array.getElem?_eq_some_iff.1 h).1)) (grownBy_putObj' W l o') (fun k e => by cases e; exact hl) fun k c f e e2 => by
    cases e
    rw [h] at e2
    cases e2
    cases ho
theorem KeptT.set {T B : Nat} {W : World} (hT : T < B) (u : Value) (i : Nat) : KeptT T B W (W.setCell ⟨T, i, none⟩ u) := by
  have hb := Below.heap_setCell W ⟨T, i, none⟩ u
  have b := (Below.refl T W).setCell (p := ⟨T, i, none⟩) (Nat.le_refl _) u
  refine ⟨b.os, b.tape, b.output, b.size, fun k _ hk => hb k hk, fun k c f hk e => (hb k ?_).trans e⟩
  show k ≠ T
  omega
theorem KeptT.below {T B n : Nat} {W W' : World} (h : KeptT T B W W') (hn : n ≤ B) (hT : n ≤ T) : Below n W W' :=
  ⟨h.os, h.tape, h.output, h.size, fun k hk => h.low k (by omega) (by omega)⟩
end Go.Proofs.YtpogpjebhnoncaaGreatDoor
namespace Go.Proofs.YtpogpjebhnoncaaGreatDoor
open Go.RowKit Go.Shelf
open M (S)
def ownL (s : ByteArray) (side : Int) : List Nat := if isB s then ownN s side else []
theorem piecesL_own (s : ByteArray) (side : Int) : piecesL s side = (ownL s side).map fun k : Nat => (k : Int) := by
  unfold piecesL ownL
  split
  · rfl
  · rfl
theorem ownL_at {s : ByteArray} {side : Int} {k : Nat} (h : k < (ownL s side).length) : isB s = true ∧ (ownL s side)[k] < 90 := by
  have hm := List.getElem_mem h
  obtain ⟨x, hx⟩ : ∃ x, (ownL s side)[k] = x := ⟨_, rfl⟩
  rw [hx] at hm ⊢
  unfold ownL at hm
  split at hm
  · rename_i hb
    exact ⟨hb, List.mem_range.1 (List.mem_filter.1 hm).1⟩
  · cases hm
theorem ownL_len (s : ByteArray) (side : Int) : (ownL s side).length ≤ 90 := by
  unfold ownL
  split
  · exact Nat.le_trans (List.length_filter_le _ _) (by simp)
  · simp
def goL (s : ByteArray) (side : Int) (gs : List Nat) : List (Nat × Nat) := (ownL s side).flatMap (goG s side gs)
def goK (s : ByteArray) (side : Int) (gs : List Nat) (k : Nat) : List (Nat × Nat) := ((ownL s side).take k).flatMap (goG s side gs)
def goJ (s : ByteArray) (side : Int) (gs : List Nat) (k a j : Nat) : List (Nat × Nat) := goK s side gs k ++ goG s side (gs.take j) a
theorem goK_all (s : ByteArray) (side : Int) (gs : List Nat) : goK s side gs (ownL s side).length = goL s side gs := by
  unfold goK goL
  rw [List.take_length]
theorem goJ_zero (s : ByteArray) (side : Int) (gs : List Nat) (k a : Nat) : goJ s side gs k a 0 = goK s side gs k := by
  unfold goJ goG
  simp
theorem goJ_all {s : ByteArray} {side : Int} {gs : List Nat} {k : Nat} (h : k < (ownL s side).length) : goJ s side gs k (ownL s side)[k] gs.length = goK s side gs (k + 1) := by
  unfold goJ goK
  rw [List.take_length, List.take_succ_eq_append_getElem h, List.flatMap_append]
  simp
theorem goJ_no {s : ByteArray} {side : Int} {gs : List Nat} {k a j : Nat} (h : j < gs.length) (hc : couldB s side a gs[j] = false) : goJ s side gs k a (j + 1) = goJ s side gs k a j := by
  unfold goJ goG
  rw [List.take_succ_eq_append_getElem h, List.filter_append]
  simp [hc]
theorem goJ_yes {s : ByteArray} {side : Int} {gs : List Nat} {k a j : Nat} (h : j < gs.length) (hc : couldB s side a gs[j] = true) : goJ s side gs k a (j + 1) = goJ s side gs k a j ++ [(a, gs[j])] := by
  unfold goJ goG
  rw [List.take_succ_eq_append_getElem h, List.filter_append]
  simp [hc]
theorem goJ_pre {s : ByteArray} {side : Int} {gs : List Nat} {k j : Nat} (h : k < (ownL s side).length) : goJ s side gs k (ownL s side)[k] j <+: goL s side gs := by
  have h1 : goJ s side gs k (ownL s side)[k] j <+: goK s side gs (k + 1) := by
    rw [← goJ_all h, goJ, goJ, List.take_length]
    refine (List.prefix_append_right_inj _).2 ?_
    unfold goG
    obtain ⟨r, hr⟩ := List.take_prefix j gs
    refine ⟨(r.filter fun b => couldB s side (ownL s side)[k] b).map fun b => ((ownL s side)[k], b), ?_⟩
    rw [← List.map_append, ← List.filter_append, hr]
  refine h1.trans ?_
  unfold goK goL
  obtain ⟨r, hr⟩ := List.take_prefix (k + 1) (ownL s side)
  refine ⟨r.flatMap (goG s side gs), ?_⟩
  rw [← List.flatMap_append, hr]
abbrev mvv (x : Nat × Nat) : Value := .agg #[.int .i64 (x.1 : Int), .int .i64 (x.2 : Int)]
abbrev enc1 (x : Nat × Nat) : Array Value := #[mvv x]
theorem gmoves_is (s : ByteArray) (side : Int) (A : Option Addr) (n c : Nat) (w : World) : Calls Tryz.prog 245 #[.string s, .int .i64 side, .slice A n c] w fun e w' => e = .returned (.func (.func 271) #[] #[.pointer (some ⟨w.heap.size, 0, none⟩), .pointer (some ⟨w.heap.size + 1, 0, none⟩), .pointer (some ⟨w.heap.size + 1 + 1, 0, none⟩)]) ∧ ((w.alloc (.cells #[.string s] 9)).alloc (.cells #[.int .i64 side] 3)).alloc (.cells #[.slice A n c] 152) = w' := by
  go_enter Tryz.func245, Tryz.ntmps245
  go_wp2
  go_ret
  exact ⟨rfl, rfl⟩
theorem below_new (w : World) (o : Obj) : Below w.heap.size w (w.alloc o) := (Below.refl _ _).alloc (Nat.le_refl _) _
theorem row_same {w w1 : World} {base : Nat} {e : TypeId} {size : Nat} {v : Value} {n : Nat} {xs : List Value} (h : w.ownsRow base e size v n xs) (hb : ∀ k, k < w.heap.size → v.ownBlock = some k → w1.heap[k]? = w.heap[k]?) : w1.ownsRow base e size v n xs := by
  refine ⟨h.1, ?_⟩
  rcases h.2 with h0 | ⟨g, cap, cur, rfl, hg, hc, r⟩
  · exact .inl h0
  · exact .inr ⟨g, cap, cur, rfl, hg, (hb g (Array.getElem?_eq_some_iff.1 hc).1 rfl).trans hc, r⟩
structure MovesAt (W : World) (H T B : Nat) (s : ByteArray) (side : Int) (A : Option Addr) (gs : List Nat) (c : Nat) : Prop where
  bc : Blk W H 9 #[.string s]
  bs : Blk W (H + 1) 3 #[.int .i64 side]
  bg : Blk W (H + 1 + 1) 152 #[.slice A gs.length c]
  rd : Rd W A ((gs.map fun k : Nat => (k : Int)).map iv)
  at_ : ∀ ad, A = some ad → ad.block < B ∧ ad.block ≠ T
  tab : Tab W
  hT : T < H
  hB : H + 1 + 1 < B
  tT : 1 < T
theorem MovesAt.kept {W W' : World} {H T B : Nat} {s : ByteArray} {side : Int} {A : Option Addr} {gs : List Nat} {c : Nat} (h : MovesAt W H T B s side A gs c) (k : KeptT T B W W') : MovesAt W' H T B s side A gs c := by
  have h1 := h.hT
  have h2 := h.hB
  refine ⟨(k.low H (by omega) (by omega)).trans h.bc, (k.low (H + 1) (by omega) (by omega)).trans h.bs, (k.low (H + 1 + 1) (by omega) (by omega)).trans h.bg, fun j u hu => ?_, h.at_, h.tab.below (k.below (n := T) (by omega) (Nat.le_refl _)) h.tT, h.hT, h.hB, h.tT⟩
  obtain ⟨ad, e, hc⟩ := h.rd j u hu
  obtain ⟨a1, a2⟩ := h.at_ ad e
  refine ⟨ad, e, ?_⟩
  have e2 := k.low ad.block a1 a2
  have hb : (ad.add j).block = ad.block := by
    unfold Addr.add
    split <;> rfl
  unfold World.cell? at hc ⊢
  rw [hb] at hc ⊢
  rw [e2]
  exact hc
theorem rd_int {w : World} {A : Option Addr} {xs : List Nat} (h : Rd w A ((xs.map fun k : Nat => (k : Int)).map iv)) {k : Nat} (hk : k < xs.length) : ∃ g b, A = some ⟨g, b, none⟩ ∧ w.cell? ⟨g, b + k, none⟩ = some (.int .i64 (xs[k] : Int)) := by
  obtain ⟨⟨g, b, sp⟩, rfl, hc⟩ := h k (iv (xs[k] : Int)) (by simp [hk])
  have h00 : 0 < xs.length := by omega
  obtain ⟨a0, e0, hc0⟩ := h 0 (iv (xs[0] : Int)) (by simp [h00])
  cases e0
  have hsp : sp = none := by simpa [Addr.add] using World.cell?_spot hc0
  subst hsp
  have hadd : (Addr.add ⟨g, b, none⟩ k) = ⟨g, b + k, none⟩ := by
    simp only [Addr.add]
    split <;> simp_all
  rw [hadd] at hc
  exact ⟨g, b, rfl, hc⟩
theorem pieces_n (s : ByteArray) (side : Int) (m : Nat) (w : World) (hT : Tab w) (hm : (ownL s side).length = m) : Calls Tryz.prog 182 #[.string s, .int .i64 side] w fun e w' => ∃ A c, e = .returned (.slice A m c) ∧ w'.ownsRow w.heap.size 3 1 (.slice A m c) m (((ownL s side).map fun k : Nat => (k : Int)).map iv) ∧ Below w.heap.size w w' := by
  refine (pieces_own s side w hT).mono ?_
  rintro e w1 ⟨v, rfl, hown, hb⟩
  rw [piecesL_own, List.length_map, hm] at hown
  obtain ⟨A, c, rfl⟩ := owns_slice hown
  exact ⟨A, c, rfl, hown, hb⟩
set_option maxRecDepth 100000 in
set_option maxHeartbeats 4000000 in
theorem moves1_in (n : Nat) (hn : 1 ≤ n) (l H T B : Nat) (s : ByteArray) (side : Int) (A : Option Addr) (gs : List Nat) (c : Nat) (J Jx : List (Nat × Nat) → World → Prop) (W : World) (hJ : AbidesFrom W.heap.size J)
    (hY : ∀ pre x W1, J pre W1 → pre.length < (goL s side gs).length → YieldAt Fence.wide (n - 1) Tryz.prog l (enc1 x) W1 fun e W' =>
      (e = .returned (.bool true) ∧ J (pre ++ [x]) W' ∧ KeptT T B W1 W') ∨ (e = .returned (.bool false) ∧ Jx (pre ++ [x]) W'))
    (hM : MovesAt W H T B s side A gs c) (hg90 : ∀ b ∈ gs, b < 90) (hgl : gs.length ≤ 1000000) (hB : B ≤ W.heap.size) (h0 : J [] W) :
    CallsIn Fence.wide n Tryz.prog 271 #[.func (.yield l) #[] #[], .pointer (some ⟨H, 0, none⟩), .pointer (some ⟨H + 1, 0, none⟩), .pointer (some ⟨H + 1 + 1, 0, none⟩)] W fun e W' => (∃ v, e = .returned v) ∧
      ((∃ ys, ys = goL s side gs ∧ J ys W') ∨ (∃ pre, pre <+: goL s side gs ∧ Jx pre W')) := by
  have hjb : ∀ pre V V', J pre V → Below V.heap.size V V' → J pre V' := fun pre V V' hj hb => hJ _ _ _ none hj ⟨hb.os, hb.tape, hb.output, hb.size, fun i hi _ => hb.block i hi⟩ (by simp)
  obtain ⟨m, hm⟩ : ∃ m, (ownL s side).length = m := ⟨_, rfl⟩
  obtain ⟨q, hq⟩ : ∃ q, gs.length = q := ⟨_, rfl⟩
  have hm90 : m ≤ 90 := by rw [← hm]; exact ownL_len s side
  have HM := Lib.hid hm
  have HQ := Lib.hid hq
  have HG := Lib.hid hM
  have c0 := hM.bc.cell 0
  have c1 := hM.bs.cell 0
  simp only [List.getElem?_toArray, List.getElem?_cons_zero] at c0 c1
  refine callsIn_of_wp Tryz.func271 rfl trivial ?_ rfl
  simp only [Tryz.ntmps271, List.size_toArray, List.length_cons, List.length_nil, Nat.reduceAdd, Nat.reduceSub, Array.replicate_succ, Array.replicate_zero, List.push_toArray, List.append_toArray, List.nil_append, List.cons_append]
  gi_wp2_with (refine ⟨trivial, ?_⟩; gi_at_call 182; refine (callsIn_wide.2 (pieces_n s side m _ HG.out.tab HM.out)).mono ?_; rintro e w1 ⟨A1, cp, rfl, hown, hb⟩)
  have hk1 := KeptT.next (T := T) hB hb
  have hG1 := HG.out.kept hk1
  have hB1 : B ≤ w1.heap.size := Nat.le_trans hB hb.size
  have hrow : ∀ V, KeptT T B w1 V → Rd V A1 (((ownL s side).map fun k : Nat => (k : Int)).map iv) := fun V hk => Rd.owns (row_same hown fun k hk' e => by
    rcases hown.2 with ⟨e0, _⟩ | ⟨g', cap, cur, e1, hg, hc, _⟩
    · rw [e0] at e
      cases e
    · rw [e1] at e
      have e : g' = k := by simpa [Value.ownBlock] using e
      subst e
      exact (hk.rows g' _ _ (Nat.le_trans hB hg) hc).trans hc.symm)
  have HROW := Lib.hid hrow
  have h1 : J (goK s side gs 0) w1 := hjb _ _ _ h0 hb
  have HOWN : Hid (∀ k (h : k < (ownL s side).length), isB s = true ∧ (ownL s side)[k] < 90) := fun k h => ownL_at h
  have HGS : Hid (∀ b ∈ gs, b < 90) := hg90
  have HG1 := Lib.hid hG1
  have HJB := Lib.hid hjb
  have HY := Lib.hid hY
  clear hrow hown c0 c1 h0 hM hG1 hk1 hb hm hq hg90 hJ hjb hY HG
  gi_loopw [14] (fun i wr => ∃ k : Nat, k ≤ m ∧ i = .int .i64 k ∧ J (goK s side gs k) wr ∧ KeptT T B w1 wr) (fun i _ => m - (intOf i).toNat)
  case atStart => exact ⟨0, Nat.zero_le _, rfl, h1, KeptT.refl _ _ _⟩
  case round =>
    obtain ⟨k, hk, rfl, hJk, hkt⟩ := hrel
    by_cases hlt : k < m
    · have hkl : k < (ownL s side).length := by rw [HM.out]; exact hlt
      obtain ⟨g1, o1, rfl, c0⟩ := rd_int (HROW.out wr hkt) hkl
      obtain ⟨hisb, ha90⟩ := HOWN.out k hkl
      have HZ : Hid (∀ j, goJ s side gs k (ownL s side)[k] j <+: goL s side gs) := fun j => goJ_pre hkl
      have HZ0 : Hid (goJ s side gs k (ownL s side)[k] 0 = goK s side gs k) := goJ_zero _ _ _ _ _
      have HZ1 : Hid (goJ s side gs k (ownL s side)[k] q = goK s side gs (k + 1)) := by
        show _ = _
        rw [← HQ.out]
        exact goJ_all hkl
      obtain ⟨a, hax⟩ : ∃ a, (ownL s side)[k] = a := ⟨_, rfl⟩
      rw [hax] at c0 ha90 HZ HZ0 HZ1
      have hGr := HG1.out.kept hkt
      have c2 : wr.cell? ⟨H + 1 + 1, 0, none⟩ = some (.slice A q c) := by
        rw [← HQ.out]
        exact hGr.bg.cell 0
      have b1 : (k : Int) < (m : Int) := by omega
      clear hGr hax h1
      gi_wp2
      gi_loopw [20] (fun i wq => ∃ j : Nat, j ≤ q ∧ i = .int .i64 j ∧ J (goJ s side gs k a j) wq ∧ KeptT T B w1 wq) (fun i _ => q - (intOf i).toNat)
      case atStart => exact ⟨0, Nat.zero_le _, rfl, by rw [HZ0.out]; exact hJk, hkt⟩
      case round =>
        obtain ⟨j, hj, rfl, hJj, hkj⟩ := hrel
        by_cases hlt2 : j < q
        · have hjl : j < gs.length := by rw [HQ.out]; exact hlt2
          have hGq := HG1.out.kept hkj
          obtain ⟨g2, o2, rfl, d0⟩ := rd_int hGq.rd hjl
          have hb90 := HGS.out _ (List.getElem_mem hjl)
          obtain ⟨b, hbx⟩ : ∃ b, gs[j] = b := ⟨_, rfl⟩
          have HNO : Hid (couldB s side a b = false → goJ s side gs k a (j + 1) = goJ s side gs k a j) := fun h => goJ_no hjl (by rw [hbx]; exact h)
          have HYES : Hid (couldB s side a b = true → goJ s side gs k a (j + 1) = goJ s side gs k a j ++ [(a, b)]) := fun h => by
            rw [goJ_yes hjl (by rw [hbx]; exact h), hbx]
          rw [hbx] at d0 hb90
          obtain ⟨v, hv⟩ : ∃ v, couldB s side a b = v := ⟨_, rfl⟩
          have HV : Hid (couldI s side (a : Int) (b : Int) = v) := by
            show _ = _
            rw [couldI_nat hisb ha90 hb90, hv]
          have HVB := Lib.hid hv
          have HLT : Hid (couldB s side a b = true → (goJ s side gs k a j).length < (goL s side gs).length) := fun h => by
            have h1 := (HZ.out (j + 1)).length_le
            rw [HYES.out h, List.length_append, List.length_singleton] at h1
            omega
          have hbA := below_new wr (.cells #[.int .i64 (a : Int), .int .i64 (b : Int)] 54)
          have hBq : B ≤ wr.heap.size := Nat.le_trans hB1 hkj.size
          have hkA := hkj.trans (KeptT.next hBq hbA)
          have hGA := HG1.out.kept hkA
          have e0 : (wr.alloc (.cells #[.int .i64 (a : Int), .int .i64 (b : Int)] 54)).cell? ⟨H, 0, none⟩ = some (.string s) := hGA.bc.cell 0
          have e1 : (wr.alloc (.cells #[.int .i64 (a : Int), .int .i64 (b : Int)] 54)).cell? ⟨H + 1, 0, none⟩ = some (.int .i64 side) := hGA.bs.cell 0
          have bM : Blk (wr.alloc (.cells #[.int .i64 (a : Int), .int .i64 (b : Int)] 54)) wr.heap.size 54 #[.int .i64 (a : Int), .int .i64 (b : Int)] := Blk.new _ _ _ rfl
          have hTA := hGA.tab
          have hJA := HJB.out _ _ _ hJj hbA
          have b2 : (j : Int) < (q : Int) := by omega
          clear hGq hGA hbx hv hJk hJj c0 c2
          cases v
          · gi_wp2_with (refine ⟨trivial, ?_⟩; gi_at_call 272; refine (callsIn_wide.2 (gcan_is s side a b false _ hTA HV.out)).mono ?_; rintro e w' ⟨rfl, hb⟩)
            refine ⟨fun f h => (by cases h), ?_⟩
            gi_wp2
            go_roundw
            case rel => exact ⟨j + 1, by omega, by go_num, by rw [HNO.out HVB.out]; exact HJB.out _ _ _ hJA hb, hkA.trans (KeptT.next (Nat.le_trans hBq hbA.size) hb)⟩
            case measure => simp [intOf]; omega
          · gi_wp2_with (refine ⟨trivial, ?_⟩; gi_at_call 272; refine (callsIn_wide.2 (gcan_is s side a b true _ hTA HV.out)).mono ?_; rintro e w' ⟨rfl, hb⟩; have f0 : w'.cell? ⟨wr.heap.size, 0, none⟩ = some (.int .i64 (a : Int)) := (bM.next hb).cell 0; have f1 : w'.cell? ⟨wr.heap.size, 1, none⟩ = some (.int .i64 (b : Int)) := (bM.next hb).cell 1; obtain ⟨fn, tmps, assign, body, hy, hR⟩ := HY.out _ (a, b) w' (HJB.out _ _ _ hJA hb) (HLT.out (HVB.out)); simp only [enc1, mvv] at hy)
            refine hR.mono ?_
            have hk9 := hkA.trans (KeptT.next (Nat.le_trans hBq hbA.size) hb)
            clear hR hy f0 f1 hJA hTA bM e0 e1 d0 hkA
            rintro e W3 (⟨rfl, hJ3, hk3⟩ | ⟨rfl, hJx3⟩)
            · gi_wp2
              go_roundw
              case rel => exact ⟨j + 1, by omega, by go_num, by rw [HYES.out HVB.out]; exact hJ3, hk9.trans hk3⟩
              case measure => simp [intOf]; omega
            · gi_wp2
              refine bodyPost_ret (results_none rfl _ _ _) rfl ?_
              exact ⟨⟨_, rfl⟩, .inr ⟨_, by rw [← HYES.out HVB.out]; exact HZ.out _, hJx3⟩⟩
        · obtain rfl : j = q := by omega
          gi_wp2
          exact ⟨⟨k + 1, by omega, by go_num, by rw [← HZ1.out]; exact hJj, hkj⟩, by simp [intOf]; omega⟩
    · obtain rfl : k = m := by omega
      have HE : Hid (goK s side gs k = goL s side gs) := by
        show _ = _
        rw [← HM.out]
        exact goK_all _ _ _
      gi_wp2
      go_end0
      exact ⟨⟨_, rfl⟩, .inl ⟨_, rfl, by rw [← HE.out]; exact hJk⟩⟩
end Go.Proofs.YtpogpjebhnoncaaGreatDoor
namespace Go.Proofs.YtpogpjebhnoncaaGreatDoor
open Go.RowKit Go.Shelf
open M (S)
attribute [local go_sem] Oper.semAt_some
theorem gother_k (side : Int) (w : World) : Calls Tryz.prog 246 #[.int .i64 side] w fun e w' => ∃ k, e = .returned (.int .i64 k) ∧ (0 ≤ side → side ≤ 1 → k = 1 - side) ∧ w = w' := by
  by_cases h : 0 ≤ side ∧ side ≤ 1
  · refine (gother_is side _ w h.1 h.2 rfl).mono ?_
    rintro e w1 ⟨rfl, rfl⟩
    exact ⟨_, rfl, fun _ _ => rfl, rfl⟩
  · refine (gother_some side w).mono ?_
    rintro e w1 ⟨k, rfl, rfl⟩
    exact ⟨k, rfl, fun h0 h1 => absurd ⟨h0, h1⟩ h, rfl⟩
theorem go_takes (s : ByteArray) (side k : Int) (h : 0 ≤ side → side ≤ 1 → k = 1 - side) : goL s side (ownL s k) = takesG s side := by
  unfold goL ownL
  by_cases hs : isB s = true
  · rw [if_pos hs, if_pos hs]
    by_cases hd : side = 0 ∨ side = 1
    · rw [h (by omega) (by omega)]
      exact takes_gone hs hd
    · have e1 : ownN s side = [] := by
        unfold ownN
        rw [List.filter_eq_nil_iff]
        intro x hx
        have hf := isB_fill hs x (List.mem_range.1 hx)
        rw [fill_side, Bool.or_eq_true, beq_iff_eq, decide_eq_true_eq] at hf
        have h3 := sideN_ge (bAt s x)
        unfold ofSide
        rw [Bool.and_eq_true, bne_iff_ne, beq_iff_eq]
        rintro ⟨h1, h2⟩
        rcases hf with hf | hf
        · exact h1 hf
        · omega
      rw [e1]
      unfold takesG
      rw [if_neg]
      · rfl
      · rw [Bool.and_eq_true, Bool.or_eq_true, beq_iff_eq, beq_iff_eq]
        exact fun h => hd h.2
  · rw [if_neg hs, if_neg hs]
    unfold takesG
    rw [if_neg]
    · rfl
    · rw [Bool.and_eq_true]
      exact fun h => hs h.1
theorem moves_stops (n : Nat) (hn : 1 ≤ n) (H T B : Nat) (s : ByteArray) (side : Int) (A : Option Addr) (gs : List Nat) (c : Nat) (w : World) (hM : MovesAt w H T B s side A gs c) (hg90 : ∀ b ∈ gs, b < 90) (hgl : gs.length ≤ 1000000) (hB : B ≤ w.heap.size) :
    SeqStopsK Fence.wide n Tryz.prog 271 #[.pointer (some ⟨H, 0, none⟩), .pointer (some ⟨H + 1, 0, none⟩), .pointer (some ⟨H + 1 + 1, 0, none⟩)] enc1 (KeptT T B) (fun ys => ys = goL s side gs) (fun pre => pre <+: goL s side gs) (goL s side gs).length w := fun l J Jx W hW hJ _ hY h0 =>
  moves1_in n hn l H T B s side A gs c J Jx W hJ hY (hM.kept (KeptT.next hB hW)) hg90 hgl (Nat.le_trans hB hW.size) h0
theorem kept_row {T B k : Nat} {W : World} {v : Value} {xs : List Value} {tmp : Obj} (hBW : B ≤ W.heap.size) (hrow : W.ownsRow B 54 2 v k xs) (hTB : T < B) {w1 : World} (hgrow : (W.alloc tmp).grownBy w1 v.ownBlock) (v' : Value) : KeptT T B W (w1.setCell ⟨T, 0, none⟩ v') := by
  refine ((KeptT.next hBW (below_new W tmp)).trans (KeptT.grown (by rw [World.size_alloc]; omega) hgrow (fun k e => ?_) fun k c f e he => ?_)).trans (KeptT.set hTB _ _)
  · rcases hrow.2 with ⟨e0, _⟩ | ⟨g, cap, cur, e0, hg, hc, _⟩
    · rw [e0] at e
      cases e
    · rw [e0] at e
      have : k = g := by simpa [Value.ownBlock] using e
      omega
  · rcases hrow.2 with ⟨e0, _⟩ | ⟨g, cap, cur, e0, hg, hc, _⟩
    · rw [e0] at e
      cases e
    · rw [e0] at e
      have : k = g := by simpa [Value.ownBlock] using e
      subst this
      rw [Below.heap_alloc W tmp k (Array.getElem?_eq_some_iff.1 hc).1, hc] at he
      injection he with he
      injection he with _ h2 _
      exact absurd h2 (by decide)
set_option maxRecDepth 100000 in
set_option maxHeartbeats 4000000 in
theorem gtakes_in (s : ByteArray) (side : Int) (l : List (Nat × Nat)) (n : Nat) (w : World) (hT : Tab w) (hl : takesG s side = l) (hn : l.length = n) :
    CallsIn Fence.wide 5 Tryz.prog 217 #[.string s, .int .i64 side] w fun e W' => ∃ v, e = .returned v ∧ W'.ownsRow w.heap.size 54 2 v n (mvs l) ∧ Below w.heap.size w W' := by
  have hro : Fence.wide.round = none := rfl
  have hlen : l.length ≤ 8100 := by rw [← hl]; exact takes_len s side
  have hg := hT.lt
  obtain ⟨i0, hi, hz0, hz1, hz2⟩ := info_parts info_move
  have HL := Lib.hid hl
  have HN := Lib.hid hn
  clear hl hn
  refine callsIn_of_wp_marks Tryz.func217 rfl trivial ?_ hro
  simp only [Tryz.ntmps217, List.size_toArray, List.length_cons, List.length_nil, Nat.reduceAdd, Nat.reduceSub, Array.replicate_succ, Array.replicate_zero, List.push_toArray, List.append_toArray, List.nil_append, List.cons_append]
  have hbA := below_new w (.cells #[.slice none 0 0] 24)
  have bO : Boxed (w.alloc (.cells #[.slice none 0 0] 24)) w.heap.size 24 (.slice none 0 0) := Boxed.new w 24 (.slice none 0 0)
  have hTA := hT.next hbA
  gi_wp2_with (first
    | (refine ⟨trivial, ?_⟩; gi_at_call 246; refine (callsIn_wide.2 (gother_k side _)).mono ?_; rintro e w' ⟨k, rfl, hko, rfl⟩)
    | (refine ⟨trivial, ?_⟩; gi_at_call 182; refine (callsIn_wide.2 (pieces_n s k _ _ hTA rfl)).mono ?_; rintro e w2 ⟨A, c, rfl, hown, hb⟩)
    | (refine ⟨trivial, ?_⟩; gi_at_call 245; refine (callsIn_wide.2 (gmoves_is s side A _ c _)).mono ?_; rintro e w3 ⟨rfl, rfl⟩))
  have hsz2 : w.heap.size + 1 ≤ w2.heap.size := by
    have := hb.size
    rw [World.size_alloc] at this
    exact this
  have hk2 : Below w.heap.size w w2 := hbA.trans (hb.mono hbA.size)
  obtain ⟨W0, hW0⟩ : ∃ W0, ((w2.alloc (.cells #[.string s] 9)).alloc (.cells #[.int .i64 side] 3)).alloc (.cells #[.slice A (ownL s k).length c] 152) = W0 := ⟨_, rfl⟩
  have hb20 : Below w2.heap.size w2 W0 := by rw [← hW0]; exact (by repeat (first | exact Below.refl _ _ | (refine Below.setCell ?_ (by first | omega | (simp; done) | (simp; omega) | (simp at *; omega)) _) | (refine Below.alloc ?_ (by first | omega | (simp; done) | (simp; omega) | (simp at *; omega)) _) | refine Below.drew ?_ | (refine below_drewN ?_ _) | (refine Below.trans ?_ (Below.mono (by assumption) (by first | omega | (simp; done) | (simp; omega) | (simp at *; omega))))))
  have hsz0 : W0.heap.size = w2.heap.size + 1 + 1 + 1 := by rw [← hW0]; simp
  have bc : Blk W0 w2.heap.size 9 #[.string s] := by rw [← hW0]; exact ((Blk.new _ _ _ rfl).alloc _).alloc _
  have bs : Blk W0 (w2.heap.size + 1) 3 #[.int .i64 side] := by rw [← hW0]; exact (Blk.new _ _ _ (by simp)).alloc _
  have bg : Blk W0 (w2.heap.size + 1 + 1) 152 #[.slice A (ownL s k).length c] := by rw [← hW0]; exact Blk.new _ _ _ (by simp)
  have hB0 : Below w.heap.size w W0 := hk2.trans (hb20.mono (by omega))
  have bT : Boxed W0 w.heap.size 24 (.slice none 0 0) := by
    have h1 : w2.heap[w.heap.size]? = _ := (hb.block w.heap.size (by simp)).trans bO
    exact (hb20.block w.heap.size (by omega)).trans h1
  have hM : MovesAt W0 w2.heap.size w.heap.size W0.heap.size s side A (ownL s k) c := by
    refine ⟨bc, bs, bg, (Rd.owns hown).next hb20, fun ad e => ?_, hT.below hB0 hg, by omega, by omega, hg⟩
    rcases hown.2 with ⟨e0, _⟩ | ⟨g', cap, cur, e1, hge, hc, _⟩
    · injection e0 with e0
      rw [e0] at e
      cases e
    · injection e1 with e1
      rw [e1] at e
      cases e
      have := (Array.getElem?_eq_some_iff.1 hc).1
      rw [World.size_alloc] at hge
      exact ⟨by show g' < _; omega, by show g' ≠ _; omega⟩
  have HGO : Hid (goL s side (ownL s k) = l) := by
    show _ = _
    rw [go_takes s side k hko, HL.out]
  have hg90 : ∀ b ∈ ownL s k, b < 90 := fun b hb => by
    obtain ⟨j, hj, rfl⟩ := List.mem_iff_getElem.1 hb
    exact (ownL_at hj).2
  have hgl : (ownL s k).length ≤ 1000000 := Nat.le_trans (ownL_len s k) (by decide)
  rw [hW0]
  refine wpIn_rangeFunc_ownH hro (by decide) (gf := 271) (lb := #[.pointer (some ⟨w2.heap.size, 0, none⟩), .pointer (some ⟨w2.heap.size + 1, 0, none⟩), .pointer (some ⟨w2.heap.size + 1 + 1, 0, none⟩)]) rfl trivial (enters_of Tryz.func271 (by kernel_rfl) rfl)
    (moves_stops 4 (by decide) w2.heap.size w.heap.size W0.heap.size s side A (ownL s k) c W0 hM hg90 hgl (Nat.le_refl _)) KeptT.trans KeptT.put (Below.refl _ _) (fun _ => rfl)
    (fun pre W => (∃ v, Boxed W w.heap.size 24 v ∧ W.ownsRow W0.heap.size 54 2 v pre.length (mvs pre) ∧ True) ∧ (Below w.heap.size w W ∧ W0.heap.size ≤ W.heap.size))
    (fun _ _ _ => False)
    (OwnFrom.and (Own.from (holdsRow_own W0.heap.size w.heap.size 24 54 2 (fun pre => pre.length) (fun pre => mvs pre) (fun _ _ => True)) _) (OwnFrom.and (ownFrom_below (Nat.le_refl _) (by omega)) (fun _ _ _ _ hs hgr _ => Nat.le_trans hs hgr.size)))
    (fun _ _ _ _ _ hs _ _ => hs)
    ⟨⟨_, bT, by simpa [mvs] using World.ownsRow_nil W0 W0.heap.size 54 2, trivial⟩, hB0, Nat.le_refl _⟩
    (fun x a' W => ∃ g, Blk W g 54 #[.int .i64 (x.1 : Int), .int .i64 (x.2 : Int)] ∧ a' = { tmps := #[.string s, .int .i64 side, undef, undef, .slice none 0 0, .pointer (some ⟨w.heap.size, 0, none⟩), .pointer (some ⟨g, 0, none⟩), .string s, .int .i64 side, .string s, .int .i64 side, .int .i64 k, .slice A (ownL s k).length c, .func (.func 271) #[] #[.pointer (some ⟨w2.heap.size, 0, none⟩), .pointer (some ⟨w2.heap.size + 1, 0, none⟩), .pointer (some ⟨w2.heap.size + 1 + 1, 0, none⟩)], mvv x, undef, undef, undef, undef, undef], defers := [] })
    (fun x a' _ W W' row ⟨g, hb, e⟩ hgr hr => ⟨g, (hgr.block g hb.lt fun e' => by
      obtain ⟨_, o, ho, hc⟩ := hr g e'.symm
      rw [show W.heap[g]? = _ from hb] at ho
      cases ho
      cases hc).trans hb, e⟩) ?assign ?body ?done ?stop
  case assign =>
    rintro l' pre ⟨x, y⟩ W K ⟨⟨v, hv, hrow, _⟩, hB, hBW⟩ hK
    have hbm := below_new W (.cells #[.int .i64 (x : Int), .int .i64 (y : Int)] 54)
    gi_wp2
    exact hK _ _ ((KeepsOthers.alloc _ _).from _) (KeptT.next hBW hbm) ⟨⟨v, hv.alloc _, hrow.alloc _, trivial⟩, hB.trans (hbm.mono hB.size), Nat.le_trans hBW hbm.size⟩ ⟨W.heap.size, Blk.new _ _ _ rfl, rfl⟩
  case body =>
    rintro l' pre ⟨x, y⟩ a' W hl' hr' ⟨⟨v, hv, hrow, _⟩, hB, hBW⟩ ⟨g, bM, rfl⟩ hlt
    have hc := hv.cell
    have e0 : W.cell? ⟨g, 0, none⟩ = some (.int .i64 (x : Int)) := bM.cell 0
    have e1 : W.cell? ⟨g, 1, none⟩ = some (.int .i64 (y : Int)) := bM.cell 1
    have hlt2 : pre.length < 8100 := by
      rw [HGO.out] at hlt
      omega
    have hKT : ∀ w1, (W.alloc (.cells #[.int .i64 (x : Int), .int .i64 (y : Int)] 54)).grownBy w1 v.ownBlock → ∀ v', KeptT w.heap.size W0.heap.size W (w1.setCell ⟨w.heap.size, 0, none⟩ v') := fun w1 h v' => kept_row hBW hrow (by omega) h v'
    have hTW : w.heap.size ≤ W0.heap.size := by omega
    clear hM bc bs bg hown hW0 bT bO hb hb20 bM hr'
    gi_wp2_with (gi_at_builtin; refine wpListIn_append_own _ rfl _ _ 24 rfl W0.heap.size 54 i0 (.agg #[.int .i64 0, .int .i64 0]) 2 16 Tryz.underlying24 hi hz0 hz1 hz2 rfl (by decide) _ _ _ rfl (hrow.alloc _) ⟨W.heap.size, 0, none⟩ 1 1 [iv x, iv y] rfl rfl (cells_two_new _ _ _ _) (by simp [Value.oneCell']) (by unfold maxLen; omega) (by omega) (by simp; omega) ?_; intro v' w1 hown' hgrow _; obtain ⟨g', cap', rfl⟩ := ownsRow_succ hown'; obtain ⟨hv1, hv2, _, hk2', hb2⟩ := hv.appended (by decide) (own_mono hrow hTW) hB.size (Nat.le_refl _) (own_mono hown' hTW) hgrow; have hr2 := hown'.kept (grownBy_setCell' w1 w.heap.size (.slice (some ⟨g', 0, none⟩) (pre.length + 1) cap')) (.inr (hv1.not_row (by decide) hown').symm); have hc1 := hv1.cell; have hf1 := hv1.frozen)
    exact ⟨hk2'.from _, hKT _ hgrow _, ⟨_, hv2, by rw [mvs_app, List.length_append]; exact hr2, trivial⟩, hB.trans hb2, Nat.le_trans hBW hb2.size⟩
  case done =>
    rintro D ys W hD rfl ⟨⟨v, hv, hrow, _⟩, hB, hBW⟩ hK
    have hc := hv.cell
    rw [HGO.out, HN.out] at hrow
    gi_wp2
    refine ⟨by simp, .inl ⟨_, _, rfl, run_takeDeferred hK, ?_⟩⟩
    exact ⟨_, results_tmp rfl _ _ _, v, rfl, ownsRow_putObj (own_mono hrow (by omega)) _ hK rfl, hB.trans (belowK_b (w := w) (Nat.le_refl _) W D _ _ (by omega) hK rfl rfl)⟩
  case stop =>
    rintro D c' pre W _ _ h _
    exact h.elim
end Go.Proofs.YtpogpjebhnoncaaGreatDoor
namespace Go.Proofs.YtpogpjebhnoncaaGreatDoor
open Go.RowKit Go.Shelf
open M (S)
attribute [local go_sem] Oper.semAt_some
theorem guard_side {s : ByteArray} {a b : Int} (h : couldI s (sideN (atB s a)) a b = true) : isB s = true ∧ (0 ≤ a ∧ a < 90) ∧ (0 ≤ b ∧ b < 90) ∧ atB s a = bAt s a.toNat ∧ couldB s (sideN (bAt s a.toNat)) a.toNat b.toNat = true := by
  obtain ⟨h1, h2, h3, h4⟩ := couldI_parts h
  have e : atB s a = bAt s a.toNat := by
    unfold atB
    rw [if_pos ⟨h1, sqI_true h2⟩]
  rw [e] at h4
  exact ⟨h1, h2, h3, e, h4⟩
theorem guard_none {s : ByteArray} {a b : Int} (h : couldI s (sideN (atB s a)) a b = false) : guardI s a b = false := by
  cases e : guardI s a b
  · rfl
  · have h1 := guardI_could e
    obtain ⟨g1, g2, _, _⟩ := couldI_parts h1
    have e2 : atB s a = bAt s a.toNat := by
      unfold atB
      rw [if_pos ⟨g1, sqI_true g2⟩]
    rw [e2, h1] at h
    cases h
theorem go_one (s : ByteArray) (side : Int) (b n : Nat) : goG s side [b] n = if couldB s side n b then [(n, b)] else [] := by
  unfold goG
  cases h : couldB s side n b <;> simp [h]
theorem go_again {q : ByteArray} (hq : isB q = true) {z : Int} (hz : 0 ≤ z) (b : Nat) : againB q z b = !(goL q z [b]).isEmpty := by
  rw [gone_one hz]
  unfold goL ownL
  rw [if_pos hq]
  generalize ownN q z = l
  induction l with
  | nil => rfl
  | cons x r ih =>
    rw [List.any_cons, List.flatMap_cons, ih, go_one]
    cases couldB q z x b <;> simp
set_option maxRecDepth 100000 in
set_option maxHeartbeats 4000000 in
theorem gguard_no (s : ByteArray) (a b : Int) (c : Nat) (y : Int) (w : World) (hT : Tab w) (hc : atB s a = c) (hy : sideN c = y) (h : couldI s y a b = false) : Calls Tryz.prog 284 #[.string s, .agg #[.int .i64 a, .int .i64 b]] w (Gives w (.bool false)) := by
  unfold Gives
  obtain ⟨W0, hW0⟩ : ∃ W0, (w.alloc (.cells #[.int .i64 a, .int .i64 b] 54)).alloc (.cells #[.bool false] 4) = W0 := ⟨_, rfl⟩
  have hB : Below w.heap.size w W0 := by rw [← hW0]; exact (by repeat (first | exact Below.refl _ _ | (refine Below.setCell ?_ (by first | omega | (simp; done) | (simp; omega) | (simp at *; omega)) _) | (refine Below.alloc ?_ (by first | omega | (simp; done) | (simp; omega) | (simp at *; omega)) _) | refine Below.drew ?_ | (refine below_drewN ?_ _) | (refine Below.trans ?_ (Below.mono (by assumption) (by first | omega | (simp; done) | (simp; omega) | (simp at *; omega))))))
  have bM : Blk W0 w.heap.size 54 #[.int .i64 a, .int .i64 b] := by rw [← hW0]; exact (Blk.new _ _ _ rfl).alloc _
  have bR : Blk W0 (w.heap.size + 1) 4 #[.bool false] := by rw [← hW0]; exact Blk.new _ _ _ (by simp)
  have m0 : W0.cell? ⟨w.heap.size, 0, none⟩ = some (.int .i64 a) := bM.cell 0
  have m1 : W0.cell? ⟨w.heap.size, 1, none⟩ = some (.int .i64 b) := bM.cell 1
  have hT0 := hT.below hB hT.lt
  have HW := Lib.hid hW0
  have HC := Lib.hid hc
  have HY := Lib.hid hy
  have HN := Lib.hid h
  clear hW0 hc hy h
  go_enter Tryz.func284, Tryz.ntmps284
  go_wp2_with fail
  rw [HW.out]
  refine (at_is s a c _ HC.out).mono ?_
  rintro e w1 ⟨rfl, rfl⟩
  go_wp2_with fail
  refine (side_is c y _ HY.out).mono ?_
  rintro e w1 ⟨rfl, rfl⟩
  go_wp2_with fail
  refine (gcan_is s y a b false _ hT0 HN.out).mono ?_
  rintro e w2 ⟨rfl, hb⟩
  have bR2 := bR.next hb
  have r0 : w2.cell? ⟨w.heap.size + 1, 0, none⟩ = some (.bool false) := bR2.cell 0
  have f0 := bR2.frozen 0
  have hB2 := hB.trans (hb.mono hB.size)
  clear m0 m1
  go_wp2
  have bR3 := bR2.set_ 0 (.bool false)
  exact bodyPost_ret (v := .bool false) (by simp [results, Tryz.results284, go_sem, bR3.cell 0]) rfl ⟨rfl, hB2.setCell (p := ⟨w.heap.size + 1, 0, none⟩) (by simp) _⟩
theorem gother_g (side k : Int) (w : World) (h0 : 0 ≤ side) (h1 : side ≤ 1) (hk : 1 - side = k) : Calls Tryz.prog 246 #[.int .i64 side] w (Gives w (.int .i64 k)) := (gother_is side k w h0 h1 hk).mono fun _ _ ⟨a, b⟩ => ⟨a, b ▸ Below.refl _ _⟩
theorem hide_calm {F : Fence} {n : Nat} {P : Program} {c : Code} {Q : Exit → Act → World → Prop} {a : Act} {w : World} (h : ∀ Q' : Exit → Act → World → Prop, (∀ e a w, (∀ x, e ≠ .panic x) → Q e a w → Q' e a w) → (∀ x a w, ¬ Q' (.panic x) a w) → c.wpIn F n P Q' a w) : c.wpIn F n P Q a w :=
  wpIn_mono (h (fun e a w => (∀ x, e ≠ .panic x) ∧ Q e a w) (fun _ _ _ h1 h2 => ⟨h1, h2⟩) (fun x _ _ h => h.1 x rfl)) fun _ _ _ h => h.2
structure Laid3 (w w' : World) (q : ByteArray) (z : Int) (A : Option Addr) (n c : Nat) : Prop where
  hb : Below w.heap.size w w'
  bc : Blk w' w.heap.size 9 #[.string q]
  bs : Blk w' (w.heap.size + 1) 3 #[.int .i64 z]
  bg : Blk w' (w.heap.size + 1 + 1) 152 #[.slice A n c]
  sz : w'.heap.size = w.heap.size + 1 + 1 + 1
theorem moves_laid {w4 w5 : World} {q : ByteArray} {z : Int} {g b T : Nat} (hl : Laid3 w4 w5 q z (some ⟨g, 0, none⟩) 1 1) (bG : Blk w5 g 3 #[.int .i64 (b : Int)]) (bR : Blk w5 T 4 #[.bool false]) (hT : Tab w5) (hTl : T < w4.heap.size) (hg : 1 < T) : MovesAt w5 w4.heap.size T w5.heap.size q z (some ⟨g, 0, none⟩) [b] 1 := by
  have hs := hl.sz
  refine ⟨hl.bc, hl.bs, hl.bg, rd_lit (xs := [(b : Int)]) bG, fun ad e => ?_, hT, hTl, by omega, hg⟩
  cases e
  refine ⟨bG.lt, ?_⟩
  rintro rfl
  have h := bR.symm.trans bG
  injection h with h
  injection h with _ h2 _
  exact absurd h2 (by decide)
theorem wpIn_rangeFunc_skip {α : Type} {F : Fence} {n : Nat} {P : Program} {g : Operand} {ps : Array Tmp} {body : Code} {Q : Exit → Act → World → Prop} {a : Act} {w : World}
    (hro : F.round = none) (h1 : 1 ≤ n) {gf : Nat} {lb : Array Value} (hg : a.eval g = .func (.func gf) #[] lb) (hFg : F.fn gf) (eg : ∀ args w, (callFunc gf args).run P w = .ok (.enter gf args) w)
    {encs : α → Array Value} {Kp : World → World → Prop} {S Sp : List α → Prop} {N : Nat} {w0 : World} (hseq : SeqStopsK F (n - 1) P gf lb encs Kp S Sp N w0)
    (hKt : ∀ {A B C : World}, Kp A B → Kp B C → Kp A C) (hKb : ∀ (W : World) (l : Nat) (o o' : Obj), w.heap.size ≤ l → W.heap[l]? = some o → o.isCells = false → o.isWalk = false → Kp W (W.putObj l o')) (hb0 : Below w0.heap.size w0 w) (hps : ∀ x, (encs x).size = ps.size)
    (I : List α → World → Prop) (Ix : Code → List α → World → Prop) (hI : OwnFrom w.heap.size I) (hIx : ∀ c, OwnFrom w.heap.size (Ix c)) (h0 : I [] w)
    (hbody : ∀ (l : Nat) (pre : List α) (x : α) (W : World), I pre W → pre.length < N → body.wpIn (F.inRound l) (n - 1 - 1) P (ownPostG w.heap.size Kp I Ix (pre ++ [x]) W) { tmps := (ps.zip (encs x)).foldl (fun t (p, v) => t.setIfInBounds p v) a.tmps, defers := [] } W)
    (hdone : ∀ (D : Nat) (xs : List α) (W : World), w.heap.size ≤ D → S xs → I xs W → W.heap[D]? = some (.deferred (some [])) → Q .normal { a with defers := { target := .collected D, args := #[] } :: a.defers } W)
    (hstop : ∀ (D : Nat) (c : Code) (pre : List α) (W : World), w.heap.size ≤ D → Sp pre → Ix c pre W → W.heap[D]? = some (.deferred (some [])) → c.wpIn F n P Q { a with defers := { target := .collected D, args := #[] } :: a.defers } W) :
    (Code.rangeFunc g ps .skip body).wpIn F n P Q a w :=
  wpIn_rangeFunc_ownG hro h1 hg hFg eg hseq (fun h k => hKt h k) hKb hb0 hps I Ix hI hIx h0 (fun x => { tmps := (ps.zip (encs x)).foldl (fun t (p, v) => t.setIfInBounds p v) a.tmps, defers := [] }) (fun _ _ _ _ hK => wpIn_skip hK) hbody hdone hstop
theorem gmoves_at (q : ByteArray) (z : Int) (A : Option Addr) (n c : Nat) (w : World) : Calls Tryz.prog 245 #[.string q, .int .i64 z, .slice A n c] w fun e w' => e = .returned (.func (.func 271) #[] #[.pointer (some ⟨w.heap.size, 0, none⟩), .pointer (some ⟨w.heap.size + 1, 0, none⟩), .pointer (some ⟨w.heap.size + 1 + 1, 0, none⟩)]) ∧ Laid3 w w' q z A n c := by
  refine (gmoves_is q z A n c w).mono ?_
  rintro e w' ⟨rfl, rfl⟩
  exact ⟨rfl, ⟨(by repeat (first | exact Below.refl _ _ | (refine Below.setCell ?_ (by first | omega | (simp; done) | (simp; omega) | (simp at *; omega)) _) | (refine Below.alloc ?_ (by first | omega | (simp; done) | (simp; omega) | (simp at *; omega)) _) | refine Below.drew ?_ | (refine below_drewN ?_ _) | (refine Below.trans ?_ (Below.mono (by assumption) (by first | omega | (simp; done) | (simp; omega) | (simp at *; omega)))))), ((Blk.new _ _ _ rfl).alloc _).alloc _, (Blk.new _ _ _ (by simp)).alloc _, Blk.new _ _ _ (by simp), by simp⟩⟩
theorem goal_new {w W : World} {g b : Nat} {p0 p1 : Value} (_ : W.cell? ⟨g, 0, none⟩ = some p0 ∧ W.cell? ⟨g, 1, none⟩ = some p1 ∧ Below w.heap.size w W) : Blk (W.alloc (.cells #[.int .i64 (b : Int)] 3)) W.heap.size 3 #[.int .i64 (b : Int)] := Blk.new _ _ _ rfl
theorem goal_keep {w W : World} {g : Nat} {p0 p1 : Value} {o : Obj} (h : W.cell? ⟨g, 0, none⟩ = some p0 ∧ W.cell? ⟨g, 1, none⟩ = some p1 ∧ Below w.heap.size w W) : (W.alloc o).cell? ⟨g, 0, none⟩ = some p0 ∧ (W.alloc o).cell? ⟨g, 1, none⟩ = some p1 ∧ Below w.heap.size w (W.alloc o) := mv2_keep h (below_new W o)
set_option maxRecDepth 100000 in
set_option maxHeartbeats 8000000 in
theorem gguard_in (s q : ByteArray) (a b c : Nat) (y z : Int) (v : Bool) (w : World) (hT : Tab w) (hs : isB s = true) (ha : a < 90) (hb9 : b < 90) (hc : atB s (a : Int) = c) (hy : sideN c = y) (h : couldI s y (a : Int) (b : Int) = true) (hy0 : 0 ≤ y) (hy1 : y ≤ 1) (hz : 1 - y = z) (hq : behindS s (a, b) = q) (hqb : isB q = true) (hv : againB q z b = v) :
    CallsIn Fence.wide 5 Tryz.prog 284 #[.string s, .agg #[.int .i64 (a : Int), .int .i64 (b : Int)]] w fun e W' => e = .returned (.bool v) ∧ Below w.heap.size w W' := by
  have hro : Fence.wide.round = none := rfl
  have hg := hT.lt
  obtain ⟨W0, hW0⟩ : ∃ W0, (w.alloc (.cells #[.int .i64 (a : Int), .int .i64 (b : Int)] 54)).alloc (.cells #[.bool false] 4) = W0 := ⟨_, rfl⟩
  have hB : Below w.heap.size w W0 := by rw [← hW0]; exact (by repeat (first | exact Below.refl _ _ | (refine Below.setCell ?_ (by first | omega | (simp; done) | (simp; omega) | (simp at *; omega)) _) | (refine Below.alloc ?_ (by first | omega | (simp; done) | (simp; omega) | (simp at *; omega)) _) | refine Below.drew ?_ | (refine below_drewN ?_ _) | (refine Below.trans ?_ (Below.mono (by assumption) (by first | omega | (simp; done) | (simp; omega) | (simp at *; omega))))))
  have bM : Blk W0 w.heap.size 54 #[.int .i64 (a : Int), .int .i64 (b : Int)] := by rw [← hW0]; exact (Blk.new _ _ _ rfl).alloc _
  have bR : Blk W0 (w.heap.size + 1) 4 #[.bool false] := by rw [← hW0]; exact Blk.new _ _ _ (by simp)
  have m0 : W0.cell? ⟨w.heap.size, 0, none⟩ = some (.int .i64 (a : Int)) := bM.cell 0
  have m1 : W0.cell? ⟨w.heap.size, 1, none⟩ = some (.int .i64 (b : Int)) := bM.cell 1
  have hsz0 : W0.heap.size = w.heap.size + 1 + 1 := by rw [← hW0]; simp
  have hT0 := hT.below hB hT.lt
  have HW := Lib.hid hW0
  have HC := Lib.hid hc
  have HY := Lib.hid hy
  have HN := Lib.hid h
  have HZ := Lib.hid hz
  have HS0 := Lib.hid hsz0
  have HMV := Lib.hid (fun W => gmoved_is s q a b W hs ha hb9 hq)
  have HV : Hid ((!(goL q z [b]).isEmpty) = v) := by
    show _ = _
    rw [← go_again hqb (by omega), hv]
  clear hW0 hc hy h hz hq hs hv hsz0
  refine callsIn_of_wp_marks Tryz.func284 rfl trivial ?_ hro
  simp only [Tryz.ntmps284, List.size_toArray, List.length_cons, List.length_nil, Nat.reduceAdd, Nat.reduceSub, Array.replicate_succ, Array.replicate_zero, List.push_toArray, List.append_toArray, List.nil_append, List.cons_append]
  refine hide_calm fun Q hQ hpn => ?_
  gi_wp2_with (first
    | (refine ⟨trivial, ?_⟩; gi_at_call 247; rw [HW.out]; refine (callsIn_wide.2 (at_is s _ c _ HC.out)).mono ?_; rintro e w1 ⟨rfl, rfl⟩)
    | (refine ⟨trivial, ?_⟩; gi_at_call 185; refine (callsIn_wide.2 (side_is c y _ HY.out)).mono ?_; rintro e w1 ⟨rfl, rfl⟩)
    | (refine ⟨trivial, ?_⟩; gi_at_call 272; refine (callsIn_wide.2 (gcan_is s y a b true _ hT0 HN.out)).mono ?_; rintro e w2 ⟨rfl, hb⟩))
  have hB2 := hB.trans (hb.mono hB.size)
  have hS : w2.drew.cell? ⟨w.heap.size, 0, none⟩ = some (.int .i64 (a : Int)) ∧ w2.drew.cell? ⟨w.heap.size, 1, none⟩ = some (.int .i64 (b : Int)) ∧ Below w.heap.size w w2.drew := ⟨(bM.next hb).cell 0, (bM.next hb).cell 1, hB2.drew⟩
  have bR2 : Blk w2.drew (w.heap.size + 1) 4 #[.bool false] := (bR.next hb).next (Below.refl _ _).drew
  clear m0 m1 bM bR hB hT0
  refine wpIn_wide.2 ?_
  refine wp_region_held_drew (S := fun W => W.cell? ⟨w.heap.size, 0, none⟩ = some (.int .i64 (a : Int)) ∧ W.cell? ⟨w.heap.size, 1, none⟩ = some (.int .i64 (b : Int)) ∧ Below w.heap.size w W) (by kernel_rfl) (hS) (fun hHeld => ?_)
  refine wpAnyH_take (i := 0) (oi := { dst := some 16, op := Op.move (Operand.tmp 0), type := 9, pos := "guard.go:30", after := #[], guard := none }) (v := ?_) rfl (by kernel_rfl) (by kernel_rfl) (by kernel_rfl) (fun _ _ _ h => (hpn _ _ _ h).elim) (Or.inl ⟨by rfl, ?_⟩) (by assumption) ?_
  case refine_2 =>
    intro w hSw
    (try dsimp only at hSw)
    (try go_simp)
    all_goals (with_reducible rfl)
  (try dsimp only [Act.put]); (try simp only [List.setIfInBounds_toArray, List.set_cons_zero, List.set_cons_succ])
  refine wpAnyH_take (i := 1) (oi := { dst := some 17, op := Op.load 54 (Operand.tmp 3), type := 54, pos := "guard.go:30", after := #[], guard := none }) (v := ?_) rfl (by kernel_rfl) (by kernel_rfl) (by kernel_rfl) (fun _ _ _ h => (hpn _ _ _ h).elim) (Or.inl ⟨by rfl, ?_⟩) (by assumption) ?_
  case refine_2 =>
    intro w hSw
    (try dsimp only at hSw)
    (try go_simp)
    all_goals (with_reducible rfl)
  (try dsimp only [Act.put]); (try simp only [List.setIfInBounds_toArray, List.set_cons_zero, List.set_cons_succ])
  refine wpAnyH_take (i := 3) (oi := { dst := some 19, op := Op.move (Operand.tmp 5), type := 3, pos := "guard.go:30", after := #[], guard := none }) (v := ?_) rfl (by kernel_rfl) (by kernel_rfl) (by kernel_rfl) (fun _ _ _ h => (hpn _ _ _ h).elim) (Or.inl ⟨by rfl, ?_⟩) (by assumption) ?_
  case refine_2 =>
    intro w hSw
    (try dsimp only at hSw)
    (try go_simp)
    all_goals (with_reducible rfl)
  (try dsimp only [Act.put]); (try simp only [List.setIfInBounds_toArray, List.set_cons_zero, List.set_cons_succ])
  refine wpAnyH_take (i := 5) (oi := { dst := some 21, op := Op.fieldAddr 54 (Operand.tmp 3) 1, type := 0, pos := "guard.go:30", after := #[], guard := none }) (v := ?_) rfl (by kernel_rfl) (by kernel_rfl) (by kernel_rfl) (fun _ _ _ h => (hpn _ _ _ h).elim) (Or.inl ⟨by rfl, ?_⟩) (by assumption) ?_
  case refine_2 =>
    intro w hSw
    (try dsimp only at hSw)
    (try go_simp)
    all_goals (with_reducible rfl)
  (try dsimp only [Act.put]); (try simp only [List.setIfInBounds_toArray, List.set_cons_zero, List.set_cons_succ])
  refine wpAnyH_take (i := 6) (oi := { dst := some 22, op := Op.load 3 (Operand.tmp 21), type := 3, pos := "guard.go:30", after := #[{ on := 5, ground := Ground.data }], guard := none }) (v := ?_) rfl (by kernel_rfl) (by kernel_rfl) (by kernel_rfl) (fun _ _ _ h => (hpn _ _ _ h).elim) (Or.inl ⟨by rfl, ?_⟩) (by assumption) ?_
  case refine_2 =>
    intro w hSw
    (try dsimp only at hSw)
    (try go_simp)
    all_goals (with_reducible rfl)
  (try dsimp only [Act.put]); (try simp only [List.setIfInBounds_toArray, List.set_cons_zero, List.set_cons_succ])
  refine wpAnyH_ready (rs := [2, 7]) (by kernel_rfl) (by simp) (AllReadyH.cons (o := { dst := some 18, op := Op.call { callee := Callee.value (Operand.func 283), args := #[Operand.tmp 16, Operand.tmp 17], argTypes := #[9, 54] }, type := 9, pos := "guard.go:30", after := #[{ on := 0, ground := Ground.data }, { on := 1, ground := Ground.data }], guard := none }) rfl (fun K hK => ?rd1) (AllReadyH.cons (o := { dst := some 23, op := Op.buildSlice 152 1 #[(0, Operand.tmp 22)], type := 152, pos := "guard.go:30", after := #[{ on := 6, ground := Ground.data }], guard := none }) rfl (fun K hK => ?rd2) AllReadyH.nil))
  case' rd1 =>
    go_simp
    refine (HMV.out _).mono ?_; rintro e w3 ⟨rfl, hb⟩; replace bR2 := bR2.next hb; (try replace bG := bG.next hb)
    refine hK.out _ _ ?_ (fun hHeld => ?_)
    · exact mv2_keep hHeld hb
    clear hK K
    refine wpAnyH_ready (rs := [4, 7]) (by kernel_rfl) (by simp) (AllReadyH.cons (o := { dst := some 20, op := Op.call { callee := Callee.value (Operand.func 246), args := #[Operand.tmp 19], argTypes := #[3] }, type := 3, pos := "guard.go:30", after := #[{ on := 3, ground := Ground.data }, { on := 2, ground := Ground.chain }], guard := none }) rfl (fun K hK => ?rd3) (AllReadyH.cons (o := { dst := some 23, op := Op.buildSlice 152 1 #[(0, Operand.tmp 22)], type := 152, pos := "guard.go:30", after := #[{ on := 6, ground := Ground.data }], guard := none }) rfl (fun K hK => ?rd4) AllReadyH.nil))
    case' rd3 =>
      go_simp
      refine (gother_g y z _ hy0 hy1 HZ.out).mono ?_; rintro e w4 ⟨rfl, hb⟩; replace bR2 := bR2.next hb; (try replace bG := bG.next hb)
      refine hK.out _ _ ?_ (fun hHeld => ?_)
      · exact mv2_keep hHeld hb
      clear hK K
      refine wpAnyH_ready (rs := [7]) (by kernel_rfl) (by simp) (AllReadyH.cons (o := { dst := some 23, op := Op.buildSlice 152 1 #[(0, Operand.tmp 22)], type := 152, pos := "guard.go:30", after := #[{ on := 6, ground := Ground.data }], guard := none }) rfl (fun K hK => ?_) AllReadyH.nil)
      go_simp; have bG := goal_new (b := b) hHeld; replace bR2 := bR2.next (below_new _ (.cells #[.int .i64 (b : Int)] 3))
      refine hK.out _ _ ?_ (fun hHeld => ?_)
      · exact goal_keep hHeld
      clear hK K
      (try dsimp only [Act.put]); (try simp only [List.setIfInBounds_toArray, List.set_cons_zero, List.set_cons_succ])
      refine wpAnyH_ready (rs := [8]) (by kernel_rfl) (by simp) (AllReadyH.cons (o := { dst := some 24, op := Op.call { callee := Callee.value (Operand.func 245), args := #[Operand.tmp 18, Operand.tmp 20, Operand.tmp 23], argTypes := #[9, 3, 152] }, type := 232, pos := "guard.go:30", after := #[{ on := 2, ground := Ground.data }, { on := 4, ground := Ground.data }, { on := 7, ground := Ground.data }, { on := 4, ground := Ground.chain }], guard := none }) rfl (fun K hK => ?_) AllReadyH.nil)
      go_simp
      refine (gmoves_at q z _ 1 1 _).mono ?_; rintro e w5 ⟨rfl, hl3⟩; have hb := hl3.hb; have hTl := bR2.lt; replace bR2 := bR2.next hb; have bG3 := bG.next hb
      refine hK.out _ _ ?_ (fun hHeld => ?_)
      · exact mv2_keep hHeld hb
      clear hK K
      refine wpAnyH_done (by kernel_rfl) ?_ _
    case' rd4 =>
      go_simp; have bG := goal_new (b := b) hHeld; replace bR2 := bR2.next (below_new _ (.cells #[.int .i64 (b : Int)] 3))
      refine hK.out _ _ ?_ (fun hHeld => ?_)
      · exact goal_keep hHeld
      clear hK K
      (try dsimp only [Act.put]); (try simp only [List.setIfInBounds_toArray, List.set_cons_zero, List.set_cons_succ])
      refine wpAnyH_ready (rs := [4]) (by kernel_rfl) (by simp) (AllReadyH.cons (o := { dst := some 20, op := Op.call { callee := Callee.value (Operand.func 246), args := #[Operand.tmp 19], argTypes := #[3] }, type := 3, pos := "guard.go:30", after := #[{ on := 3, ground := Ground.data }, { on := 2, ground := Ground.chain }], guard := none }) rfl (fun K hK => ?_) AllReadyH.nil)
      go_simp
      refine (gother_g y z _ hy0 hy1 HZ.out).mono ?_; rintro e w4 ⟨rfl, hb⟩; replace bR2 := bR2.next hb; (try replace bG := bG.next hb)
      refine hK.out _ _ ?_ (fun hHeld => ?_)
      · exact mv2_keep hHeld hb
      clear hK K
      refine wpAnyH_ready (rs := [8]) (by kernel_rfl) (by simp) (AllReadyH.cons (o := { dst := some 24, op := Op.call { callee := Callee.value (Operand.func 245), args := #[Operand.tmp 18, Operand.tmp 20, Operand.tmp 23], argTypes := #[9, 3, 152] }, type := 232, pos := "guard.go:30", after := #[{ on := 2, ground := Ground.data }, { on := 4, ground := Ground.data }, { on := 7, ground := Ground.data }, { on := 4, ground := Ground.chain }], guard := none }) rfl (fun K hK => ?_) AllReadyH.nil)
      go_simp
      refine (gmoves_at q z _ 1 1 _).mono ?_; rintro e w5 ⟨rfl, hl3⟩; have hb := hl3.hb; have hTl := bR2.lt; replace bR2 := bR2.next hb; have bG3 := bG.next hb
      refine hK.out _ _ ?_ (fun hHeld => ?_)
      · exact mv2_keep hHeld hb
      clear hK K
      refine wpAnyH_done (by kernel_rfl) ?_ _
  case' rd2 =>
    go_simp; have bG := goal_new (b := b) hHeld; replace bR2 := bR2.next (below_new _ (.cells #[.int .i64 (b : Int)] 3))
    refine hK.out _ _ ?_ (fun hHeld => ?_)
    · exact goal_keep hHeld
    clear hK K
    (try dsimp only [Act.put]); (try simp only [List.setIfInBounds_toArray, List.set_cons_zero, List.set_cons_succ])
    refine wpAnyH_ready (rs := [2]) (by kernel_rfl) (by simp) (AllReadyH.cons (o := { dst := some 18, op := Op.call { callee := Callee.value (Operand.func 283), args := #[Operand.tmp 16, Operand.tmp 17], argTypes := #[9, 54] }, type := 9, pos := "guard.go:30", after := #[{ on := 0, ground := Ground.data }, { on := 1, ground := Ground.data }], guard := none }) rfl (fun K hK => ?_) AllReadyH.nil)
    go_simp
    refine (HMV.out _).mono ?_; rintro e w3 ⟨rfl, hb⟩; replace bR2 := bR2.next hb; (try replace bG := bG.next hb)
    refine hK.out _ _ ?_ (fun hHeld => ?_)
    · exact mv2_keep hHeld hb
    clear hK K
    refine wpAnyH_ready (rs := [4]) (by kernel_rfl) (by simp) (AllReadyH.cons (o := { dst := some 20, op := Op.call { callee := Callee.value (Operand.func 246), args := #[Operand.tmp 19], argTypes := #[3] }, type := 3, pos := "guard.go:30", after := #[{ on := 3, ground := Ground.data }, { on := 2, ground := Ground.chain }], guard := none }) rfl (fun K hK => ?_) AllReadyH.nil)
    go_simp
    refine (gother_g y z _ hy0 hy1 HZ.out).mono ?_; rintro e w4 ⟨rfl, hb⟩; replace bR2 := bR2.next hb; (try replace bG := bG.next hb)
    refine hK.out _ _ ?_ (fun hHeld => ?_)
    · exact mv2_keep hHeld hb
    clear hK K
    refine wpAnyH_ready (rs := [8]) (by kernel_rfl) (by simp) (AllReadyH.cons (o := { dst := some 24, op := Op.call { callee := Callee.value (Operand.func 245), args := #[Operand.tmp 18, Operand.tmp 20, Operand.tmp 23], argTypes := #[9, 3, 152] }, type := 232, pos := "guard.go:30", after := #[{ on := 2, ground := Ground.data }, { on := 4, ground := Ground.data }, { on := 7, ground := Ground.data }, { on := 4, ground := Ground.chain }], guard := none }) rfl (fun K hK => ?_) AllReadyH.nil)
    go_simp
    refine (gmoves_at q z _ 1 1 _).mono ?_; rintro e w5 ⟨rfl, hl3⟩; have hb := hl3.hb; have hTl := bR2.lt; replace bR2 := bR2.next hb; have bG3 := bG.next hb
    refine hK.out _ _ ?_ (fun hHeld => ?_)
    · exact mv2_keep hHeld hb
    clear hK K
    refine wpAnyH_done (by kernel_rfl) ?_ _
  all_goals
    obtain ⟨_, _, hB5⟩ := hHeld
    have hM := moves_laid hl3 bG3 bR2 (hT.below hB5 hg) hTl (by omega)
    clear bG3 hS hb hB2 bG
    gi_wp2
    refine wpIn_rangeFunc_skip hro (by decide) (gf := 271) (lb := _) rfl trivial (enters_of Tryz.func271 (by kernel_rfl) rfl)
      (moves_stops 4 (by decide) _ (w.heap.size + 1) _ q z _ [b] 1 _ hM (by simp; omega) (by simp) (Nat.le_refl _)) KeptT.trans KeptT.put (Below.refl _ _) (fun _ => rfl)
      (fun pre W => pre = [] ∧ Blk W (w.heap.size + 1) 4 #[.bool false] ∧ Below w.heap.size w W)
      (fun c pre W => c = .ret ∧ Blk W (w.heap.size + 1) 4 #[.bool true] ∧ pre ≠ [] ∧ Below w.heap.size w W)
      (OwnFrom.and (ownFrom_pure _ _) (OwnFrom.and (Own.from (blk_own _ _ _) _) (ownFrom_below (Nat.le_refl _) hB5.size)))
      (fun c => OwnFrom.and (ownFrom_pure _ _) (OwnFrom.and (Own.from (blk_own _ _ _) _) (OwnFrom.and (ownFrom_pure _ _) (ownFrom_below (Nat.le_refl _) hB5.size))))
      ⟨rfl, bR2, hB5⟩ ?body ?done ?stop
    case body =>
      rintro l pre x W ⟨rfl, bR, hB⟩ hlt
      have f0 := bR.frozen 0
      have r0 : W.cell? ⟨w.heap.size + 1, 0, none⟩ = some (.bool false) := bR.cell 0
      gi_wp2
      exact ⟨(KeepsOthers.setCell _ _ _).from _, rfl, bR.set_ 0 (.bool true), by simp, hB.setCell (p := ⟨w.heap.size + 1, 0, none⟩) (by simp) _⟩
    case done =>
      rintro D ys W hD hys ⟨hn, bR, hB⟩ hK
      have f0 := bR.frozen 0
      have r0 : W.cell? ⟨w.heap.size + 1, 0, none⟩ = some (.bool false) := bR.cell 0
      have hfin : v = false := by
        rw [← HV.out, ← hys, hn]
        rfl
      have HF := Lib.hid hfin
      clear hfin hys hn
      gi_wp2
      refine hQ _ _ _ (fun x e => by cases e) ?_
      have hK2 := (KeepsOthers.setCell W ⟨w.heap.size + 1, 0, none⟩ (.bool false)).same D _ hK rfl
      have bR2 := (bR.set_ 0 (.bool false)).put (.deferred none) hK2 rfl
      refine ⟨by simp, .inl ⟨_, _, rfl, run_takeDeferred hK2, ?_⟩⟩
      refine ⟨.bool false, by simp [results, Tryz.results284, go_sem, bR2.cell 0], by rw [HF.out], ?_⟩
      exact (hB.setCell (p := ⟨w.heap.size + 1, 0, none⟩) (by simp) _).trans (belowK_b (w := w) (Nat.le_refl _) _ D _ _ (by have := hB5.size; omega) hK2 rfl rfl)
    case stop =>
      rintro D c pre W hD hpre ⟨rfl, bR, hne, hB⟩ hK
      have hfin : v = true := by
        rw [← HV.out]
        obtain ⟨r, hr⟩ := hpre
        rw [← hr]
        cases pre with
        | nil => exact absurd rfl hne
        | cons x p => rfl
      have HF := Lib.hid hfin
      clear hfin hpre hne
      have r0 : W.cell? ⟨w.heap.size + 1, 0, none⟩ = some (.bool true) := bR.cell 0
      gi_wp2
      refine hQ _ _ _ (fun x e => by cases e) ?_
      have bR2 := bR.put (.deferred none) hK rfl
      refine ⟨by simp, .inl ⟨_, _, rfl, run_takeDeferred hK, ?_⟩⟩
      refine ⟨.bool true, by simp [results, Tryz.results284, go_sem, bR2.cell 0], by rw [HF.out], ?_⟩
      exact hB.trans (belowK_b (w := w) (Nat.le_refl _) _ D _ _ (by have := hB5.size; omega) hK rfl rfl)
theorem gguard_any (s : ByteArray) (a b : Int) (w : World) (hT : Tab w) : Calls Tryz.prog 284 #[.string s, .agg #[.int .i64 a, .int .i64 b]] w (Gives w (.bool (guardI s a b))) := by
  cases h : couldI s (sideN (atB s a)) a b
  · rw [guard_none h]
    exact gguard_no s a b _ _ w hT rfl rfl h
  · obtain ⟨hs, ⟨a0, a1⟩, ⟨b0, b1⟩, he, hc⟩ := guard_side h
    obtain ⟨x, rfl⟩ : ∃ x : Nat, a = x := ⟨a.toNat, by omega⟩
    obtain ⟨y, rfl⟩ : ∃ y : Nat, b = y := ⟨b.toNat, by omega⟩
    simp only [Int.toNat_natCast] at he hc
    have hx : x < 90 := by omega
    have hy : y < 90 := by omega
    have hsd := could_sides hc
    have hv : guardI s (x : Int) (y : Int) = againB (behindS s (x, y)) (1 - sideN (bAt s x)) y := by
      rw [guardI_nat hs hx hy]
      unfold guardB
      rw [hc, Bool.true_and]
    rw [hv]
    refine callsIn_wide.1 (gguard_in s _ x y _ _ _ _ w hT hs hx hy he rfl ?_ (by omega) (by omega) rfl rfl (moved_board hs (bAt_lt s x) (isB_fill hs x hx)) rfl)
    rw [← he]
    exact h
theorem gguard_is (s : ByteArray) (a b : Int) (v : Bool) (w : World) (hT : Tab w) (h : guardI s a b = v) : Calls Tryz.prog 284 #[.string s, .agg #[.int .i64 a, .int .i64 b]] w (Gives w (.bool v)) := by subst h; exact gguard_any s a b w hT
theorem gtakes_is (s : ByteArray) (side : Int) (l : List (Nat × Nat)) (n : Nat) (w : World) (hT : Tab w) (hl : takesG s side = l) (hn : l.length = n) : Calls Tryz.prog 217 #[.string s, .int .i64 side] w (OwnM w l n) := callsIn_wide.1 (gtakes_in s side l n w hT hl hn)
end Go.Proofs.YtpogpjebhnoncaaGreatDoor
