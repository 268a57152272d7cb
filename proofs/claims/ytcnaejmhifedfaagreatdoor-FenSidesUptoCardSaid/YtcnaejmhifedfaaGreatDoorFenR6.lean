/- What the document's plain answers of layer 4 come to: a number. -/
import Derived.Test.YtcnaejmhifedfaaGreatDoorFenR5
namespace Go.Proofs.YtcnaejmhifedfaaGreatDoor
open Go.RowKit Go.Shelf
open M (S)
open Lib (decFrom digitVal)

/-- What Number answers. -/
def numV (t : List UInt8) : Value := match F.numL t with
  | some u => .tuple #[.int .i64 (u : Nat), .bool true]
  | none => .tuple #[.int .i64 0, .bool false]
theorem num_none {t : List UInt8} (h : t = [] ∨ 4 < t.length ∨ (t.head? = some 48 ∧ 1 < t.length)) : F.numL t = none := by rw [F.numL, if_pos h]
theorem num_some {t : List UInt8} (h : ¬ (t = [] ∨ 4 < t.length ∨ (t.head? = some 48 ∧ 1 < t.length))) : F.numL t = decFrom 0 t := by rw [F.numL, if_neg h]
theorem dec_none_app : ∀ (a b : List UInt8) (n : Nat), decFrom n a = none → decFrom n (a ++ b) = none
  | [], _, n, h => by cases h
  | c :: a, b, n, h => by
    rw [List.cons_append, decFrom]
    rw [decFrom] at h
    cases hc : digitVal c with
    | none => rfl
    | some d =>
      rw [hc] at h
      exact dec_none_app a b _ h
set_option maxHeartbeats 1000000 in
theorem rnum_bad (t : List UInt8) (w : World) (ht : t.length ≤ 1000) (h : t = [] ∨ 4 < t.length ∨ (t.head? = some 48 ∧ 1 < t.length)) : Calls Tryz.prog 20 #[.string (bs t)] w (Says w (.tuple #[.int .i64 0, .bool false])) := by
  unfold Says
  by_cases h0 : t = []
  · subst h0
    clear h
    rw [show bs [] = (⟨#[]⟩ : ByteArray) from rfl]
    go_enter Tryz.func20, Tryz.ntmps20
    go_wp2
    go_ret2
    exact ⟨rfl, rfl⟩
  · have hsz := bs_size t
    have hne : (bs t).toList.isEmpty = false := by
      rw [ByteArray.toList_eq, bs_data]
      simpa using h0
    have hp : 0 < t.length := List.length_pos_iff.2 h0
    have hat := byte_at (bs t) 0 (by omega)
    rw [bs_data, List.drop_zero] at hat
    have hb0 := bAt_eq (bs t) 0 (by omega)
    obtain ⟨x, hx⟩ : ∃ x, bAt (bs t) 0 = x := ⟨_, rfl⟩
    have hx256 : x < 256 := by rw [← hx]; exact bAt_lt _ _
    rw [hx] at hat hb0
    have hhead : t.head? = some (UInt8.ofNat x) := by rw [hat]; rfl
    obtain ⟨S, hS⟩ : ∃ S, bs t = S := ⟨_, rfl⟩
    have hS1 : 1 ≤ S.size := by rw [← hS]; omega
    have hbS : S[0].toNat = x := by
      have := hb0
      simp only [hS] at this
      exact this
    rw [hS] at hne ⊢
    by_cases h4 : 4 < t.length
    · have hz : 4 < S.size := by rw [← hS]; omega
      have hz' : decide (4 < S.size) = true := by simp; omega
      clear h hsz hat hb0 hx hhead hS h0 h4 ht hp hbS
      go_enter Tryz.func20, Tryz.ntmps20
      go_wp2
      go_ret2
      exact ⟨rfl, rfl⟩
    · have h3 : t.head? = some 48 ∧ 1 < t.length := by
        rcases h with h | h | h
        · exact absurd h h0
        · exact absurd h h4
        · exact h
      have hx48 : x = 48 := by
        have := h3.1
        rw [hhead, Option.some.injEq] at this
        have h2 := congrArg UInt8.toNat this
        rw [F.u8_of _ hx256] at h2
        exact h2
      have hz : S.size ≤ 4 := by rw [← hS]; omega
      have hz1 : 1 < S.size := by rw [← hS]; omega
      have hz' : decide (4 < S.size) = false := by simp; omega
      have hz1' : decide (1 < S.size) = true := by simp; omega
      have hzi : decide (4 < (S.size : Int)) = false := by simp; omega
      have hz1i : decide (1 < (S.size : Int)) = true := by simp; omega
      have e48 : ((x : Int) == 48) = true := by rw [hx48]; rfl
      clear h hsz hat hb0 hx hhead hS h0 h4 ht hp h3 hx48
      go_enter Tryz.func20, Tryz.ntmps20
      go_wp2
      go_ret2
      exact ⟨rfl, rfl⟩
set_option maxRecDepth 100000 in
set_option maxHeartbeats 4000000 in
theorem rnum_good (t : List UInt8) (w : World) (h : ¬ (t = [] ∨ 4 < t.length ∨ (t.head? = some 48 ∧ 1 < t.length))) (v : Value) (HV : Hid (v = match decFrom 0 t with | some u => .tuple #[.int .i64 (u : Nat), .bool true] | none => .tuple #[.int .i64 0, .bool false])) : Calls Tryz.prog 20 #[.string (bs t)] w (Says w v) := by
  unfold Says
  have h0 : t ≠ [] := fun e => h (.inl e)
  have h4 : t.length ≤ 4 := by
    apply Nat.le_of_not_lt
    exact fun e => h (.inr (.inl e))
  have hsz := bs_size t
  have hne : (bs t).toList.isEmpty = false := by
    rw [ByteArray.toList_eq, bs_data]
    simpa using h0
  have hp : 0 < t.length := List.length_pos_iff.2 h0
  have hat := byte_at (bs t) 0 (by omega)
  rw [bs_data, List.drop_zero] at hat
  have hb0 := bAt_eq (bs t) 0 (by omega)
  obtain ⟨x, hx⟩ : ∃ x, bAt (bs t) 0 = x := ⟨_, rfl⟩
  have hx256 : x < 256 := by rw [← hx]; exact bAt_lt _ _
  rw [hx] at hat hb0
  have hhead : t.head? = some (UInt8.ofNat x) := by rw [hat]; rfl
  have hg : (x ≠ 48) ∨ t.length ≤ 1 := by
    by_cases e : x = 48
    · right
      apply Nat.le_of_not_lt
      exact fun e' => h (.inr (.inr ⟨by rw [hhead, e]; rfl, e'⟩))
    · exact .inl e
  have hbyte : ∀ k, k < (bs t).size → ∃ x, bAt (bs t) k = x ∧ x < 256 ∧ t.take (k + 1) = t.take k ++ [UInt8.ofNat x] ∧ ∃ r, t = t.take (k + 1) ++ r := fun k hk => by
    refine ⟨_, rfl, bAt_lt _ _, ?_, t.drop (k + 1), (List.take_append_drop _ _).symm⟩
    have h := byte_at (bs t) k hk
    rw [bs_data] at h
    have h2 := take_step (l := t) (a := 0) (Nat.zero_le k) h
    simpa using h2
  have HB := Lib.hid hbyte
  have HZ := Lib.hid hsz
  obtain ⟨S, hS⟩ : ∃ S, bs t = S := ⟨_, rfl⟩
  have hbS : ∀ hh : 0 < S.size, S[0].toNat = x := fun hh => by
    have := hb0
    simp only [hS] at this
    exact this
  rw [hS] at hne HB HZ ⊢
  have hS1 : 1 ≤ S.size := by have := HZ.out; omega
  have hS4 : S.size ≤ 4 := by have := HZ.out; omega
  have hS0 : 0 < S.size := hS1
  have hb' := hbS hS0
  have hg' : (x ≠ 48) ∨ S.size ≤ 1 := by have := HZ.out; omega
  have hzi : decide (4 < (S.size : Int)) = false := by simp; omega
  clear h hsz hat hb0 hx hhead hS h0 h4 hp hbyte hg hbS
  have hcase : (((x : Int) == 48) = false) ∨ (((x : Int) == 48) = true ∧ decide (1 < (S.size : Int)) = false) := by
    by_cases e : x = 48
    · right
      refine ⟨by rw [beq_iff_eq]; omega, ?_⟩
      rcases hg' with h | h
      · exact absurd e h
      · simp
        omega
    · left
      rw [beq_eq_false_iff_ne]
      omega
  clear hg'
  rcases hcase with e48 | ⟨e48, e1⟩
  all_goals
    go_enter Tryz.func20, Tryz.ntmps20
    go_wp2_with fail
    go_loop [4, 5] (fun n i => ∃ (k u : Nat), k ≤ S.size ∧ u < 10 ^ k ∧ i = .int .i64 k ∧ n = .int .i64 u ∧ decFrom 0 (t.take k) = some u) (fun _ i => S.size - (intOf i).toNat)
    case atStart => exact ⟨0, 0, by omega, by decide, rfl, rfl, by rw [List.take_zero]; rfl⟩
    case round =>
      obtain ⟨k, u, hk, hu, rfl, rfl, hdec⟩ := hrel
      have hu4 : u < 10000 := Nat.lt_of_lt_of_le hu (Nat.pow_le_pow_right (by decide) (by omega) : 10 ^ k ≤ 10 ^ 4)
      have HD := Lib.hid hdec
      have HU := Lib.hid hu
      clear hdec hu
      by_cases hlt : k < S.size
      · obtain ⟨y, hy, hy256, hstep, r, hr⟩ := HB.out k hlt
        have hbk : S[k].toNat = y := (bAt_eq S k hlt).trans hy
        have happ := F.decFrom_app (t.take k) 0 (UInt8.ofNat y)
        rw [← hstep, HD.out] at happ
        have HA := Lib.hid happ
        have HR := Lib.hid hr
        clear hy hstep happ hr
        by_cases hd : 48 ≤ y ∧ y ≤ 57
        · obtain ⟨hd1, hd2⟩ := hd
          have hdv : digitVal (UInt8.ofNat y) = some (y - 48) := by rw [digitVal, F.u8_of _ hy256, if_pos ⟨hd1, hd2⟩]
          have HN : Hid (decFrom 0 (t.take (k + 1)) = some (u * 10 + (y - 48))) := by
            show _ = _
            rw [HA.out, hdv]
          have hlt2 : Hid (u * 10 + (y - 48) < 10 ^ (k + 1)) := by
            show _ < _
            have := HU.out
            rw [Nat.pow_succ]
            omega
          have i1 : IntKind.u8.wrap ((y : Int) - 48) = (y : Int) - 48 := IntWalk.u8_in _ (by omega)
          have i2 : ((y : Int) - 48) % 256 = (y : Int) - 48 := by omega
          clear hdv
          go_wp2
          go_round
          case rel => exact ⟨k + 1, u * 10 + (y - 48), by omega, hlt2.out, by go_num, by congr 1; omega, HN.out⟩
          case measure => simp [intOf]; omega
        · have hdv : digitVal (UInt8.ofNat y) = none := by rw [digitVal, F.u8_of _ hy256, if_neg hd]
          have K : Hid (v = .tuple #[.int .i64 0, .bool false]) := by
            show _ = _
            have h1 : decFrom 0 (t.take (k + 1)) = none := by rw [HA.out, hdv]
            have h2 := dec_none_app _ r 0 h1
            rw [← HR.out] at h2
            rw [HV.out, h2]
          have h2 : (y < 48) ∨ (48 ≤ y ∧ 57 < y) := by omega
          clear hdv hd
          rcases h2 with h48 | ⟨h48, h57⟩
          all_goals
            go_wp2
            go_ret2
            exact ⟨by rw [K.out]; rfl, rfl⟩
      · obtain rfl : k = S.size := by omega
        have K : Hid (v = .tuple #[.int .i64 (u : Nat), .bool true]) := by
          show _ = _
          have h1 := HD.out
          rw [HZ.out, List.take_of_length_le (Nat.le_refl _)] at h1
          rw [HV.out, h1]
        go_wp2
        go_ret2
        exact ⟨by rw [K.out]; rfl, rfl⟩
theorem rnum_any (t : List UInt8) (w : World) (ht : t.length ≤ 1000) : Calls Tryz.prog 20 #[.string (bs t)] w (Says w (numV t)) := by
  by_cases h : t = [] ∨ 4 < t.length ∨ (t.head? = some 48 ∧ 1 < t.length)
  · rw [numV, num_none h]
    exact rnum_bad t w ht h
  · rw [numV, num_some h]
    exact rnum_good t w h _ rfl
end Go.Proofs.YtcnaejmhifedfaaGreatDoor
