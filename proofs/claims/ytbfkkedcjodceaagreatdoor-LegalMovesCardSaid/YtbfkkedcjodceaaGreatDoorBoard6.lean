/- What more of the document's plain answers of layer 2 come to: what is found on a board. -/
import Derived.Test.YtbfkkedcjodceaaGreatDoorBoard5
namespace Go.Proofs.YtbfkkedcjodceaaGreatDoor
open Go.RowKit Go.Shelf
open M (S)

theorem below_app {w wr w1 : World} {n₀ : Nat} {e : TypeId} {size k : Nat} {v : Value} {xs : List Value} {o : Obj} (hB : Below n₀ w wr) (hn : n₀ ≤ wr.heap.size) (hown : wr.ownsRow n₀ e size v k xs) (hgrow : (wr.alloc o).grownBy w1 v.ownBlock) : Below n₀ w w1 := by
  refine (hB.alloc hn o).grown hgrow (by simp; omega) fun j ej => ?_
  rcases hown.2 with ⟨rfl, _⟩ | ⟨g, cap, cur, rfl, hb, _, _⟩
  · simp [Value.ownBlock] at ej
  · obtain rfl : g = j := by simpa [Value.ownBlock] using ej
    exact hb
theorem trues_succ (p : Nat → Bool) (k : Nat) : trues p (k + 1) = if p k then trues p k ++ [(k : Int)] else trues p k := by
  unfold trues
  rw [List.range_succ, List.filter_append]
  cases h : p k <;> simp [h]
theorem trues_le (p : Nat → Bool) (k : Nat) : (trues p k).length ≤ k := by
  unfold trues
  rw [List.length_map]
  exact Nat.le_trans (List.length_filter_le _ _) (by simp)

set_option maxRecDepth 100000 in
set_option maxHeartbeats 2000000 in
theorem rfind_any (s : ByteArray) (c : Nat) (w : World) : Calls Tryz.prog 73 #[.string s, .int .u8 (c : Int)] w (GivesL w (findL s c)) := by
  unfold findL
  cases hb : isB s
  · have B := Lib.hid hb
    rw [if_neg (by simp)]
    clear hb
    go_enter Tryz.func73, Tryz.ntmps73
    go_wp2_with fail
    refine (ris_any _ _).mono ?_
    rintro e w' ⟨rfl, rfl⟩
    rw [B.out]
    go_wp2
    go_ret
    exact ⟨none, 0, rfl, fun j u hu => by simp at hu, Below.refl _ _⟩
  · have hs := isB_size hb
    have hs1 : 90 ≤ s.size := by omega
    have hs2 : (s.size : Int) = 90 := by omega
    have B := Lib.hid hb
    rw [if_pos rfl]
    clear hb hs
    obtain ⟨i0, hi, hz0, hz1, hz2⟩ := info_parts info_int
    obtain ⟨p, hp⟩ : ∃ p : Nat → Bool, p = fun k => bAt s k == c := ⟨_, rfl⟩
    rw [← hp]
    have Hp := Lib.hid hp
    clear hp
    go_enter Tryz.func73, Tryz.ntmps73
    go_wp2_with fail
    refine (ris_any _ _).mono ?_
    rintro e w' ⟨rfl, rfl⟩
    rw [B.out]
    go_wp2_with fail
    go_loopw [5, 6] (fun v i wr => ∃ k : Nat, k ≤ 90 ∧ i = .int .i64 k ∧ wr.ownsRow w.heap.size 3 1 v (trues p k).length ((trues p k).map iv) ∧ Below w.heap.size w wr) (fun _ i _ => 90 - (intOf i).toNat)
    case atStart => exact ⟨0, by omega, rfl, by simpa [trues] using World.ownsRow_nil w w.heap.size 3 1, Below.refl _ _⟩
    case round =>
      obtain ⟨k, hk, rfl, hown, hB⟩ := hrel
      have hbs := hB.size
      have hle := trues_le p k
      by_cases hlt : k < 90
      · have hks : k < s.size := by omega
        have hst := trues_succ p k
        obtain ⟨x, hx⟩ : ∃ x, bAt s k = x := ⟨_, rfl⟩
        have hbk : s[k].toNat = x := (bAt_eq s k hks).trans hx
        have hpx : p k = (x == c) := by rw [Hp.out, ← hx]
        rw [hpx] at hst
        clear hx hpx
        cases hxc : x == c
        · rw [hxc] at hst
          have e0 : ((x : Int) == (c : Int)) = false := by
            rw [beq_eq_false_iff_ne] at hxc ⊢
            omega
          have Hs := Lib.hid hst
          clear hxc hst
          go_wp2
          go_roundw
          case rel => exact ⟨k + 1, by omega, by go_num, by rw [Hs.out]; exact hown, hB⟩
          case measure => simp [intOf]; omega
        · rw [hxc] at hst
          have e0 : ((x : Int) == (c : Int)) = true := by
            rw [beq_iff_eq] at hxc ⊢
            omega
          have Hs := Lib.hid hst
          clear hxc hst
          go_wp2_with (at_builtin; refine wpList_append_own _ rfl _ _ 51 rfl w.heap.size 3 i0 (.int .i64 0) 1 8 Tryz.underlying51 hi hz0 hz1 hz2 rfl (by decide) _ _ _ rfl (hown.alloc _) ⟨wr.heap.size, 0, none⟩ 1 1 [iv k] rfl rfl (cell_one_new _ _ _) (by simp [Value.oneCell']) (by unfold maxLen; omega) (by omega) (by simp; omega) ?_; intro v' w1 hown' hgrow _)
          go_roundw
          case rel => exact ⟨k + 1, by omega, by go_num, by rw [Hs.out]; simpa using hown', below_app hB hbs hown hgrow⟩
          case measure => simp [intOf]; omega
      · obtain rfl : k = 90 := by omega
        obtain ⟨A', c', rfl⟩ := own_slice hown
        go_wp2
        go_ret
        exact ⟨A', c', rfl, Rd.own hown, hB⟩

end Go.Proofs.YtbfkkedcjodceaaGreatDoor
