/- Plain facts on boards: turned, and with something put. -/
import Derived.Test.YtbfkkedcjodceaaGreatDoorBoard4
namespace Go.Proofs.YtbfkkedcjodceaaGreatDoor
open Go.RowKit Go.Shelf
open M (S)

theorem swap_swap (c : Nat) : swapN (swapN c) = c := by
  rcases byte_cases c with ⟨kb, kr, _⟩ | rfl | rfl | rfl | rfl | rfl | rfl | rfl | rfl | rfl | rfl | rfl | rfl | rfl | rfl
  · have : swapN c = c := by simp [swapN, kb, kr]
    rw [this, this]
  all_goals rfl
theorem swap_fill (c : Nat) : fillB (swapN c) = fillB c := by
  rcases byte_cases c with ⟨kb, kr, _⟩ | rfl | rfl | rfl | rfl | rfl | rfl | rfl | rfl | rfl | rfl | rfl | rfl | rfl | rfl
  · have : swapN c = c := by simp [swapN, kb, kr]
    rw [this]
  all_goals rfl
theorem swap_kind (c : Nat) : kindN (swapN c) = kindN c := by
  rcases byte_cases c with ⟨kb, kr, _⟩ | rfl | rfl | rfl | rfl | rfl | rfl | rfl | rfl | rfl | rfl | rfl | rfl | rfl | rfl
  · have : swapN c = c := by simp [swapN, kb, kr]
    rw [this]
  all_goals rfl
theorem swap_side (c : Nat) (h : sideN c ≠ -1) : sideN (swapN c) = 1 - sideN c := by
  rcases byte_cases c with ⟨kb, kr, _⟩ | rfl | rfl | rfl | rfl | rfl | rfl | rfl | rfl | rfl | rfl | rfl | rfl | rfl | rfl
  · exact absurd (by simp [sideN, kb, kr]) h
  all_goals rfl
theorem swap_of (c : Nat) : ofSide (swapN c) 0 = ofSide c 1 := by
  rcases byte_cases c with ⟨kb, kr, _⟩ | rfl | rfl | rfl | rfl | rfl | rfl | rfl | rfl | rfl | rfl | rfl | rfl | rfl | rfl
  · have : swapN c = c := by simp [swapN, kb, kr]
    rw [this]
    simp [ofSide, sideN, kb, kr]
  all_goals rfl

theorem size_mk (l : List UInt8) : (⟨l.toArray⟩ : ByteArray).size = l.length := by simp [ByteArray.size]
theorem bAt_mk (l : List UInt8) (i : Nat) (h : i < l.length) : bAt ⟨l.toArray⟩ i = (l[i]).toNat := by
  have h' : i < (⟨l.toArray⟩ : ByteArray).size := by rw [size_mk]; exact h
  rw [← bAt_eq _ _ h']
  rfl
theorem text_ext {s t : ByteArray} (h : s.size = t.size) (hb : ∀ i, i < s.size → bAt s i = bAt t i) : s = t := by
  apply ByteArray.ext
  apply Array.ext
  · exact h
  · intro i h1 h2
    have h3 := hb i h1
    rw [← bAt_eq s i h1, ← bAt_eq t i h2] at h3
    exact UInt8.toNat_inj.1 h3
theorem isB_of {s : ByteArray} (hs : s.size = 90) (h : ∀ i, i < 90 → fillB (bAt s i) = true) : isB s = true := by
  simp only [isB, Bool.and_eq_true, decide_eq_true_eq, List.all_eq_true]
  exact ⟨hs, fun j hj => h j (List.mem_range.1 hj)⟩

theorem turn_size {s : ByteArray} (h : isB s = true) : (turnB s).size = 90 := by
  simp only [turnB, h, if_true]
  rw [size_mk]
  simp [turnL]
theorem turn_at {s : ByteArray} (h : isB s = true) (i : Nat) (hi : i < 90) : bAt (turnB s) i = swapN (bAt s (89 - i)) := by
  simp only [turnB, h, if_true]
  rw [bAt_mk _ i (by simp [turnL, hi])]
  simp only [turnL, List.getElem_map, List.getElem_range]
  rw [UInt8.toNat_ofNat_of_lt' (swapN_lt _ (bAt_lt s _))]
theorem turn_is_board {s : ByteArray} (h : isB s = true) : isB (turnB s) = true :=
  isB_of (turn_size h) fun i hi => by rw [turn_at h i hi, swap_fill]; exact isB_fill h _ (by omega)
theorem turn_turn {s : ByteArray} (h : isB s = true) : turnB (turnB s) = s := by
  apply text_ext
  · rw [turn_size (turn_is_board h), isB_size h]
  · intro i hi
    rw [turn_size (turn_is_board h)] at hi
    rw [turn_at (turn_is_board h) i hi, turn_at h _ (by omega), swap_swap, show 89 - (89 - i) = i by omega]
theorem trues_back (p : Nat → Bool) : (trues (fun k => p (89 - k)) 90).length = (trues p 90).length := by
  unfold trues
  rw [List.length_map, List.length_map]
  have h : (List.range 90).map (fun k => 89 - k) = (List.range 90).reverse := by decide +kernel
  have h1 : ((List.range 90).filter fun k => p (89 - k)).length = (((List.range 90).map fun k => 89 - k).filter p).length := by
    rw [List.filter_map, List.length_map]
    rfl
  rw [h1, h, List.filter_reverse, List.length_reverse]
theorem trues_congr {p q : Nat → Bool} (h : ∀ k, k < 90 → p k = q k) : trues p 90 = trues q 90 := by
  unfold trues
  rw [List.filter_congr fun k hk => h k (List.mem_range.1 hk)]
theorem turn_pieces {s : ByteArray} (h : isB s = true) : (piecesL (turnB s) 0).length = (piecesL s 1).length := by
  unfold piecesL
  rw [turn_is_board h, h, if_pos rfl, if_pos rfl]
  rw [trues_congr (p := fun k => ofSide (bAt (turnB s) k) 0) (q := fun k => ofSide (bAt s (89 - k)) 1) (fun k hk => by rw [turn_at h k hk, swap_of])]
  exact trues_back fun k => ofSide (bAt s k) 1

theorem put_size (s : ByteArray) (n c : Nat) : (putS s n c).size = s.size := by
  unfold putS
  rw [size_mk]
  simp
theorem put_at (s : ByteArray) (n c i : Nat) (hc : c < 256) (hi : i < s.size) : bAt (putS s n c) i = if i = n then c else bAt s i := by
  unfold putS
  have hl : i < s.data.toList.length := by simpa using hi
  rw [bAt_mk _ i (by rw [List.length_set]; exact hl)]
  by_cases e : i = n
  · subst e
    rw [List.getElem_set_self, if_pos rfl, UInt8.toNat_ofNat_of_lt' (by omega)]
  · rw [List.getElem_set_ne (fun h => e h.symm), if_neg e, bAt_list]
theorem put_is_board {s : ByteArray} (h : isB s = true) (n c : Nat) (hc : c < 256) (hf : fillB c = true) : isB (putS s n c) = true :=
  isB_of (by rw [put_size, isB_size h]) fun i hi => by
    rw [put_at s n c i hc (by rw [isB_size h]; exact hi)]
    split
    · exact hf
    · exact isB_fill h i hi
theorem put_back (s : ByteArray) (n c : Nat) (hc : c < 256) : putS (putS s n c) n (bAt s n) = s := by
  apply text_ext
  · rw [put_size, put_size]
  · intro i hi
    rw [put_size, put_size] at hi
    rw [put_at _ _ _ _ (bAt_lt s n) (by rw [put_size]; exact hi), put_at _ _ _ _ hc hi]
    split
    · rename_i e; rw [e]
    · rfl

end Go.Proofs.YtbfkkedcjodceaaGreatDoor
