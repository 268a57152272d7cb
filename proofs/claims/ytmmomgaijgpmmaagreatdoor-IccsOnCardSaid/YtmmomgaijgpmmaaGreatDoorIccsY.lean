/- Same, of two rows of moves that are alike; how long a line's moves are. -/
import Derived.Test.YtmmomgaijgpmmaaGreatDoorIccsX
namespace Go.Proofs.YtmmomgaijgpmmaaGreatDoor.I
open Go.RowKit Go.Shelf Go.Proofs.YtmmomgaijgpmmaaGreatDoor.F
open M (S)
attribute [local go_sem] Oper.semAt_some
set_option maxRecDepth 100000 in
set_option maxHeartbeats 2000000 in
theorem same12 (A B : Option Addr) (l : List (Int × Int)) (n c d : Nat) (w : World) (hx : Rd w A (mvl l)) (hy : Rd w B (mvl l)) (hn : l.length = n) (hm : n ≤ 1000000) :
    Calls Tryz.prog 15 #[.slice A n c, .slice B n d] w (Gives w (.bool true)) := by
  unfold Gives
  have HN := Lib.hid hn
  clear hn
  go_enter Tryz.func15, Tryz.ntmps15
  go_wp2
  go_loopw [5] (fun i wr => ∃ k : Nat, k ≤ n ∧ i = .int .i64 k ∧ Below w.heap.size w wr) (fun i _ => n - (intOf i).toNat)
  case atStart => exact ⟨0, Nat.zero_le _, rfl, Below.refl _ _⟩
  case round =>
    obtain ⟨k, hk, rfl, hB⟩ := hrel
    by_cases hlt : k < n
    · have hkl : k < l.length := by rw [HN.out]; exact hlt
      obtain ⟨g1, o1, rfl, c0, c1⟩ := rd_mvi hx hkl
      obtain ⟨g2, o2, rfl, d0, d1⟩ := rd_mvi hy hkl
      obtain ⟨u, hu⟩ : ∃ u, l[k].1 = u := ⟨_, rfl⟩
      obtain ⟨v, hv⟩ : ∃ v, l[k].2 = v := ⟨_, rfl⟩
      rw [hu] at c0 d0
      rw [hv] at c1 d1
      have hc0 := (hB.cell (p := ⟨g1, o1 + k * 2, none⟩) (cell_lt c0)).trans c0
      have hc1 := (hB.cell (p := ⟨g1, o1 + k * 2 + 1, none⟩) (cell_lt c1)).trans c1
      have hd0 := (hB.cell (p := ⟨g2, o2 + k * 2, none⟩) (cell_lt d0)).trans d0
      have hd1 := (hB.cell (p := ⟨g2, o2 + k * 2 + 1, none⟩) (cell_lt d1)).trans d1
      have b1 : (k : Int) < (n : Int) := by omega
      have hne := neq_move
      clear c0 c1 d0 d1 hu hv
      go_wp2_with fail
      go_quiet (fail)
      go_wp2_with fail
      go_roundw
      case rel => exact ⟨k + 1, by omega, by go_num, below_drewN hB _⟩
      case measure => simp [intOf]; omega
    · obtain rfl : k = n := by omega
      go_wp2
      go_ret
      exact ⟨rfl, hB⟩
theorem rd_head {w : World} {A : Option Addr} {l k : List (Int × Int)} (h : Rd w A (mvl (l ++ k))) : Rd w A (mvl l) := fun j u hu => h j u (by
  have e : mvl (l ++ k) = mvl l ++ mvl k := by simp [mvl]
  rw [e, List.getElem?_append_left (List.getElem?_eq_some_iff.1 hu).1]
  exact hu)
theorem rd_tail {w : World} {g b : Nat} {l k : List (Int × Int)} (h : Rd w (some ⟨g, b, none⟩) (mvl (l ++ k))) : Rd w (some ⟨g, b + l.length * 2, none⟩) (mvl k) := fun j u hu => by
  have e : mvl (l ++ k) = mvl l ++ mvl k := by simp [mvl]
  have h1 := h ((mvl l).length + j) u (by rw [e, List.getElem?_append_right (Nat.le_add_right _ _), Nat.add_sub_cancel_left]; exact hu)
  obtain ⟨ad, ha, hc⟩ := h1
  obtain rfl := Option.some.inj ha
  refine ⟨_, rfl, ?_⟩
  rw [mvl_len] at hc
  rw [← hc]
  congr 1
  simp only [Addr.add]
  by_cases hj : j = 0 <;> by_cases hl : l.length = 0 <;> (simp [hj, hl, Nat.add_assoc]; try omega)
theorem rd_none {w : World} {A : Option Addr} : Rd w A (mvl []) := fun j u hu => by simp [mvl] at hu
theorem got_len {p : Pz} {s : ByteArray} {l : List (Int × Int)} {q : Pz} (h : lineT p s = .got l q) : l.length ≤ s.size + 1 := by
  unfold lineT at h
  split at h
  · rw [line_len 0 p _ l q h]
    unfold wordsT
    split
    · simp
    · exact cut_len 32 s.data.toList
  · cases h
theorem got_valid {p : Pz} {s : ByteArray} {l : List (Int × Int)} {q : Pz} (h : lineT p s = .got l q) : ∀ m ∈ l, sqI m.1 = true ∧ sqI m.2 = true := by
  unfold lineT at h
  split at h
  · exact (line_all 0 p _ l q h).1
  · cases h
theorem text_le {l : List (Int × Int)} (h : ∀ m ∈ l, sqI m.1 = true ∧ sqI m.2 = true) : (textT l).size ≤ 5 * l.length := by
  rw [text_of h]
  have := join_four (l.map fun m => (printT m.1 m.2).data.toList) (fun x hx => by
    obtain ⟨m, hm, rfl⟩ := List.mem_map.1 hx
    exact Nat.le_of_eq (Array.length_toList.trans (print_size (h m hm).1 (h m hm).2)))
  rw [List.length_map] at this
  refine Nat.le_trans ?_ this
  exact Nat.le_of_eq (by rw [← bs_data (Lib.join (l.map fun m => (printT m.1 m.2).data.toList) [32])]; exact (Array.length_toList).symm)
theorem lineF_no : ∀ (ws : List (List UInt8)) (k : Nat) (p : Pz) (e : Int), lineF k p ws = .no e → e = 6 ∨ e = 8 ∨ e = 7
  | [], k, p, e, h => by rw [lineF] at h; cases h
  | x :: ws, k, p, e, h => by
    cases hr : readT (bs x) with
    | none =>
      rw [line_form hr] at h
      cases h
      exact .inl rfl
    | some m =>
      by_cases hk : k = 1024
      · subst hk
        rw [line_full hr] at h
        cases h
        exact .inr (.inl rfl)
      · cases hm : mayP p m with
        | false =>
          rw [line_move hr hk hm] at h
          cases h
          exact .inr (.inr rfl)
        | true =>
          rw [line_on hr hk hm] at h
          cases hf : lineF (k + 1) (behindP p m) ws with
          | no e' =>
            rw [hf] at h
            cases h
            exact lineF_no ws _ _ _ hf
          | got l q =>
            rw [hf] at h
            cases h
theorem no_num {p : Pz} {s : ByteArray} {k : Int} (h : lineT p s = .no k) : k ≠ 0 := by
  unfold lineT at h
  split at h
  · have := lineF_no _ _ _ _ h
    omega
  · rename_i hw
    cases h
    exact hw
theorem cut_some (x : UInt8) : ∀ s : List UInt8, cutL x s ≠ [] := by
  intro s
  cases s with
  | nil => simp [cutL]
  | cons a s =>
    rw [cutL]
    split
    · simp
    · split <;> simp
theorem got_some {p : Pz} {s : ByteArray} {l : List (Int × Int)} {q : Pz} (hs : s.size ≠ 0) (h : lineT p s = .got l q) : 0 < l.length := by
  unfold lineT at h
  split at h
  · rw [line_len 0 p _ l q h, words_of hs]
    exact List.length_pos_iff.2 (cut_some 32 _)
  · cases h
end Go.Proofs.YtmmomgaijgpmmaaGreatDoor.I
