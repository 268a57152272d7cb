/- What more of the document's own answers of layer 6 come to: the moves that take; whether a move is one of some. -/
import Derived.Test.YtbfkkedcjodceaaDoorPseudoD
namespace Go.Proofs.YtbfkkedcjodceaaDoor
open Go.RowKit Go.Shelf
open M (S)

theorem movesV_lt {s : ByteArray} {side clock full : Int} {m : Nat × Nat} (h : m ∈ movesV s side clock full) : m.1 < 90 ∧ m.2 < 90 := by
  unfold movesV at h
  split at h
  · have := (moves_mem (a := m.1) (b := m.2)).1 h
    exact ⟨this.1, this.2.1⟩
  · simp at h
/-- Those of the first k moves that take. -/
def capsTo (s : ByteArray) (l : List (Nat × Nat)) (k : Nat) : List (Nat × Nat) := (l.take k).filter fun m => bAt s m.2 != 46
theorem capsTo_succ {s : ByteArray} {l : List (Nat × Nat)} {k : Nat} (h : k < l.length) : capsTo s l (k + 1) = if bAt s l[k].2 != 46 then capsTo s l k ++ [l[k]] else capsTo s l k := by
  unfold capsTo
  rw [List.take_succ_eq_append_getElem h, List.filter_append]
  cases e : (bAt s l[k].2 != 46) <;> simp [e]
theorem capsTo_len (s : ByteArray) (l : List (Nat × Nat)) (k : Nat) : (capsTo s l k).length ≤ k := by
  unfold capsTo
  exact Nat.le_trans (List.length_filter_le _ _) (by simp; omega)
theorem movesV_len (s : ByteArray) (side clock full : Int) : (movesV s side clock full).length ≤ 8100 := by
  unfold movesV
  split
  · exact movesTo_len s side 90
  · exact Nat.zero_le _
set_option maxRecDepth 100000 in
set_option maxHeartbeats 4000000 in
theorem rcaps_is (s : ByteArray) (side clock full : Int) (L l : List (Nat × Nat)) (n m : Nat) (w : World) (hL : movesV s side clock full = L) (hm : L.length = m) (h : capsV s side clock full = l) (hn : l.length = n) : Calls Tryd.prog 21 #[.agg #[.string s, .int .i64 side, .int .i64 clock, .int .i64 full]] w (GivesM w l n) := by
  obtain ⟨i0, hi, hy0, hy1, hy2⟩ := info_parts info_move
  have hlen : m ≤ 8100 := by rw [← hm, ← hL]; exact movesV_len s side clock full
  have HLT : Hid (∀ k (hk : k < L.length), L[k].2 < 90) := fun k hk => (movesV_lt (by rw [hL]; exact List.getElem_mem hk)).2
  have HS : Hid (0 < m → 90 ≤ s.size) := fun h0 => by
    by_cases hc : checkN s side clock full = 0
    · exact check_size hc
    · rw [← hm, ← hL, movesV, if_neg hc] at h0
      exact absurd h0 (Nat.lt_irrefl 0)
  have HE : Hid (capsTo s L m = l) := by show _ = _; rw [← h, capsV, hL, capsTo, List.take_of_length_le (by omega)]
  obtain ⟨W0, hW0⟩ : ∃ W0, w.alloc (.cells #[.string s, .int .i64 side, .int .i64 clock, .int .i64 full] 23) = W0 := ⟨_, rfl⟩
  have hB : Below w.heap.size w W0 := by rw [← hW0]; exact (by repeat (first | exact Below.refl _ _ | (refine Below.setCell ?_ (by first | omega | (simp; done) | (simp; omega) | (simp at *; omega)) _) | (refine Below.alloc ?_ (by first | omega | (simp; done) | (simp; omega) | (simp at *; omega)) _) | refine Below.drew ?_ | (refine below_drewN ?_ _) | (refine Below.trans ?_ (Below.mono (by assumption) (by first | omega | (simp; done) | (simp; omega) | (simp at *; omega))))))
  have bA : Blk W0 w.heap.size 23 #[.string s, .int .i64 side, .int .i64 clock, .int .i64 full] := by rw [← hW0]; exact Blk.new _ _ _ rfl
  have HW := Lib.hid hW0
  have HL := Lib.hid hL
  have HM := Lib.hid hm
  have HN := Lib.hid hn
  clear hW0 hL hm h hn
  go_enter Tryd.func21, Tryd.ntmps21
  go_wp2_with fail
  rw [HW.out]
  refine (rmoves_is s side clock full L m _ HL.out HM.out).mono ?_
  rintro e w1 ⟨A, c, rfl, hr, hb1⟩
  have bA1 := bA.next hb1
  have hB1 := hB.trans (hb1.mono hB.size)
  clear bA hb1 hB HW
  go_wp2_with fail
  go_loopw [4, 5] (fun v i wr => ∃ k : Nat, k ≤ m ∧ i = .int .i64 k ∧ wr.ownsRow w1.heap.size 30 2 v (capsTo s L k).length (mvs (capsTo s L k)) ∧ Below w1.heap.size w1 wr) (fun _ i _ => m - (intOf i).toNat)
  case atStart => exact ⟨0, by omega, rfl, by simpa [capsTo, mvs] using World.ownsRow_nil w1 w1.heap.size 30 2, Below.refl _ _⟩
  case round =>
    obtain ⟨k, hk, rfl, hown, hB⟩ := hrel
    have hbs := hB.size
    have hle := capsTo_len s L k
    by_cases hlt : k < m
    · have hkl : k < L.length := by rw [HM.out]; exact hlt
      obtain ⟨g1, o1, rfl, c0, c1⟩ := hr.move hkl
      have hst := capsTo_succ (s := s) hkl
      have h90 := HLT.out k hkl
      have hs := HS.out (by omega)
      obtain ⟨⟨u, v⟩, huv⟩ : ∃ x, L[k] = x := ⟨_, rfl⟩
      rw [huv] at c0 c1 hst h90
      have hc0 := (hB.cell (p := ⟨g1, o1 + k * 2, none⟩) (cell_lt c0)).trans c0
      have hc1 := (hB.cell (p := ⟨g1, o1 + k * 2 + 1, none⟩) (cell_lt c1)).trans c1
      have p0 := (bA1.next hB).cell 0
      simp only [List.getElem?_toArray, List.getElem?_cons_zero] at p0
      obtain ⟨x, hx⟩ : ∃ x, bAt s v = x := ⟨_, rfl⟩
      have hvs : v < s.size := Nat.lt_of_lt_of_le h90 hs
      have hbk : s[v].toNat = x := (bAt_eq s v hvs).trans hx
      have b1 : (k : Int) < (m : Int) := by omega
      rw [show (u, v).2 = v from rfl, hx] at hst
      clear c0 c1 huv hx
      by_cases h46 : x = 46
      · have e46 : ((x : Int) != 46) = false := by rw [h46]; rfl
        have Hs : Hid (capsTo s L (k + 1) = capsTo s L k) := by show _ = _; rw [hst, h46]; rfl
        clear hst h46
        go_wp2_with fail
        go_quiet (fail)
        go_wp2_with fail
        go_roundw
        case rel => exact ⟨k + 1, by omega, by go_num, by rw [Hs.out]; exact own_next hown (below_drewN (Below.refl _ _) _), below_drewN hB _⟩
        case measure => simp [intOf]; omega
      · have e46 : ((x : Int) != 46) = true := by rw [bne_iff_ne]; omega
        have Hs : Hid (capsTo s L (k + 1) = capsTo s L k ++ [(u, v)]) := by show _ = _; rw [hst, if_pos (by rw [bne_iff_ne]; exact h46)]
        clear hst h46
        go_wp2_with fail
        go_quiet (fail)
        replace hown := own_next hown (below_drewN (Below.refl wr.heap.size wr) nq)
        replace hB := below_drewN hB nq
        replace hc0 : (wr.drewN nq).cell? ⟨g1, o1 + k * 2, none⟩ = _ := hc0
        replace hc1 : (wr.drewN nq).cell? ⟨g1, o1 + k * 2 + 1, none⟩ = _ := hc1
        generalize wr.drewN nq = wq at hown hB hc0 hc1 ⊢
        replace hbs := hB.size
        clear p0
        go_wp2_with (at_builtin; refine wpList_append_own _ rfl _ _ 26 rfl w1.heap.size 30 i0 (.agg #[.int .i64 0, .int .i64 0]) 2 16 Tryd.underlying26 hi hy0 hy1 hy2 rfl (by decide) _ _ _ rfl (hown.alloc _) ⟨wq.heap.size, 0, none⟩ 1 1 [iv u, iv v] rfl rfl (cells_two_new _ _ _ _) (by simp [Value.oneCell']) (by unfold maxLen; omega) (by omega) (by simp; omega) ?_; intro v' w2 hown' hgrow _)
        go_roundw
        case rel => exact ⟨k + 1, by omega, by go_num, by rw [Hs.out, mvs_app, List.length_append]; exact hown', below_app hB hbs hown hgrow⟩
        case measure => simp [intOf]; omega
    · obtain rfl : k = m := by omega
      rw [HE.out, HN.out] at hown
      obtain ⟨A', c', rfl⟩ := owns_slice hown
      go_wp2
      go_ret
      exact ⟨A', c', rfl, Rd.owns hown, hB1.trans (hB.mono hB1.size)⟩
end Go.Proofs.YtbfkkedcjodceaaDoor
