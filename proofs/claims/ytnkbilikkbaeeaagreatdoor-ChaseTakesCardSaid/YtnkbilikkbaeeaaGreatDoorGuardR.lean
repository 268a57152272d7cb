/- The document's own answers of layer 15. -/
import Derived.Test.YtnkbilikkbaeeaaGreatDoorGuardP
import Derived.Test.YtnkbilikkbaeeaaGreatDoorRefLM
import Derived.Test.YtnkbilikkbaeeaaGreatDoorPerftA
namespace Go.Proofs.YtnkbilikkbaeeaaGreatDoor
open Go.RowKit Go.Shelf
open M (S)

set_option maxRecDepth 100000 in
set_option maxHeartbeats 4000000 in
theorem rgtakes_no (s : ByteArray) (side : Int) (w : World) (h : isB s = false ∨ side < 0 ∨ 1 < side) : Calls Tryz.prog 183 #[.string s, .int .i64 side] w (GivesM w [] 0) := by
  obtain ⟨b, hb⟩ : ∃ b, isB s = b := ⟨_, rfl⟩
  have HB := Lib.hid hb
  rw [hb] at h
  clear hb
  have hrd : ∀ W, Rd W none (mvs []) := fun W j u hu => by simp [mvs] at hu
  cases b
  · go_enter Tryz.func183, Tryz.ntmps183
    go_wp2_with fail
    refine (ris5_is s false _ HB.out).mono ?_
    rintro e w1 ⟨rfl, rfl⟩
    go_wp2
    go_ret
    exact ⟨none, 0, rfl, hrd _, Below.refl _ _⟩
  · have h : side < 0 ∨ 1 < side := by simpa using h
    rcases h with h | h
    · go_enter Tryz.func183, Tryz.ntmps183
      go_wp2_with fail
      refine (ris5_is s true _ HB.out).mono ?_
      rintro e w1 ⟨rfl, rfl⟩
      go_wp2
      go_ret
      exact ⟨none, 0, rfl, hrd _, Below.refl _ _⟩
    · go_enter Tryz.func183, Tryz.ntmps183
      go_wp2_with fail
      refine (ris5_is s true _ HB.out).mono ?_
      rintro e w1 ⟨rfl, rfl⟩
      go_wp2
      go_ret
      exact ⟨none, 0, rfl, hrd _, Below.refl _ _⟩
set_option maxRecDepth 100000 in
set_option maxHeartbeats 4000000 in
theorem rgtakes_yes (s : ByteArray) (side : Int) (L l : List (Nat × Nat)) (n m : Nat) (w : World) (hs : isB s = true) (h0 : 0 ≤ side) (h1 : side ≤ 1) (hL : legalN s side = L) (hm : L.length = m) (h : takesG s side = l) (hn : l.length = n) : Calls Tryz.prog 183 #[.string s, .int .i64 side] w (GivesM w l n) := by
  obtain ⟨i0, hi, hy0, hy1, hy2⟩ := info_parts info_move
  have hz := isB_size hs
  have hlen : m ≤ 8100 := by rw [← hm, ← hL]; exact legalN_le s side
  have HLT : Hid (∀ k (hk : k < L.length), L[k].2 < 90) := fun k hk => by
    have hmem : L[k] ∈ legalN s side := by rw [hL]; exact List.getElem_mem hk
    exact (legal_mem.1 hmem).2.1
  have HE : Hid (capsTo s L m = l) := by
    show _ = _
    rw [← h, takesG, hs, hL, capsTo, List.take_of_length_le (by omega), show (true && ((side == 0) || (side == 1))) = true by rcases (show side = 0 ∨ side = 1 by omega) with rfl | rfl <;> rfl, if_pos rfl]
  have HB := Lib.hid hs
  have HZ := Lib.hid hz
  have HL := Lib.hid hL
  have HM := Lib.hid hm
  have HN := Lib.hid hn
  clear hs hz hL hm h hn
  go_enter Tryz.func183, Tryz.ntmps183
  go_wp2_with fail
  refine (ris5_is s true _ HB.out).mono ?_
  rintro e w0 ⟨rfl, rfl⟩
  go_wp2_with fail
  refine (rlof_is s side L m _ HZ.out HL.out HM.out).mono ?_
  rintro e w1 ⟨A, c, rfl, hr, hb1⟩
  go_wp2_with fail
  go_loopw [5, 7] (fun v i wr => ∃ k : Nat, k ≤ m ∧ i = .int .i64 k ∧ wr.ownsRow w1.heap.size 28 2 v (capsTo s L k).length (mvs (capsTo s L k)) ∧ Below w1.heap.size w1 wr) (fun _ i _ => m - (intOf i).toNat)
  case atStart => exact ⟨0, by omega, rfl, by simpa [capsTo, mvs] using World.ownsRow_nil w1 w1.heap.size 28 2, Below.refl _ _⟩
  case round =>
    obtain ⟨k, hk, rfl, hown, hB⟩ := hrel
    have hbs := hB.size
    have hle := capsTo_len s L k
    by_cases hlt : k < m
    · have hkl : k < L.length := by rw [HM.out]; exact hlt
      obtain ⟨g1, o1, rfl, c0, c1⟩ := hr.move hkl
      have hst := capsTo_succ (s := s) hkl
      have h90 := HLT.out k hkl
      obtain ⟨⟨u, v⟩, huv⟩ : ∃ x, L[k] = x := ⟨_, rfl⟩
      rw [huv] at c0 c1 hst h90
      have hc0 := (hB.cell (p := ⟨g1, o1 + k * 2, none⟩) (cell_lt c0)).trans c0
      have hc1 := (hB.cell (p := ⟨g1, o1 + k * 2 + 1, none⟩) (cell_lt c1)).trans c1
      obtain ⟨x, hx⟩ : ∃ x, bAt s v = x := ⟨_, rfl⟩
      have hvs : v < s.size := by rw [HZ.out]; exact h90
      have hbk : s[v].toNat = x := (bAt_eq s v hvs).trans hx
      have b1 : (k : Int) < (m : Int) := by omega
      rw [show (u, v).2 = v from rfl, hx] at hst
      clear c0 c1 huv hx
      by_cases h46 : x = 46
      · have e46 : ((x : Int) != 46) = false := by rw [h46]; rfl
        have Hs : Hid (capsTo s L (k + 1) = capsTo s L k) := by show _ = _; rw [hst, h46]; rfl
        clear hst h46
        go_wp2_with fail
        go_roundw
        case rel => exact ⟨k + 1, by omega, by go_num, by rw [Hs.out]; exact hown, hB⟩
        case measure => simp [intOf]; omega
      · have e46 : ((x : Int) != 46) = true := by rw [bne_iff_ne]; omega
        have Hs : Hid (capsTo s L (k + 1) = capsTo s L k ++ [(u, v)]) := by show _ = _; rw [hst, if_pos (by rw [bne_iff_ne]; exact h46)]
        clear hst h46
        go_wp2_with (at_builtin; refine wpList_append_own _ rfl _ _ 25 rfl w1.heap.size 28 i0 (.agg #[.int .i64 0, .int .i64 0]) 2 16 Tryz.underlying25 hi hy0 hy1 hy2 rfl (by decide) _ _ _ rfl (hown.alloc _) ⟨wr.heap.size, 0, none⟩ 1 1 [iv u, iv v] rfl rfl (cells_two_new _ _ _ _) (by simp [Value.oneCell']) (by unfold maxLen; omega) (by omega) (by simp; omega) ?_; intro v' w2 hown' hgrow _)
        go_roundw
        case rel => exact ⟨k + 1, by omega, by go_num, by rw [Hs.out, mvs_app, List.length_append]; exact hown', below_app hB hbs hown hgrow⟩
        case measure => simp [intOf]; omega
    · obtain rfl : k = m := by omega
      rw [HE.out, HN.out] at hown
      obtain ⟨A', c', rfl⟩ := owns_slice hown
      go_wp2
      go_ret
      exact ⟨A', c', rfl, Rd.owns hown, hb1.trans (hB.mono hb1.size)⟩
theorem rgtakes_is (s : ByteArray) (side : Int) (l : List (Nat × Nat)) (n : Nat) (w : World) (h : takesG s side = l) (hn : l.length = n) : Calls Tryz.prog 183 #[.string s, .int .i64 side] w (GivesM w l n) := by
  by_cases hc : isB s = true ∧ 0 ≤ side ∧ side ≤ 1
  · exact rgtakes_yes s side _ l n _ w hc.1 hc.2.1 hc.2.2 rfl rfl h hn
  · have hl : l = [] := by
      rw [← h, takesG, if_neg]
      rintro h1
      rw [Bool.and_eq_true, Bool.or_eq_true, beq_iff_eq, beq_iff_eq] at h1
      exact hc ⟨h1.1, by omega, by omega⟩
    subst hl
    obtain rfl : n = 0 := hn.symm
    refine rgtakes_no s side w ?_
    cases hb : isB s
    · exact .inl rfl
    · right
      by_cases h0 : side < 0
      · exact .inl h0
      · exact .inr (by
          by_cases h1 : side ≤ 1
          · exact absurd ⟨hb, by omega, h1⟩ hc
          · omega)
end Go.Proofs.YtnkbilikkbaeeaaGreatDoor
