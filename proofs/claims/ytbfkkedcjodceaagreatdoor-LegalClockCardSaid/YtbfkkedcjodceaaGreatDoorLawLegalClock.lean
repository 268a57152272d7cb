/- Behind each move that may be made the clock is one more, or 0 behind a capture: the call answers true. -/
import Derived.Test.YtbfkkedcjodceaaGreatDoorLive8M
namespace Go.Proofs.YtbfkkedcjodceaaGreatDoor.lclock
open Go.RowKit Go.Shelf
open M (S)

theorem legal_facts {s : ByteArray} {side clock full : Int} {m : Nat × Nat} (h : m ∈ legalV s side clock full) :
    (checkN s side clock full : Int) = 0 ∧ m.1 < 90 ∧ m.2 < 90 ∧ makeV s side clock full m.1 m.2 = .tuple #[.agg #[.string (behindS s m), .int .i64 (1 - side), .int .i64 (clockA s clock m.2), .int .i64 (fullA side full)], .int .u8 (takenN s m.2 : Nat), .int .i64 0] ∧ inB (behindS s m) side = false ∧ facingB (behindS s m) = false := by
  obtain ⟨u, v⟩ := m
  unfold legalV at h
  split at h
  · rename_i hw
    obtain ⟨h1, h2⟩ := List.mem_filter.1 h
    obtain ⟨h3, h4⟩ := movesV_lt h1
    have h5 := h2
    unfold leavesB leavesI at h5
    simp only [Bool.and_eq_true, bne_iff_ne, beq_iff_eq] at h5
    obtain ⟨⟨h6, h7⟩, h8⟩ := h5
    simp only [Int.toNat_natCast] at h7 h8
    obtain ⟨_, h9, h10⟩ := well_zero h8
    rw [show (1 : Int) - (1 - side) = side by omega] at h10
    refine ⟨(well_zero hw).1, h3, h4, ?_, h10, h9⟩
    unfold makeV
    rw [if_pos hw, if_pos (show leavesI s side clock full (u : Int) (v : Int) = true from h2), apply_good_value (well_check hw) ⟨h6, by rw [Int.toNat_natCast]; exact h7⟩]
    simp only [Int.toNat_natCast]
    rfl
  · simp at h
theorem clock_facts {s : ByteArray} {side clock full : Int} (h : (checkN s side clock full : Int) = 0) {v : Nat} (hv : v < 90) :
    (0 ≤ clock ∧ clock ≤ 120 ∧ 0 ≤ side ∧ side ≤ 1 ∧ 1 ≤ full ∧ full ≤ 9999) ∧ (full ≤ fullA side full ∧ fullA side full ≤ full + side) ∧ ((takenN s v = 0 ∧ clockA s clock v = min (clock + 1) 120) ∨ (takenN s v ≠ 0 ∧ clockA s clock v = 0)) := by
  have hp := (check_zero h).1
  have hf := isB_fill (parts_board hp) v hv
  simp only [partsB, Bool.and_eq_true, Bool.or_eq_true, beq_iff_eq, decide_eq_true_eq] at hp
  obtain ⟨⟨⟨⟨⟨_, hs⟩, h1⟩, h2⟩, h3⟩, h4⟩ := hp
  refine ⟨⟨h1, h2, by omega, by omega, h3, h4⟩, ?_, ?_⟩
  · unfold fullA
    split <;> omega
  · unfold takenN clockA
    by_cases hb : bAt s v = 46
    · rw [if_pos hb, if_pos hb]
      exact Or.inl ⟨rfl, rfl⟩
    · rw [if_neg hb, if_neg hb]
      refine Or.inr ⟨?_, rfl⟩
      intro e
      rw [e] at hf
      exact absurd hf (by decide)
set_option maxRecDepth 100000 in
set_option maxHeartbeats 8000000 in
theorem large (s : ByteArray) (side clock full : Int)  (w : World) (hT : Tab w) (hs : 200 < s.size) : Calls Tryz.prog 8 #[.agg #[.string s, .int .i64 side, .int .i64 clock, .int .i64 full]] w (Gives w (.bool true)) := by
  unfold Gives
  have hd : decide (200 < (s.size : Int)) = true := by simp; omega
  clear hs
  go_enter Tryz.func8, Tryz.ntmps8
  go_wp2_with fail
  obtain ⟨W0, hW0⟩ : ∃ W0, w.alloc (.cells #[.string s, .int .i64 side, .int .i64 clock, .int .i64 full] 23) = W0 := ⟨_, rfl⟩
  have hB : Below w.heap.size w W0 := by rw [← hW0]; exact (by repeat (first | exact Below.refl _ _ | (refine Below.setCell ?_ (by first | omega | (simp; done) | (simp; omega) | (simp at *; omega)) _) | (refine Below.alloc ?_ (by first | omega | (simp; done) | (simp; omega) | (simp at *; omega)) _) | refine Below.drew ?_ | (refine below_drewN ?_ _) | (refine Below.trans ?_ (Below.mono (by assumption) (by first | omega | (simp; done) | (simp; omega) | (simp at *; omega))))))
  have bP : Blk W0 w.heap.size 23 #[.string s, .int .i64 side, .int .i64 clock, .int .i64 full] := by rw [← hW0]; exact Blk.new _ _ _ rfl
  replace hT := hT.below hB hT.lt
  rw [hW0]
  clear hW0
  refine (live8_any _ hT).mono ?_
  rintro e w9 ⟨rfl, hb⟩
  go_wp2
  go_ret
  exact ⟨rfl, hB.trans (hb.mono hB.size)⟩
set_option maxRecDepth 100000 in
set_option maxHeartbeats 8000000 in
theorem small (s : ByteArray) (side clock full : Int)  (w : World) (hT : Tab w) (hs : s.size ≤ 200) : Calls Tryz.prog 8 #[.agg #[.string s, .int .i64 side, .int .i64 clock, .int .i64 full]] w (Gives w (.bool true)) := by
  unfold Gives
  have hd : decide (200 < (s.size : Int)) = false := by simp; omega
  obtain ⟨L, hL⟩ : ∃ L, legalV s side clock full = L := ⟨_, rfl⟩
  obtain ⟨m, hm⟩ : ∃ m, L.length = m := ⟨_, rfl⟩
  have hlen : m ≤ 8100 := by rw [← hm, ← hL]; exact legalV_len s side clock full
  have HF : Hid (∀ k (hk : k < L.length), _) := fun k hk => legal_facts (s := s) (side := side) (clock := clock) (full := full) (m := L[k]) (by rw [hL]; exact List.getElem_mem hk)
  have HL := Lib.hid hL
  have HM := Lib.hid hm
  clear hs hL hm
  go_enter Tryz.func8, Tryz.ntmps8
  go_wp2_with fail
  obtain ⟨W0, hW0⟩ : ∃ W0, w.alloc (.cells #[.string s, .int .i64 side, .int .i64 clock, .int .i64 full] 23) = W0 := ⟨_, rfl⟩
  have hB : Below w.heap.size w W0 := by rw [← hW0]; exact (by repeat (first | exact Below.refl _ _ | (refine Below.setCell ?_ (by first | omega | (simp; done) | (simp; omega) | (simp at *; omega)) _) | (refine Below.alloc ?_ (by first | omega | (simp; done) | (simp; omega) | (simp at *; omega)) _) | refine Below.drew ?_ | (refine below_drewN ?_ _) | (refine Below.trans ?_ (Below.mono (by assumption) (by first | omega | (simp; done) | (simp; omega) | (simp at *; omega))))))
  have bP : Blk W0 w.heap.size 23 #[.string s, .int .i64 side, .int .i64 clock, .int .i64 full] := by rw [← hW0]; exact Blk.new _ _ _ rfl
  replace hT := hT.below hB hT.lt
  rw [hW0]
  clear hW0
  have bP1 := bP
  obtain ⟨p0, p1, p2, p3⟩ := ppos_cells bP1
  clear bP
  refine (lmoves_own s side clock full L m _ hT HL.out HM.out).mono ?_
  rintro e w2 ⟨v, rfl, ho, hb⟩
  obtain ⟨A1, k1, rfl⟩ := owns_slice ho
  have rd := Rd.owns ho
  have bP2 := bP1.next hb
  have hT2 := hT.next hb
  have hB2 := hB.trans (hb.mono hB.size)
  clear ho hb hT hB bP1 p0 p1 p2 p3
  go_wp2_with fail
  go_loopw [4] (fun i wr => ∃ k : Nat, k ≤ m ∧ i = .int .i64 k ∧ Below w2.heap.size w2 wr) (fun i _ => m - (intOf i).toNat)
  case atStart => exact ⟨0, by omega, rfl, Below.refl _ _⟩
  case round =>
    obtain ⟨k, hk, rfl, hR⟩ := hrel
    by_cases hlt : k < m
    · have hkl : k < L.length := by rw [HM.out]; exact hlt
      obtain ⟨g1, o1, rfl, c0, c1⟩ := rd.move hkl
      obtain ⟨hck, h90, h91, h92, h93, h94⟩ := HF.out k hkl
      obtain ⟨⟨u, v⟩, huv⟩ : ∃ x, L[k] = x := ⟨_, rfl⟩
      rw [huv] at c0 c1 h90 h91 h92 h93 h94
      have hc0 := (hR.cell (p := ⟨g1, o1 + k * 2, none⟩) (cell_lt c0)).trans c0
      have hc1 := (hR.cell (p := ⟨g1, o1 + k * 2 + 1, none⟩) (cell_lt c1)).trans c1
      have b2 : (k : Int) < (m : Int) := by omega
      obtain ⟨q, hq⟩ : ∃ q, behindS s (u, v) = q := ⟨_, rfl⟩
      obtain ⟨ck, hck2⟩ : ∃ x, clockA s clock v = x := ⟨_, rfl⟩
      obtain ⟨fl, hfl⟩ : ∃ x, fullA side full = x := ⟨_, rfl⟩
      obtain ⟨tk, htk⟩ : ∃ x, takenN s v = x := ⟨_, rfl⟩
      obtain ⟨o, ho⟩ : ∃ o : Int, 1 - side = o := ⟨_, rfl⟩
      simp only [hq, hck2, hfl, htk, ho] at h92 h93 h94
      have HV := Lib.hid h92
      have HI := Lib.hid h93
      have hfk := clock_facts hck h91
      simp only [hck2, hfl, htk] at hfk
      obtain ⟨⟨k0, k1, k2, k3, k4, k5⟩, ⟨k6, k7⟩, hkk⟩ := hfk
      have HKK := Lib.hid hkk
      have wd1 : IntKind.i64.wrap (clock + 1) = clock + 1 := IntWalk.i64_in _ (by omega)
      have wd2 : IntKind.i64.wrap (full + side) = full + side := IntWalk.i64_in _ (by omega)
      have wd3 : IntKind.i64.wrap (1 - side) = o := by rw [ho]; exact IntWalk.i64_in _ (by omega)
      have dd1 : decide (fl < full) = false := by simp; omega
      have dd2 : decide (full + side < fl) = false := by simp; omega
      clear hq hck2 hfl htk ho hck hkk k0 k1 k2 k3 k4 k5 k6 k7
      have hT3 := hT2.next hR
      have bP3 := bP2.next hR
      obtain ⟨p0, p1, p2, p3⟩ := ppos_cells bP3
      clear c0 c1 h90 h91 h92 h93 h94 huv
      have HM2 : Hid (∀ W, Tab W → _) := fun W hT => make_is s side clock full u v _ W hT HV.out
      have hba : Below wr.heap.size wr (wr.alloc (.cells #[.string ⟨#[]⟩, .int .i64 0, .int .i64 0, .int .i64 0] 23)) := (Below.refl _ _).alloc (Nat.le_refl _) _
      have HTA := Lib.hid (hT3.next (Below.refl _ _).drew)
      have HTB := Lib.hid (hT3.next hba.drew)
      have HBZ : Hid (Blk (wr.alloc (.cells #[.string ⟨#[]⟩, .int .i64 0, .int .i64 0, .int .i64 0] 23)).drew wr.heap.size 23 #[.string ⟨#[]⟩, .int .i64 0, .int .i64 0, .int .i64 0]) := (Blk.new wr 23 #[.string ⟨#[]⟩, .int .i64 0, .int .i64 0, .int .i64 0] rfl).next (Below.refl _ _).drew
      have HBA := Lib.hid hba
      clear hba
      have hal : ∀ (o : Obj) (pl : Addr) (x : Value), wr.cell? pl = some x → (wr.alloc o).cell? pl = some x := fun o pl x h => (((Below.refl wr.heap.size wr).alloc (Nat.le_refl _) o).cell (cell_lt h)).trans h
      have ha0 := fun o => hal o _ _ hc0
      have ha1 := fun o => hal o _ _ hc1
      have pa0 := fun o => hal o _ _ p0
      have pa1 := fun o => hal o _ _ p1
      have pa2 := fun o => hal o _ _ p2
      have pa3 := fun o => hal o _ _ p3
      clear hal
      go_wp2_with fail
      go_region_with ((go_at_call 18; first
        | (refine (HM2.out wr.drew HTA.out).mono ?_; rintro e w3 ⟨rfl, hb⟩; obtain ⟨W4, hW4⟩ : ∃ x, w3.alloc (.cells #[.string q, .int .i64 o, .int .i64 ck, .int .i64 fl] 23) = x := ⟨_, rfl⟩)
        | (refine (HM2.out (wr.alloc (.cells #[.string ⟨#[]⟩, .int .i64 0, .int .i64 0, .int .i64 0] 23)).drew HTB.out).mono ?_; rintro e w3 ⟨rfl, hb⟩; obtain ⟨z0, z1, z2, z3⟩ := ppos_cells (HBZ.out.next hb); obtain ⟨f0, f1, f2, f3⟩ := ppos_frozen (HBZ.out.next hb); obtain ⟨W4, hW4⟩ : ∃ x, ((((w3.setCell ⟨wr.heap.size, 0, none⟩ (.string q)).setCell ⟨wr.heap.size, 1, none⟩ (.int .i64 o)).setCell ⟨wr.heap.size, 2, none⟩ (.int .i64 ck)).setCell ⟨wr.heap.size, 3, none⟩ (.int .i64 fl)) = x := ⟨_, rfl⟩)))
      all_goals
        first
        | (have hb3 : Below wr.heap.size wr w3 := ((Below.refl wr.heap.size wr).drew).trans hb
           have hb4 : Below wr.heap.size wr W4 := by rw [← hW4]; exact hb3.alloc hb3.size _
           have bQ : Blk W4 w3.heap.size 23 #[.string q, .int .i64 o, .int .i64 ck, .int .i64 fl] := by rw [← hW4]; exact Blk.new _ _ _ rfl)
        | (have hb3 : Below wr.heap.size wr w3 := (HBA.out.drew).trans (hb.mono (HBA.out.drew).size)
           have bz := HBZ.out.next hb
           have hb4 : Below wr.heap.size wr W4 := by rw [← hW4]; exact ((((hb3.setCell (p := ⟨wr.heap.size, 0, none⟩) (Nat.le_refl _) _).setCell (p := ⟨wr.heap.size, 1, none⟩) (Nat.le_refl _) _).setCell (p := ⟨wr.heap.size, 2, none⟩) (Nat.le_refl _) _).setCell (p := ⟨wr.heap.size, 3, none⟩) (Nat.le_refl _) _)
           have bQ : Blk W4 wr.heap.size 23 #[.string q, .int .i64 o, .int .i64 ck, .int .i64 fl] := by rw [← hW4]; exact ((((bz.set_ 0 (.string q)).set_ 1 (.int .i64 o)).set_ 2 (.int .i64 ck)).set_ 3 (.int .i64 fl))
           clear bz)
        clear hb3
        have hR4 := hR.trans (hb4.mono hR.size)
        have hT5 := hT3.next hb4
        have bP5 := bP3.next hb4
        clear hb hb4 hW4 p0 p1 p2 p3 hc0 hc1 ha0 ha1 pa0 pa1 pa2 pa3
        try clear z0 z1 z2 z3 f0 f1 f2 f3
        obtain ⟨p0, p1, p2, p3⟩ := ppos_cells bP5
        obtain ⟨q0, q1, q2, q3⟩ := ppos_cells bQ
        rcases HKK.out with ⟨ht, hm⟩ | ⟨ht, hm⟩
        · subst ht
          have hm2 := hm.symm
          clear hm
          go_wp2_with fail
          go_roundw
          case rel => exact ⟨k + 1, by omega, by go_num, hR4⟩
          case measure => simp [intOf]; omega
        · subst hm
          have e0 : ((tk : Int) != 0) = true := by rw [bne_iff_ne]; omega
          have e1 : (tk != 0) = true := by rw [bne_iff_ne]; omega
          clear ht
          go_wp2_with fail
          go_roundw
          case rel => exact ⟨k + 1, by omega, by go_num, hR4⟩
          case measure => simp [intOf]; omega
    · obtain rfl : k = m := by omega
      go_wp2_with fail
      refine (live8_any _ (hT2.next hR)).mono ?_
      rintro e w9 ⟨rfl, hb⟩
      go_wp2
      go_ret
      exact ⟨rfl, (hB2.trans (hR.mono hB2.size)).trans (hb.mono (hB2.trans (hR.mono hB2.size)).size)⟩
theorem walk (s : ByteArray) (side clock full : Int) (w : World) (hT : Tab w) : Calls Tryz.prog 8 #[.agg #[.string s, .int .i64 side, .int .i64 clock, .int .i64 full]] w (Gives w (.bool true)) := by
  by_cases hs : s.size ≤ 200
  · exact small s side clock full w hT hs
  · exact large s side clock full w hT (by omega)
end Go.Proofs.YtbfkkedcjodceaaGreatDoor.lclock
