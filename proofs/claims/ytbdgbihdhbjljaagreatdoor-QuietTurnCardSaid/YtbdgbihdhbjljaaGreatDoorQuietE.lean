/- What the document says of what positions are worth when all captures are done: Few, of, Of, Window. -/
import Derived.Test.YtbdgbihdhbjljaaGreatDoorQuietA
import Derived.Test.YtbdgbihdhbjljaaGreatDoorValueC
import Derived.Test.YtbdgbihdhbjljaaGreatDoorRefLM
import Derived.Test.YtbdgbihdhbjljaaGreatDoorPerftA
namespace Go.Proofs.YtbdgbihdhbjljaaGreatDoor
open Go.RowKit Go.Shelf
open M (S)
attribute [local go_sem] Oper.semAt_some

/-- Does a text have at most so many pieces? -/
def fewV (s : ByteArray) (most : Int) : Bool := decide (s.size ≤ 200) && decide (vsum (oneP s) s.size ≤ most)
theorem few_cnt {s : ByteArray} {most : Int} (h : fewV s most = true) (hs : s.size = 90) : cntP s ≤ most := by
  unfold fewV at h
  rw [Bool.and_eq_true, decide_eq_true_eq, decide_eq_true_eq, hs] at h
  exact h.2
theorem cnt_nn (s : ByteArray) (k : Nat) : 0 ≤ vsum (oneP s) k ∧ vsum (oneP s) k ≤ k := by
  refine ⟨vsum_ge0 k fun i _ => (oneP_bd s i).1, ?_⟩
  induction k with
  | zero => exact Int.le_refl _
  | succ k ih =>
    have := (oneP_bd s k).2
    rw [vsum]
    omega
/-- The greatest one of the first ones. -/
def upTo (n : Nat) (s : ByteArray) (side : Int) (l : List (Nat × Nat)) (k : Nat) : Int := maxL (ofV s side) (((l.take k).filter fun m => bAt s m.2 != 46).map fun m => -(quietF n (behindS s m) (1 - side)))
theorem upTo_zero (n : Nat) (s : ByteArray) (side : Int) (l : List (Nat × Nat)) : upTo n s side l 0 = ofV s side := rfl
theorem upTo_all (n : Nat) (s : ByteArray) (side : Int) (h : (legalN s side).isEmpty = false) : upTo n s side (legalN s side) (legalN s side).length = quietF (n + 1) s side := by
  rw [quiet_succ, h, if_neg (by simp)]
  unfold upTo capsN
  rw [List.take_length]
theorem upTo_succ (n : Nat) (s : ByteArray) (side : Int) {l : List (Nat × Nat)} {k : Nat} (h : k < l.length) : upTo n s side l (k + 1) = if bAt s l[k].2 = 46 then upTo n s side l k else max (upTo n s side l k) (-(quietF n (behindS s l[k]) (1 - side))) := by
  unfold upTo
  rw [List.take_succ_eq_append_getElem h, List.filter_append]
  by_cases e : bAt s l[k].2 = 46
  · rw [if_pos e]
    simp [e]
  · rw [if_neg e, ← maxL_snoc]
    have : ([l[k]].filter fun m => bAt s m.2 != 46) = [l[k]] := by simp [e]
    rw [this, List.map_append]
    rfl
set_option maxRecDepth 100000 in
set_option maxHeartbeats 4000000 in
theorem rfew_is (s : ByteArray) (y z u most : Int) (v : Bool) (w : World) (h : fewV s most = v) : Calls Tryz.prog 32 #[.agg #[.string s, .int .i64 y, .int .i64 z, .int .i64 u], .int .i64 most] w (Gives w (.bool v)) := by
  unfold Gives
  have HV := Lib.hid h
  clear h
  obtain ⟨W0, hW0⟩ : ∃ W0, w.alloc (.cells #[.string s, .int .i64 y, .int .i64 z, .int .i64 u] 23) = W0 := ⟨_, rfl⟩
  have hB : Below w.heap.size w W0 := by rw [← hW0]; exact (by repeat (first | exact Below.refl _ _ | (refine Below.setCell ?_ (by first | omega | (simp; done) | (simp; omega) | (simp at *; omega)) _) | (refine Below.alloc ?_ (by first | omega | (simp; done) | (simp; omega) | (simp at *; omega)) _) | refine Below.drew ?_ | (refine below_drewN ?_ _) | (refine Below.trans ?_ (Below.mono (by assumption) (by first | omega | (simp; done) | (simp; omega) | (simp at *; omega))))))
  have bP : Blk W0 w.heap.size 23 #[.string s, .int .i64 y, .int .i64 z, .int .i64 u] := by rw [← hW0]; exact Blk.new _ _ _ rfl
  obtain ⟨p0, p1, p2, p3⟩ := vpos_cells bP
  have HW := Lib.hid hW0
  have HB := Lib.hid hB
  clear hW0 bP hB
  by_cases hz : s.size ≤ 200
  · have z2 : (s.size : Int) ≤ 200 := by omega
    have HZ := Lib.hid hz
    clear hz
    go_enter Tryz.func32, Tryz.ntmps32
    go_wp2
    (try rw [HW.out])
    go_loopw [5, 6] (fun n i wr => ∃ k : Nat, k ≤ s.size ∧ i = .int .i64 (k : Int) ∧ n = .int .i64 (vsum (oneP s) k) ∧ wr = W0) (fun _ i _ => s.size - (intOf i).toNat)
    case atStart => exact ⟨0, Nat.zero_le _, rfl, rfl, rfl⟩
    case round =>
      obtain ⟨k, hk, rfl, rfl, rfl⟩ := hrel
      have hn := cnt_nn s k
      have z3 := HZ.out
      obtain ⟨n, hnn⟩ : ∃ n, vsum (oneP s) k = n := ⟨_, rfl⟩
      rw [hnn] at hn ⊢
      have HNN := Lib.hid hnn
      obtain ⟨n1, n2⟩ := hn
      clear hnn
      by_cases hlt : k < s.size
      · have b1 : (k : Int) < (s.size : Int) := by omega
        have b0 : (0 : Int) ≤ (k : Int) := by omega
        have hbk : s[k].toNat = bAt s k := bAt_eq s k hlt
        obtain ⟨x, hx⟩ : ∃ x, bAt s k = x := ⟨_, rfl⟩
        rw [hx] at hbk
        by_cases h46 : x = 46
        · have HN1 : Hid (vsum (oneP s) (k + 1) = n) := by
            show _ = _
            rw [vsum, HNN.out]
            unfold oneP
            rw [hx, if_pos h46]
            omega
          subst h46
          clear hx
          go_wp2
          go_roundw
          case rel => exact ⟨k + 1, by omega, by go_num, by rw [HN1.out], by first | rfl | trivial⟩
          case measure => simp [intOf]; omega
        · have e46 : ((x : Int) != 46) = true := by rw [bne_iff_ne]; omega
          have HN1 : Hid (vsum (oneP s) (k + 1) = n + 1) := by
            show _ = _
            rw [vsum, HNN.out]
            unfold oneP
            rw [hx, if_neg h46]
          clear hx h46
          go_wp2
          go_roundw
          case rel => exact ⟨k + 1, by omega, by go_num, by rw [HN1.out]; first | done | go_num, by first | rfl | trivial⟩
          case measure => simp [intOf]; omega
      · obtain rfl : k = s.size := by omega
        have b1 : ¬ (s.size : Int) < (s.size : Int) := by omega
        have hvv : v = decide (n ≤ most) := by
          rw [← HV.out, ← HNN.out]
          unfold fewV
          rw [decide_eq_true z3, Bool.true_and]
        subst hvv
        go_wp2
        go_ret
        exact ⟨rfl, HB.out⟩
  · have hvv : v = false := by
      rw [← HV.out]
      unfold fewV
      rw [decide_eq_false hz, Bool.false_and]
    subst hvv
    have z2 : ¬ (s.size : Int) ≤ 200 := by omega
    have z4 : (0 : Int) < (s.size : Int) := by omega
    clear hz
    go_enter Tryz.func32, Tryz.ntmps32
    go_wp2
    (try rw [HW.out])
    go_loopw [5, 6] (fun n i wr => i = .int .i64 0 ∧ n = .int .i64 0 ∧ wr = W0) (fun _ i _ => 0)
    case atStart => exact ⟨rfl, rfl, rfl⟩
    case round =>
      obtain ⟨rfl, rfl, rfl⟩ := hrel
      go_wp2
      go_ret
      exact ⟨rfl, HB.out⟩
set_option maxRecDepth 100000 in
set_option maxHeartbeats 8000000 in
theorem rquiet_step (n : Nat) (s : ByteArray) (y o z u : Int) (w : World) (hw : wellN s y z u = 0) (h9 : cntP s ≤ 9) (h0 : 0 ≤ y) (h1 : y ≤ 1) (ho : 1 - y = o)
    (ih : ∀ (m : Nat × Nat) (W : World), m ∈ capsN s y → Calls Tryz.prog 63 #[.string (behindS s m), .int .i64 o] W (Gives W (.int .i64 (quietF n (behindS s m) (1 - y))))) :
    Calls Tryz.prog 63 #[.string s, .int .i64 y] w (Gives w (.int .i64 (quietF (n + 1) s y))) := by
  unfold Gives
  obtain ⟨L, hL⟩ : ∃ L, legalN s y = L := ⟨_, rfl⟩
  obtain ⟨m, hm⟩ : ∃ m, L.length = m := ⟨_, rfl⟩
  have hlen : m ≤ 8100 := by rw [← hm, ← hL]; exact legalN_le s y
  have hs : s.size = 90 := isB_size (well_side hw).1
  have HLT : Hid (∀ k (hk : k < L.length), L[k].1 < 90 ∧ L[k].2 < 90 ∧ L[k].1 ≠ L[k].2) := fun k hk => by
    have hmem : L[k] ∈ legalN s y := by rw [hL]; exact List.getElem_mem hk
    obtain ⟨h1, h2, _, h3, _⟩ := legal_mem.1 hmem
    exact ⟨h1, h2, can_self h3⟩
  have HIH : Hid (∀ k (hk : k < L.length), bAt s L[k].2 ≠ 46 → (-10000 ≤ quietF n (behindS s L[k]) (1 - y) ∧ quietF n (behindS s L[k]) (1 - y) ≤ 10000) ∧ ∀ W, Calls Tryz.prog 63 #[.string (behindS s L[k]), .int .i64 o] W (Gives W (.int .i64 (quietF n (behindS s L[k]) (1 - y))))) := fun k hk h46 => by
    have hmem : L[k] ∈ legalN s y := by rw [hL]; exact List.getElem_mem hk
    have hc : L[k] ∈ capsN s y := caps_mem.2 ⟨hmem, h46⟩
    have hf := cap_facts hw hmem
    have hcc := cap_count hw hc
    exact ⟨quiet_bd n hf.2.2.2.2.2.2 (by omega), fun W => ih L[k] W hc⟩
  have hv := of_few y h9
  obtain ⟨v, hvv⟩ : ∃ v, ofV s y = v := ⟨_, rfl⟩
  rw [hvv] at hv
  have HVV := Lib.hid hvv
  have HL := Lib.hid hL
  have HM := Lib.hid hm
  have HSZ := Lib.hid hs
  have HO := Lib.hid ho
  obtain ⟨v1, v2⟩ := hv
  by_cases hne : L = []
  · have hq : quietF (n + 1) s y = -10000 := by rw [quiet_succ, HL.out, hne]; rfl
    have hm0 : m = 0 := by rw [← hm, hne]; rfl
    subst hm0
    rw [hq]
    clear hL hm hs ho hvv hne hw h9 ih
    go_enter Tryz.func63, Tryz.ntmps63
    go_wp2_with fail
    refine (rlof_is s y L 0 _ HSZ.out HL.out HM.out).mono ?_
    rintro e w1 ⟨A, c, rfl, hr, hb1⟩
    go_wp2_with fail
    go_ret
    exact ⟨rfl, hb1⟩
  have HALL : Hid (upTo n s y L m = quietF (n + 1) s y) := by
    show _ = _
    rw [← hm, ← hL]
    exact upTo_all n s y (by rw [hL]; cases L with
      | nil => exact absurd rfl hne
      | cons x l => rfl)
  have m0 : ((m : Int) == 0) = false := by
    rw [beq_eq_false_iff_ne]
    intro e
    exact hne (List.length_eq_zero_iff.1 (by omega))
  have HUB : Hid (∀ k, k ≤ m → -10000 ≤ upTo n s y L k ∧ upTo n s y L k ≤ 10000) := fun k hk => by
    unfold upTo
    refine maxL_bd _ (fun x hx => ?_) _ (by rw [HVV.out]; omega)
    obtain ⟨x1, hx1, rfl⟩ := List.mem_map.1 hx
    obtain ⟨hx2, h46⟩ := List.mem_filter.1 hx1
    obtain ⟨j, hj, rfl⟩ := List.getElem_of_mem (List.mem_of_mem_take hx2)
    have := (HIH.out j hj (by simpa using h46)).1
    omega
  clear hL hm hs ho hvv hne hw h9 ih
  go_enter Tryz.func63, Tryz.ntmps63
  go_wp2_with fail
  refine (rlof_is s y L m _ HSZ.out HL.out HM.out).mono ?_
  rintro e w1 ⟨A, c, rfl, hr, hb1⟩
  have HB1 := Lib.hid hb1
  have HR1 := Lib.hid hr
  clear hb1 hr
  go_wp2_with fail
  refine (rof14_is s y 0 0 v _ HVV.out).mono ?_
  rintro e w2 ⟨rfl, hb2⟩
  have HB2 := Lib.hid (HB1.out.trans (hb2.mono HB1.out.size))
  have HR2 := Lib.hid (HR1.out.next hb2)
  clear hb2
  go_wp2_with fail
  go_loopw [6, 7] (fun b i wr => ∃ k : Nat, k ≤ m ∧ i = .int .i64 (k : Int) ∧ b = .int .i64 (upTo n s y L k) ∧ Below w2.heap.size w2 wr) (fun _ i _ => m - (intOf i).toNat)
  case atStart => exact ⟨0, Nat.zero_le _, rfl, by rw [upTo_zero, HVV.out], Below.refl _ _⟩
  case round =>
    obtain ⟨k, hk, rfl, rfl, hB⟩ := hrel
    have hub := HUB.out k hk
    obtain ⟨t, ht⟩ : ∃ t, upTo n s y L k = t := ⟨_, rfl⟩
    rw [ht] at hub ⊢
    have HT := Lib.hid ht
    clear ht
    obtain ⟨t1, t2⟩ := hub
    by_cases hlt : k < m
    · have hkl : k < L.length := by rw [HM.out]; exact hlt
      obtain ⟨g1, o1, rfl, c0, c1⟩ := HR2.out.move hkl
      obtain ⟨h89, h90, hne⟩ := HLT.out k hkl
      have hih := HIH.out k hkl
      have hst := upTo_succ n s y hkl
      rw [HT.out] at hst
      obtain ⟨⟨a, b⟩, hab⟩ : ∃ x, L[k] = x := ⟨_, rfl⟩
      rw [hab] at c0 c1 h89 h90 hne hih hst
      simp only at h89 h90 hne hih hst
      have hc0 := (hB.cell (p := ⟨g1, o1 + k * 2, none⟩) (cell_lt c0)).trans c0
      have hc1 := (hB.cell (p := ⟨g1, o1 + k * 2 + 1, none⟩) (cell_lt c1)).trans c1
      obtain ⟨x, hx⟩ : ∃ x, bAt s b = x := ⟨_, rfl⟩
      have hvs : b < s.size := by have := HSZ.out; have h3 : b < 90 := h90; omega
      have hbk : s[b].toNat = x := (bAt_eq s b hvs).trans hx
      rw [hx] at hih hst
      have b0 : (0 : Int) ≤ (b : Int) := by omega
      have b1 : (k : Int) < (m : Int) := by omega
      have b2 : (b : Int) < (s.size : Int) := by omega
      obtain ⟨q, hq⟩ : ∃ q, behindS s (a, b) = q := ⟨_, rfl⟩
      rw [hq] at hih hst
      have HQ : Hid (∀ W, Calls Tryz.prog 95 #[.string s, .agg #[.int .i64 (a : Int), .int .i64 (b : Int)]] W (Gives W (.string q))) := fun W => rmoved_any s a b _ q W HSZ.out h89 h90 hne rfl hq
      obtain ⟨r, hr⟩ : ∃ r, quietF n q (1 - y) = r := ⟨_, rfl⟩
      rw [hr] at hih hst
      clear c0 c1 hab hx hq hr h89 h90 hne
      by_cases h46 : x = 46
      · have HST : Hid (upTo n s y L (k + 1) = t) := by show _ = _; rw [hst, if_pos h46]
        subst h46
        clear hih hst
        go_wp2_with fail
        go_roundw
        case rel => exact ⟨k + 1, by omega, by go_num, by rw [HST.out], hB⟩
        case measure => simp [intOf]; omega
      · have e46 : ((x : Int) != 46) = true := by rw [bne_iff_ne]; omega
        have HST : Hid (upTo n s y L (k + 1) = max t (-r)) := by show _ = _; rw [hst, if_neg h46]
        obtain ⟨⟨r1, r2⟩, hc⟩ := hih h46
        have HC := Lib.hid hc
        clear hst h46 hc hih
        go_wp2_with fail
        refine (HQ.out _).mono ?_
        rintro e w3 ⟨rfl, hb⟩
        have hB2 := hB.trans (hb.mono hB.size)
        clear hB hb
        go_wp2_with fail
        rw [HO.out]
        refine (HC.out _).mono ?_
        rintro e w4 ⟨rfl, hb⟩
        have hB := hB2.trans (hb.mono hB2.size)
        clear hB2 hb
        go_wp2_with fail
        go_roundw
        case rel => exact ⟨k + 1, by omega, by go_num, by rw [HST.out]; first | done | rfl, hB⟩
        case measure => simp [intOf]; omega
    · obtain rfl : k = m := by omega
      have hxe : t = quietF (n + 1) s y := by rw [← HT.out, HALL.out]
      go_wp2
      go_ret
      exact ⟨by rw [hxe]; rfl, HB2.out.trans (hB.mono HB2.out.size)⟩
theorem rquiet_any (n : Nat) : ∀ (s : ByteArray) (y z u : Int) (w : World), wellN s y z u = 0 → cntP s ≤ n → cntP s ≤ 9 → Calls Tryz.prog 63 #[.string s, .int .i64 y] w (Gives w (.int .i64 (quietF n s y))) := by
  induction n with
  | zero =>
    intro s y z u w hw h0 h9
    have hsd := (well_side hw).2
    rw [← quiet_more 0 hw h0]
    refine rquiet_step 0 s y _ z u w hw h9 (by omega) (by omega) rfl fun m W hm => ?_
    rw [caps_none hw h0] at hm
    cases hm
  | succ n ih =>
    intro s y z u w hw hn h9
    have hsd := (well_side hw).2
    refine rquiet_step n s y _ z u w hw h9 (by omega) (by omega) rfl fun m W hm => ?_
    have hf := cap_facts hw (caps_mem.1 hm).1
    have hc := cap_count hw hm
    exact ih _ _ _ _ W hf.2.2.2.2.2.2 (by omega) (by omega)
/-- What a position is worth when all captures are done. -/
def quietV (s : ByteArray) (y z u : Int) : Int := if wellN s y z u = 0 then quietF 9 s y else 0
def windowV (s : ByteArray) (y z u low high : Int) : Int := if high ≤ low then low else min (max (quietV s y z u) low) high
theorem quietV_bd {s : ByteArray} {y z u : Int} (h : wellN s y z u = 0 → cntP s ≤ 9) : -10000 ≤ quietV s y z u ∧ quietV s y z u ≤ 10000 := by
  unfold quietV
  split
  · rename_i hw
    exact quiet_bd 9 hw (h hw)
  · omega
set_option maxHeartbeats 2000000 in
theorem rqof_is (s : ByteArray) (y z u v : Int) (w : World) (h9 : wellN s y z u = 0 → cntP s ≤ 9) (hv : quietV s y z u = v) : Calls Tryz.prog 35 #[.agg #[.string s, .int .i64 y, .int .i64 z, .int .i64 u]] w (Gives w (.int .i64 v)) := by
  unfold Gives
  obtain ⟨W0, hW0⟩ : ∃ W0, w.alloc (.cells #[.string s, .int .i64 y, .int .i64 z, .int .i64 u] 23) = W0 := ⟨_, rfl⟩
  have hB : Below w.heap.size w W0 := by rw [← hW0]; exact (by repeat (first | exact Below.refl _ _ | (refine Below.setCell ?_ (by first | omega | (simp; done) | (simp; omega) | (simp at *; omega)) _) | (refine Below.alloc ?_ (by first | omega | (simp; done) | (simp; omega) | (simp at *; omega)) _) | refine Below.drew ?_ | (refine below_drewN ?_ _) | (refine Below.trans ?_ (Below.mono (by assumption) (by first | omega | (simp; done) | (simp; omega) | (simp at *; omega))))))
  have bP : Blk W0 w.heap.size 23 #[.string s, .int .i64 y, .int .i64 z, .int .i64 u] := by rw [← hW0]; exact Blk.new _ _ _ rfl
  obtain ⟨p0, p1, p2, p3⟩ := vpos_cells bP
  obtain ⟨k, hk⟩ : ∃ k, wellN s y z u = k := ⟨_, rfl⟩
  have HK := Lib.hid hk
  have HBP := Lib.hid bP
  have HW := Lib.hid hW0
  by_cases h0 : k = 0
  · subst h0
    have HC : Hid (∀ W, Calls Tryz.prog 63 #[.string s, .int .i64 y] W (Gives W (.int .i64 v))) := fun W => by
      have h := rquiet_any 9 s y z u W hk (h9 hk) (h9 hk)
      unfold quietV at hv
      rw [if_pos hk] at hv
      rw [hv] at h
      exact h
    clear hv h9 hk bP hW0
    go_enter Tryz.func35, Tryz.ntmps35
    go_wp2_with fail
    (try rw [HW.out])
    refine (rwell_is s y z u 0 _ HK.out).mono ?_
    rintro e w1 ⟨rfl, hb1⟩
    have HB1 := Lib.hid (hB.trans (hb1.mono hB.size))
    have bP1 := HBP.out.next hb1
    clear p0 p1 p2 p3 hb1
    obtain ⟨p0, p1, p2, p3⟩ := vpos_cells bP1
    go_wp2_with fail
    refine (HC.out _).mono ?_
    rintro e w2 ⟨rfl, hb2⟩
    have hb := HB1.out.trans (hb2.mono HB1.out.size)
    go_wp2_with fail
    go_ret
    exact ⟨rfl, hb⟩
  · have hv0 : v = 0 := by
      rw [← hv]
      unfold quietV
      rw [hk, if_neg h0]
    subst hv0
    have k0 : (k != 0) = true := by rw [bne_iff_ne]; exact h0
    clear hv h9 hk bP hW0 h0
    go_enter Tryz.func35, Tryz.ntmps35
    go_wp2_with fail
    (try rw [HW.out])
    refine (rwell_is s y z u k _ HK.out).mono ?_
    rintro e w1 ⟨rfl, hb1⟩
    have hb := hB.trans (hb1.mono hB.size)
    go_wp2_with fail
    go_ret
    exact ⟨rfl, hb⟩
set_option maxHeartbeats 2000000 in
theorem rqwindow_is (s : ByteArray) (y z u low high v : Int) (w : World) (h9 : wellN s y z u = 0 → cntP s ≤ 9) (hv : windowV s y z u low high = v) : Calls Tryz.prog 37 #[.agg #[.string s, .int .i64 y, .int .i64 z, .int .i64 u], .int .i64 low, .int .i64 high] w (Gives w (.int .i64 v)) := by
  unfold Gives
  obtain ⟨W0, hW0⟩ : ∃ W0, w.alloc (.cells #[.string s, .int .i64 y, .int .i64 z, .int .i64 u] 23) = W0 := ⟨_, rfl⟩
  have hB : Below w.heap.size w W0 := by rw [← hW0]; exact (by repeat (first | exact Below.refl _ _ | (refine Below.setCell ?_ (by first | omega | (simp; done) | (simp; omega) | (simp at *; omega)) _) | (refine Below.alloc ?_ (by first | omega | (simp; done) | (simp; omega) | (simp at *; omega)) _) | refine Below.drew ?_ | (refine below_drewN ?_ _) | (refine Below.trans ?_ (Below.mono (by assumption) (by first | omega | (simp; done) | (simp; omega) | (simp at *; omega))))))
  have bP : Blk W0 w.heap.size 23 #[.string s, .int .i64 y, .int .i64 z, .int .i64 u] := by rw [← hW0]; exact Blk.new _ _ _ rfl
  obtain ⟨p0, p1, p2, p3⟩ := vpos_cells bP
  have HW := Lib.hid hW0
  by_cases hl : high ≤ low
  · have hv0 : v = low := by rw [← hv]; unfold windowV; rw [if_pos hl]
    subst hv0
    clear hv h9 bP hW0
    go_enter Tryz.func37, Tryz.ntmps37
    go_wp2_with fail
    go_ret
    (try rw [HW.out])
    exact ⟨rfl, hB⟩
  · obtain ⟨r, hr⟩ : ∃ r, quietV s y z u = r := ⟨_, rfl⟩
    have HC : Hid (∀ W, Calls Tryz.prog 35 #[.agg #[.string s, .int .i64 y, .int .i64 z, .int .i64 u]] W (Gives W (.int .i64 r))) := fun W => rqof_is s y z u r W h9 hr
    have hv0 : v = min (max r low) high := by rw [← hv, ← hr]; unfold windowV; rw [if_neg hl]
    subst hv0
    clear hv h9 bP hW0 hr
    go_enter Tryz.func37, Tryz.ntmps37
    go_wp2_with fail
    (try rw [HW.out])
    refine (HC.out _).mono ?_
    rintro e w1 ⟨rfl, hb1⟩
    have hb := hB.trans (hb1.mono hB.size)
    go_wp2_with fail
    go_ret
    exact ⟨rfl, hb⟩
end Go.Proofs.YtbdgbihdhbjljaaGreatDoor
