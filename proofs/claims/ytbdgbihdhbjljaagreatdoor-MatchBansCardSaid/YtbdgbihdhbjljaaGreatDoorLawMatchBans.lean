/- Of moves that are banned none is left, and all others are; of a position as it stands: the call answers true. -/
import Derived.Test.YtbdgbihdhbjljaaGreatDoorMatchV
import Derived.Test.YtbdgbihdhbjljaaGreatDoorRefLM
namespace Go.Proofs.YtbdgbihdhbjljaaGreatDoor.mbans
open Go.RowKit Go.Shelf
open M (S)

theorem inI_no {l : List (Int × Int)} {a b : Int} (h : ∀ k (hk : k < l.length), (l[k].1 == a && l[k].2 == b) = false) : inI l (a, b) = false := by
  unfold inI
  rw [List.any_eq_false]
  intro x hx
  obtain ⟨k, hk, rfl⟩ := List.mem_iff_getElem.1 hx
  simp only
  rw [h k hk]
  decide
theorem inI_yes {l : List (Int × Int)} {a b : Int} {k : Nat} (hk : k < l.length) (h : (l[k].1 == a && l[k].2 == b) = true) : inI l (a, b) = true := by
  unfold inI
  rw [List.any_eq_true]
  exact ⟨l[k], List.getElem_mem hk, h⟩
set_option maxRecDepth 100000 in
set_option maxHeartbeats 2000000 in
theorem mhas_any (A : Option Addr) (l : List (Int × Int)) (n c : Nat) (a b : Int) (w : World) (hx : Rd w A (mzL l)) (hn : l.length = n) (hm : n ≤ 1000000) :
    Calls Tryz.prog 26 #[.slice A n c, .agg #[.int .i64 a, .int .i64 b]] w (Gives w (.bool (inI l (a, b)))) := by
  unfold Gives
  obtain ⟨r, hr⟩ : ∃ r, inI l (a, b) = r := ⟨_, rfl⟩
  have HR := Lib.hid hr
  have HN := Lib.hid hn
  rw [hr]
  clear hn hr
  obtain ⟨W0, hW0⟩ : ∃ W0, w.alloc (.cells #[.int .i64 a, .int .i64 b] 48) = W0 := ⟨_, rfl⟩
  have hB0 : Below w.heap.size w W0 := by rw [← hW0]; exact (by repeat (first | exact Below.refl _ _ | (refine Below.setCell ?_ (by first | omega | (simp; done) | (simp; omega) | (simp at *; omega)) _) | (refine Below.alloc ?_ (by first | omega | (simp; done) | (simp; omega) | (simp at *; omega)) _) | refine Below.drew ?_ | (refine below_drewN ?_ _) | (refine Below.trans ?_ (Below.mono (by assumption) (by first | omega | (simp; done) | (simp; omega) | (simp at *; omega))))))
  have bM0 : Blk W0 w.heap.size 48 #[.int .i64 a, .int .i64 b] := by rw [← hW0]; exact Blk.new _ _ _ rfl
  have HW := Lib.hid hW0
  clear hW0
  go_enter Tryz.func26, Tryz.ntmps26
  go_wp2
  rw [HW.out]
  go_loopw [5] (fun i wr => ∃ k : Nat, k ≤ n ∧ i = .int .i64 k ∧ Blk wr w.heap.size 48 #[.int .i64 a, .int .i64 b] ∧ Below w.heap.size w wr ∧ Hid (∀ j (hj : j < l.length), j < k → (l[j].1 == a && l[j].2 == b) = false)) (fun i _ => n - (intOf i).toNat)
  case atStart => exact ⟨0, Nat.zero_le _, rfl, bM0, hB0, fun j _ h => absurd h (Nat.not_lt_zero _)⟩
  case round =>
    obtain ⟨k, hk, rfl, bM, hB, hno⟩ := hrel
    by_cases hlt : k < n
    · have hkl : k < l.length := by rw [HN.out]; exact hlt
      obtain ⟨g1, o1, rfl, c0, c1⟩ := hx.mz hkl
      obtain ⟨u, hu⟩ : ∃ u, l[k].1 = u := ⟨_, rfl⟩
      obtain ⟨v, hv⟩ : ∃ v, l[k].2 = v := ⟨_, rfl⟩
      have HU := Lib.hid hu
      have HV := Lib.hid hv
      rw [hu] at c0
      rw [hv] at c1
      have hc0 := (hB.cell (p := ⟨g1, o1 + k * 2, none⟩) (cell_lt c0)).trans c0
      have hc1 := (hB.cell (p := ⟨g1, o1 + k * 2 + 1, none⟩) (cell_lt c1)).trans c1
      have m0 : wr.cell? ⟨w.heap.size, 0, none⟩ = some (.int .i64 a) := bM.cell 0
      have m1 : wr.cell? ⟨w.heap.size, 1, none⟩ = some (.int .i64 b) := bM.cell 1
      have b1 : (k : Int) < (n : Int) := by omega
      have hne := eql_move
      clear c0 c1 hu hv
      cases he : (u == a && v == b)
      · have HE := Lib.hid he
        go_wp2_with fail
        try (go_quiet (fail))
        go_wp2_with fail
        go_roundw
        case rel =>
          refine ⟨k + 1, by omega, by go_num, by first | exact bM | exact bM.next (below_drewN (Below.refl _ _) _), by first | exact hB | exact below_drewN hB _, ?_⟩
          show ∀ j (hj : j < l.length), j < k + 1 → _
          intro j hj hjk
          by_cases e : j = k
          · subst e
            rw [HU.out, HV.out]
            exact HE.out
          · exact hno.out j hj (by omega)
        case measure => simp [intOf]; omega
      · have K : Hid (r = true) := by
          show _ = _
          rw [← HR.out]
          exact inI_yes hkl (by rw [HU.out, HV.out]; exact he)
        go_wp2_with fail
        try (go_quiet (fail))
        go_wp2_with fail
        go_ret
        exact ⟨by rw [K.out]; rfl, by first | exact hB | exact below_drewN hB _⟩
    · obtain rfl : k = n := by omega
      have K : Hid (r = false) := by
        show _ = _
        rw [← HR.out]
        exact inI_no fun j hj => hno.out j hj (by rw [← HN.out]; exact hj)
      go_wp2
      go_ret
      exact ⟨by rw [K.out]; rfl, hB⟩
/-- What is left when some are banned: all others. -/
theorem left_ban (p : Ps) (l : List (Int × Int)) : leftL p (banL p l) = (allI p).filter fun x => !inI l x := by
  unfold leftL
  refine List.filter_congr fun x hx => ?_
  congr 1
  rw [Bool.eq_iff_iff, inI_mem]
  unfold banL
  rw [List.mem_filter]
  exact ⟨fun h => h.2, fun h => ⟨hx, h⟩⟩
theorem both_len (xs : List (Int × Int)) (f : Int × Int → Bool) : (xs.filter fun x => !f x).length + (xs.filter f).length = xs.length := by
  induction xs with
  | nil => rfl
  | cons x l ih =>
    rw [List.filter_cons, List.filter_cons]
    cases f x <;> simp <;> omega
theorem take_cnt (xs : List (Int × Int)) (f : Int × Int → Bool) {k : Nat} (h : k < xs.length) : ((xs.take (k + 1)).filter f).length = ((xs.take k).filter f).length + (if f xs[k] then 1 else 0) := by
  rw [List.take_succ_eq_append_getElem h, List.filter_append, List.length_append, List.filter_cons]
  cases f xs[k] <;> rfl
theorem field_kind (k r : Int) (W : World) : (Instr.field 27 (.agg #[.int .i64 k, .int .i64 r]) 0).run Tryz.prog W = .ok (.int .i64 k) W := by kernel_rfl
set_option maxRecDepth 100000 in
set_option maxHeartbeats 4000000 in
theorem large (p : Ps) (C : Option Addr) (a d : Nat) (w : World) (hT : Tab w) (h : 200 < p.s.size ∨ 40 < a) : Calls Tryz.prog 5 #[.agg #[.string p.s, .int .i64 p.y, .int .i64 p.z, .int .i64 p.u], .slice C a d] w (Gives w (.bool true)) := by
  unfold Gives
  obtain ⟨s, y, z, u⟩ := p
  obtain ⟨W0, hW0⟩ : ∃ W0, w.alloc (.cells #[.string s, .int .i64 y, .int .i64 z, .int .i64 u] 23) = W0 := ⟨_, rfl⟩
  have hB : Below w.heap.size w W0 := by rw [← hW0]; exact below_new _ _
  have bP : Blk W0 w.heap.size 23 #[.string s, .int .i64 y, .int .i64 z, .int .i64 u] := by rw [← hW0]; exact Blk.new _ _ _ rfl
  obtain ⟨p0, p1, p2, p3⟩ := four_cells bP
  have HT := Lib.hid (hT.next hB)
  have h : 200 < s.size ∨ 40 < a := h
  have h : ((200 : Int) < (s.size : Int)) ∨ (¬ ((200 : Int) < (s.size : Int)) ∧ (40 : Int) < (a : Int)) := by omega
  rcases h with hd | ⟨hd, hd2⟩
  all_goals
    go_enter Tryz.func5, Tryz.ntmps5
    go_wp2_with fail
    (try rw [hW0])
    refine (live19_any _ HT.out).mono ?_
    rintro e w9 ⟨rfl, hb⟩
    go_wp2
    go_ret
    exact ⟨rfl, hB.trans (hb.mono hB.size)⟩
theorem hs_keep {g o : Nat} {x y : Int} {w W W' : World} (H : W.cell? ⟨g, o, none⟩ = some (.int .i64 x) ∧ W.cell? ⟨g, o + 1, none⟩ = some (.int .i64 y) ∧ Below w.heap.size w W) (hb : Below W.heap.size W W') : W'.cell? ⟨g, o, none⟩ = some (.int .i64 x) ∧ W'.cell? ⟨g, o + 1, none⟩ = some (.int .i64 y) ∧ Below w.heap.size w W' :=
  ⟨(hb.cell (cell_lt H.1)).trans H.1, (hb.cell (cell_lt H.2.1)).trans H.2.1, H.2.2.trans (hb.mono H.2.2.size)⟩
theorem hs_below {g o : Nat} {x y : Int} {w W : World} (H : W.cell? ⟨g, o, none⟩ = some (.int .i64 x) ∧ W.cell? ⟨g, o + 1, none⟩ = some (.int .i64 y) ∧ Below w.heap.size w W) : Below w.heap.size w W := H.2.2
set_option maxRecDepth 100000 in
set_option maxHeartbeats 16000000 in
theorem small (p : Ps) (C : Option Addr) (l : List (Int × Int)) (a d : Nat) (w : World) (hT : Tab w) (hm : Rd w C (mzL l)) (ha : l.length = a) (h1 : p.s.size ≤ 200) (h2 : a ≤ 40) : Calls Tryz.prog 5 #[.agg #[.string p.s, .int .i64 p.y, .int .i64 p.z, .int .i64 p.u], .slice C a d] w (Gives w (.bool true)) := by
  unfold Gives
  have HSET := Lib.hid (fun (W : World) (mb : Nat) (h : MAt W mb froP0 0 0 0 none 0 []) (hTW : Tab W) => mset_new h p none [] 0 0 hTW (rd_nil _ _) rfl (Nat.le_refl _))
  have HA := Lib.hid ha
  obtain ⟨PP, hPP⟩ : ∃ PP, PP = p := ⟨_, rfl⟩
  have HPP := Lib.hid hPP
  have hl8 : (legalV p.s p.y p.z p.u).length = (allI PP).length := by rw [hPP]; unfold allI; rw [List.length_map]
  have HL8 := Lib.hid hl8
  obtain ⟨s, y, z, u⟩ := p
  have e1 : ¬ (200 : Int) < (s.size : Int) := by have : s.size ≤ 200 := h1; omega
  have e2 : ¬ (40 : Int) < (a : Int) := by omega
  have HA9 : Hid (a ≤ 1000000) := by show _ ≤ _; omega
  obtain ⟨W0, hW0⟩ : ∃ W0, w.alloc (.cells #[.string s, .int .i64 y, .int .i64 z, .int .i64 u] 23) = W0 := ⟨_, rfl⟩
  have hB : Below w.heap.size w W0 := by rw [← hW0]; exact below_new _ _
  have bP : Blk W0 w.heap.size 23 #[.string s, .int .i64 y, .int .i64 z, .int .i64 u] := by rw [← hW0]; exact Blk.new _ _ _ rfl
  obtain ⟨p0, p1, p2, p3⟩ := four_cells bP
  have HT := Lib.hid (hT.next hB)
  have HR := Lib.hid (hm.next hB)
  have HB := Lib.hid hB
  have HP := Lib.hid bP
  have HW := Lib.hid hW0
  clear hW0 hB bP hT hm h1 h2 hPP hl8
  go_enter Tryz.func5, Tryz.ntmps5
  go_wp2_with fail
  (try rw [HW.out])
  refine (mnew_is W0 HT.out).mono ?_
  rintro e w1 ⟨mb, rfl, hmb, hm1, hb1⟩
  have HMB : Hid (W0.heap.size ≤ mb) := hmb
  have HM1 := Lib.hid hm1
  have HB1 := Lib.hid hb1
  have hP1 := HP.out.next hb1
  clear hmb hm1 hb1 p0 p1 p2 p3
  obtain ⟨p0, p1, p2, p3⟩ := four_cells hP1
  go_wp2_with fail
  refine (HSET.out w1 mb HM1.out (HT.out.next HB1.out)).mono ?_
  rintro e w2 ⟨er, q, kv, rv, n, rfl, hst, hm2, hf2⟩
  have HM2 := Lib.hid hm2
  have HB2 := Lib.hid (far_tab HB1.out HMB.out hf2)
  have HST := Lib.hid hst
  clear hm2 hf2 hst p0 p1 p2 p3 hP1
  by_cases h0 : er = 0
  · subst h0
    obtain rfl : q = PP := by
      obtain ⟨_, h5, _⟩ := HST.out.good rfl
      have he := HST.out.err
      rw [← HPP.out] at h5 he
      have h6 : playL PP [] = [PP] := by
        unfold playL
        rw [if_pos he]
        rfl
      rw [h6] at h5
      injection h5 with h5
      exact h5.symm
    obtain ⟨L, hL⟩ : ∃ L, movesM q kv [] = L := ⟨_, rfl⟩
    obtain ⟨k, hk⟩ : ∃ k, L.length = k := ⟨_, rfl⟩
    have hk9 : k ≤ 8100 := by rw [← hk, ← hL]; exact movesM_len _ _ _
    have HK9 : Hid (k ≤ 1000000) := by show _ ≤ _; omega
    have HL := Lib.hid hL
    have HK := Lib.hid hk
    clear hL hk
    go_wp2_with fail
    refine (mmoves_all HM2.out (HT.out.next HB2.out) (by decide) L HL.out k HK.out).mono ?_
    rintro e w3 ⟨A3, c3, rfl, ho3, hb3⟩
    have HO3 := Lib.hid ho3
    have HB3 := Lib.hid (HB2.out.trans (hb3.mono HB2.out.size))
    have HM3 := Lib.hid (HM2.out.next hb3)
    have HLT : Hid (mb < w2.heap.size) := HM2.out.lt
    clear ho3 hb3
    obtain ⟨v, hv⟩ : ∃ v, l.any (fun x => !isV q.s q.y q.z q.u x.1 x.2) = v := ⟨_, rfl⟩
    have HV := Lib.hid hv
    clear hv
    go_wp2_with fail
    refine (mban_any HM3.out (HT.out.next HB3.out) C l a d (HR.out.next HB3.out) HA.out HA9.out v HV.out).mono ?_
    rintro e w4 ⟨rfl, hcase⟩
    cases v with
    | true =>
      have hb4 : Below w3.heap.size w3 w4 := by
        rcases hcase with ⟨_, h⟩ | ⟨h, _⟩
        · exact h
        · cases h
      have HB4 := Lib.hid (HB3.out.trans (hb4.mono HB3.out.size))
      have HM4 := Lib.hid (HM3.out.next hb4)
      clear hb4 hcase
      go_wp2_with fail
      refine (mmoves_all HM4.out (HT.out.next HB4.out) (by decide) L HL.out k HK.out).mono ?_
      rintro e w5 ⟨A5, c5, rfl, _, hb5⟩
      have HB5 := Lib.hid (HB4.out.trans (hb5.mono HB4.out.size))
      have HM5 := Lib.hid (HM4.out.next hb5)
      clear hb5
      go_wp2_with fail
      refine (mbanned_any HM5.out (by decide)).mono ?_
      rintro e w6 ⟨v6, rfl, ho, hb6⟩
      obtain ⟨A6, c6, rfl, _, _⟩ := own_any ho
      have HB6 := Lib.hid (HB5.out.trans (hb6.mono HB5.out.size))
      clear ho hb6
      go_wp2_with fail
      refine (live19_any _ (HT.out.next HB6.out)).mono ?_
      rintro e w7 ⟨rfl, hb⟩
      have hb2 := HB.out.trans ((HB6.out.trans (hb.mono HB6.out.size)).mono HB.out.size)
      go_wp2_with fail
      go_ret
      exact ⟨rfl, hb2⟩
    | false =>
      obtain ⟨A4, c4, hm4, hf4⟩ : ∃ A' c', MAt w4 mb q kv rv n A' c' (banL q l) ∧ Far (· = mb) w3 w4 := by
        rcases hcase with ⟨h, _⟩ | ⟨_, h⟩
        · cases h
        · exact h
      have HB4 := Lib.hid (far_tab HB3.out HMB.out hf4)
      have HM4 := Lib.hid hm4
      have HO4 := Lib.hid (hf4.rd HO3.out HLT.out)
      clear hm4 hf4 hcase
      obtain ⟨R, hR⟩ : ∃ R, movesM q kv (banL q l) = R := ⟨_, rfl⟩
      obtain ⟨m, hm⟩ : ∃ m, R.length = m := ⟨_, rfl⟩
      have hm9 : m ≤ 8100 := by rw [← hm, ← hR]; exact movesM_len _ _ _
      have HRR := Lib.hid hR
      have HMM := Lib.hid hm
      have HM9 : Hid (m ≤ 1000000) := by show _ ≤ _; omega
      have HOPP : Hid (∀ x ∈ L, inI R x = !inI l x) := fun x hx => by
        have hkv : kv = 0 := by
          rw [← HL.out] at hx
          unfold movesM at hx
          split at hx
          · assumption
          · cases hx
        have hxa : x ∈ allI q := movesM_may (k := kv) (bs := []) (by rw [HL.out]; exact hx)
        rw [← hR]
        unfold movesM
        rw [if_pos hkv, left_ban, Bool.eq_iff_iff, inI_mem, List.mem_filter]
        exact ⟨fun h => h.2, fun h => ⟨hxa, h⟩⟩
      have HSUM : Hid (m + ((L.take k).filter fun x => inI l x).length = k) := by
        show _ = _
        rw [List.take_of_length_le (by rw [HK.out]; exact Nat.le_refl _), ← hm, ← hR]
        by_cases hkv : kv = 0
        · have hLa : L = allI q := by rw [← HL.out]; unfold movesM; rw [if_pos hkv, left_none]
          unfold movesM
          rw [if_pos hkv, left_ban, hLa, both_len, ← hLa, HK.out]
        · have hLa : L = [] := by rw [← HL.out]; unfold movesM; rw [if_neg hkv]
          unfold movesM
          rw [if_neg hkv, hLa]
          rw [hLa] at HK
          exact HK.out
      clear hR hm
      go_wp2_with fail
      refine (mmoves_all HM4.out (HT.out.next HB4.out) (Nat.le_trans (banL_len q l) (by decide)) R HRR.out m HMM.out).mono ?_
      rintro e w5 ⟨A5, c5, rfl, ho5, hb5⟩
      have HB5 := Lib.hid (HB4.out.trans (hb5.mono HB4.out.size))
      have HM5 := Lib.hid (HM4.out.next hb5)
      have HRA := Lib.hid (Rd.owns (own_next HO4.out hb5))
      have HRR5 := Lib.hid (Rd.owns ho5)
      have HRL := Lib.hid (HR.out.next HB5.out)
      clear ho5 hb5
      go_wp2_with fail
      go_loopw [10, 11] (fun c i wr => ∃ j : Nat, j ≤ k ∧ i = .int .i64 (j : Int) ∧ c = .int .i64 (((L.take j).filter fun x => inI l x).length : Int) ∧ Below w5.heap.size w5 wr) (fun _ i _ => k - (intOf i).toNat)
      case atStart => exact ⟨0, Nat.zero_le _, rfl, rfl, Below.refl _ _⟩
      case round =>
        obtain ⟨j, hj, rfl, rfl, hBr⟩ := hrel
        obtain ⟨t, ht⟩ : ∃ t, ((L.take j).filter fun x => inI l x).length = t := ⟨_, rfl⟩
        have ht9 : t ≤ 8100 := by
          rw [← ht]
          refine Nat.le_trans (List.length_filter_le _ _) ?_
          rw [List.length_take]
          omega
        rw [ht]
        have HTT := Lib.hid ht
        clear ht
        have HBR := Lib.hid hBr
        by_cases hlt : j < k
        · have hjl : j < L.length := by rw [HK.out]; exact hlt
          have bj : (j : Int) < (k : Int) := by omega
          obtain ⟨gA, oA, rfl, c0, c1⟩ := HRA.out.mz hjl
          have hmem : L[j] ∈ L := List.getElem_mem hjl
          have hcnt := take_cnt L (fun x => inI l x) hjl
          have hopp := HOPP.out _ hmem
          obtain ⟨⟨x, y'⟩, hxy⟩ : ∃ x, L[j] = x := ⟨_, rfl⟩
          rw [hxy] at c0 c1 hcnt hopp
          simp only at c0 c1 hcnt hopp
          obtain ⟨v1, hv1⟩ : ∃ v1, inI l (x, y') = v1 := ⟨_, rfl⟩
          rw [hv1, HTT.out] at hcnt
          rw [hv1] at hopp
          have HCN := Lib.hid hcnt
          have HH1 : Hid (∀ W, Below w5.heap.size w5 W → Calls Tryz.prog 26 #[.slice C a d, .agg #[.int .i64 x, .int .i64 y']] W (Gives W (.bool v1))) := fun W hbW => by
            have h := mhas_any C l a d x y' W (HRL.out.next hbW) HA.out HA9.out
            rw [hv1] at h
            exact h
          have HH2 : Hid (∀ W, Below w5.heap.size w5 W → Calls Tryz.prog 26 #[.slice A5 m c5, .agg #[.int .i64 x, .int .i64 y']] W (Gives W (.bool (!v1)))) := fun W hbW => by
            have h := mhas_any A5 R m c5 x y' W (HRR5.out.next hbW) HMM.out HM9.out
            rw [hopp] at h
            exact h
          have d0 := (hBr.cell (p := ⟨gA, oA + j * 2, none⟩) (cell_lt c0)).trans c0
          have d1 := (hBr.cell (p := ⟨gA, oA + j * 2 + 1, none⟩) (cell_lt c1)).trans c1
          have hS : wr.drew.cell? ⟨gA, oA + j * 2, none⟩ = some (.int .i64 x) ∧ wr.drew.cell? ⟨gA, oA + j * 2 + 1, none⟩ = some (.int .i64 y') ∧ Below w5.heap.size w5 wr.drew := ⟨d0, d1, hBr.drew⟩
          have b0 : (0 : Int) ≤ (j : Int) := by omega
          have hve : (v1 == !v1) = false := by cases v1 <;> rfl
          have hve2 : (!v1 == v1) = false := by cases v1 <;> rfl
          clear c0 c1 hmem hcnt hopp hxy hv1 d0 d1 hBr
          go_wp2_with fail
          go_region_held3 (fun W => W.cell? ⟨gA, oA + j * 2, none⟩ = some (.int .i64 x) ∧ W.cell? ⟨gA, oA + j * 2 + 1, none⟩ = some (.int .i64 y') ∧ Below w5.heap.size w5 W)
            (first | exact hS | exact hs_keep (by assumption) hb)
            (first
              | (go_at_call 26; (with_reducible refine (HH1.out _ ?_).mono ?_); (exact hs_below (by assumption)); rintro e w6 ⟨rfl, hb⟩)
              | (go_at_call 26; (with_reducible refine (HH2.out _ ?_).mono ?_); (exact hs_below (by assumption)); rintro e w6 ⟨rfl, hb⟩))
          rename_i hh
          obtain ⟨d0, d1, hB6⟩ := hh
          clear hS
          have HB6 := Lib.hid hB6
          clear hB6
          have HF : Hid (∀ (vv : Bool), v1 = vv → ((L.take (j + 1)).filter fun x => inI l x).length = t + if vv then 1 else 0) := fun vv e => by rw [← e]; exact HCN.out
          cases v1 with
          | true =>
            go_wp2_with fail
            refine (HH1.out _ HB6.out).mono ?_
            rintro e w7 ⟨rfl, hb⟩
            have hB7 := HB6.out.trans (hb.mono HB6.out.size)
            have h1 := HF.out true rfl
            rw [if_pos rfl] at h1
            have H1 := Lib.hid h1
            clear h1 hb
            go_wp2_with fail
            go_roundw
            case rel => exact ⟨j + 1, by omega, by go_num, by rw [H1.out]; go_num, hB7⟩
            case measure => simp [intOf]; omega
          | false =>
            go_wp2_with fail
            refine (HH1.out _ HB6.out).mono ?_
            rintro e w7 ⟨rfl, hb⟩
            have hB7 := HB6.out.trans (hb.mono HB6.out.size)
            have h1 := HF.out false rfl
            rw [if_neg (by simp), Nat.add_zero] at h1
            have H1 := Lib.hid h1
            clear h1 hb
            go_wp2_with fail
            go_roundw
            case rel => exact ⟨j + 1, by omega, by go_num, by rw [H1.out]; first | done | rfl, hB7⟩
            case measure => simp [intOf]; omega
        · obtain rfl : j = k := by omega
          have hs : m + t = j := by have h := HSUM.out; rw [HTT.out] at h; exact h
          have ws : IntKind.i64.wrap ((m : Int) + (t : Int)) = (j : Int) := by rw [IntWalk.i64_in _ (by omega)]; omega
          have HMR := Lib.hid (HM5.out.next hBr)
          have hfk := field_kind kv rv
          by_cases hkv : kv = 0
          · subst hkv
            have HJ : Hid ((legalV s y z u).length = j) := by
              have h8 : (legalV s y z u).length = (allI q).length := HL8.out
              show _ = _
              rw [h8, ← HK.out, ← HL.out]
              unfold movesM
              rw [if_pos rfl, left_none]
            have hp0 := HP.out.next (HB5.out.trans (HBR.out.mono HB5.out.size))
            clear hBr
            go_wp2_with fail
            refine (mverdict_is HMR.out).mono ?_
            rintro e w8 ⟨rfl, hb8⟩
            have HB8 := Lib.hid (HB5.out.trans ((HBR.out.trans (hb8.mono HBR.out.size)).mono HB5.out.size))
            have hp8 := hp0.next hb8
            clear hb8 hp0
            obtain ⟨p0, p1, p2, p3⟩ := four_cells hp8
            go_wp2_with fail
            refine (rlmoves_is s y z u (legalV s y z u) j _ rfl HJ.out).mono ?_
            rintro e w9 ⟨A9, c9, rfl, _, hb9⟩
            have HB9 := Lib.hid (HB8.out.trans (hb9.mono HB8.out.size))
            clear hb9 p0 p1 p2 p3 hp8
            go_wp2_with fail
            refine (live19_any _ (HT.out.next HB9.out)).mono ?_
            rintro e w10 ⟨rfl, hb⟩
            have hb2 := HB.out.trans ((HB9.out.trans (hb.mono HB9.out.size)).mono HB.out.size)
            go_wp2_with fail
            go_ret
            exact ⟨rfl, hb2⟩
          · have kn : (kv != 0) = true := by rw [bne_iff_ne]; exact hkv
            clear hBr hkv
            go_wp2_with fail
            refine (mverdict_is HMR.out).mono ?_
            rintro e w8 ⟨rfl, hb8⟩
            have HB8 := Lib.hid (HB5.out.trans ((HBR.out.trans (hb8.mono HBR.out.size)).mono HB5.out.size))
            clear hb8
            go_wp2_with fail
            refine (live19_any _ (HT.out.next HB8.out)).mono ?_
            rintro e w10 ⟨rfl, hb⟩
            have hb2 := HB.out.trans ((HB8.out.trans (hb.mono HB8.out.size)).mono HB.out.size)
            go_wp2_with fail
            go_ret
            exact ⟨rfl, hb2⟩
  · have k0 : (er != 0) = true := by rw [bne_iff_ne]; exact h0
    obtain ⟨rfl, rfl, rfl, rfl⟩ := HST.out.bad h0
    have HL44 : Hid ((movesM froP0 0 []).length = 44) := by show _ = _; unfold movesM; rw [if_pos rfl]; exact start_left
    clear h0
    go_wp2_with fail
    refine (mmoves_all HM2.out (HT.out.next HB2.out) (by decide) _ rfl 44 HL44.out).mono ?_
    rintro e w3 ⟨A3, c3, rfl, _, hb3⟩
    have HB3 := Lib.hid (HB2.out.trans (hb3.mono HB2.out.size))
    clear hb3
    go_wp2_with fail
    refine (live19_any _ (HT.out.next HB3.out)).mono ?_
    rintro e w4 ⟨rfl, hb⟩
    have hb2 := HB.out.trans ((HB3.out.trans (hb.mono HB3.out.size)).mono HB.out.size)
    go_wp2_with fail
    go_ret
    exact ⟨rfl, hb2⟩
theorem walk (p : Ps) (C : Option Addr) (l : List (Int × Int)) (d : Nat) (w : World) (hT : Tab w) (hm : Rd w C (mzL l)) (_ : l.length ≤ d) : Calls Tryz.prog 5 #[.agg #[.string p.s, .int .i64 p.y, .int .i64 p.z, .int .i64 p.u], .slice C l.length d] w (Gives w (.bool true)) := by
  by_cases h1 : p.s.size ≤ 200
  · by_cases h2 : l.length ≤ 40
    · exact small p C l _ d w hT hm rfl h1 h2
    · exact large p C _ d w hT (.inr (by omega))
  · exact large p C _ d w hT (.inl (by omega))
end Go.Proofs.YtbdgbihdhbjljaaGreatDoor.mbans
