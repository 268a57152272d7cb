/- The moves to some squares that a side could make, one after the other: the iterator, for every loop body that keeps what it must. -/
import Derived.Test.YtnkbilikkbaeeaaGreatDoorGuardB
import Derived.Test.YtnkbilikkbaeeaaGreatDoorGuardK
import Derived.Test.YtnkbilikkbaeeaaGreatDoorBoardO
import Derived.Test.YtnkbilikkbaeeaaGreatDoorPseudoB
namespace Go.Proofs.YtnkbilikkbaeeaaGreatDoor
open Go.RowKit Go.Shelf
open M (S)

/-- A side's own squares, if it is a board. -/
def ownL (s : ByteArray) (side : Int) : List Nat := if isB s then ownN s side else []
theorem piecesL_own (s : ByteArray) (side : Int) : piecesL s side = (ownL s side).map fun k : Nat => (k : Int) := by
  unfold piecesL ownL
  split
  · rfl
  · rfl
theorem ownL_at {s : ByteArray} {side : Int} {k : Nat} (h : k < (ownL s side).length) : isB s = true ∧ (ownL s side)[k] < 90 := by
  have hm := List.getElem_mem h
  obtain ⟨x, hx⟩ : ∃ x, (ownL s side)[k] = x := ⟨_, rfl⟩
  rw [hx] at hm ⊢
  unfold ownL at hm
  split at hm
  · rename_i hb
    exact ⟨hb, List.mem_range.1 (List.mem_filter.1 hm).1⟩
  · cases hm
theorem ownL_len (s : ByteArray) (side : Int) : (ownL s side).length ≤ 90 := by
  unfold ownL
  split
  · exact Nat.le_trans (List.length_filter_le _ _) (by simp)
  · simp
/-- All that is yielded; what was yielded ahead of a square's goal. -/
def goL (s : ByteArray) (side : Int) (gs : List Nat) : List (Nat × Nat) := (ownL s side).flatMap (goG s side gs)
def goK (s : ByteArray) (side : Int) (gs : List Nat) (k : Nat) : List (Nat × Nat) := ((ownL s side).take k).flatMap (goG s side gs)
def goJ (s : ByteArray) (side : Int) (gs : List Nat) (k a j : Nat) : List (Nat × Nat) := goK s side gs k ++ goG s side (gs.take j) a
theorem goK_zero (s : ByteArray) (side : Int) (gs : List Nat) : goK s side gs 0 = [] := rfl
theorem goK_all (s : ByteArray) (side : Int) (gs : List Nat) : goK s side gs (ownL s side).length = goL s side gs := by
  unfold goK goL
  rw [List.take_length]
theorem goJ_zero (s : ByteArray) (side : Int) (gs : List Nat) (k a : Nat) : goJ s side gs k a 0 = goK s side gs k := by
  unfold goJ goG
  simp
theorem goJ_all {s : ByteArray} {side : Int} {gs : List Nat} {k : Nat} (h : k < (ownL s side).length) : goJ s side gs k (ownL s side)[k] gs.length = goK s side gs (k + 1) := by
  unfold goJ goK
  rw [List.take_length, List.take_succ_eq_append_getElem h, List.flatMap_append]
  simp
theorem goJ_no {s : ByteArray} {side : Int} {gs : List Nat} {k a j : Nat} (h : j < gs.length) (hc : couldB s side a gs[j] = false) : goJ s side gs k a (j + 1) = goJ s side gs k a j := by
  unfold goJ goG
  rw [List.take_succ_eq_append_getElem h, List.filter_append]
  simp [hc]
theorem goJ_yes {s : ByteArray} {side : Int} {gs : List Nat} {k a j : Nat} (h : j < gs.length) (hc : couldB s side a gs[j] = true) : goJ s side gs k a (j + 1) = goJ s side gs k a j ++ [(a, gs[j])] := by
  unfold goJ goG
  rw [List.take_succ_eq_append_getElem h, List.filter_append]
  simp [hc]
theorem goJ_pre {s : ByteArray} {side : Int} {gs : List Nat} {k j : Nat} (h : k < (ownL s side).length) : goJ s side gs k (ownL s side)[k] j <+: goL s side gs := by
  have h1 : goJ s side gs k (ownL s side)[k] j <+: goK s side gs (k + 1) := by
    rw [← goJ_all h, goJ, goJ, List.take_length]
    refine (List.prefix_append_right_inj _).2 ?_
    unfold goG
    obtain ⟨r, hr⟩ := List.take_prefix j gs
    refine ⟨(r.filter fun b => couldB s side (ownL s side)[k] b).map fun b => ((ownL s side)[k], b), ?_⟩
    rw [← List.map_append, ← List.filter_append, hr]
  refine h1.trans ?_
  unfold goK goL
  obtain ⟨r, hr⟩ := List.take_prefix (k + 1) (ownL s side)
  refine ⟨r.flatMap (goG s side gs), ?_⟩
  rw [← List.flatMap_append, hr]
abbrev mvv (x : Nat × Nat) : Value := .agg #[.int .i64 (x.1 : Int), .int .i64 (x.2 : Int)]
abbrev enc1 (x : Nat × Nat) : Array Value := #[mvv x]
theorem gmoves_is (s : ByteArray) (side : Int) (A : Option Addr) (n c : Nat) (w : World) : Calls Tryz.prog 47 #[.string s, .int .i64 side, .slice A n c] w fun e w' => e = .returned (.func (.func 83) #[] #[.pointer (some ⟨w.heap.size, 0, none⟩), .pointer (some ⟨w.heap.size + 1, 0, none⟩), .pointer (some ⟨w.heap.size + 1 + 1, 0, none⟩)]) ∧ ((w.alloc (.cells #[.string s] 9)).alloc (.cells #[.int .i64 side] 3)).alloc (.cells #[.slice A n c] 23) = w' := by
  go_enter Tryz.func47, Tryz.ntmps47
  go_wp2
  go_ret
  exact ⟨rfl, rfl⟩
theorem below_new (w : World) (o : Obj) : Below w.heap.size w (w.alloc o) := (Below.refl _ _).alloc (Nat.le_refl _) _
theorem row_same {w w1 : World} {base : Nat} {e : TypeId} {size : Nat} {v : Value} {n : Nat} {xs : List Value} (h : w.ownsRow base e size v n xs) (hb : ∀ k, k < w.heap.size → v.ownBlock = some k → w1.heap[k]? = w.heap[k]?) : w1.ownsRow base e size v n xs := by
  refine ⟨h.1, ?_⟩
  rcases h.2 with h0 | ⟨g, cap, cur, rfl, hg, hc, r⟩
  · exact .inl h0
  · exact .inr ⟨g, cap, cur, rfl, hg, (hb g (Array.getElem?_eq_some_iff.1 hc).1 rfl).trans hc, r⟩
/-- What lies where the iterator runs. -/
structure MovesAt (W : World) (H T B : Nat) (s : ByteArray) (side : Int) (A : Option Addr) (gs : List Nat) (c : Nat) : Prop where
  bc : Blk W H 9 #[.string s]
  bs : Blk W (H + 1) 3 #[.int .i64 side]
  bg : Blk W (H + 1 + 1) 23 #[.slice A gs.length c]
  rd : Rd W A ((gs.map fun k : Nat => (k : Int)).map iv)
  at_ : ∀ ad, A = some ad → ad.block < B ∧ ad.block ≠ T
  tab : Tab W
  hT : T < H
  hB : H + 1 + 1 < B
  tT : 0 < T
theorem MovesAt.kept {W W' : World} {H T B : Nat} {s : ByteArray} {side : Int} {A : Option Addr} {gs : List Nat} {c : Nat} (h : MovesAt W H T B s side A gs c) (k : KeptT T B W W') : MovesAt W' H T B s side A gs c := by
  have h1 := h.hT
  have h2 := h.hB
  refine ⟨(k.low H (by omega) (by omega)).trans h.bc, (k.low (H + 1) (by omega) (by omega)).trans h.bs, (k.low (H + 1 + 1) (by omega) (by omega)).trans h.bg, fun j u hu => ?_, h.at_, h.tab.below (k.below (n := T) (by omega) (Nat.le_refl _)) h.tT, h.hT, h.hB, h.tT⟩
  obtain ⟨ad, e, hc⟩ := h.rd j u hu
  obtain ⟨a1, a2⟩ := h.at_ ad e
  refine ⟨ad, e, ?_⟩
  have e2 := k.low ad.block a1 a2
  have hb : (ad.add j).block = ad.block := by
    unfold Addr.add
    split <;> rfl
  unfold World.cell? at hc ⊢
  rw [hb] at hc ⊢
  rw [e2]
  exact hc
theorem rd_int {w : World} {A : Option Addr} {xs : List Nat} (h : Rd w A ((xs.map fun k : Nat => (k : Int)).map iv)) {k : Nat} (hk : k < xs.length) : ∃ g b, A = some ⟨g, b, none⟩ ∧ w.cell? ⟨g, b + k, none⟩ = some (.int .i64 (xs[k] : Int)) := by
  obtain ⟨⟨g, b, sp⟩, rfl, hc⟩ := h k (iv (xs[k] : Int)) (by simp [hk])
  have h00 : 0 < xs.length := by omega
  obtain ⟨a0, e0, hc0⟩ := h 0 (iv (xs[0] : Int)) (by simp [h00])
  cases e0
  have hsp : sp = none := by simpa [Addr.add] using World.cell?_spot hc0
  subst hsp
  have hadd : (Addr.add ⟨g, b, none⟩ k) = ⟨g, b + k, none⟩ := by
    simp only [Addr.add]
    split <;> simp_all
  rw [hadd] at hc
  exact ⟨g, b, rfl, hc⟩
theorem pieces_n (s : ByteArray) (side : Int) (m : Nat) (w : World) (hT : Tab w) (hm : (ownL s side).length = m) : Calls Tryz.prog 48 #[.string s, .int .i64 side] w fun e w' => ∃ A c, e = .returned (.slice A m c) ∧ w'.ownsRow w.heap.size 3 1 (.slice A m c) m (((ownL s side).map fun k : Nat => (k : Int)).map iv) ∧ Below w.heap.size w w' := by
  refine (pieces_own s side w hT).mono ?_
  rintro e w1 ⟨v, rfl, hown, hb⟩
  rw [piecesL_own, List.length_map, hm] at hown
  obtain ⟨A, c, rfl⟩ := owns_slice hown
  exact ⟨A, c, rfl, hown, hb⟩
set_option maxRecDepth 100000 in
set_option maxHeartbeats 4000000 in
theorem moves1_in (n : Nat) (hn : 1 ≤ n) (l H T B : Nat) (s : ByteArray) (side : Int) (A : Option Addr) (gs : List Nat) (c : Nat) (J Jx : List (Nat × Nat) → World → Prop) (W : World) (hJ : AbidesFrom W.heap.size J)
    (hY : ∀ pre x W1, J pre W1 → pre.length < (goL s side gs).length → YieldAt Fence.wide (n - 1) Tryz.prog l (enc1 x) W1 fun e W' =>
      (e = .returned (.bool true) ∧ J (pre ++ [x]) W' ∧ KeptT T B W1 W') ∨ (e = .returned (.bool false) ∧ Jx (pre ++ [x]) W'))
    (hM : MovesAt W H T B s side A gs c) (hg90 : ∀ b ∈ gs, b < 90) (hgl : gs.length ≤ 1000000) (hB : B ≤ W.heap.size) (h0 : J [] W) :
    CallsIn Fence.wide n Tryz.prog 83 #[.func (.yield l) #[] #[], .pointer (some ⟨H, 0, none⟩), .pointer (some ⟨H + 1, 0, none⟩), .pointer (some ⟨H + 1 + 1, 0, none⟩)] W fun e W' => (∃ v, e = .returned v) ∧
      ((∃ ys, ys = goL s side gs ∧ J ys W') ∨ (∃ pre, pre <+: goL s side gs ∧ Jx pre W')) := by
  have hjb : ∀ pre V V', J pre V → Below V.heap.size V V' → J pre V' := fun pre V V' hj hb => hJ _ _ _ none hj ⟨hb.os, hb.tape, hb.output, hb.size, fun i hi _ => hb.block i hi⟩ (by simp)
  obtain ⟨m, hm⟩ : ∃ m, (ownL s side).length = m := ⟨_, rfl⟩
  obtain ⟨q, hq⟩ : ∃ q, gs.length = q := ⟨_, rfl⟩
  have hm90 : m ≤ 90 := by rw [← hm]; exact ownL_len s side
  have HM := Lib.hid hm
  have HQ := Lib.hid hq
  have HG := Lib.hid hM
  have c0 := hM.bc.cell 0
  have c1 := hM.bs.cell 0
  simp only [List.getElem?_toArray, List.getElem?_cons_zero] at c0 c1
  refine callsIn_of_wp Tryz.func83 rfl trivial ?_ rfl
  simp only [Tryz.ntmps83, List.size_toArray, List.length_cons, List.length_nil, Nat.reduceAdd, Nat.reduceSub, Array.replicate_succ, Array.replicate_zero, List.push_toArray, List.append_toArray, List.nil_append, List.cons_append]
  gi_wp2_with (refine ⟨trivial, ?_⟩; gi_at_call 48; refine (callsIn_wide.2 (pieces_n s side m _ HG.out.tab HM.out)).mono ?_; rintro e w1 ⟨A1, cp, rfl, hown, hb⟩)
  have hk1 := KeptT.next (T := T) hB hb
  have hG1 := HG.out.kept hk1
  have hB1 : B ≤ w1.heap.size := Nat.le_trans hB hb.size
  have hrow : ∀ V, KeptT T B w1 V → Rd V A1 (((ownL s side).map fun k : Nat => (k : Int)).map iv) := fun V hk => Rd.owns (row_same hown fun k hk' e => by
    rcases hown.2 with ⟨e0, _⟩ | ⟨g', cap, cur, e1, hg, hc, _⟩
    · rw [e0] at e
      cases e
    · rw [e1] at e
      have e : g' = k := by simpa [Value.ownBlock] using e
      subst e
      exact (hk.rows g' _ _ (Nat.le_trans hB hg) hc).trans hc.symm)
  have HROW := Lib.hid hrow
  have h1 : J (goK s side gs 0) w1 := hjb _ _ _ h0 hb
  have HOWN : Hid (∀ k (h : k < (ownL s side).length), isB s = true ∧ (ownL s side)[k] < 90) := fun k h => ownL_at h
  have HGS : Hid (∀ b ∈ gs, b < 90) := hg90
  have HG1 := Lib.hid hG1
  have HJB := Lib.hid hjb
  have HY := Lib.hid hY
  clear hrow hown c0 c1 h0 hM hG1 hk1 hb hm hq hg90 hJ hjb hY HG
  gi_loopw [14] (fun i wr => ∃ k : Nat, k ≤ m ∧ i = .int .i64 k ∧ J (goK s side gs k) wr ∧ KeptT T B w1 wr) (fun i _ => m - (intOf i).toNat)
  case atStart => exact ⟨0, Nat.zero_le _, rfl, h1, KeptT.refl _ _ _⟩
  case round =>
    obtain ⟨k, hk, rfl, hJk, hkt⟩ := hrel
    by_cases hlt : k < m
    · have hkl : k < (ownL s side).length := by rw [HM.out]; exact hlt
      obtain ⟨g1, o1, rfl, c0⟩ := rd_int (HROW.out wr hkt) hkl
      obtain ⟨hisb, ha90⟩ := HOWN.out k hkl
      have HZ : Hid (∀ j, goJ s side gs k (ownL s side)[k] j <+: goL s side gs) := fun j => goJ_pre hkl
      have HZ0 : Hid (goJ s side gs k (ownL s side)[k] 0 = goK s side gs k) := goJ_zero _ _ _ _ _
      have HZ1 : Hid (goJ s side gs k (ownL s side)[k] q = goK s side gs (k + 1)) := by
        show _ = _
        rw [← HQ.out]
        exact goJ_all hkl
      obtain ⟨a, hax⟩ : ∃ a, (ownL s side)[k] = a := ⟨_, rfl⟩
      rw [hax] at c0 ha90 HZ HZ0 HZ1
      have hGr := HG1.out.kept hkt
      have c2 : wr.cell? ⟨H + 1 + 1, 0, none⟩ = some (.slice A q c) := by
        rw [← HQ.out]
        exact hGr.bg.cell 0
      have b1 : (k : Int) < (m : Int) := by omega
      clear hGr hax h1
      gi_wp2
      gi_loopw [20] (fun i wq => ∃ j : Nat, j ≤ q ∧ i = .int .i64 j ∧ J (goJ s side gs k a j) wq ∧ KeptT T B w1 wq) (fun i _ => q - (intOf i).toNat)
      case atStart => exact ⟨0, Nat.zero_le _, rfl, by rw [HZ0.out]; exact hJk, hkt⟩
      case round =>
        obtain ⟨j, hj, rfl, hJj, hkj⟩ := hrel
        by_cases hlt2 : j < q
        · have hjl : j < gs.length := by rw [HQ.out]; exact hlt2
          have hGq := HG1.out.kept hkj
          obtain ⟨g2, o2, rfl, d0⟩ := rd_int hGq.rd hjl
          have hb90 := HGS.out _ (List.getElem_mem hjl)
          obtain ⟨b, hbx⟩ : ∃ b, gs[j] = b := ⟨_, rfl⟩
          have HNO : Hid (couldB s side a b = false → goJ s side gs k a (j + 1) = goJ s side gs k a j) := fun h => goJ_no hjl (by rw [hbx]; exact h)
          have HYES : Hid (couldB s side a b = true → goJ s side gs k a (j + 1) = goJ s side gs k a j ++ [(a, b)]) := fun h => by
            rw [goJ_yes hjl (by rw [hbx]; exact h), hbx]
          rw [hbx] at d0 hb90
          obtain ⟨v, hv⟩ : ∃ v, couldB s side a b = v := ⟨_, rfl⟩
          have HV : Hid (couldI s side (a : Int) (b : Int) = v) := by
            show _ = _
            rw [couldI_nat hisb ha90 hb90, hv]
          have HVB := Lib.hid hv
          have HLT : Hid (couldB s side a b = true → (goJ s side gs k a j).length < (goL s side gs).length) := fun h => by
            have h1 := (HZ.out (j + 1)).length_le
            rw [HYES.out h, List.length_append, List.length_singleton] at h1
            omega
          have hbA := below_new wr (.cells #[.int .i64 (a : Int), .int .i64 (b : Int)] 28)
          have hBq : B ≤ wr.heap.size := Nat.le_trans hB1 hkj.size
          have hkA := hkj.trans (KeptT.next hBq hbA)
          have hGA := HG1.out.kept hkA
          have e0 : (wr.alloc (.cells #[.int .i64 (a : Int), .int .i64 (b : Int)] 28)).cell? ⟨H, 0, none⟩ = some (.string s) := hGA.bc.cell 0
          have e1 : (wr.alloc (.cells #[.int .i64 (a : Int), .int .i64 (b : Int)] 28)).cell? ⟨H + 1, 0, none⟩ = some (.int .i64 side) := hGA.bs.cell 0
          have bM : Blk (wr.alloc (.cells #[.int .i64 (a : Int), .int .i64 (b : Int)] 28)) wr.heap.size 28 #[.int .i64 (a : Int), .int .i64 (b : Int)] := Blk.new _ _ _ rfl
          have hTA := hGA.tab
          have hJA := HJB.out _ _ _ hJj hbA
          have b2 : (j : Int) < (q : Int) := by omega
          clear hGq hGA hbx hv hJk hJj c0 c2
          cases v
          · gi_wp2_with (refine ⟨trivial, ?_⟩; gi_at_call 84; refine (callsIn_wide.2 (gcan_is s side a b false _ hTA HV.out)).mono ?_; rintro e w' ⟨rfl, hb⟩)
            refine ⟨fun f h => (by cases h), ?_⟩
            gi_wp2
            go_roundw
            case rel => exact ⟨j + 1, by omega, by go_num, by rw [HNO.out HVB.out]; exact HJB.out _ _ _ hJA hb, hkA.trans (KeptT.next (Nat.le_trans hBq hbA.size) hb)⟩
            case measure => simp [intOf]; omega
          · gi_wp2_with (refine ⟨trivial, ?_⟩; gi_at_call 84; refine (callsIn_wide.2 (gcan_is s side a b true _ hTA HV.out)).mono ?_; rintro e w' ⟨rfl, hb⟩; have f0 : w'.cell? ⟨wr.heap.size, 0, none⟩ = some (.int .i64 (a : Int)) := (bM.next hb).cell 0; have f1 : w'.cell? ⟨wr.heap.size, 1, none⟩ = some (.int .i64 (b : Int)) := (bM.next hb).cell 1; obtain ⟨fn, tmps, assign, body, hy, hR⟩ := HY.out _ (a, b) w' (HJB.out _ _ _ hJA hb) (HLT.out (HVB.out)); simp only [enc1, mvv] at hy)
            refine hR.mono ?_
            have hk9 := hkA.trans (KeptT.next (Nat.le_trans hBq hbA.size) hb)
            clear hR hy f0 f1 hJA hTA bM e0 e1 d0 hkA
            rintro e W3 (⟨rfl, hJ3, hk3⟩ | ⟨rfl, hJx3⟩)
            · gi_wp2
              go_roundw
              case rel => exact ⟨j + 1, by omega, by go_num, by rw [HYES.out HVB.out]; exact hJ3, hk9.trans hk3⟩
              case measure => simp [intOf]; omega
            · gi_wp2
              refine bodyPost_ret (results_none rfl _ _ _) rfl ?_
              exact ⟨⟨_, rfl⟩, .inr ⟨_, by rw [← HYES.out HVB.out]; exact HZ.out _, hJx3⟩⟩
        · obtain rfl : j = q := by omega
          gi_wp2
          exact ⟨⟨k + 1, by omega, by go_num, by rw [← HZ1.out]; exact hJj, hkj⟩, by simp [intOf]; omega⟩
    · obtain rfl : k = m := by omega
      have HE : Hid (goK s side gs k = goL s side gs) := by
        show _ = _
        rw [← HM.out]
        exact goK_all _ _ _
      gi_wp2
      go_end0
      exact ⟨⟨_, rfl⟩, .inl ⟨_, rfl, by rw [← HE.out]; exact hJk⟩⟩
end Go.Proofs.YtnkbilikkbaeeaaGreatDoor
