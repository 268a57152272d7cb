/- Merged: CycleC CycleD CycleE CycleF. -/
import Derived.Test.YtnkbilikkbaeeaaGreatDoorCycleM
import Derived.Test.YtnkbilikkbaeeaaGreatDoorGuardD
import Derived.Test.YtnkbilikkbaeeaaGreatDoorShelfB
import Derived.Test.YtnkbilikkbaeeaaGreatDoorRowA
import Derived.Lib.OwnBridge

namespace Go.Proofs.YtnkbilikkbaeeaaGreatDoor
open Go.RowKit Go.Shelf
open M (S)
attribute [local go_sem] Oper.semAt_some

/-- From the last place to the first one. -/
def downL (n : Nat) : List Nat := (List.range n).reverse
theorem downL_len (n : Nat) : (downL n).length = n := by unfold downL; rw [List.length_reverse, List.length_range]
theorem downL_at (n k : Nat) (h : k < n) : (downL n)[k]'(by rw [downL_len]; exact h) = n - 1 - k := by
  unfold downL
  rw [List.getElem_reverse, List.getElem_range, List.length_range]
theorem downL_take (n j : Nat) (h : j + 1 ≤ n) : (downL n).take (n - j) = (downL n).take (n - (j + 1)) ++ [j] := by
  rw [show n - j = n - (j + 1) + 1 by omega, List.take_succ_eq_append_getElem (by rw [downL_len]; omega), downL_at n _ (by omega), show n - 1 - (n - (j + 1)) = j by omega]
/-- A move of a row, by its place. -/
def mzAt (m : List (Int × Int)) (i : Nat) : Int × Int := m.getD i (0, 0)
theorem mzAt_get {m : List (Int × Int)} {i : Nat} (h : i < m.length) : mzAt m i = m[i] := by
  unfold mzAt
  rw [List.getD_eq_getElem?_getD, List.getElem?_eq_getElem h]
  rfl
abbrev encB (m : List (Int × Int)) (i : Nat) : Array Value := #[.int .i64 (i : Int), .agg #[.int .i64 (mzAt m i).1, .int .i64 (mzAt m i).2]]
def orgS (m : List (Int × Int)) (k : Int) (i : Nat) : Int := if (mzAt m i).2 = k then (mzAt m i).1 else k
def orgF (m : List (Int × Int)) (n0 : Int) (pre : List Nat) : Int := pre.foldl (orgS m) n0
theorem orgF_snoc (m : List (Int × Int)) (n0 : Int) (pre : List Nat) (i : Nat) : orgF m n0 (pre ++ [i]) = orgS m (orgF m n0 pre) i := by
  unfold orgF
  rw [List.foldl_append]
  rfl
theorem orgF_down (m : List (Int × Int)) (n0 : Int) : orgF m n0 (downL m.length) = originI m n0 := by
  unfold orgF downL
  rw [List.foldl_reverse]
  unfold originI
  have h : m = (List.range m.length).map (mzAt m) := by
    refine List.ext_getElem (by simp) fun i h1 h2 => ?_
    rw [List.getElem_map, List.getElem_range, mzAt_get h1]
  conv => rhs; rw [h, List.foldr_map]
  rfl
/-- What a place of a row of moves holds. -/
theorem Rd.mz {w : World} {A : Option Addr} {l : List (Int × Int)} (h : Rd w A (mzL l)) {k : Nat} (hk : k < l.length) : ∃ g b, A = some ⟨g, b, none⟩ ∧ w.cell? ⟨g, b + k * 2, none⟩ = some (iv l[k].1) ∧ w.cell? ⟨g, b + k * 2 + 1, none⟩ = some (iv l[k].2) := by
  obtain ⟨h0, h1⟩ := mzL_at l hk
  obtain ⟨⟨g, b, sp⟩, rfl, hc⟩ := h _ _ h0
  obtain ⟨a1, e1, hc1⟩ := h _ _ h1
  cases e1
  have h00 : 0 < l.length := by omega
  obtain ⟨a2, e2, hc2⟩ := h _ _ (mzL_at l h00).1
  cases e2
  have hsp : sp = none := by simpa [Addr.add] using World.cell?_spot hc2
  subst hsp
  have hadd : ∀ j, (Addr.add ⟨g, b, none⟩ j) = ⟨g, b + j, none⟩ := fun j => by
    simp only [Addr.add]
    split <;> simp_all
  rw [hadd] at hc hc1
  exact ⟨g, b, rfl, hc, hc1⟩
/-- What lies where the walk runs. -/
structure BackAt (W : World) (H T B : Nat) (A : Option Addr) (m : List (Int × Int)) (c : Nat) : Prop where
  bg : Blk W H 25 #[.slice A m.length c]
  rd : Rd W A (mzL m)
  at_ : m ≠ [] → ∀ ad, A = some ad → ad.block < T
  hT : T < H
  hB : H < B
theorem BackAt.kept {W W' : World} {H T B : Nat} {A : Option Addr} {m : List (Int × Int)} {c : Nat} (h : BackAt W H T B A m c) (k : KeptT T B W W') : BackAt W' H T B A m c := by
  have h1 := h.hT
  have h2 := h.hB
  refine ⟨(k.low H (by omega) (by omega)).trans h.bg, fun j u hu => ?_, h.at_, h.hT, h.hB⟩
  obtain ⟨ad, e, hc⟩ := h.rd j u hu
  have a1 := h.at_ (fun e0 => by rw [e0] at hu; simp [mzL] at hu) ad e
  refine ⟨ad, e, ?_⟩
  have e2 := k.low ad.block (by omega) (by omega)
  have hb : (ad.add j).block = ad.block := by
    unfold Addr.add
    split <;> rfl
  unfold World.cell? at hc ⊢
  rw [hb] at hc ⊢
  rw [e2]
  exact hc
set_option maxRecDepth 100000 in
set_option maxHeartbeats 4000000 in
theorem back1_in (n : Nat) (hn : 1 ≤ n) (l H T B : Nat) (A : Option Addr) (m : List (Int × Int)) (c : Nat) (J Jx : List Nat → World → Prop) (W : World)
    (hY : ∀ pre x W1, J pre W1 → pre.length < m.length → YieldAt Fence.wide (n - 1) Tryz.prog l (encB m x) W1 fun e W' =>
      (e = .returned (.bool true) ∧ J (pre ++ [x]) W' ∧ KeptT T B W1 W') ∨ (e = .returned (.bool false) ∧ Jx (pre ++ [x]) W'))
    (hM : BackAt W H T B A m c) (hl : m.length ≤ 1000000) (h0 : J [] W) :
    CallsIn Fence.wide n Tryz.prog 111 #[.func (.yield l) #[] #[], .pointer (some ⟨H, 0, none⟩)] W fun e W' => (∃ v, e = .returned v) ∧
      ((∃ ys, ys = downL m.length ∧ J ys W') ∨ (∃ pre, pre <+: downL m.length ∧ Jx pre W')) := by
  obtain ⟨q, hq⟩ : ∃ q, m.length = q := ⟨_, rfl⟩
  have HQ := Lib.hid hq
  have HG := Lib.hid hM
  have c0 := hM.bg.cell 0
  simp only [List.getElem?_toArray, List.getElem?_cons_zero] at c0
  rw [hq] at c0
  have hz : (downL q).take (q - q) = [] := by rw [Nat.sub_self, List.take_zero]
  have h00 : J ((downL q).take (q - q)) W := by rw [hz]; exact h0
  rw [hq] at hl
  clear hM h0 hz hq
  refine callsIn_of_wp Tryz.func111 rfl trivial ?_ rfl
  simp only [Tryz.ntmps111, List.size_toArray, List.length_cons, List.length_nil, Nat.reduceAdd, Nat.reduceSub, Array.replicate_succ, Array.replicate_zero, List.push_toArray, List.append_toArray, List.nil_append, List.cons_append]
  gi_wp2
  gi_loopw [3] (fun i wr => ∃ k : Nat, k ≤ q ∧ i = .int .i64 ((k : Int) - 1) ∧ BackAt wr H T B A m c ∧ J ((downL q).take (q - k)) wr)
    (fun i _ => ((intOf i) + 1).toNat)
  case atStart => exact ⟨q, Nat.le_refl _, by go_num, HG.out, h00⟩
  case round =>
    obtain ⟨k, hk, rfl, hM, hJr⟩ := hrel
    cases k with
    | zero =>
      have hJd : J (downL q) wr := by rw [Nat.sub_zero, List.take_of_length_le (by rw [downL_len]; exact Nat.le_refl _)] at hJr; exact hJr
      gi_wp2
      go_end0
      exact ⟨⟨_, rfl⟩, .inl ⟨_, by rw [HQ.out], hJd⟩⟩
    | succ j =>
      have hjm : j < m.length := by rw [HQ.out]; omega
      obtain ⟨g, b, rfl, d0, d1⟩ := hM.rd.mz hjm
      have c1 := hM.bg.cell 0
      simp only [List.getElem?_toArray, List.getElem?_cons_zero] at c1
      rw [HQ.out] at c1
      obtain ⟨fn, tmps, assign, body, hy, hR⟩ := hY ((downL q).take (q - (j + 1))) j wr hJr (by rw [List.length_take, downL_len, HQ.out]; omega)
      rw [← downL_take q j hk] at hR
      simp only [encB, mzAt_get hjm] at hy
      rw [show ((j + 1 : Nat) : Int) - 1 = (j : Int) by omega]
      have bj : (j : Int) < (q : Int) := by omega
      have HM := Lib.hid hM
      clear hM hY hJr
      gi_wp2
      refine hR.mono ?_
      rintro e W3 (⟨rfl, hJ3, hk3⟩ | ⟨rfl, hJx3⟩)
      · gi_wp2
        go_roundw
        case rel => exact ⟨j, by omega, by go_num, HM.out.kept hk3, hJ3⟩
        case measure => simp [intOf]
      · gi_wp2
        refine bodyPost_ret (results_none rfl _ _ _) rfl ?_
        exact ⟨⟨_, rfl⟩, .inr ⟨_, by rw [HQ.out]; exact List.take_prefix _ _, hJx3⟩⟩
theorem back_any (A : Option Addr) (n c : Nat) (w : World) :
    Calls Tryz.prog 63 #[.slice A n c] w fun e w' => e = .returned (.func (.func 111) #[] #[.pointer (some ⟨w.heap.size, 0, none⟩)]) ∧ w.alloc (.cells #[.slice A n c] 25) = w' := by
  go_enter Tryz.func63, Tryz.ntmps63
  go_wp2
  go_ret
  exact ⟨rfl, rfl⟩
theorem back_stops (n : Nat) (hn : 1 ≤ n) (H T B : Nat) (A : Option Addr) (m : List (Int × Int)) (c : Nat) (w : World) (hM : BackAt w H T B A m c) (hl : m.length ≤ 1000000) (hB : B ≤ w.heap.size) :
    SeqStopsK Fence.wide n Tryz.prog 111 #[.pointer (some ⟨H, 0, none⟩)] (encB m) (KeptT T B) (fun ys => ys = downL m.length) (fun pre => pre <+: downL m.length) m.length w := fun l J Jx W hW _ _ hY h0 =>
  back1_in n hn l H T B A m c J Jx W hY (hM.kept (KeptT.next hB hW)) hl h0
set_option maxRecDepth 100000 in
set_option maxHeartbeats 4000000 in
theorem origin_in1 (A : Option Addr) (m : List (Int × Int)) (c : Nat) (n0 : Int) (w : World) (hr : Rd w A (mzL m)) (hl : m.length ≤ 1000000) :
    CallsIn Fence.wide 5 Tryz.prog 32 #[.slice A m.length c, .int .i64 n0] w fun e W' => e = .returned (.int .i64 (originI m n0)) ∧ Below w.heap.size w W' := by
  have hro : Fence.wide.round = none := rfl
  refine callsIn_of_wp_marks Tryz.func32 rfl trivial ?_ hro
  simp only [Tryz.ntmps32, List.size_toArray, List.length_cons, List.length_nil, Nat.reduceAdd, Nat.reduceSub, Array.replicate_succ, Array.replicate_zero, List.push_toArray, List.append_toArray, List.nil_append, List.cons_append]
  gi_wp2_with (refine ⟨trivial, ?_⟩; gi_at_call 63; refine (callsIn_wide.2 (back_any A _ c _)).mono ?_; rintro e w1 ⟨rfl, rfl⟩)
  obtain ⟨W0, hW0⟩ : ∃ W0, (w.alloc (.cells #[.int .i64 n0] 3)).alloc (.cells #[.slice A m.length c] 25) = W0 := ⟨_, rfl⟩
  have hB0 : Below w.heap.size w W0 := by rw [← hW0]; exact (by repeat (first | exact Below.refl _ _ | (refine Below.setCell ?_ (by first | omega | (simp; done) | (simp; omega) | (simp at *; omega)) _) | (refine Below.alloc ?_ (by first | omega | (simp; done) | (simp; omega) | (simp at *; omega)) _) | refine Below.drew ?_ | (refine below_drewN ?_ _) | (refine Below.trans ?_ (Below.mono (by assumption) (by first | omega | (simp; done) | (simp; omega) | (simp at *; omega))))))
  have hsz0 : W0.heap.size = w.heap.size + 2 := by rw [← hW0]; simp
  have bT : Blk W0 w.heap.size 3 #[.int .i64 n0] := by rw [← hW0]; exact (Blk.new _ _ _ rfl).alloc _
  have bg : Blk W0 (w.heap.size + 1) 25 #[.slice A m.length c] := by rw [← hW0]; exact Blk.new _ _ _ (by simp)
  have hM : BackAt W0 (w.heap.size + 1) w.heap.size W0.heap.size A m c := by
    refine ⟨bg, hr.next hB0, fun hne ad e => ?_, by omega, by omega⟩
    obtain ⟨x, r, rfl⟩ := List.exists_cons_of_ne_nil hne
    obtain ⟨g, b, e2, d0, _⟩ := hr.mz (k := 0) (by simp)
    rw [e] at e2
    injection e2 with e2
    rw [e2]
    exact cell_lt d0
  rw [hW0]
  refine wpIn_rangeFunc_ownH hro (by decide) (gf := 111) (lb := #[.pointer (some ⟨w.heap.size + 1, 0, none⟩)]) rfl trivial (enters_of Tryz.func111 (by kernel_rfl) rfl)
    (back_stops 4 (by decide) (w.heap.size + 1) w.heap.size W0.heap.size A m c W0 hM hl (Nat.le_refl _)) KeptT.trans KeptT.put (Below.refl _ _) (fun _ => rfl)
    (fun pre W => Blk W w.heap.size 3 #[.int .i64 (orgF m n0 pre)] ∧ (Below w.heap.size w W ∧ W0.heap.size ≤ W.heap.size))
    (fun _ _ _ => False)
    (OwnFrom.and (Own.from (blk_own w.heap.size 3 (fun pre => #[.int .i64 (orgF m n0 pre)])) _) (OwnFrom.and (ownFrom_below (Nat.le_refl _) (by omega)) (fun _ _ _ _ hs hgr _ => Nat.le_trans hs hgr.size)))
    (fun _ _ _ _ _ hs _ _ => hs)
    ⟨bT, hB0, Nat.le_refl _⟩
    (fun x a' W => ∃ g, Blk W g 28 #[.int .i64 (mzAt m x).1, .int .i64 (mzAt m x).2] ∧ w.heap.size ≠ g ∧ a' = { tmps := #[.slice A m.length c, .int .i64 n0, undef, .pointer (some ⟨w.heap.size, 0, none⟩), .int .i64 0, undef, .pointer (some ⟨g, 0, none⟩), .slice A m.length c, .func (.func 111) #[] #[.pointer (some ⟨w.heap.size + 1, 0, none⟩)], .int .i64 (x : Int), .agg #[.int .i64 (mzAt m x).1, .int .i64 (mzAt m x).2], undef, undef, undef, undef, undef, undef, undef], defers := [] })
    (fun x a' _ W W' row ⟨g, hb, hne, e⟩ hgr hr => ⟨g, (hgr.block g hb.lt fun e' => by
      obtain ⟨_, o, ho, hc⟩ := hr g e'.symm
      rw [show W.heap[g]? = _ from hb] at ho
      cases ho
      cases hc).trans hb, hne, e⟩) ?assign ?body ?done ?stop
  case assign =>
    rintro l' pre x W K ⟨hv, hB, hBW⟩ hK
    have hbm := below_new W (.cells #[.int .i64 (mzAt m x).1, .int .i64 (mzAt m x).2] 28)
    have hne := Lib.hid (show w.heap.size ≠ W.heap.size by omega)
    gi_wp2
    exact hK _ _ ((KeepsOthers.alloc _ _).from _) (KeptT.next hBW hbm) ⟨hv.alloc _, hB.trans (hbm.mono hB.size), Nat.le_trans hBW hbm.size⟩ ⟨W.heap.size, Blk.new _ _ _ rfl, hne.out, rfl⟩
  case body =>
    rintro l' pre x a' W hl' hr' ⟨hv, hB, hBW⟩ ⟨g, bM, hne, rfl⟩ hlt
    have hc := hv.cell 0
    have hf := hv.frozen 0
    have e0 : W.cell? ⟨g, 0, none⟩ = some (.int .i64 (mzAt m x).1) := bM.cell 0
    have e1 : W.cell? ⟨g, 1, none⟩ = some (.int .i64 (mzAt m x).2) := bM.cell 1
    simp only [List.getElem?_toArray, List.getElem?_cons_zero] at hc
    obtain ⟨k, hk⟩ : ∃ k, orgF m n0 pre = k := ⟨_, rfl⟩
    have hs := orgF_snoc m n0 pre x
    unfold orgS at hs
    rw [hk] at hs hc
    obtain ⟨⟨a, b⟩, hab⟩ : ∃ y, mzAt m x = y := ⟨_, rfl⟩
    rw [hab] at e0 e1 hs ⊢
    have hs : orgF m n0 (pre ++ [x]) = if b = k then a else k := hs
    have hTW := Lib.hid (show w.heap.size < W0.heap.size by omega)
    have HBW := Lib.hid hBW
    have HSZ := Lib.hid hsz0
    clear hne hsz0 hBW
    by_cases hbk : b = k
    · have hbk2 : (b == k) = true := by rw [hbk]; simp
      rw [if_pos hbk] at hs
      have HS := Lib.hid hs
      clear hs hbk hab hk hM bT bg bM hr'
      gi_wp2
      exact ⟨(KeepsOthers.setCell _ _ _).from _, KeptT.set hTW.out _ _, by rw [HS.out]; exact hv.set_ 0 (.int .i64 a), hB.setCell (p := ⟨w.heap.size, 0, none⟩) (Nat.le_refl _) _, by have := HBW.out; simp; omega⟩
    · have hbk2 : (b == k) = false := by rw [beq_eq_false_iff_ne]; exact hbk
      rw [if_neg hbk, ← hk] at hs
      have HS := Lib.hid hs
      clear hs hbk hab hk hM bT bg bM hr'
      gi_wp2
      exact ⟨KeepsFrom.refl _ _, KeptT.refl _ _ _, by rw [HS.out]; exact hv, hB, HBW.out⟩
  case done =>
    rintro D ys W hD rfl ⟨hv, hB, hBW⟩ hK
    have hc := hv.cell 0
    simp only [List.getElem?_toArray, List.getElem?_cons_zero] at hc
    rw [orgF_down] at hc
    gi_wp2
    refine ⟨by simp, .inl ⟨_, _, rfl, run_takeDeferred hK, ?_⟩⟩
    exact ⟨_, results_tmp rfl _ _ _, rfl, hB.trans (belowK_b (w := w) (Nat.le_refl _) W D _ _ (by omega) hK rfl rfl)⟩
  case stop =>
    rintro D c' pre W _ _ h _
    exact h.elim
theorem origin_any (A : Option Addr) (m : List (Int × Int)) (n c : Nat) (n0 : Int) (w : World) (hr : Rd w A (mzL m)) (hn : m.length = n) (hl : n ≤ 1000000) :
    Calls Tryz.prog 32 #[.slice A n c, .int .i64 n0] w (Gives w (.int .i64 (originI m n0))) := by
  subst hn
  exact callsIn_wide.1 (origin_in1 A m c n0 w hr hl)
end Go.Proofs.YtnkbilikkbaeeaaGreatDoor

namespace Go.Proofs.YtnkbilikkbaeeaaGreatDoor
open Go.RowKit Go.Shelf
open M (S)

abbrev Ps.val (p : Ps) : Value := .agg #[.string p.s, .int .i64 p.y, .int .i64 p.z, .int .i64 p.u]
/-- What a place of a row of positions holds. -/
theorem Rd.ps {w : World} {A : Option Addr} {l : List Ps} (h : Rd w A (psL l)) {k : Nat} (hk : k < l.length) : ∃ g b, A = some ⟨g, b, none⟩ ∧ w.cell? ⟨g, b + k * 4, none⟩ = some (.string l[k].s) ∧ w.cell? ⟨g, b + k * 4 + 1, none⟩ = some (.int .i64 l[k].y) ∧ w.cell? ⟨g, b + k * 4 + 2, none⟩ = some (.int .i64 l[k].z) ∧ w.cell? ⟨g, b + k * 4 + 3, none⟩ = some (.int .i64 l[k].u) := by
  have e0 : (psL l)[k * 4 + 0]? = some (.string l[k].s) := psL_at l hk (by decide)
  have e1 : (psL l)[k * 4 + 1]? = some (.int .i64 l[k].y) := psL_at l hk (by decide)
  have e2 : (psL l)[k * 4 + 2]? = some (.int .i64 l[k].z) := psL_at l hk (by decide)
  have e3 : (psL l)[k * 4 + 3]? = some (.int .i64 l[k].u) := psL_at l hk (by decide)
  have e9 : (psL l)[0 * 4 + 0]? = some (.string (l[0]'(by omega)).s) := psL_at l (by omega) (by decide)
  obtain ⟨⟨g, b, sp⟩, rfl, hc0⟩ := h _ _ e0
  obtain ⟨a1, x1, hc1⟩ := h _ _ e1
  cases x1
  obtain ⟨a2, x2, hc2⟩ := h _ _ e2
  cases x2
  obtain ⟨a3, x3, hc3⟩ := h _ _ e3
  cases x3
  obtain ⟨a9, x9, hc9⟩ := h _ _ e9
  cases x9
  have hsp : sp = none := by simpa [Addr.add] using World.cell?_spot hc9
  subst hsp
  have hadd : ∀ j, (Addr.add ⟨g, b, none⟩ j) = ⟨g, b + j, none⟩ := fun j => by
    simp only [Addr.add]
    split <;> simp_all
  rw [hadd] at hc0 hc1 hc2 hc3
  exact ⟨g, b, rfl, hc0, hc1, hc2, hc3⟩
theorem two_start (w : World) (a b : Array Value) (t : TypeId) {W0 : World} (hW0 : (w.alloc (.cells a t)).alloc (.cells b t) = W0) : Below w.heap.size w W0 ∧ Blk W0 w.heap.size t a ∧ Blk W0 (w.heap.size + 1) t b := by
  refine ⟨by rw [← hW0]; exact (by repeat (first | exact Below.refl _ _ | (refine Below.setCell ?_ (by first | omega | (simp; done) | (simp; omega) | (simp at *; omega)) _) | (refine Below.alloc ?_ (by first | omega | (simp; done) | (simp; omega) | (simp at *; omega)) _) | refine Below.drew ?_ | (refine below_drewN ?_ _) | (refine Below.trans ?_ (Below.mono (by assumption) (by first | omega | (simp; done) | (simp; omega) | (simp at *; omega)))))), ?_, ?_⟩
  · rw [← hW0]; exact (Blk.new _ _ _ rfl).alloc _
  · rw [← hW0]; exact Blk.new _ _ _ (by simp)
theorem four_cells {W : World} {g : Nat} {t : TypeId} {a b c d : Value} (h : Blk W g t #[a, b, c, d]) : W.cell? ⟨g, 0, none⟩ = some a ∧ W.cell? ⟨g, 1, none⟩ = some b ∧ W.cell? ⟨g, 2, none⟩ = some c ∧ W.cell? ⟨g, 3, none⟩ = some d := ⟨h.cell 0, h.cell 1, h.cell 2, h.cell 3⟩
abbrev Eight (w W : World) (g i j : Nat) (s1 : ByteArray) (y1 z1 u1 : Int) (s2 : ByteArray) (y2 z2 u2 : Int) : Prop := W.cell? ⟨g, i, none⟩ = some (.string s1) ∧ W.cell? ⟨g, i + 1, none⟩ = some (.int .i64 y1) ∧ W.cell? ⟨g, i + 2, none⟩ = some (.int .i64 z1) ∧ W.cell? ⟨g, i + 3, none⟩ = some (.int .i64 u1) ∧ W.cell? ⟨g, j, none⟩ = some (.string s2) ∧ W.cell? ⟨g, j + 1, none⟩ = some (.int .i64 y2) ∧ W.cell? ⟨g, j + 2, none⟩ = some (.int .i64 z2) ∧ W.cell? ⟨g, j + 3, none⟩ = some (.int .i64 u2) ∧ Below w.heap.size w W
theorem eight_keep {w W W' : World} {g i j : Nat} {s1 : ByteArray} {y1 z1 u1 : Int} {s2 : ByteArray} {y2 z2 u2 : Int} (h : Eight w W g i j s1 y1 z1 u1 s2 y2 z2 u2) (hb : Below W.heap.size W W') : Eight w W' g i j s1 y1 z1 u1 s2 y2 z2 u2 := by
  obtain ⟨h0, h1, h2, h3, h4, h5, h6, h7, h8⟩ := h
  exact ⟨(hb.cell (p := ⟨g, i, none⟩) (cell_lt h0)).trans h0, (hb.cell (p := ⟨g, i + 1, none⟩) (cell_lt h1)).trans h1, (hb.cell (p := ⟨g, i + 2, none⟩) (cell_lt h2)).trans h2, (hb.cell (p := ⟨g, i + 3, none⟩) (cell_lt h3)).trans h3, (hb.cell (p := ⟨g, j, none⟩) (cell_lt h4)).trans h4, (hb.cell (p := ⟨g, j + 1, none⟩) (cell_lt h5)).trans h5, (hb.cell (p := ⟨g, j + 2, none⟩) (cell_lt h6)).trans h6, (hb.cell (p := ⟨g, j + 3, none⟩) (cell_lt h7)).trans h7, h8.trans (hb.mono h8.size)⟩
theorem eight_below {w W : World} {g i j : Nat} {s1 : ByteArray} {y1 z1 u1 : Int} {s2 : ByteArray} {y2 z2 u2 : Int} (h : Eight w W g i j s1 y1 z1 u1 s2 y2 z2 u2) : Below w.heap.size w W := h.2.2.2.2.2.2.2.2
set_option maxRecDepth 100000 in
set_option maxHeartbeats 2000000 in
theorem csame_two (s s2 : ByteArray) (y z u y2 z2 u2 : Int) (w : World) (v : Bool) (hv : ((s.toList == s2.toList) && (y == y2)) = v) : Calls Tryz.prog 28 #[.agg #[.string s, .int .i64 y, .int .i64 z, .int .i64 u], .agg #[.string s2, .int .i64 y2, .int .i64 z2, .int .i64 u2]] w (Gives w (.bool v)) := by
  unfold Gives
  obtain ⟨W0, hW0⟩ : ∃ W0, (w.alloc (.cells #[.string s, .int .i64 y, .int .i64 z, .int .i64 u] 36)).alloc (.cells #[.string s2, .int .i64 y2, .int .i64 z2, .int .i64 u2] 36) = W0 := ⟨_, rfl⟩
  obtain ⟨hB, b1, b2⟩ := two_start w _ _ _ hW0
  obtain ⟨p0, p1, p2, p3⟩ := four_cells b1
  obtain ⟨q0, q1, q2, q3⟩ := four_cells b2
  obtain ⟨e, he⟩ : ∃ e, (s.toList == s2.toList) = e := ⟨_, rfl⟩
  obtain ⟨f, hf⟩ : ∃ f, (y == y2) = f := ⟨_, rfl⟩
  rw [he, hf] at hv
  have HV := Lib.hid hv
  have HW := Lib.hid hW0
  clear hW0 hv
  cases e
  · go_enter Tryz.func28, Tryz.ntmps28
    go_wp2
    go_ret
    rw [HW.out]
    exact ⟨by rw [← HV.out]; rfl, hB⟩
  · go_enter Tryz.func28, Tryz.ntmps28
    go_wp2
    go_ret
    rw [HW.out]
    exact ⟨by rw [← HV.out]; rfl, hB⟩
theorem csame_any (p q : Ps) (w : World) : Calls Tryz.prog 28 #[p.val, q.val] w (Gives w (.bool (sameB p q))) := csame_two p.s q.s p.y p.z p.u q.y q.z q.u w _ rfl
set_option maxRecDepth 100000 in
set_option maxHeartbeats 2000000 in
theorem cearlier_some (g b : Nat) (l : List Ps) (n m c : Nat) (w : World) (hr : Rd w (some ⟨g, b, none⟩) (psL l)) (hn : l.length = n) (hm : n = m + 1) (hl : n ≤ 1000000) :
    Calls Tryz.prog 30 #[.slice (some ⟨g, b, none⟩) n c] w (Gives w (.int .i64 (earlierI l))) := by
  unfold Gives
  have HN := Lib.hid hn
  have HM := Lib.hid hm
  have bm : (m : Int) < (n : Int) := by omega
  have hm1 : (n : Int) - 1 = (m : Int) := by omega
  have hmw : IntKind.i64.wrap (m : Int) = (m : Int) := by rw [IntKind.wrap_i64]; omega
  obtain ⟨_, _, e, q0, q1, q2, q3⟩ := hr.ps (k := m) (by omega)
  cases e
  have hml : m < l.length := by omega
  obtain ⟨pm, hpm⟩ : ∃ p, l[m]'hml = p := ⟨_, rfl⟩
  rw [hpm] at q0 q1 q2 q3
  have HPM : Hid (l[m]? = some pm) := by show _ = _; rw [← hpm]; exact List.getElem?_eq_getElem _
  clear hn hm hml hpm
  go_enter Tryz.func30, Tryz.ntmps30
  go_wp2_with fail
  go_loopw [4, 9] (fun _ i wr => ∃ k : Nat, k ≤ m ∧ i = .int .i64 (k : Int) ∧ (∀ j, j < k → sameAt l j (l.length - 1) = false) ∧ Below w.heap.size w wr) (fun _ i _ => m - (intOf i).toNat)
  case atStart => exact ⟨0, Nat.zero_le _, rfl, fun j hj => absurd hj (by omega), Below.refl _ _⟩
  case round =>
    obtain ⟨k, hk, rfl, hno, hB⟩ := hrel
    by_cases hlt : k < m
    · have bk : (k : Int) < (m : Int) := by omega
      have bkn : (k : Int) < (n : Int) := by omega
      have hkl : k < l.length := by rw [HN.out, HM.out]; omega
      obtain ⟨_, _, e, p0, p1, p2, p3⟩ := hr.ps hkl
      cases e
      obtain ⟨pk, hpk⟩ : ∃ p, l[k]'hkl = p := ⟨_, rfl⟩
      rw [hpk] at p0 p1 p2 p3
      have c0 := (hB.cell (p := ⟨g, b + k * 4, none⟩) (cell_lt p0)).trans p0
      have c1 := (hB.cell (p := ⟨g, b + k * 4 + 1, none⟩) (cell_lt p1)).trans p1
      have c2 := (hB.cell (p := ⟨g, b + k * 4 + 2, none⟩) (cell_lt p2)).trans p2
      have c3 := (hB.cell (p := ⟨g, b + k * 4 + 3, none⟩) (cell_lt p3)).trans p3
      have d0 := (hB.cell (p := ⟨g, b + m * 4, none⟩) (cell_lt q0)).trans q0
      have d1 := (hB.cell (p := ⟨g, b + m * 4 + 1, none⟩) (cell_lt q1)).trans q1
      have d2 := (hB.cell (p := ⟨g, b + m * 4 + 2, none⟩) (cell_lt q2)).trans q2
      have d3 := (hB.cell (p := ⟨g, b + m * 4 + 3, none⟩) (cell_lt q3)).trans q3
      obtain ⟨v, hv⟩ : ∃ v, sameB pk pm = v := ⟨_, rfl⟩
      have hsv : sameAt l k (l.length - 1) = v := by
        unfold sameAt
        rw [List.getElem?_eq_getElem hkl, hpk, show l.length - 1 = m by rw [HN.out, HM.out]; omega, HPM.out]
        exact hv
      have HV := Lib.hid hv
      have HSV := Lib.hid hsv
      have HNO := Lib.hid hno
      clear hv hsv hpk p0 p1 p2 p3 hkl hno
      obtain ⟨s1, y1, z1, u1⟩ := pk
      obtain ⟨s2, y2, z2, u2⟩ := pm
      have hS : Eight w wr.drew g (b + k * 4) (b + m * 4) s1 y1 z1 u1 s2 y2 z2 u2 := eight_keep ⟨c0, c1, c2, c3, d0, d1, d2, d3, hB⟩ (Below.refl _ _).drew
      clear c0 c1 c2 c3 d0 d1 d2 d3 q0 q1 q2 q3
      go_wp2_with fail
      go_region_held3 (fun W => W.cell? ⟨g, b + k * 4, none⟩ = some (.string s1) ∧ W.cell? ⟨g, b + k * 4 + 1, none⟩ = some (.int .i64 y1) ∧ W.cell? ⟨g, b + k * 4 + 2, none⟩ = some (.int .i64 z1) ∧ W.cell? ⟨g, b + k * 4 + 3, none⟩ = some (.int .i64 u1) ∧ W.cell? ⟨g, b + m * 4, none⟩ = some (.string s2) ∧ W.cell? ⟨g, b + m * 4 + 1, none⟩ = some (.int .i64 y2) ∧ W.cell? ⟨g, b + m * 4 + 2, none⟩ = some (.int .i64 z2) ∧ W.cell? ⟨g, b + m * 4 + 3, none⟩ = some (.int .i64 u2) ∧ Below w.heap.size w W)
        (first | exact hS | exact eight_keep (by assumption) hb)
        (first | (go_at_call 28; refine (csame_two s1 s2 y1 z1 u1 y2 z2 u2 _ v HV.out).mono ?_; rintro e w3 ⟨rfl, hb⟩))
      all_goals
        have hBb := eight_below (by assumption)
        cases v
        · go_wp2
          go_roundw
          case rel => exact ⟨k + 1, by omega, by go_num, fun j hj => by
            rcases Nat.lt_succ_iff_lt_or_eq.1 hj with h | h
            · exact HNO.out j h
            · rw [h]; exact HSV.out, hBb⟩
          case measure => simp [intOf]; omega
        · go_wp2
          go_ret
          refine ⟨?_, hBb⟩
          rw [show earlierI l = (k : Int) from first_hit (by rw [HN.out, HM.out]; omega) HSV.out fun j hj => HNO.out j hj]
          rfl
    · obtain rfl : k = m := by omega
      have bk : ¬ (k : Int) < (k : Int) := by omega
      have HNO := Lib.hid hno
      clear hno hlt hk
      go_wp2
      go_ret
      refine ⟨?_, hB⟩
      rw [show earlierI l = -1 from first_none fun j hj => HNO.out j (by rw [HN.out, HM.out] at hj; omega)]
      rfl
set_option maxRecDepth 100000 in
theorem cearlier_none (A : Option Addr) (c : Nat) (w : World) : Calls Tryz.prog 30 #[.slice A 0 c] w (Gives w (.int .i64 (-1))) := by
  unfold Gives
  go_enter Tryz.func30, Tryz.ntmps30
  go_wp2_with fail
  go_loopw [4, 9] (fun _ i wr => i = .int .i64 0 ∧ w = wr) (fun _ _ _ => 0)
  case atStart => exact ⟨rfl, rfl⟩
  case round =>
    obtain ⟨rfl, rfl⟩ := hrel
    go_wp2
    go_ret
    exact ⟨rfl, Below.refl _ _⟩
theorem cearlier_any (A : Option Addr) (l : List Ps) (n c : Nat) (w : World) (hr : Rd w A (psL l)) (hn : l.length = n) (hl : n ≤ 1000000) :
    Calls Tryz.prog 30 #[.slice A n c] w (Gives w (.int .i64 (earlierI l))) := by
  cases n with
  | zero =>
    rw [List.eq_nil_of_length_eq_zero hn]
    exact cearlier_none A c w
  | succ m =>
    obtain ⟨g, b, rfl, _⟩ := hr.ps (k := 0) (by omega)
    exact cearlier_some g b l (m + 1) m c w hr hn rfl hl
end Go.Proofs.YtnkbilikkbaeeaaGreatDoor

namespace Go.Proofs.YtnkbilikkbaeeaaGreatDoor
open Go.RowKit Go.Shelf
open M (S)

theorem Rd.int {w : World} {A : Option Addr} {l : List Int} (h : Rd w A (l.map iv)) {k : Nat} (hk : k < l.length) : ∃ g b, A = some ⟨g, b, none⟩ ∧ w.cell? ⟨g, b + k, none⟩ = some (iv l[k]) := by
  obtain ⟨⟨g, b, sp⟩, rfl, hc⟩ := h k (iv l[k]) (by simp [hk])
  have h00 : 0 < l.length := by omega
  obtain ⟨a0, e0, hc0⟩ := h 0 (iv l[0]) (by simp [h00])
  cases e0
  have hsp : sp = none := by simpa [Addr.add] using World.cell?_spot hc0
  subst hsp
  have hadd : (Addr.add ⟨g, b, none⟩ k) = ⟨g, b + k, none⟩ := by
    simp only [Addr.add]
    split <;> simp_all
  rw [hadd] at hc
  exact ⟨g, b, rfl, hc⟩
theorem own_next2 {w w1 : World} {base : Nat} {e : TypeId} {size : Nat} {v : Value} {n : Nat} {xs : List Value} (h : w.ownsRow base e size v n xs) (hb : Below w.heap.size w w1) : w1.ownsRow base e size v n xs := by
  refine ⟨h.1, ?_⟩
  rcases h.2 with h2 | ⟨g, cap, cur, hv, hg, hc, hr⟩
  · exact .inl h2
  · exact .inr ⟨g, cap, cur, hv, hg, (hb.block g (Array.getElem?_eq_some_iff.1 hc).1).trans hc, hr⟩
/-- Where some squares' pieces came from, as they lie. -/
def orV (m : List (Int × Int)) (l : List Int) : List Value := (l.map (originI m)).map iv
set_option maxRecDepth 100000 in
set_option maxHeartbeats 4000000 in
theorem origins_own (A C : Option Addr) (m : List (Int × Int)) (l : List Int) (n a c d : Nat) (w : World) (hm : Rd w A (mzL m)) (hn : m.length = n) (hl : n ≤ 1000000) (hr : Rd w C (l.map iv)) (ha : l.length = a) (ha9 : a ≤ 1000000) :
    Calls Tryz.prog 65 #[.slice A n c, .slice C a d] w fun e w' => ∃ v, e = .returned v ∧ w'.ownsRow w.heap.size 3 1 v a (orV m l) ∧ Below w.heap.size w w' := by
  obtain ⟨i0, hi, hz0, hz1, hz2⟩ := info_parts info_int
  have HN := Lib.hid hn
  have HA := Lib.hid ha
  have HM := Lib.hid hm
  clear hn ha hm
  go_enter Tryz.func65, Tryz.ntmps65
  go_wp2_with fail
  go_loopw [5, 7, 10] (fun v _ i wr => ∃ k : Nat, k ≤ a ∧ i = .int .i64 (k : Int) ∧ wr.ownsRow w.heap.size 3 1 v k (orV m (l.take k)) ∧ Below w.heap.size w wr) (fun _ _ i _ => a - (intOf i).toNat)
  case atStart => exact ⟨0, Nat.zero_le _, rfl, by simpa [orV] using World.ownsRow_nil w w.heap.size 3 1, Below.refl _ _⟩
  case round =>
    obtain ⟨k, hk, rfl, hown, hB⟩ := hrel
    by_cases hlt : k < a
    · have hkl : k < l.length := by rw [HA.out]; exact hlt
      have bk : (k : Int) < (a : Int) := by omega
      obtain ⟨g, b, rfl, d0⟩ := hr.int hkl
      have hst : orV m (l.take (k + 1)) = orV m (l.take k) ++ [iv (originI m (l[k]'hkl))] := by
        unfold orV
        rw [List.take_succ_eq_append_getElem hkl, List.map_append, List.map_append]
        rfl
      obtain ⟨x, hx⟩ : ∃ x, l[k]'hkl = x := ⟨_, rfl⟩
      rw [hx] at d0 hst
      have c0 := (hB.cell (p := ⟨g, b + k, none⟩) (cell_lt d0)).trans d0
      have hmr : Rd wr A (mzL m) := (HM.out.next hB)
      obtain ⟨y, hy⟩ : ∃ y, originI m x = y := ⟨_, rfl⟩
      rw [hy] at hst
      have HST := Lib.hid hst
      have HY := Lib.hid hy
      have HMR := Lib.hid hmr
      have HOW := Lib.hid hown
      have hbs := Lib.hid hB.size
      clear hst hx hy hkl d0 hmr hown
      go_wp2_with fail
      refine (origin_any A m n c x _ HMR.out HN.out hl).mono ?_
      rintro e w3 ⟨rfl, hb⟩
      rw [HY.out]
      have hown := own_next2 HOW.out hb
      have hB3 := hB.trans (hb.mono hbs.out)
      have hs3 := hB3.size
      clear hb hbs hB
      go_wp2_with (at_builtin; refine wpList_append_own _ rfl _ _ 23 rfl w.heap.size 3 i0 (.int .i64 0) 1 8 Tryz.underlying23 hi hz0 hz1 hz2 rfl (by decide) _ _ _ rfl (hown.alloc _) ⟨w3.heap.size, 0, none⟩ 1 1 [iv y] rfl rfl (cell_one_new _ _ _) (by simp [Value.oneCell']) (by unfold maxLen; omega) (by omega) (by simp; omega) ?_; intro v' w4 hown' hgrow _)
      go_roundw
      case rel => exact ⟨k + 1, by omega, by go_num, by rw [HST.out]; exact hown', below_app hB3 hs3 hown hgrow⟩
      case measure => simp [intOf]; omega
    · obtain rfl : k = a := by omega
      have bk : ¬ (k : Int) < (k : Int) := by omega
      have HOW := Lib.hid hown
      clear hown hlt hk
      go_wp2
      go_ret
      refine ⟨_, rfl, ?_, hB⟩
      have h := HOW.out
      rw [List.take_of_length_le (by rw [HA.out]; exact Nat.le_refl _)] at h
      exact h
/-- The row that is left: at the beginning all squares. -/
def idC (k : Nat) : Array Value := ((List.range 90).map fun i => Value.int .i64 (if i < k then (i : Int) else 0)).toArray
theorem idC_set (k : Nat) : (idC k).setIfInBounds k (.int .i64 (k : Int)) = idC (k + 1) := by
  apply Array.ext
  · simp [idC]
  · intro i h1 h2
    simp only [idC, Array.size_setIfInBounds, List.size_toArray, List.length_map, List.length_range] at h1
    rw [Array.getElem_setIfInBounds (by simpa [idC] using h1)]
    simp only [idC, List.getElem_toArray, List.getElem_map, List.getElem_range]
    by_cases e : k = i
    · subst e
      rw [if_pos rfl, if_pos (by omega)]
    · rw [if_neg e]
      by_cases e2 : i < k
      · rw [if_pos e2, if_pos (by omega)]
      · rw [if_neg e2, if_neg (by omega)]
theorem row_own2 {w : World} {base : Nat} {e : TypeId} {size : Nat} {v : Value} {n : Nat} {xs : List Value} (h : w.ownsRow base e size v n xs) {k : Nat} (hk : v.ownBlock = some k) : k < w.heap.size := by
  rcases h.2 with ⟨rfl, _⟩ | ⟨g, cap, cur, rfl, _, hc, _⟩
  · cases hk
  · have : g = k := by simpa [Value.ownBlock] using hk
    rw [← this]
    exact (Array.getElem?_eq_some_iff.1 hc).1
theorem row_set2 {w : World} {base : Nat} {e : TypeId} {size : Nat} {v : Value} {n g i : Nat} {xs : List Value} {u : Value} (h : w.ownsRow base e size v n xs) (hne : ∀ k, v.ownBlock = some k → g ≠ k) : (w.setCell ⟨g, i, none⟩ u).ownsRow base e size v n xs := by
  refine ⟨h.1, ?_⟩
  rcases h.2 with h2 | ⟨k, cap, cur, hv, hg, hc, hr⟩
  · exact .inl h2
  · exact .inr ⟨k, cap, cur, hv, hg, (Below.heap_setCell w ⟨g, i, none⟩ u k (fun e => hne k (by rw [hv]; rfl) e.symm)).trans hc, hr⟩
/-- The closure's variable, and its row. -/
structure KeepAt (base : Nat) (W : World) (g : Nat) (K : List Int) : Prop where
  row : ∃ v, Blk W g 23 #[v] ∧ W.ownsRow base 3 1 v K.length (K.map iv) ∧ ∀ k, v.ownBlock = some k → k ≠ g
  hg : base ≤ g
theorem KeepAt.lt {base : Nat} {W : World} {g : Nat} {K : List Int} (h : KeepAt base W g K) : g < W.heap.size := by
  obtain ⟨v, hb, _⟩ := h.row
  exact hb.lt
theorem KeepAt.next {base : Nat} {W W' : World} {g : Nat} {K : List Int} (h : KeepAt base W g K) (hb : Below W.heap.size W W') : KeepAt base W' g K := by
  obtain ⟨v, h1, h2, h3⟩ := h.row
  exact ⟨⟨v, h1.next hb, own_next2 h2 hb, h3⟩, h.hg⟩
def idL : List Int := (List.range 90).map fun i : Nat => (i : Int)
theorem idL_len : idL.length = 90 := by unfold idL; rw [List.length_map, List.length_range]
theorem idC_list : (idC 90).toList = idL.map iv := by
  unfold idC idL
  rw [List.map_map]
  refine List.map_congr_left fun i hi => ?_
  rw [if_pos (List.mem_range.1 hi)]
  rfl
theorem make90i (w : World) : (Instr.makeSlice 23 (.int .i64 90) (.int .i64 90)).run Tryz.prog w = .ok (.slice (some ⟨w.heap.size, 0, none⟩) 90 90) (w.alloc (.cells (idC 0) 3)) := by kernel_rfl
attribute [local go_sem ↓] make90i in
set_option maxRecDepth 100000 in
set_option maxHeartbeats 4000000 in
theorem keeper_new (w : World) :
    Calls Tryz.prog 64 #[] w fun e w' => ∃ g, e = .returned (.func (.func 112) #[] #[.pointer (some ⟨g, 0, none⟩)]) ∧ KeepAt w.heap.size w' g idL ∧ Below w.heap.size w w' := by
  go_enter Tryz.func64, Tryz.ntmps64
  go_wp2_with fail
  obtain ⟨W0, hW0⟩ : ∃ W0, (w.alloc (.cells (idC 0) 3)).alloc (.cells #[.slice (some ⟨w.heap.size, 0, none⟩) 90 90] 23) = W0 := ⟨_, rfl⟩
  have hB0 : Below w.heap.size w W0 := by rw [← hW0]; exact (by repeat (first | exact Below.refl _ _ | (refine Below.setCell ?_ (by first | omega | (simp; done) | (simp; omega) | (simp at *; omega)) _) | (refine Below.alloc ?_ (by first | omega | (simp; done) | (simp; omega) | (simp at *; omega)) _) | refine Below.drew ?_ | (refine below_drewN ?_ _) | (refine Below.trans ?_ (Below.mono (by assumption) (by first | omega | (simp; done) | (simp; omega) | (simp at *; omega))))))
  have bR : Blk W0 w.heap.size 3 (idC 0) := by rw [← hW0]; exact (Blk.new _ _ _ rfl).alloc _
  have bK : Blk W0 (w.heap.size + 1) 23 #[.slice (some ⟨w.heap.size, 0, none⟩) 90 90] := by rw [← hW0]; exact Blk.new _ _ _ (by simp)
  rw [hW0]
  clear hW0
  go_loopw [2, 6] (fun _ i wr => ∃ k : Nat, k ≤ 90 ∧ i = .int .i64 (k : Int) ∧ Blk wr w.heap.size 3 (idC k) ∧ Blk wr (w.heap.size + 1) 23 #[.slice (some ⟨w.heap.size, 0, none⟩) 90 90] ∧ Below w.heap.size w wr) (fun _ i _ => 90 - (intOf i).toNat)
  case atStart => exact ⟨0, by omega, rfl, bR, bK, hB0⟩
  case round =>
    obtain ⟨k, hk, rfl, bR, bK, hB⟩ := hrel
    by_cases hlt : k < 90
    · have bk : (k : Int) < 90 := by omega
      have hc := bK.cell 0
      simp only [List.getElem?_toArray, List.getElem?_cons_zero] at hc
      have hcc : wr.cell? ⟨w.heap.size, k, none⟩ = some (.int .i64 0) := by
        rw [bR.cell k]
        simp [idC, hlt]
      have hf := bR.frozen k
      have hset := bR.set_ k (.int .i64 (k : Int))
      rw [idC_set] at hset
      have hK2 := bK.far (p := ⟨w.heap.size, k, none⟩) (by simp) (.int .i64 (k : Int))
      go_wp2
      go_roundw
      case rel => exact ⟨k + 1, by omega, by go_num, hset, hK2, hB.setCell (p := ⟨w.heap.size, k, none⟩) (Nat.le_refl _) _⟩
      case measure => simp [intOf]; omega
    · obtain rfl : k = 90 := by omega
      have HB := Lib.hid bR
      have HK := Lib.hid bK
      clear bR bK hlt hk
      go_wp2
      go_ret
      refine ⟨w.heap.size + 1, rfl, ⟨⟨_, HK.out, ⟨by simp [idL_len], .inr ⟨w.heap.size, 90, idC 90, by rw [idL_len], Nat.le_refl _, HB.out, by rw [idL_len]; exact Nat.le_refl _, by unfold maxLen; omega, by simp [idC], ?_⟩⟩, fun k e => ?_⟩, Nat.le_succ _⟩, hB⟩
      · rw [idC_list, List.take_of_length_le (by simp)]
      · have : w.heap.size = k := by simpa [Value.ownBlock] using e
        omega
set_option maxRecDepth 100000 in
set_option maxHeartbeats 4000000 in
theorem keep1_any (l : List Int) (x : Int) (C : Option Addr) (a d g0 : Nat) (W : World) (ha : l.length = a) (ha9 : a ≤ 1000000) (hr : Rd W C (l.map iv)) (c0 : W.cell? ⟨g0, 0, none⟩ = some (.slice C a d)) :
    Calls Tryz.prog 113 #[.int .i64 x, .pointer (some ⟨g0, 0, none⟩)] W fun e w' => e = .returned (.bool (!l.contains x)) ∧ ∃ q, w' = W.drewN q := by
  have HC : Hid (∀ W, Rd W C (l.map iv) → Calls Tryz.prog 114 #[.slice C a d, .int .i64 x] W fun e w' => e = .returned (.bool (l.contains x)) ∧ w' = W) := fun W hr => by
    cases l with
    | nil =>
      obtain rfl : 0 = a := ha
      exact Tryz.slices_Contains_int_empty C d x W
    | cons y r =>
      obtain ⟨g, b, rfl, _⟩ := hr.int (k := 0) (by simp)
      have h := Tryz.slices_Contains_int g b a d (y :: r) x W (by omega) (by omega) (fun j hj => by
        obtain ⟨_, _, e, hc⟩ := hr.int hj
        cases e
        rw [hc, List.getD_eq_getElem?_getD, List.getElem?_eq_getElem hj]
        rfl)
      rw [List.take_of_length_le (by omega)] at h
      exact h
  obtain ⟨v, hv⟩ : ∃ v, l.contains x = v := ⟨_, rfl⟩
  rw [hv] at HC ⊢
  clear ha ha9 hv
  go_enter Tryz.func113, Tryz.ntmps113
  go_wp2_with fail
  refine (HC.out W hr).mono ?_
  rintro e w' ⟨rfl, rfl⟩
  go_wp2
  go_ret
  exact ⟨rfl, 0, rfl⟩
open Go.Lib Go.Sort in
theorem sorted_cell2 (w : World) (blk off m B i : Nat) (dk : Array Int) (os : Array Obj) (hB : B < w.heap.size) (hne : B ≠ blk) : (sortWorld iv w blk off m dk os).cell? ⟨B, i, none⟩ = w.cell? ⟨B, i, none⟩ := by
  unfold sortWorld
  rw [cell?_grow _ _ _ (by show B < (putRow _ _ _ _ _).heap.size; rw [size_putRow]; exact hB), cell?_putRow_other _ _ blk off _ _ (Or.inl hne)]
  rfl
open Go.Lib Go.Sort in
set_option maxRecDepth 100000 in
set_option maxHeartbeats 4000000 in
theorem del_keep (l K : List Int) (C : Option Addr) (a d g0 base n : Nat) (v : Value) (W : World) (ha : l.length = a) (ha9 : a ≤ 1000000) (hr : Rd W C (l.map iv)) (b0 : Blk W g0 23 #[.slice C a d]) (hown : W.ownsRow base 3 1 v n (K.map iv)) (hn : K.length = n) (hn9 : n ≤ 1000000)
    (hne : ∀ k, v.ownBlock = some k → g0 ≠ k ∧ (l ≠ [] → ∀ ad, C = some ad → ad.block ≠ k)) :
    Calls Tryz.prog 107 #[v, .func (.func 113) #[] #[.pointer (some ⟨g0, 0, none⟩)]] W fun e w' => ∃ v', e = .returned v' ∧ w'.ownsRow base 3 1 v' (K.filter fun x => l.contains x).length ((K.filter fun x => l.contains x).map iv) ∧ (∀ k, v'.ownBlock = some k → v.ownBlock = some k) ∧ (∀ k, k < W.heap.size → v.ownBlock ≠ some k → w'.heap[k]? = W.heap[k]?) ∧ Below base W w' := by
  have hp : ∀ W', Rd W' C (l.map iv) → W'.cell? ⟨g0, 0, none⟩ = some (.slice C a d) → ∀ x : Int, Calls Tryz.prog 113 #[.int .i64 x, .pointer (some ⟨g0, 0, none⟩)] W' fun e w' => e = .returned (.bool (!l.contains x)) ∧ ∃ q, w' = W'.drewN q := fun W' h1 h2 x => keep1_any l x C a d g0 W' ha ha9 h1 h2
  by_cases hv : v = .slice none 0 0
  · subst hv
    have hn0 : n = 0 := by
      rcases hown.2 with ⟨_, h⟩ | ⟨g, cap, cur, h, _⟩
      · exact h
      · injection h with h1
        cases h1
    have hK : K = [] := List.eq_nil_of_length_eq_zero (by omega)
    subst hK
    clear hown hn hne b0 hp
    go_enter Tryz.func107, Tryz.ntmps107
    go_wp2_with fail
    refine (Tryz.slices_IndexFunc_empty (α := Int) none 0 _ _).mono ?_
    rintro e w1 ⟨rfl, rfl⟩
    go_wp2
    go_ret
    exact ⟨.slice none 0 0, rfl, World.ownsRow_nil _ _ _ _, fun _ h => h, fun _ _ _ => rfl, Below.refl _ _⟩
  · obtain ⟨g, cap, rfl, hg, hgl, hcap, hmax, hlen, hH⟩ := Lib.holds_of_ownsRow (enc := iv) hown hv
    obtain ⟨hne0, hneC⟩ := hne g rfl
    have eg : ∀ args w, (callFunc 113 args).run Tryz.prog w = .ok (.enter 113 args) w := enters_of Tryz.func113 (by kernel_rfl) rfl
    have c0 : W.cell? ⟨g0, 0, none⟩ = some (.slice C a d) := b0.cell 0
    have hcon := Tryz.slices_DeleteFunc iv (fun _ => rfl) (fun x : Int => !l.contains x) 113 #[.pointer (some ⟨g0, 0, none⟩)] eg 0 Tryz.zeroValue3 g 0 cap K.toArray W
      (fun W' k hb => hp W' (hr.next hb) ((hb.cell (p := ⟨g0, 0, none⟩) b0.lt).trans c0) k)
      (fun m os dk k _ => hp _ (fun j u hu => by
          obtain ⟨ad, e, hc⟩ := hr j u hu
          refine ⟨ad, e, ?_⟩
          have hbk : (ad.add j).block = ad.block := by
            unfold Addr.add
            split <;> rfl
          have h1 := hneC (fun e0 => by rw [e0] at hu; simp at hu) ad e
          have h2 := cell_lt hc
          unfold sortWorld
          rw [cell?_grow _ _ _ (by show (ad.add j).block < (putRow _ _ _ _ _).heap.size; rw [size_putRow]; exact h2), cell?_putRow_other _ _ g 0 _ _ (Or.inl (by rw [hbk]; exact h1))]
          exact hc)
        ((sorted_cell2 W g 0 m g0 0 dk os b0.lt hne0).trans c0) k)
      hH (by simp; unfold maxLen at hmax; omega) (by simp; omega)
    have hf : (K.toArray.toList.filter fun x : Int => !(!l.contains x)) = K.filter fun x => l.contains x := by
      refine List.filter_congr fun x _ => ?_
      rw [Bool.not_not]
    rw [hf, show K.toArray.size = n by simpa using hn] at hcon
    have hle : (K.filter fun x => l.contains x).length ≤ n := by
      rw [← hn]
      exact List.length_filter_le _ _
    generalize (K.filter fun x => l.contains x) = r at hcon hle ⊢
    refine hcon.mono ?_
    rintro e w' ⟨rfl, m, rfl⟩
    refine ⟨_, rfl, ?_, fun k h => h, fun k hk hne2 => ?_, Lib.below_putRow (Below.refl _ _) hg⟩
    · have h1 := Lib.ownsRow_putRow (q := m) (k := r.length) (ys := r ++ List.replicate (n - r.length) (0 : Int)) hown (by simp; omega) hle
      rw [List.take_left' rfl] at h1
      exact h1
    · have hgk : g ≠ k := fun e => hne2 (by rw [← e]; rfl)
      simp [putRow, mapBlock, Sort.ahead, Array.getElem?_modify, hgk]
set_option maxRecDepth 100000 in
set_option maxHeartbeats 4000000 in
/-- What is left behind one list: those that stood in it, too. -/
theorem keep_any (g base : Nat) (K : List Int) (C : Option Addr) (l : List Int) (a d : Nat) (w : World) (hK : KeepAt base w g K) (hK9 : K.length ≤ 1000000) (ha : l.length = a) (ha9 : a ≤ 1000000) (hr : Rd w C (l.map iv))
    (hC : l ≠ [] → ∀ ad, C = some ad → ∀ v, w.cell? ⟨g, 0, none⟩ = some v → v.ownBlock ≠ some ad.block) (r : List Int) (hrr : (K.filter fun x => l.contains x) = r) :
    Calls Tryz.prog 112 #[.slice C a d, .pointer (some ⟨g, 0, none⟩)] w fun e w' => e = .returned (.bool (decide (0 < r.length))) ∧ KeepAt base w' g r ∧ Below base w w' := by
  obtain ⟨v, bv, hv, hvg⟩ := hK.row
  have hbase := hK.hg
  have hglt := bv.lt
  have hr0 : w.cell? ⟨g, 0, none⟩ = some v := bv.cell 0
  have hC := fun h ad e => hC h ad e v hr0
  obtain ⟨W0, hW0⟩ : ∃ W0, w.alloc (.cells #[.slice C a d] 23) = W0 := ⟨_, rfl⟩
  have hB0 : Below w.heap.size w W0 := by rw [← hW0]; exact below_new _ _
  have b0 : Blk W0 w.heap.size 23 #[.slice C a d] := by rw [← hW0]; exact Blk.new _ _ _ rfl
  have bv0 := bv.next hB0
  have hv0 := own_next2 hv hB0
  have c0 : W0.cell? ⟨g, 0, none⟩ = some v := bv0.cell 0
  have f0 : W0.frozen? ⟨g, 0, none⟩ = false := bv0.frozen 0
  have hdel := del_keep l K C a d w.heap.size base K.length v W0 ha ha9 (hr.next hB0) b0 hv0 rfl hK9 (fun k hk => by
    have hlt := row_own2 hv hk
    exact ⟨by omega, fun h ad e e2 => hC h ad e (by rw [hk, e2])⟩)
  rw [hrr] at hdel
  have HD := Lib.hid hdel
  have HV := Lib.hid hv
  clear hdel b0 hv0 hv hr hrr hr0 hK hC ha ha9 hK9
  go_enter Tryz.func112, Tryz.ntmps112
  go_wp2_with fail
  refine HD.out.mono ?_
  rintro e w1 ⟨v1, rfl, hown, hsub, hsame, hb1⟩
  have bg1 : Blk w1 g 23 #[v] := (hsame g bv0.lt (fun e => hvg g e rfl)).trans bv0
  have f1 : w1.frozen? ⟨g, 0, none⟩ = false := bg1.frozen 0
  have d1 : w1.cell? ⟨g, 0, none⟩ = some v := bg1.cell 0
  have hset := bg1.set_ 0 v1
  have hset0 : (w1.setCell ⟨g, 0, none⟩ v1).cell? ⟨g, 0, none⟩ = some v1 := hset.cell 0
  have hown2 : (w1.setCell ⟨g, 0, none⟩ v1).ownsRow base 3 1 v1 r.length (r.map iv) := row_set2 hown fun k hk e => hvg k (hsub k hk) e.symm
  have hBB : Below base w (w1.setCell ⟨g, 0, none⟩ v1) := ((hB0.mono (by omega)).trans hb1).setCell (p := ⟨g, 0, none⟩) hbase _
  obtain ⟨A1, c1, rfl⟩ := own_slice hown
  clear bv0 c0 f0 hW0 hsame hb1 bg1
  go_wp2
  go_ret
  exact ⟨by simp, ⟨⟨_, hset, hown2, fun k hk => hvg k (hsub k hk)⟩, hbase⟩, hBB⟩
end Go.Proofs.YtnkbilikkbaeeaaGreatDoor

namespace Go.Proofs.YtnkbilikkbaeeaaGreatDoor
open Go.RowKit Go.Shelf
open M (S)

theorem rd_take {w : World} {A : Option Addr} {m : List (Int × Int)} (h : Rd w A (mzL m)) (k : Nat) : Rd w A (mzL (m.take k)) := fun j u hu => by
  refine h j u ?_
  have e : mzL m = mzL (m.take k) ++ mzL (m.drop k) := by rw [← mzL_app, List.take_append_drop]
  have hj : j < (mzL (m.take k)).length := by
    rcases Nat.lt_or_ge j (mzL (m.take k)).length with h | h
    · exact h
    · rw [List.getElem?_eq_none h] at hu
      cases hu
  rw [e, List.getElem?_append_left hj]
  exact hu
theorem plyL_le (s : ByteArray) (y z u : Int) : (plyL s y z u).length ≤ 90 := by
  unfold plyL
  split
  · rw [chasedL_map, List.length_map]
    exact chasedN_len _ _
  · simp
/-- What is left, as numbers. -/
def keptI (l : List Ps) (m : List (Int × Int)) (side : Int) (k : Nat) : List Int := (keptN l m side k).map fun i : Nat => (i : Int)
theorem keptI_zero (l : List Ps) (m : List (Int × Int)) (side : Int) : keptI l m side 0 = idL := by
  unfold keptI idL
  rw [kept_zero]
theorem keptI_len (l : List Ps) (m : List (Int × Int)) (side : Int) (k : Nat) : (keptI l m side k).length ≤ 90 := by
  unfold keptI keptN
  rw [List.length_map]
  exact Nat.le_trans (List.length_filter_le _ _) (by simp)
theorem keptI_other {l : List Ps} {m : List (Int × Int)} {side : Int} {k : Nat} (h : ofAt l side k = false) : keptI l m side (k + 1) = keptI l m side k := by
  unfold keptI
  rw [kept_succ, h]
  rfl
theorem keptI_check {l : List Ps} {m : List (Int × Int)} {side : Int} {k : Nat} (h : ckAt l k = true) : keptI l m side (k + 1) = keptI l m side k := by
  unfold keptI
  rw [kept_ck h]
theorem keptI_chase {l : List Ps} {m : List (Int × Int)} {side : Int} {k : Nat} (h : ofAt l side k = true) (hc : ckAt l k = false) : (keptI l m side k).filter (fun x => (oriAt l m k).contains x) = keptI l m side (k + 1) := by
  unfold keptI
  rw [kept_succ, h, if_pos rfl, List.filter_map]
  congr 1
  refine List.filter_congr fun n _ => ?_
  unfold hasAt
  rw [hc, Bool.false_or]
  rfl
theorem keptI_nil {l : List Ps} {m : List (Int × Int)} {side : Int} {k : Nat} : keptI l m side k = [] ↔ keptN l m side k = [] := by
  unfold keptI
  rw [List.map_eq_nil_iff]
def anyCk (l : List Ps) (side : Int) (k : Nat) : Bool := (pliesN l side k).any (ckAt l)
def anyCh (l : List Ps) (side : Int) (k : Nat) : Bool := (pliesN l side k).any fun j => !ckAt l j
theorem any_zero (l : List Ps) (side : Int) : anyCk l side 0 = false ∧ anyCh l side 0 = false := by
  unfold anyCk anyCh pliesN
  simp
theorem any_other {l : List Ps} {side : Int} {k : Nat} (h : ofAt l side k = false) : anyCk l side (k + 1) = anyCk l side k ∧ anyCh l side (k + 1) = anyCh l side k := by
  unfold anyCk anyCh
  rw [plies_succ, h]
  exact ⟨rfl, rfl⟩
theorem any_check {l : List Ps} {side : Int} {k : Nat} (h : ofAt l side k = true) (hc : ckAt l k = true) : anyCk l side (k + 1) = true ∧ anyCh l side (k + 1) = anyCh l side k := by
  unfold anyCk anyCh
  rw [plies_succ, h, if_pos rfl, List.any_append, List.any_append]
  simp [hc]
theorem any_chase {l : List Ps} {side : Int} {k : Nat} (h : ofAt l side k = true) (hc : ckAt l k = false) : anyCk l side (k + 1) = anyCk l side k ∧ anyCh l side (k + 1) = true := by
  unfold anyCk anyCh
  rw [plies_succ, h, if_pos rfl, List.any_append, List.any_append]
  simp [hc]
def clsI (a b : Bool) : Int := if b then 1 else if a then 2 else 0
set_option maxRecDepth 100000 in
theorem cls_any (a b : Bool) (w : World) : Calls Tryz.prog 66 #[.bool a, .bool b] w (Gives w (.int .i64 (clsI a b))) := by
  unfold Gives
  cases a <;> cases b
  all_goals
    go_enter Tryz.func66, Tryz.ntmps66
    go_wp2
    go_ret
    exact ⟨rfl, Below.refl _ _⟩
theorem keep_apart {base g n c a : Nat} {W w3 : World} {K : List Int} {xs : List Value} {A : Option Addr} {ad : Addr} {v : Value} (hK : KeepAt base W g K) (hb : Below W.heap.size W w3) (ho : w3.ownsRow W.heap.size 3 1 (.slice A a c) n xs) (e : A = some ad) (hv : w3.cell? ⟨g, 0, none⟩ = some v) : v.ownBlock ≠ some ad.block := by
  obtain ⟨v', h1, h2, _⟩ := hK.row
  have h3 : w3.cell? ⟨g, 0, none⟩ = some v' := (h1.next hb).cell 0
  rw [hv] at h3
  injection h3 with h3
  subst h3
  intro he
  have hlt := row_own2 h2 he
  rcases ho.2 with ⟨h, _⟩ | ⟨g', cap, cur, h, hg, _⟩
  · injection h with h
    rw [e] at h
    cases h
  · injection h with h
    rw [e] at h
    injection h with h
    rw [h] at hlt
    have : g' < W.heap.size := hlt
    omega
set_option maxRecDepth 100000 in
set_option maxHeartbeats 4000000 in
theorem class_not (A C : Option Addr) (side : Int) (n a c d : Nat) (w : World) (hne : n ≠ a + 1) (ha : a ≤ 1000000) :
    Calls Tryz.prog 35 #[.slice A n c, .slice C a d, .int .i64 side] w (Gives w (.int .i64 0)) := by
  unfold Gives
  have h1 : ((n : Int) != (a : Int) + 1) = true := by rw [bne_iff_ne]; omega
  have hw : IntKind.i64.wrap ((a : Int) + 1) = (a : Int) + 1 := by rw [IntKind.wrap_i64]; omega
  clear hne
  go_enter Tryz.func35, Tryz.ntmps35
  go_wp2
  go_ret
  exact ⟨rfl, Below.refl _ _⟩
set_option maxRecDepth 100000 in
set_option maxHeartbeats 4000000 in
theorem class_go (A C : Option Addr) (l : List Ps) (m : List (Int × Int)) (side : Int) (n a c d : Nat) (w : World) (hT : Tab w) (hp : Rd w A (psL l)) (hl : l.length = n) (hm : Rd w C (mzL m)) (ha : m.length = a) (hne : n = a + 1) (hn : n ≤ 1000000) (had : a ≤ d) :
    Calls Tryz.prog 35 #[.slice A n c, .slice C a d, .int .i64 side] w (Gives w (.int .i64 (classI l m side))) := by
  unfold Gives
  have h1 : ((n : Int) != (a : Int) + 1) = false := by rw [bne_eq_false_iff_eq]; omega
  have hw : IntKind.i64.wrap ((a : Int) + 1) = (a : Int) + 1 := by rw [IntKind.wrap_i64]; omega
  have HL := Lib.hid hl
  have HA := Lib.hid ha
  have HNA := Lib.hid hne
  have HP := Lib.hid hp
  have HM := Lib.hid hm
  have HD := Lib.hid had
  have ha9 : a ≤ 1000000 := by omega
  clear hl ha hne hp hm had
  go_enter Tryz.func35, Tryz.ntmps35
  go_wp2_with fail
  refine (keeper_new _).mono ?_
  rintro e V ⟨g, rfl, hK, hB⟩
  rw [← keptI_zero l m side] at hK
  have hTV := hT.next hB
  have h0 := any_zero l side
  go_wp2_with fail
  go_loopw [7, 8, 22] (fun ck ch i wr => ∃ k : Nat, k ≤ a ∧ i = .int .i64 (k : Int) ∧ ck = .bool (anyCk l side k) ∧ ch = .bool (anyCh l side k) ∧ (anyCh l side k = true → keptN l m side k ≠ []) ∧ KeepAt w.heap.size wr g (keptI l m side k) ∧ Tab wr ∧ Below w.heap.size w wr) (fun _ _ i _ => a - (intOf i).toNat)
  case atStart => exact ⟨0, Nat.zero_le _, rfl, by rw [h0.1], by rw [h0.2], (fun h => absurd h (by rw [h0.2]; simp)), hK, hTV, hB⟩
  case round =>
    clear h0 hK hTV hB
    obtain ⟨k, hk, rfl, rfl, rfl, hch, hK, hTr, hB⟩ := hrel
    by_cases hlt : k < a
    · have hkl : k < l.length := by rw [HL.out, HNA.out]; omega
      have hkl1 : k + 1 < l.length := by rw [HL.out, HNA.out]; omega
      have bk : (k : Int) < (a : Int) := by omega
      have bk1 : (k : Int) < (n : Int) := by rw [HNA.out]; omega
      have bk2 : (k : Int) + 1 < (n : Int) := by rw [HNA.out]; omega
      have bk0 : (0 : Int) ≤ (k : Int) + 1 := by omega
      have bkd : (k : Int) + 1 ≤ (d : Int) := by have := HD.out; omega
      have wk : IntKind.i64.wrap ((k : Int) + 1) = (k : Int) + 1 := by rw [IntKind.wrap_i64]; omega
      obtain ⟨gA, bA, rfl, p0, p1, p2, p3⟩ := HP.out.ps hkl
      obtain ⟨_, _, eA, q0, q1, q2, q3⟩ := HP.out.ps hkl1
      cases eA
      obtain ⟨pk, hpk⟩ : ∃ p, l[k]'hkl = p := ⟨_, rfl⟩
      obtain ⟨pq, hpq⟩ : ∃ p, l[k + 1]'hkl1 = p := ⟨_, rfl⟩
      rw [hpk] at p0 p1 p2 p3
      rw [hpq] at q0 q1 q2 q3
      have hof : ofAt l side k = (pk.y == side) := by rw [of_of (p := pk)]; rw [List.getElem?_eq_getElem hkl, hpk]
      have hckv : ckAt l k = plyC pq.s pq.y pq.z pq.u := by rw [ck_of (p := pq)]; rw [List.getElem?_eq_getElem hkl1, hpq]
      have hori : oriAt l m k = (plyL pq.s pq.y pq.z pq.u).map (originI (m.take (k + 1))) := by rw [ori_of (p := pq)]; rw [List.getElem?_eq_getElem hkl1, hpq]
      have r1 := (hB.cell (p := ⟨gA, bA + k * 4 + 1, none⟩) (cell_lt p1)).trans p1
      have s0 := (hB.cell (p := ⟨gA, bA + (k + 1) * 4, none⟩) (cell_lt q0)).trans q0
      have s1 := (hB.cell (p := ⟨gA, bA + (k + 1) * 4 + 1, none⟩) (cell_lt q1)).trans q1
      have s2 := (hB.cell (p := ⟨gA, bA + (k + 1) * 4 + 2, none⟩) (cell_lt q2)).trans q2
      have s3 := (hB.cell (p := ⟨gA, bA + (k + 1) * 4 + 3, none⟩) (cell_lt q3)).trans q3
      obtain ⟨ps, py, pz, pu⟩ := pk
      obtain ⟨s, y, z, u⟩ := pq
      clear p0 p1 p2 p3 q0 q1 q2 q3 hpk hpq
      by_cases hsd : py = side
      · have e1 : (py != side) = false := by rw [hsd]; simp
        have hof : ofAt l side k = true := by rw [hof]; simp [hsd]
        obtain ⟨c0, hc0⟩ : ∃ c0, plyC s y z u = c0 := ⟨_, rfl⟩
        obtain ⟨L, hL⟩ : ∃ L, plyL s y z u = L := ⟨_, rfl⟩
        obtain ⟨e0, he0⟩ : ∃ e0, wellN s y z u = e0 := ⟨_, rfl⟩
        obtain ⟨h, hh⟩ : ∃ h, L.length = h := ⟨_, rfl⟩
        have hL9 : h ≤ 90 := by rw [← hh, ← hL]; exact plyL_le s y z u
        have hckv : ckAt l k = c0 := hckv.trans hc0
        have hori : oriAt l m k = L.map (originI (m.take (k + 1))) := by rw [hori, ← hL]
        have HC0 := Lib.hid hc0
        have HLL := Lib.hid hL
        have HE0 := Lib.hid he0
        have HH := Lib.hid hh
        have HCK := Lib.hid hckv
        have HORI := Lib.hid hori
        have HOF := Lib.hid hof
        have HCH := Lib.hid hch
        have hbs := hB.size
        clear hc0 hL he0 hh hckv hori hof hch hsd hkl hkl1
        go_wp2_with fail
        refine (cof_is s y z u c0 L e0 _ hTr HC0.out HLL.out HE0.out).mono ?_
        rintro e w1 ⟨A1, cap1, rfl, hr1, hb1⟩
        rw [HH.out]
        have hK1 := hK.next hb1
        have hT1 := hTr.next hb1
        have hB1 := hB.trans (hb1.mono hbs)
        obtain ⟨U, hU⟩ : ∃ U, w1.alloc (.cells #[.bool c0, .slice A1 h cap1] 40) = U := ⟨_, rfl⟩
        have bX : Blk U w1.heap.size 40 #[.bool c0, .slice A1 h cap1] := by rw [← hU]; exact Blk.new _ _ _ rfl
        have hbU : Below w1.heap.size w1 U := by rw [← hU]; exact below_new _ _
        have hKU := hK1.next hbU
        have hTU := hT1.next hbU
        have hBU := hB1.trans (hbU.mono hB1.size)
        have hrU := hr1.next hbU
        obtain ⟨x0, x1⟩ := ply_cells bX
        clear hK hTr hB hK1 hT1 hB1 hr1 hb1 r1 s0 s1 s2 s3
        cases c0
        · go_wp2_with fail
          have hBD : Below w.heap.size w U.drew := hBU.drew
          have hrD := hrU.next (Below.refl _ _).drew
          have hKD := hKU.next (Below.refl _ _).drew
          have hTD := hTU.next (Below.refl _ _).drew
          have hmD : Rd U.drew C (mzL (m.take (k + 1))) := rd_take (HM.out.next hBD) _
          have hmL : (m.take (k + 1)).length = k + 1 := by rw [List.length_take, HA.out]; omega
          have hOR := Lib.hid (origins_own C A1 (m.take (k + 1)) L (k + 1) h d cap1 _ hmD hmL (by omega) hrD HH.out (by omega))
          have hOL : (oriAt l m k).length = h := by rw [HORI.out, List.length_map, HH.out]
          have hrr := keptI_chase (m := m) HOF.out HCK.out
          have hKL := keptI_len l m side k
          have HRR := Lib.hid hrr
          have HOL := Lib.hid hOL
          clear hmD hmL hOL hrr hTU hKU hBU hrU bX hU
          go_region_with (first
            | (go_at_call 65; refine hOR.out.mono ?_; rintro e w3 ⟨v3, rfl, ho3, hb3⟩; obtain ⟨A3, c3, rfl⟩ := own_slice ho3; have hK3 := hKD.next hb3)
            | (go_at_call 112; refine (keep_any g w.heap.size (keptI l m side k) A3 (oriAt l m k) h c3 _ hK3 (by omega) HOL.out (by omega) (by rw [HORI.out]; exact Rd.own ho3) (fun _ ad e v hv => keep_apart hKD hb3 ho3 e hv) _ HRR.out).mono ?_; rintro e w4 ⟨rfl, hK4, hb4⟩))
          all_goals
            have hB4 := (hBD.trans (hb3.mono hBD.size)).trans hb4
            have hT4 := hT.next hB4
            obtain ⟨r, hr⟩ : ∃ r, keptI l m side (k + 1) = r := ⟨_, rfl⟩
            have HR := Lib.hid hr
            rw [hr] at hK4 ⊢
            cases r with
            | nil =>
              have hout := Lib.hid (class_out (m := m) (by rw [HA.out]; exact hlt) HOF.out HCK.out (keptI_nil.1 HR.out))
              go_wp2
              go_ret
              exact ⟨by rw [hout.out]; rfl, hB4⟩
            | cons r0 rs =>
              have h2 := Lib.hid (any_chase HOF.out HCK.out)
              have hne := Lib.hid (show keptN l m side (k + 1) ≠ [] from fun e => by
                have := keptI_nil.2 e
                rw [HR.out] at this
                cases this)
              have h9 : decide (0 < (r0 :: rs).length) = true := by simp
              rw [h9]
              go_wp2
              go_roundw
              case rel => exact ⟨k + 1, by omega, by go_num, by rw [h2.out.1], by rw [h2.out.2], fun _ => hne.out, by rw [HR.out]; exact hK4, hT4, hB4⟩
              case measure => simp [intOf]; omega
        · have h2 := Lib.hid (any_check HOF.out HCK.out)
          have h3 := Lib.hid (keptI_check (m := m) (side := side) HCK.out)
          have h4 := Lib.hid (kept_ck (m := m) (side := side) HCK.out)
          go_wp2
          go_roundw
          case rel => exact ⟨k + 1, by omega, by go_num, by rw [h2.out.1], by rw [h2.out.2], fun h => by rw [h4.out]; rw [h2.out.2] at h; exact HCH.out h, by rw [h3.out]; exact hKU, hTU, hBU⟩
          case measure => simp [intOf]; omega
      · have e1 : (py != side) = true := by rw [bne_iff_ne]; exact hsd
        have hof : ofAt l side k = false := by rw [hof, beq_eq_false_iff_ne]; exact hsd
        have h2 := Lib.hid (any_other hof)
        have h3 := Lib.hid (keptI_other (m := m) hof)
        have h4 := Lib.hid (show keptN l m side (k + 1) = keptN l m side k by rw [kept_succ, hof]; rfl)
        have HCH := Lib.hid hch
        clear hof hch hsd hckv hori hkl hkl1
        go_wp2
        go_roundw
        case rel => exact ⟨k + 1, by omega, by go_num, by rw [h2.out.1], by rw [h2.out.2], fun h => by rw [h4.out]; rw [h2.out.2] at h; exact HCH.out h, by rw [h3.out]; exact hK, hTr, hB⟩
        case measure => simp [intOf]; omega
    · obtain rfl : k = a := by omega
      have bk : ¬ (k : Int) < (k : Int) := by omega
      have he := class_end (side := side) (by rw [HL.out, HA.out, HNA.out]) (show anyCk l side k = (pliesN l side m.length).any (ckAt l) by rw [HA.out]; rfl) (show anyCh l side k = (pliesN l side m.length).any (fun j => !ckAt l j) by rw [HA.out]; rfl) (by rw [HA.out]; exact hch)
      have HE : Hid (classI l m side = clsI (anyCk l side k) (anyCh l side k)) := he
      clear he hch hlt hk hK
      go_wp2_with fail
      refine (cls_any _ _ _).mono ?_
      rintro e w9 ⟨rfl, hb⟩
      go_wp2
      go_ret
      exact ⟨by rw [HE.out]; rfl, hB.trans (hb.mono hB.size)⟩
theorem class_any (A C : Option Addr) (l : List Ps) (m : List (Int × Int)) (side : Int) (n a c d : Nat) (w : World) (hT : Tab w) (hp : Rd w A (psL l)) (hl : l.length = n) (hm : Rd w C (mzL m)) (ha : m.length = a) (hn : n ≤ 1000000) (ha9 : a ≤ 1000000) (had : a ≤ d) :
    Calls Tryz.prog 35 #[.slice A n c, .slice C a d, .int .i64 side] w (Gives w (.int .i64 (classI l m side))) := by
  by_cases h : n = a + 1
  · exact class_go A C l m side n a c d w hT hp hl hm ha h hn had
  · rw [class_len (by rw [hl, ha]; exact h)]
    exact class_not A C side n a c d w h ha9
theorem class_is (A C : Option Addr) (l : List Ps) (m : List (Int × Int)) (side v : Int) (n a c d : Nat) (w : World) (hT : Tab w) (hp : Rd w A (psL l)) (hl : l.length = n) (hm : Rd w C (mzL m)) (ha : m.length = a) (hn : n ≤ 1000000) (ha9 : a ≤ 1000000) (had : a ≤ d) (hv : classI l m side = v) :
    Calls Tryz.prog 35 #[.slice A n c, .slice C a d, .int .i64 side] w (Gives w (.int .i64 v)) := by
  subst hv
  exact class_any A C l m side n a c d w hT hp hl hm ha hn ha9 had
end Go.Proofs.YtnkbilikkbaeeaaGreatDoor
