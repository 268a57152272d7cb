/- The closure where the map has not the node: the moves behind are gone through. -/
import Derived.Test.YtelngcfpnbeakaaGreatDoorPerftF
namespace Go.Proofs.YtelngcfpnbeakaaGreatDoor
open Go.RowKit Go.Shelf
open Go.Maps
open M (S)

/-- How the closure ends. -/
def LinesG (n₀ g H : Nat) (v : Value) (st : List Stp) (now : Po) (Y : Int) (N : Nat) (w : World) (r : Nat) (e : Ending) (w' : World) : Prop :=
  e = .returned (.int .i64 r) ∧ ∃ v' n' D', Keeps g H w v w' v' ∧ GAt n₀ w' g v' st now ∧ CntAt H g n' D' w' ∧ n' ≤ 300000 ∧ MemoOk Y N D'
/-- What the closure does at depth r. -/
def LinesC (Y : Int) (N r : Nat) : Prop := ∀ (n₀ g n H : Nat) (v : Value) (st : List Stp) (now : Po) (D : DataW Unit) (a b : Nat) (dd : Int) (w : World), dd = r → 1 < g → Tab w → GAt n₀ w g v st now → CntAt H g n D w → n ≤ 300000 → MemoOk Y N D → g < H → H + 1 + 1 + 1 < n₀ → st.length + r ≤ 64 → now.y = sideAt Y N r → wellN now.s now.y now.z now.u = 0 → (a, b) ∈ legalN now.s now.y →
  Calls Tryz.prog 34 #[.agg #[.int .i64 (a : Int), .int .i64 (b : Int)], .int .i64 dd, .pointer (some ⟨H, 0, none⟩), .pointer (some ⟨H + 1 + 1, 0, none⟩), .pointer (some ⟨H + 1 + 1 + 1, 0, none⟩)] w (LinesG n₀ g H v st now Y N w (linesN (r - 1) (behindS now.s (a, b)) (1 - now.y)))
theorem cell_heap {w w' : World} {g : Nat} (h : w'.heap[g]? = w.heap[g]?) (i : Nat) : w'.cell? ⟨g, i, none⟩ = w.cell? ⟨g, i, none⟩ := by
  unfold World.cell?
  simp only [h]
theorem own_size {w : World} {P : Program} {k : TypeId} {R : Value → Option (DataW Unit × List MemPlace)} {b n : Nat} {D : DataW Unit} (h : w.ownsMap P k R b n D) : w.ownsMap P k R b (Maps.size D) D := by
  obtain ⟨es, clock, hb, F, _, rfl⟩ := h
  refine ⟨es, clock, hb, F, ?_, rfl⟩
  show es.size ≤ List.length _
  rw [length_sorted]
  simp
theorem own_isMap {w : World} {P : Program} {k : TypeId} {R : Value → Option (DataW Unit × List MemPlace)} {b n : Nat} {D : DataW Unit} (h : w.ownsMap P k R b n D) : Maps.IsMap D := by
  obtain ⟨es, clock, hb, F, _, rfl⟩ := h
  exact ⟨_, rfl⟩
theorem keeps_low {n₀ g H : Nat} {w w' : World} {v v' : Value} {st : List Stp} {now : Po} (k : Keeps g H w v w' v') (hG : GAt n₀ w g v st now) (hg : g < H) : Below g w w' :=
  k.far.below (fun j hx => by
    rcases hx with rfl | e | rfl
    · exact Nat.le_refl _
    · have := (hG.own e).1
      have := hG.lt
      omega
    · omega) (by have := hG.lt; have := hG.le; omega)
set_option maxRecDepth 100000 in
set_option maxHeartbeats 8000000 in
theorem lines_miss {n₀ g n H : Nat} {v : Value} {st : List Stp} {now : Po} {D : DataW Unit} (Y : Int) (N d' : Nat) (ih : LinesC Y N (d' + 1)) (a b d : Int) (w : World) (hdd : d = d' + 2) (hd4 : d' + 1 ≤ 4) (htg : 1 < g) (hT : Tab w) (hG : GAt n₀ w g v st now) (hC : CntAt H g n D w) (hn : n ≤ 300000) (hMem : MemoOk Y N D) (hgH : g < H) (hHn : H + 1 + 1 + 1 < n₀) (hl : st.length + (d' + 2) ≤ 64) (q : ByteArray) (y z u : Int) (t : Nat) (L : List (Nat × Nat)) (m : Nat) (hy : y = sideAt Y N (d' + 1)) (hwq : wellN q y z u = 0) (hLN : legalN q y = L) (hL : legalV q y z u = L) (hm : L.length = m) (hhas : Maps.has D (nodeL q (d - 1)) = false) (hq : q.size ≤ maxLen) (hdw : (Lit.int .i64 (d - 1)).wf = true)
    (hV : makeV now.s now.y now.z now.u a b = .tuple #[.agg #[.string q, .int .i64 y, .int .i64 z, .int .i64 u], .int .u8 t, .int .i64 0]) : Calls Tryz.prog 34 #[.agg #[.int .i64 a, .int .i64 b], .int .i64 d, .pointer (some ⟨H, 0, none⟩), .pointer (some ⟨H + 1 + 1, 0, none⟩), .pointer (some ⟨H + 1 + 1 + 1, 0, none⟩)] w (LinesG n₀ g H v st now Y N w (linesN (d' + 1) q y)) := by
  have hlen : m ≤ 8100 := by rw [← hm, ← hLN]; exact legalN_le q y
  obtain ⟨P, hP⟩ : ∃ P, L.map (fun m => linesN d' (behindS q m) (1 - y)) = P := ⟨_, rfl⟩
  have hPm : P.length = m := by rw [← hP, List.length_map, hm]
  have hall : linesN (d' + 1) q y = addL P := by
    show addL ((legalN q y).map fun m => linesN d' (behindS q m) (1 - y)) = _
    rw [hLN, hP]
  have hmost : addL P ≤ 4304672100000000 := by rw [← hall]; exact lines_most hd4 q y
  have HALL := Lib.hid hall
  have HPM := Lib.hid hPm
  have HMO := Lib.hid hmost
  have HLN := Lib.hid hLN
  have HPK : Hid (∀ k (hk : k < P.length) (hl : k < L.length), P[k] = linesN d' (behindS q L[k]) (1 - y)) := fun k hk hl => by
    subst hP
    exact List.getElem_map _
  have HIH := Lib.hid ih
  have hd : 2 ≤ d := by omega
  have hd2 : d ≤ 5 := by omega
  have HY := Lib.hid hy
  have HDD := Lib.hid hdd
  have HWQ := Lib.hid hwq
  have HMEM := Lib.hid hMem
  clear hall hPm hmost hLN hP ih hy hdd hwq hMem
  have d1 : (d == 1) = false := by rw [beq_eq_false_iff_ne]; omega
  have c0 : w.cell? ⟨H, 0, none⟩ = some (.pointer (some ⟨g, 0, none⟩)) := hC.game.cell 0
  have c2 : w.cell? ⟨H + 1 + 1, 0, none⟩ = some (.map (some (H + 1))) := hC.cell.cell 0
  have c3 : w.cell? ⟨H + 1 + 1 + 1, 0, none⟩ = some (closV H) := hC.self.cell 0
  obtain ⟨W0, hW0⟩ : ∃ W0, w.alloc (.cells #[.int .i64 a, .int .i64 b] 37) = W0 := ⟨_, rfl⟩
  have hB : Below w.heap.size w W0 := by rw [← hW0]; exact (by repeat (first | exact Below.refl _ _ | (refine Below.setCell ?_ (by first | omega | (simp; done) | (simp; omega) | (simp at *; omega)) _) | (refine Below.alloc ?_ (by first | omega | (simp; done) | (simp; omega) | (simp at *; omega)) _) | refine Below.drew ?_ | (refine below_drewN ?_ _) | (refine Below.trans ?_ (Below.mono (by assumption) (by first | omega | (simp; done) | (simp; omega) | (simp at *; omega))))))
  have hG0 := hG.next hB
  have HM := Lib.hid (gmake_any hG0 (hT.next hB) a b (by omega) q y z u 0 t true hV rfl)
  have k0 : W0.cell? ⟨H, 0, none⟩ = some (.pointer (some ⟨g, 0, none⟩)) := (hB.cell (p := ⟨H, 0, none⟩) (cell_lt c0)).trans c0
  rw [← hW0] at k0
  have HW := Lib.hid hW0
  have HL := Lib.hid hL
  have HMM := Lib.hid hm
  clear hW0 hV hL hm
  go_enter_defers Tryz.func34, Tryz.ntmps34
  go_wp2_with fail
  rw [HW.out]
  refine HM.out.mono ?_
  rintro e w1 hgo
  rw [if_pos trivial] at hgo
  obtain ⟨rfl, v1, hG1, ho1, hf1⟩ := hgo
  have hC1 := (hC.next hB).game_far hG0 hf1 hgH hHn
  have k1 : w1.cell? ⟨H, 0, none⟩ = some (.pointer (some ⟨g, 0, none⟩)) := hC1.game.cell 0
  clear k0 c0 c2 c3
  go_wp2_with fail
  refine (position_is hG1).mono ?_
  rintro e w2 ⟨rfl, hb2⟩
  have hC2 := hC1.next hb2
  have hG2 := hG1.next hb2
  have k2 : w2.cell? ⟨H + 1 + 1, 0, none⟩ = some (.map (some (H + 1))) := hC2.cell.cell 0
  have hf2 := pos_cells q y z u
  clear k1
  have bN : Blk (w2.alloc (.cells #[.string q, .int .i64 (d - 1)] 68)) w2.heap.size 68 #[.string q, .int .i64 (d - 1)] := Blk.new _ _ _ rfl
  have k3 : (w2.alloc (.cells #[.string q, .int .i64 (d - 1)] 68)).cell? ⟨H + 1 + 1, 0, none⟩ = some (.map (some (H + 1))) := (hC2.cell.alloc _).cell 0
  have k4 : (w2.alloc (.cells #[.string q, .int .i64 (d - 1)] 68)).cell? ⟨w2.heap.size, 0, none⟩ = some (.string q) := bN.cell 0
  have k5 : (w2.alloc (.cells #[.string q, .int .i64 (d - 1)] 68)).cell? ⟨w2.heap.size, 1, none⟩ = some (.int .i64 (d - 1)) := bN.cell 1
  have k6 : (w2.alloc (.cells #[.string q, .int .i64 (d - 1)] 68)).cell? ⟨H, 0, none⟩ = some (.pointer (some ⟨g, 0, none⟩)) := (hC2.game.alloc _).cell 0
  have hown := hC2.map.alloc (.cells #[.string q, .int .i64 (d - 1)] 68)
  have hkey := node_key (s := q) (d := d - 1) hq hdw
  clear k2
  go_wp2_with (first | (at_lookup; refine wpList_lookup_own_ok_int _ rfl _ _ 64 rfl 68 3 .i64 node_law known_under int_under (zero_int _) (H + 1) n D rfl hown _ _ rfl hkey ?_; intro c hat hwc; obtain rfl : c = 0 := (by have e := hat.symm.trans (atKey_none hC.map hhas _); simpa using e); rw [hhas]) | fail)
  have hb3 : Below w1.heap.size w1 (w2.alloc (.cells #[.string q, .int .i64 (d - 1)] 68)) := hb2.alloc hb2.size _
  have hG3 := hG1.next hb3
  have hC3 := hC1.next hb3
  refine (position_is hG3).mono ?_
  rintro e w4 ⟨rfl, hb4⟩
  have hG4 := hG3.next hb4
  have hC4 := hC3.next hb4
  have K4 : Keeps g H w v w4 v1 := (Keeps.below hB).trans ((Keeps.game hf1 ho1).trans (Keeps.below (hb3.trans (hb4.mono hb3.size))))
  have hT4 : Tab w4 := hT.below (keeps_low K4 hG hgH) htg
  go_wp2_with fail
  refine (lmoves_own q y z u L m _ hT4 HL.out HMM.out).mono ?_
  rintro e w5 ⟨mv, rfl, hmo, hb5⟩
  obtain ⟨A, cp, rfl⟩ := owns_slice hmo
  have hG5 := hG4.next hb5
  have hC5 := hC4.next hb5
  have hT5 := hT4.next hb5
  have K5 : Keeps g H w v w5 v1 := K4.trans (Keeps.below hb5)
  have hr := Rd.owns hmo
  go_wp2_with fail
  go_loopw [9, 38] (fun c i wr => ∃ (k x : Nat) (v6 : Value) (n6 : Nat) (D6 : DataW Unit), k ≤ m ∧ c = .int .i64 x ∧ i = .int .i64 k ∧ x = addL (P.take k) ∧ Keeps g H w5 v1 wr v6 ∧ GAt n₀ wr g v6 (st ++ [⟨a, b, now⟩]) ⟨q, y, z, u⟩ ∧ CntAt H g n6 D6 wr ∧ n6 ≤ 300000 ∧ MemoOk Y N D6) (fun _ i _ => m - (intOf i).toNat)
  case atStart => exact ⟨0, 0, v1, n, D, by omega, rfl, rfl, rfl, Keeps.below (Below.refl _ _), hG5, hC5, hn, HMEM.out⟩
  case round =>
    obtain ⟨k, x, v6, n6, D6, hk, rfl, rfl, hx, K6, hG6, hC6, hn6, hM6⟩ := hrel
    have HX := Lib.hid hx
    clear hx
    by_cases hlt : k < m
    · have hkl : k < L.length := by rw [HMM.out]; exact hlt
      have hkp : k < P.length := by rw [HPM.out]; exact hlt
      obtain ⟨g1, o1, rfl, e0, e1⟩ := hr.move hkl
      have hg1 : w4.heap.size ≤ g1 := by
        rcases hmo.2 with ⟨hv, _⟩ | ⟨g', cap, cur, hv, hg, _⟩
        · simp at hv
        · simp at hv
          omega
      have hfar : ¬ OfL g H v1 g1 := by
        have a1 := hG4.lt
        have a2 := hG4.le
        rintro (e | e | e)
        · omega
        · have := (hG4.own e).2
          omega
        · omega
      have hf5 : wr.heap[g1]? = w5.heap[g1]? := K6.far.block g1 (cell_lt e0) hfar
      have e0 := (cell_heap hf5 _).trans e0
      have e1 := (cell_heap hf5 _).trans e1
      have hy0 := HPK.out k hkp hkl
      have hst := addL_succ hkp
      have hmem : (L[k].1, L[k].2) ∈ legalN q y := by rw [HLN.out]; exact List.getElem_mem hkl
      obtain ⟨⟨i1, i2⟩, huv⟩ : ∃ x, L[k] = x := ⟨_, rfl⟩
      rw [huv] at e0 e1 hy0 hmem
      obtain ⟨r, hr0⟩ : ∃ r, P[k] = r := ⟨_, rfl⟩
      rw [hr0] at hst hy0
      have hsum : x + r ≤ 4304672100000000 := by
        rw [HX.out, ← hst]
        exact Nat.le_trans (addL_take P (k + 1)) HMO.out
      have HST := Lib.hid hst
      have hbA := below_one wr (.cells #[.int .i64 (i1 : Int), .int .i64 (i2 : Int)] 37)
      have hGA := hG6.next hbA
      have hCA := hC6.next hbA
      have hTA : Tab (wr.alloc (.cells #[.int .i64 (i1 : Int), .int .i64 (i2 : Int)] 37)) := (hT5.below (keeps_low K6 hG5 hgH) htg).next hbA
      have f3 : (wr.alloc (.cells #[.int .i64 (i1 : Int), .int .i64 (i2 : Int)] 37)).cell? ⟨H + 1 + 1 + 1, 0, none⟩ = some (closV H) := hCA.self.cell 0
      unfold closV at f3
      have bM : Blk (wr.alloc (.cells #[.int .i64 (i1 : Int), .int .i64 (i2 : Int)] 37)) wr.heap.size 37 #[.int .i64 (i1 : Int), .int .i64 (i2 : Int)] := Blk.new _ _ _ rfl
      have f4 : (wr.alloc (.cells #[.int .i64 (i1 : Int), .int .i64 (i2 : Int)] 37)).cell? ⟨wr.heap.size, 0, none⟩ = some (.int .i64 (i1 : Int)) := bM.cell 0
      have f5 : (wr.alloc (.cells #[.int .i64 (i1 : Int), .int .i64 (i2 : Int)] 37)).cell? ⟨wr.heap.size, 1, none⟩ = some (.int .i64 (i2 : Int)) := bM.cell 1
      have HC := Lib.hid (HIH.out n₀ g n6 H v6 (st ++ [⟨a, b, now⟩]) ⟨q, y, z, u⟩ D6 i1 i2 (d - 1) _ (by have := HDD.out; omega) htg hTA hGA hCA hn6 hM6 hgH hHn (by rw [List.length_append, List.length_singleton]; omega) HY.out HWQ.out hmem)
      clear hst hmem huv hr0 bM hTA
      have b1 : (k : Int) < (m : Int) := by omega
      go_wp2_with fail
      refine HC.out.mono ?_
      rintro e w7 ⟨he, v7, n7, D7, K7, hG7, hC7, hn7, hM7⟩
      obtain rfl : e = .returned (.int .i64 (r : Int)) := he.trans (by rw [hy0]; rfl)
      have K8 := K6.trans ((Keeps.below hbA).trans K7)
      clear he f3 f4 f5 HC K7 hGA hCA hbA e0 e1
      go_wp2_with fail
      go_roundw
      case rel => exact ⟨k + 1, x + r, v7, n7, D7, by omega, by go_num, by go_num, by rw [HST.out, HX.out], K8, hG7, hC7, hn7, hM7⟩
      case measure => simp [intOf]; omega
    · obtain rfl : k = m := by omega
      have hxe : x = addL P := by rw [HX.out, List.take_of_length_le (by rw [HPM.out]; omega)]
      have HXE := Lib.hid hxe
      have hx15 : x ≤ 4304672100000000 := by rw [hxe]; exact HMO.out
      clear hxe
      have bN5 := bN.next (hb4.trans (hb5.mono hb4.size))
      have hfN : ¬ OfL g H v1 w2.heap.size := by
        have a1 := hG2.lt
        have a2 := hG2.le
        rintro (e | e | e)
        · omega
        · have := (hG2.own e).2
          omega
        · omega
      have bNr := K6.far.blk bN5 hfN
      have k7 : wr.cell? ⟨H + 1 + 1, 0, none⟩ = some (.map (some (H + 1))) := hC6.cell.cell 0
      have k8 : wr.cell? ⟨w2.heap.size, 0, none⟩ = some (.string q) := bNr.cell 0
      have k9 : wr.cell? ⟨w2.heap.size, 1, none⟩ = some (.int .i64 (d - 1)) := bNr.cell 1
      have hsz := own_size hC6.map
      obtain ⟨sz, hse⟩ : ∃ sz, Maps.size D6 = sz := ⟨_, rfl⟩
      rw [hse] at hsz
      by_cases hlt2 : sz < 262144
      · have c3 : (sz : Int) < 262144 := by omega
        go_wp2_with (first | (at_len; refine wpList_len_own _ rfl _ 64 rfl 68 3 known_under _ (H + 1) n6 D6 rfl hC6.map ?_; rw [hse]) | (at_mapUpdate; refine wpList_mapUpdate_own _ rfl _ _ _ 64 rfl 68 3 node_law known_under _ (H + 1) sz D6 rfl hsz (by unfold maxLen; omega) _ _ _ rfl rfl hkey _ [] (plainElem_int int_under (WalkArith.wf_i64 (by omega))) ?_; intro w8 hown8 hg8) | fail)
        refine leaves_cons (f := 36) (args := #[.pointer (some ⟨g, 0, none⟩)]) (by simp) (by simp [go_sem]) ?_
        have K8 : Keeps g H wr v6 w8 v6 := Keeps.map hg8
        have hG8 : GAt n₀ w8 g v6 (st ++ [⟨a, b, now⟩]) ⟨q, y, z, u⟩ := hG6.far (X := fun k => k = H + 1) (Far.grown hg8 fun _ e => Option.some.inj e) (by omega) fun k e h => by
          have := (hG6.own e).1
          omega
        have hC8 : CntAt H g (sz + 1) (D6.put (nodeL q (d - 1)) (.lit (.int .i64 (x : Int)))) w8 :=
          ⟨(Far.grown (X := fun k => k = H + 1) hg8 fun _ e => Option.some.inj e).blk hC6.game (by omega), (Far.grown (X := fun k => k = H + 1) hg8 fun _ e => Option.some.inj e).blk hC6.cell (by omega), (Far.grown (X := fun k => k = H + 1) hg8 fun _ e => Option.some.inj e).blk hC6.self (by omega), hown8⟩
        have hM8 : MemoOk Y N (D6.put (nodeL q (d - 1)) (.lit (.int .i64 (x : Int)))) := by
          have e1 : d - 1 = ((d' + 1 : Nat) : Int) := by have := HDD.out; omega
          have e2 : x = linesN (d' + 1) q (sideAt Y N (d' + 1)) := by rw [HXE.out, ← HALL.out, ← HY.out]
          rw [e1, e2]
          exact memo_put hM6 (own_isMap hC6.map) hq (by omega)
        refine (unmake_d hG8 (by omega) _).mono ?_
        rintro e u' w9 ⟨rfl, rfl, v9, hG9, ho9, hf9⟩
        exact ⟨_, results_tmp rfl _ _ _, by rw [HALL.out, ← HXE.out]; rfl, v9, _, _, (K5.trans (K6.trans K8)).trans (Keeps.game hf9 ho9), hG9, hC8.game_far hG8 hf9 hgH hHn, by omega, hM8⟩
      · have c3 : ¬ (sz : Int) < 262144 := by omega
        go_wp2_with (first | (at_len; refine wpList_len_own _ rfl _ 64 rfl 68 3 known_under _ (H + 1) n6 D6 rfl hC6.map ?_; rw [hse]) | fail)
        refine leaves_cons (f := 36) (args := #[.pointer (some ⟨g, 0, none⟩)]) (by simp) (by simp [go_sem]) ?_
        refine (unmake_d hG6 (by omega) _).mono ?_
        rintro e u' w9 ⟨rfl, rfl, v9, hG9, ho9, hf9⟩
        exact ⟨_, results_tmp rfl _ _ _, by rw [HALL.out, ← HXE.out]; rfl, v9, _, _, (K5.trans K6).trans (Keeps.game hf9 ho9), hG9, hC6.game_far hG6 hf9 hgH hHn, hn6, hM6⟩
end Go.Proofs.YtelngcfpnbeakaaGreatDoor
