/- What the code tells of a position when all captures are done: settled, Window, Of. -/
import Derived.Test.YtbdgbihdhbjljaaGreatDoorQuietC
import Derived.Test.YtbdgbihdhbjljaaGreatDoorQuietF
import Derived.Test.YtbdgbihdhbjljaaGreatDoorQuietE
namespace Go.Proofs.YtbdgbihdhbjljaaGreatDoor
open Go.RowKit Go.Shelf
open M (S)
attribute [local go_sem] Oper.semAt_some

/-- The greatest one of the first ones of some captures. -/
def prefT (n : Nat) (s : ByteArray) (y : Int) (ps : List (Nat × Nat)) (k : Nat) : Int := maxL (ofV s y) ((ps.take k).map fun m => -(quietF n (behindS s m) (1 - y)))
theorem prefT_succ (n : Nat) (s : ByteArray) (y : Int) {ps : List (Nat × Nat)} {k : Nat} (h : k < ps.length) : prefT n s y ps (k + 1) = max (prefT n s y ps k) (-(quietF n (behindS s ps[k]) (1 - y))) := by
  unfold prefT
  rw [List.take_succ_eq_append_getElem h, List.map_append, ← maxL_snoc]
  rfl
theorem prefT_all (n : Nat) (s : ByteArray) (y : Int) {ps : List (Nat × Nat)} (hp : ps.Perm (capsN s y)) (he : (legalN s y).isEmpty = false) : prefT n s y ps ps.length = quietF (n + 1) s y := by
  unfold prefT
  rw [List.take_length, quiet_succ, he, if_neg (by simp)]
  exact maxL_perm (hp.map _) _
theorem prefT_le (n : Nat) (s : ByteArray) (y : Int) (ps : List (Nat × Nat)) (k : Nat) : prefT n s y ps k ≤ prefT n s y ps ps.length := by
  unfold prefT
  rw [List.take_length]
  conv => rhs; rw [← List.take_append_drop k ps, List.map_append, maxL_app]
  exact maxL_ge _ _
/-- The squares of an order of captures. -/
theorem perm_back : ∀ {zs : List (Int × Int)} {l : List (Nat × Nat)}, zs.Perm (l.map fun m => ((m.1 : Int), (m.2 : Int))) → ∃ ps : List (Nat × Nat), ps.Perm l ∧ zs = ps.map fun m => ((m.1 : Int), (m.2 : Int)) := by
  intro zs l h
  have hz : zs = (zs.map fun x => (x.1.toNat, x.2.toNat)).map fun m => ((m.1 : Int), (m.2 : Int)) := by
    rw [List.map_map]
    conv => lhs; rw [← List.map_id zs]
    refine List.map_congr_left fun x hx => ?_
    obtain ⟨m, _, rfl⟩ := List.mem_map.1 (h.mem_iff.1 hx)
    rfl
  refine ⟨zs.map fun x => (x.1.toNat, x.2.toNat), ?_, hz⟩
  have h2 := h.map fun x : Int × Int => (x.1.toNat, x.2.toNat)
  rw [List.map_map] at h2
  have e : ((fun x : Int × Int => (x.1.toNat, x.2.toNat)) ∘ fun m : Nat × Nat => ((m.1 : Int), (m.2 : Int))) = id := by
    funext m
    rfl
  rw [e, List.map_id] at h2
  exact h2
def i64lo : Int := -9223372036854775808
def i64hi : Int := 9223372036854775807
/-- What settled answers of a position, wherever it is asked. -/
def SettledAt (n : Nat) (s : ByteArray) (y : Int) (args : Array Value) (low high : Int) (w : World) : Prop := Calls Tryz.prog 65 args w fun e w' => ∃ r, e = .returned (.int .i64 r) ∧ Sound (quietF n s y) low high r ∧ -10000 ≤ r ∧ r ≤ 10000 ∧ Below w.heap.size w w'
set_option maxRecDepth 100000 in
set_option maxHeartbeats 8000000 in
/-- Nothing is taken: v is high, or there are no captures. -/
theorem settled_high (s : ByteArray) (y z u v low high : Int) (w : World) (hT : Tab w) (hhi : high ≤ v) (k : Int) (hk : endV s y z u = k) : Calls Tryz.prog 65 #[.agg #[.string s, .int .i64 y, .int .i64 z, .int .i64 u], .int .i64 v, .int .i64 low, .int .i64 high] w (Gives w (.int .i64 (if k = 0 then v else -10000))) := by
  unfold Gives
  obtain ⟨W0, hW0⟩ : ∃ W0, w.alloc (.cells #[.string s, .int .i64 y, .int .i64 z, .int .i64 u] 23) = W0 := ⟨_, rfl⟩
  have hB : Below w.heap.size w W0 := by rw [← hW0]; exact below_new _ _
  have bP : Blk W0 w.heap.size 23 #[.string s, .int .i64 y, .int .i64 z, .int .i64 u] := by rw [← hW0]; exact Blk.new _ _ _ rfl
  obtain ⟨p0, p1, p2, p3⟩ := vpos_cells bP
  have HT := Lib.hid (hT.next hB)
  have HK := Lib.hid hk
  have HW := Lib.hid hW0
  have HB := Lib.hid hB
  have hnl : ¬ v < high := by omega
  clear hW0 hB bP hT hk
  by_cases h0 : k = 0
  · subst h0
    rw [if_pos rfl]
    go_enter Tryz.func65, Tryz.ntmps65
    go_wp2_with fail
    (try rw [HW.out])
    refine (end_is s y z u 0 _ HT.out HK.out).mono ?_
    rintro e w1 ⟨rfl, hb1⟩
    have HB1 := Lib.hid (HB.out.trans (hb1.mono HB.out.size))
    clear hb1 p0 p1 p2 p3
    go_wp2_with fail
    go_loopw [10, 33] (fun b i wr => b = .int .i64 v ∧ i = .int .i64 0 ∧ wr = w1) (fun _ _ _ => 0)
    case atStart => exact ⟨rfl, rfl, rfl⟩
    case round =>
      obtain ⟨rfl, rfl, rfl⟩ := hrel
      go_wp2
      go_ret
      exact ⟨rfl, HB1.out⟩
  · rw [if_neg h0]
    have k0 : (k != 0) = true := by rw [bne_iff_ne]; exact h0
    clear h0
    go_enter Tryz.func65, Tryz.ntmps65
    go_wp2_with fail
    (try rw [HW.out])
    refine (end_is s y z u k _ HT.out HK.out).mono ?_
    rintro e w1 ⟨rfl, hb1⟩
    have hb := HB.out.trans (hb1.mono HB.out.size)
    clear hb1 p0 p1 p2 p3
    go_wp2_with fail
    go_ret
    exact ⟨rfl, hb⟩
set_option maxRecDepth 100000 in
set_option maxHeartbeats 8000000 in
theorem settled_none (s : ByteArray) (y z u v low high : Int) (w : World) (hT : Tab w) (hw : wellN s y z u = 0) (hlo : v < high) (hc : capsN s y = []) (k : Int) (hk : endV s y z u = k) : Calls Tryz.prog 65 #[.agg #[.string s, .int .i64 y, .int .i64 z, .int .i64 u], .int .i64 v, .int .i64 low, .int .i64 high] w (Gives w (.int .i64 (if k = 0 then v else -10000))) := by
  unfold Gives
  obtain ⟨W0, hW0⟩ : ∃ W0, w.alloc (.cells #[.string s, .int .i64 y, .int .i64 z, .int .i64 u] 23) = W0 := ⟨_, rfl⟩
  have hB : Below w.heap.size w W0 := by rw [← hW0]; exact below_new _ _
  have bP : Blk W0 w.heap.size 23 #[.string s, .int .i64 y, .int .i64 z, .int .i64 u] := by rw [← hW0]; exact Blk.new _ _ _ rfl
  have HO := Lib.hid (ordered_any s y z u 0 W0 (hT.next hB) hw (by rw [hc]; rfl) (by decide))
  obtain ⟨p0, p1, p2, p3⟩ := vpos_cells bP
  have HT := Lib.hid (hT.next hB)
  have HK := Lib.hid hk
  have HW := Lib.hid hW0
  have HB := Lib.hid hB
  have HP := Lib.hid bP
  clear hW0 hB bP hT hw hk hc
  by_cases h0 : k = 0
  · subst h0
    rw [if_pos rfl]
    go_enter Tryz.func65, Tryz.ntmps65
    go_wp2_with fail
    (try rw [HW.out])
    refine HO.out.mono ?_
    rintro e w1 ⟨A', c', zs, rfl, _, _, hb1⟩
    have HB1 := Lib.hid (HB.out.trans (hb1.mono HB.out.size))
    have HT1 := Lib.hid (HT.out.next hb1)
    have hp1 := HP.out.next hb1
    clear hb1 p0 p1 p2 p3
    obtain ⟨p0, p1, p2, p3⟩ := vpos_cells hp1
    go_wp2_with fail
    refine (end_is s y z u 0 _ HT1.out HK.out).mono ?_
    rintro e w2 ⟨rfl, hb2⟩
    have HB2 := Lib.hid (HB1.out.trans (hb2.mono HB1.out.size))
    clear hb2 p0 p1 p2 p3 hp1
    go_wp2_with fail
    go_loopw [10, 33] (fun b i wr => b = .int .i64 v ∧ i = .int .i64 0 ∧ wr = w2) (fun _ _ _ => 0)
    case atStart => exact ⟨rfl, rfl, rfl⟩
    case round =>
      obtain ⟨rfl, rfl, rfl⟩ := hrel
      go_wp2
      go_ret
      exact ⟨rfl, HB2.out⟩
  · rw [if_neg h0]
    have k0 : (k != 0) = true := by rw [bne_iff_ne]; exact h0
    clear h0
    go_enter Tryz.func65, Tryz.ntmps65
    go_wp2_with fail
    (try rw [HW.out])
    refine HO.out.mono ?_
    rintro e w1 ⟨A', c', zs, rfl, _, _, hb1⟩
    have HB1 := Lib.hid (HB.out.trans (hb1.mono HB.out.size))
    have HT1 := Lib.hid (HT.out.next hb1)
    have hp1 := HP.out.next hb1
    clear hb1 p0 p1 p2 p3
    obtain ⟨p0, p1, p2, p3⟩ := vpos_cells hp1
    go_wp2_with fail
    refine (end_is s y z u k _ HT1.out HK.out).mono ?_
    rintro e w2 ⟨rfl, hb2⟩
    have hb := HB1.out.trans (hb2.mono HB1.out.size)
    clear hb2 p0 p1 p2 p3 hp1
    go_wp2_with fail
    go_ret
    exact ⟨rfl, hb⟩
theorem duo_cells {W : World} {g : Nat} {t : TypeId} {a b : Value} (h : Blk W g t #[a, b]) : W.cell? ⟨g, 0, none⟩ = some a ∧ W.cell? ⟨g, 1, none⟩ = some b := ⟨h.cell 0, h.cell 1⟩
theorem make_cap {s : ByteArray} {y z u : Int} (hw : wellN s y z u = 0) {m : Nat × Nat} (hm : m ∈ legalN s y) : makeV s y z u (m.1 : Int) (m.2 : Int) = .tuple #[.agg #[.string (behindS s m), .int .i64 (1 - y), .int .i64 (clockA s z m.2), .int .i64 (fullA y u)], .int .u8 (takenN s m.2 : Nat), .int .i64 0] := by
  have hc := well_check hw
  have hB := (well_side hw).1
  obtain ⟨a, b⟩ := m
  obtain ⟨ha, hb, hsd, hcan, hk, hsafe⟩ := legal_mem.1 hm
  simp only at ha hb hsd hcan hk hsafe ⊢
  have his : isM s y (a : Int) (b : Int) = true ∧ kindN (bAt s (b : Int).toNat) ≠ 75 := by
    rw [isM_two hB ha hb, hcan, hsd, Int.toNat_natCast]
    exact ⟨by simp, hk⟩
  have hl : leavesI s y z u (a : Int) (b : Int) = true := by
    have h := leaves_legal (clock := z) (full := u) (by omega) (m := (a, b)) (moves_mem.2 ⟨ha, hb, hsd, hcan⟩)
    unfold leavesB at h
    rw [h]
    unfold legalB
    rw [hsafe, Bool.and_true, bne_iff_ne]
    exact hk
  unfold makeV
  rw [if_pos hw, hl, if_pos rfl, apply_good_value hc his]
  simp only [Int.toNat_natCast]
  rfl
theorem moved_cap {s : ByteArray} {y z u : Int} (hw : wellN s y z u = 0) {m : Nat × Nat} (hm : m ∈ legalN s y) : mvW (ofV s y) (pieceV (bAt s m.1) (m.1 : Int)) (pieceV (bAt s m.1) (m.2 : Int)) (pieceV (takenN s m.2) (m.2 : Int)) = ofV (behindS s m) (1 - y) := by
  obtain ⟨a, b⟩ := m
  obtain ⟨ha, hb, hne, h1, h2, _, _⟩ := cap_facts hw hm
  obtain ⟨hB, h01⟩ := well_side hw
  simp only at ha hb hne h1 h2 ⊢
  have hf := value_follows hB ha hb hne h01 h1 h2
  unfold movedV at hf
  have b0 := of_bd s y
  have b1 := piece_bd (bAt s a) (a : Int)
  have b2 := piece_bd (bAt s a) (b : Int)
  have b3 := piece_bd (takenN s b) (b : Int)
  rw [← hf]
  unfold mvW
  rw [IntWalk.i64_in (ofV s y - pieceV (bAt s a) ↑a) (by omega), IntWalk.i64_in (ofV s y - pieceV (bAt s a) ↑a + pieceV (bAt s a) ↑b) (by omega), IntWalk.i64_in (ofV s y - pieceV (bAt s a) ↑a + pieceV (bAt s a) ↑b + pieceV (takenN s b) ↑b) (by omega), IntWalk.i64_in _ (by omega)]
theorem q6_keep {g h gq B : Nat} {t : TypeId} {cs : Array Value} {v0 a b : Value} {w W W' : World} (H : W.cell? ⟨g, 0, none⟩ = some v0 ∧ W.cell? ⟨h, 0, none⟩ = some a ∧ W.cell? ⟨h, 1, none⟩ = some b ∧ Blk W gq t cs ∧ Below B w W) (hb : Below W.heap.size W W') (hB : B ≤ w.heap.size) : W'.cell? ⟨g, 0, none⟩ = some v0 ∧ W'.cell? ⟨h, 0, none⟩ = some a ∧ W'.cell? ⟨h, 1, none⟩ = some b ∧ Blk W' gq t cs ∧ Below B w W' :=
  ⟨(hb.cell (cell_lt H.1)).trans H.1, (hb.cell (cell_lt H.2.1)).trans H.2.1, (hb.cell (cell_lt H.2.2.1)).trans H.2.2.1, H.2.2.2.1.next hb, H.2.2.2.2.trans (hb.mono (Nat.le_trans hB H.2.2.2.2.size))⟩
set_option maxRecDepth 100000 in
set_option maxHeartbeats 16000000 in
theorem settled_some (n : Nat) (s : ByteArray) (y z u v low high : Int) (w : World) (hT : Tab w) (hw : wellN s y z u = 0) (h9 : cntP s ≤ 9) (hv : ofV s y = v) (hlo : i64lo ≤ low) (hhi : high ≤ i64hi) (hl : low < high) (hvh : v < high) (hne : capsN s y ≠ [])
    (ih : ∀ (m : Nat × Nat) (W : World) (v' lo hi : Int), m ∈ capsN s y → Tab W → lo < hi → i64lo ≤ lo → hi ≤ i64hi → ofV (behindS s m) (1 - y) = v' → SettledAt n (behindS s m) (1 - y) #[.agg #[.string (behindS s m), .int .i64 (1 - y), .int .i64 (clockA s z m.2), .int .i64 (fullA y u)], .int .i64 v', .int .i64 lo, .int .i64 hi] lo hi W) :
    SettledAt (n + 1) s y #[.agg #[.string s, .int .i64 y, .int .i64 z, .int .i64 u], .int .i64 v, .int .i64 low, .int .i64 high] low high w := by
  unfold SettledAt
  obtain ⟨m, hm⟩ : ∃ m, (capsN s y).length = m := ⟨_, rfl⟩
  have h20 : m ≤ 20 := by rw [← hm]; exact caps_few hw h9
  have hm0 : m ≠ 0 := fun e => hne (List.length_eq_zero_iff.1 (hm.trans e))
  have m0 : ((m : Int) == 0) = false := by rw [beq_eq_false_iff_ne]; omega
  have hle : (legalN s y).isEmpty = false := by
    cases hc : capsN s y with
    | nil => exact absurd hc hne
    | cons x l =>
      have hx : x ∈ legalN s y := (caps_mem.1 (by rw [hc]; exact List.mem_cons_self ..)).1
      cases hL : legalN s y with
      | nil => rw [hL] at hx; cases hx
      | cons _ _ => rfl
  have hz : s.size = 90 := isB_size (well_side hw).1
  have hvb := of_few y h9
  rw [hv] at hvb
  have HFA : Hid (∀ (x : Nat × Nat), x ∈ capsN s y → x.1 < 90 ∧ x.2 < 90 ∧ makeV s y z u (x.1 : Int) (x.2 : Int) = .tuple #[.agg #[.string (behindS s x), .int .i64 (1 - y), .int .i64 (clockA s z x.2), .int .i64 (fullA y u)], .int .u8 (takenN s x.2 : Nat), .int .i64 0] ∧ mvW v (pieceV (bAt s x.1) (x.1 : Int)) (pieceV (bAt s x.1) (x.2 : Int)) (pieceV (takenN s x.2) (x.2 : Int)) = ofV (behindS s x) (1 - y)) := fun x hx => by
    have hx1 := (caps_mem.1 hx).1
    have hf := cap_facts hw hx1
    exact ⟨hf.1, hf.2.1, make_cap hw hx1, by rw [← hv]; exact moved_cap hw hx1⟩
  obtain ⟨W0, hW0⟩ : ∃ W0, w.alloc (.cells #[.string s, .int .i64 y, .int .i64 z, .int .i64 u] 23) = W0 := ⟨_, rfl⟩
  have hB : Below w.heap.size w W0 := by rw [← hW0]; exact below_new _ _
  have bP : Blk W0 w.heap.size 23 #[.string s, .int .i64 y, .int .i64 z, .int .i64 u] := by rw [← hW0]; exact Blk.new _ _ _ rfl
  have HO := Lib.hid (ordered_any s y z u m W0 (hT.next hB) hw hm h20)
  obtain ⟨p0, p1, p2, p3⟩ := vpos_cells bP
  have HT := Lib.hid (hT.next hB)
  have HM := Lib.hid hm
  have HW := Lib.hid hW0
  have HB := Lib.hid hB
  have HP := Lib.hid bP
  have HZ := Lib.hid hz
  have HIH := Lib.hid ih
  have HLE := Lib.hid hle
  have HV := Lib.hid hv
  have HLO := Lib.hid hlo
  have HHI := Lib.hid hhi
  have HWL := Lib.hid hw
  obtain ⟨vb1, vb2⟩ := hvb
  clear hW0 hB bP hT hw hm hz ih hle hv hlo hhi h9 hne hm0
  go_enter Tryz.func65, Tryz.ntmps65
  go_wp2_with fail
  (try rw [HW.out])
  refine HO.out.mono ?_
  rintro e w1 ⟨A', c', zs, rfl, hperm, hown, hb1⟩
  obtain ⟨ps, hps, rfl⟩ := perm_back hperm
  have HPS := Lib.hid hps
  have HPL : Hid (ps.length = m) := by show _ = _; rw [hps.length_eq, HM.out]
  have HR1 := Lib.hid (Rd.owns hown)
  have HB1 := Lib.hid (HB.out.trans (hb1.mono HB.out.size))
  have HT1 := Lib.hid (HT.out.next hb1)
  have HP1 := Lib.hid (HP.out.next hb1)
  clear hb1 p0 p1 p2 p3 hown hperm hps
  go_wp2_with fail
  go_loopw [10, 33] (fun b i wr => ∃ (k : Nat) (best : Int), k ≤ m ∧ i = .int .i64 (k : Int) ∧ b = .int .i64 best ∧ Sound (prefT n s y ps k) low high best ∧ -10000 ≤ best ∧ best ≤ 10000 ∧ Below w1.heap.size w1 wr) (fun _ i _ => m - (intOf i).toNat)
  case atStart => exact ⟨0, v, Nat.zero_le _, rfl, rfl, by unfold prefT; rw [List.take_zero, List.map_nil, maxL_nil, HV.out]; exact sound_self _ _ _, by omega, by omega, Below.refl _ _⟩
  case round =>
    obtain ⟨k, best, hk, rfl, rfl, hsnd, hb1, hb2, hB⟩ := hrel
    have HSND := Lib.hid hsnd
    clear hsnd
    by_cases hlt : k < m
    · have hkl : k < ps.length := by rw [HPL.out]; exact hlt
      have bk : (k : Int) < (m : Int) := by omega
      have hkz : k < (ps.map fun x : Nat × Nat => ((x.1 : Int), (x.2 : Int))).length := by rw [List.length_map]; exact hkl
      obtain ⟨gC, bC, rfl, m0', m1'⟩ := HR1.out.mz hkz
      rw [List.getElem_map] at m0' m1'
      have hmem : ps[k] ∈ capsN s y := HPS.out.mem_iff.1 (List.getElem_mem hkl)
      have hst := prefT_succ n s y hkl
      obtain ⟨ha, hb, hmk, hmv⟩ := HFA.out _ hmem
      have HREC := Lib.hid (fun W lo hi hTW h1 h2 h3 => HIH.out ps[k] W _ lo hi hmem hTW h1 h2 h3 rfl)
      obtain ⟨⟨a, b⟩, hab⟩ : ∃ x, ps[k] = x := ⟨_, rfl⟩
      rw [hab] at m0' m1' hst ha hb hmk hmv HREC
      simp only at m0' m1' hst ha hb hmk hmv HREC
      have c0 := (hB.cell (p := ⟨gC, bC + k * 2, none⟩) (cell_lt m0')).trans m0'
      have c1 := (hB.cell (p := ⟨gC, bC + k * 2 + 1, none⟩) (cell_lt m1')).trans m1'
      obtain ⟨q, hq⟩ : ∃ q, behindS s (a, b) = q := ⟨_, rfl⟩
      obtain ⟨o, ho⟩ : ∃ o, 1 - y = o := ⟨_, rfl⟩
      obtain ⟨cl, hcl⟩ : ∃ o, clockA s z b = o := ⟨_, rfl⟩
      obtain ⟨fu, hfu⟩ : ∃ o, fullA y u = o := ⟨_, rfl⟩
      obtain ⟨tk, htk⟩ : ∃ o, takenN s b = o := ⟨_, rfl⟩
      rw [hq, ho, hcl, hfu, htk] at hmk
      rw [hq, ho] at hst
      rw [htk, hq, ho] at hmv
      simp only [hq, ho, hcl, hfu] at HREC
      obtain ⟨v', hv'⟩ : ∃ v', ofV q o = v' := ⟨_, rfl⟩
      rw [hv'] at hmv
      simp only [hv'] at HREC
      obtain ⟨t, ht⟩ : ∃ t, quietF n q o = t := ⟨_, rfl⟩
      rw [ht] at hst
      obtain ⟨x, hx⟩ : ∃ x, bAt s a = x := ⟨_, rfl⟩
      rw [hx] at hmv
      have has : a < s.size := by have := HZ.out; omega
      have hax : s[a].toNat = x := (bAt_eq s a has).trans hx
      have a0 : (0 : Int) ≤ (a : Int) := by omega
      have a1 : (a : Int) < (s.size : Int) := by omega
      have HMK := Lib.hid (fun W hTW => make_is s y z u (a : Int) (b : Int) _ W hTW hmk)
      have HMV := Lib.hid hmv
      have HST := Lib.hid hst
      have HTT := Lib.hid ht
      have hm5 : Below wr.heap.size wr (wr.alloc (.cells #[.int .i64 (a : Int), .int .i64 (b : Int)] 48)) := below_new _ _
      have bM : Blk (wr.alloc (.cells #[.int .i64 (a : Int), .int .i64 (b : Int)] 48)) wr.heap.size 48 #[.int .i64 (a : Int), .int .i64 (b : Int)] := Blk.new _ _ _ rfl
      have hB5 := hB.trans (hm5.mono hB.size)
      have HB5 := Lib.hid hB5
      have HM5 := Lib.hid bM
      have HT5 := Lib.hid (HT1.out.next hB5)
      have HP5 := Lib.hid (HP1.out.next hB5)
      clear m0' m1' hmem hst hmk hmv hab hq ho hcl hfu htk hv' ht hx hm5 hB5 bM hkz hB ha hb
      by_cases hbr : high ≤ best
      · go_wp2_with fail
        go_ret
        have hfin : Sound (quietF (n + 1) s y) low high best := by
          rw [← prefT_all n s y HPS.out HLE.out]
          exact sound_more HSND.out hbr hl (prefT_le n s y ps k)
        exact ⟨best, rfl, hfin, hb1, hb2, HB1.out.trans (HB5.out.mono HB1.out.size)⟩
      · have hbr2 : best < high := by omega
        obtain ⟨x0, x1⟩ := duo_cells HM5.out
        obtain ⟨p0, p1, p2, p3⟩ := vpos_cells HP5.out
        go_wp2_with fail
        refine (HMK.out _ HT5.out).mono ?_
        rintro e w2 ⟨rfl, hb2'⟩
        have hq : Blk (w2.alloc (.cells #[.string q, .int .i64 o, .int .i64 cl, .int .i64 fu] 23)) w2.heap.size 23 #[.string q, .int .i64 o, .int .i64 cl, .int .i64 fu] := Blk.new _ _ _ rfl
        have hb3 := hb2'.trans ((below_new w2 (.cells #[.string q, .int .i64 o, .int .i64 cl, .int .i64 fu] 23)).mono hb2'.size)
        obtain ⟨W3, hW3⟩ : ∃ W3, w2.alloc (.cells #[.string q, .int .i64 o, .int .i64 cl, .int .i64 fu] 23) = W3 := ⟨_, rfl⟩
        rw [hW3] at hq hb3
        have hS : W3.drew.cell? ⟨w.heap.size, 0, none⟩ = some (.string s) ∧ W3.drew.cell? ⟨wr.heap.size, 0, none⟩ = some (.int .i64 (a : Int)) ∧ W3.drew.cell? ⟨wr.heap.size, 1, none⟩ = some (.int .i64 (b : Int)) ∧ Blk W3.drew w2.heap.size 23 #[.string q, .int .i64 o, .int .i64 cl, .int .i64 fu] ∧ Below w1.heap.size w1 W3.drew := ⟨(HP5.out.next hb3).cell 0, (HM5.out.next hb3).cell 0, (HM5.out.next hb3).cell 1, hq.next (Below.refl _ _).drew, (HB5.out.trans (hb3.mono HB5.out.size)).drew⟩
        have HW3 := Lib.hid hW3
        clear hb2' hq hb3 hW3 p0 p1 p2 p3 x0 x1 c0 c1
        go_wp2_with fail
        (try rw [HW3.out])
        go_region_held3 (fun W => W.cell? ⟨w.heap.size, 0, none⟩ = some (.string s) ∧ W.cell? ⟨wr.heap.size, 0, none⟩ = some (.int .i64 (a : Int)) ∧ W.cell? ⟨wr.heap.size, 1, none⟩ = some (.int .i64 (b : Int)) ∧ Blk W w2.heap.size 23 #[.string q, .int .i64 o, .int .i64 cl, .int .i64 fu] ∧ Below w1.heap.size w1 W)
          (first | exact hS | with_reducible assumption | exact q6_keep (by assumption) hb (Nat.le_refl _))
          (first | (go_at_call 106; refine (vmoved_is v x (a : Int) (b : Int) tk v' _ HMV.out).mono ?_; rintro e w4 ⟨rfl, hb⟩))
        rename_i hh
        obtain ⟨_, _, _, hq4, hB4⟩ := hh
        obtain ⟨p0, p1, p2, p3⟩ := vpos_cells hq4
        have HT4 := Lib.hid (HT1.out.next hB4)
        have HB4 := Lib.hid hB4
        have hlo := HLO.out
        have hhi := HHI.out
        unfold i64lo at hlo
        unfold i64hi at hhi
        obtain ⟨nh, hnh⟩ : ∃ nh, -high = nh := ⟨_, rfl⟩
        obtain ⟨nm, hnm⟩ : ∃ nm, -(max low best) = nm := ⟨_, rfl⟩
        have wn1 : IntKind.i64.wrap (-high) = nh := by rw [IntWalk.i64_in _ (by omega)]; exact hnh
        have wn2 : IntKind.i64.wrap (-(max low best)) = nm := by rw [IntWalk.i64_in _ (by omega)]; exact hnm
        have HR := Lib.hid (HREC.out w4 nh nm HT4.out (by omega) (by unfold i64lo; omega) (by unfold i64hi; omega))
        have HNH := Lib.hid hnh
        have HNM := Lib.hid hnm
        clear hS hq4 hB4 hlo hhi hnh hnm
        go_wp2_with fail
        unfold SettledAt at HR
        refine HR.out.mono ?_
        rintro e w5 ⟨r, rfl, hs5, r1, r2, hb5⟩
        rw [HTT.out] at hs5
        have HS5 := Lib.hid hs5
        have HB6 := Lib.hid (HB4.out.trans (hb5.mono HB4.out.size))
        clear hs5 hb5 p0 p1 p2 p3 wn1 wn2
        go_wp2_with fail
        go_roundw
        case rel =>
          refine ⟨k + 1, max best (-r), by omega, by go_num, by first | done | rfl, ?_, by omega, by omega, HB6.out⟩
          rw [HST.out]
          have h := HS5.out
          rw [← HNH.out, ← HNM.out] at h
          exact sound_step HSND.out hbr2 hl h
        case measure => simp [intOf]; omega
    · obtain rfl : k = m := by omega
      have bk : ¬ (k : Int) < (k : Int) := by omega
      go_wp2_with fail
      go_ret
      have hfin : Sound (quietF (n + 1) s y) low high best := by
        have h := HSND.out
        rw [show k = ps.length from HPL.out.symm, prefT_all n s y HPS.out HLE.out] at h
        exact h
      exact ⟨best, rfl, hfin, hb1, hb2, HB1.out.trans (hB.mono HB1.out.size)⟩
theorem end_legal {s : ByteArray} {y z u : Int} (hw : wellN s y z u = 0) : (endV s y z u = 0 ∧ (legalN s y).isEmpty = false) ∨ (endV s y z u ≠ 0 ∧ (legalN s y).isEmpty = true) := by
  have h1 := has_legal s y z u hw
  have h2 := legal_same s y z u
  rw [if_pos hw] at h2
  rw [h2] at h1
  unfold endV
  rw [if_pos hw, h1]
  cases legalN s y with
  | nil =>
    refine .inr ⟨?_, rfl⟩
    simp only [List.length_nil, bne_self_eq_false, Bool.false_eq_true, if_false]
    split <;> decide
  | cons x l => exact .inl ⟨rfl, rfl⟩
theorem settled_any (n : Nat) : ∀ (s : ByteArray) (y z u v low high : Int) (w : World), Tab w → wellN s y z u = 0 → cntP s ≤ n → cntP s ≤ 9 → ofV s y = v → i64lo ≤ low → high ≤ i64hi → low < high → SettledAt n s y #[.agg #[.string s, .int .i64 y, .int .i64 z, .int .i64 u], .int .i64 v, .int .i64 low, .int .i64 high] low high w := by
  induction n with
  | zero =>
    intro s y z u v low high w hT hw h0 h9 hv hlo hhi hl
    have hb := of_few y h9
    have hcn := caps_none hw h0
    unfold SettledAt
    by_cases hvh : high ≤ v
    · refine (settled_high s y z u v low high w hT hvh _ rfl).mono ?_
      rintro e w' ⟨rfl, hbb⟩
      rcases end_legal hw with ⟨h1, h2⟩ | ⟨h1, h2⟩
      · rw [if_pos h1]
        exact ⟨v, rfl, sound_more (sound_self v low high) hvh hl (by rw [← hv]; exact quiet_ge 0 h2), by omega, by omega, hbb⟩
      · rw [if_neg h1, quiet_low 0 h2]
        exact ⟨_, rfl, sound_self _ _ _, by omega, by omega, hbb⟩
    · refine (settled_none s y z u v low high w hT hw (by omega) hcn _ rfl).mono ?_
      rintro e w' ⟨rfl, hbb⟩
      rcases end_legal hw with ⟨h1, h2⟩ | ⟨h1, h2⟩
      · rw [if_pos h1, quiet_still 0 h2 hcn, hv]
        exact ⟨v, rfl, sound_self _ _ _, by omega, by omega, hbb⟩
      · rw [if_neg h1, quiet_low 0 h2]
        exact ⟨_, rfl, sound_self _ _ _, by omega, by omega, hbb⟩
  | succ n ih =>
    intro s y z u v low high w hT hw hn h9 hv hlo hhi hl
    have hb := of_few y h9
    by_cases hvh : high ≤ v
    · unfold SettledAt
      refine (settled_high s y z u v low high w hT hvh _ rfl).mono ?_
      rintro e w' ⟨rfl, hbb⟩
      rcases end_legal hw with ⟨h1, h2⟩ | ⟨h1, h2⟩
      · rw [if_pos h1]
        exact ⟨v, rfl, sound_more (sound_self v low high) hvh hl (by rw [← hv]; exact quiet_ge _ h2), by omega, by omega, hbb⟩
      · rw [if_neg h1, quiet_low _ h2]
        exact ⟨_, rfl, sound_self _ _ _, by omega, by omega, hbb⟩
    · by_cases hcn : capsN s y = []
      · unfold SettledAt
        refine (settled_none s y z u v low high w hT hw (by omega) hcn _ rfl).mono ?_
        rintro e w' ⟨rfl, hbb⟩
        rcases end_legal hw with ⟨h1, h2⟩ | ⟨h1, h2⟩
        · rw [if_pos h1, quiet_still _ h2 hcn, hv]
          exact ⟨v, rfl, sound_self _ _ _, by omega, by omega, hbb⟩
        · rw [if_neg h1, quiet_low _ h2]
          exact ⟨_, rfl, sound_self _ _ _, by omega, by omega, hbb⟩
      · refine settled_some n s y z u v low high w hT hw h9 hv hlo hhi hl (by omega) hcn fun m W v' lo hi hm hTW h1 h2 h3 h4 => ?_
        have hf := cap_facts hw (caps_mem.1 hm).1
        have hc := cap_count hw hm
        exact ih _ _ _ _ _ _ _ W hTW hf.2.2.2.2.2.2 (by omega) (by omega) h4 h2 h3 h1
theorem between_is (n lo hi v : Int) (w : World) (h : min (max n lo) hi = v) : Calls Tryz.prog 64 #[.int .i64 n, .int .i64 lo, .int .i64 hi] w (Gives w (.int .i64 v)) := by
  subst h
  unfold Gives
  go_enter Tryz.func64, Tryz.ntmps64
  go_wp2
  go_ret
  exact ⟨rfl, Below.refl _ _⟩
set_option maxRecDepth 100000 in
set_option maxHeartbeats 4000000 in
theorem qwindow_is (s : ByteArray) (y z u low high v : Int) (w : World) (hT : Tab w) (h9 : wellN s y z u = 0 → cntP s ≤ 9) (hlo : i64lo ≤ low) (hhi : high ≤ i64hi) (hv : windowV s y z u low high = v) : Calls Tryz.prog 36 #[.agg #[.string s, .int .i64 y, .int .i64 z, .int .i64 u], .int .i64 low, .int .i64 high] w (Gives w (.int .i64 v)) := by
  unfold Gives
  obtain ⟨W0, hW0⟩ : ∃ W0, w.alloc (.cells #[.string s, .int .i64 y, .int .i64 z, .int .i64 u] 23) = W0 := ⟨_, rfl⟩
  have hB : Below w.heap.size w W0 := by rw [← hW0]; exact below_new _ _
  have bP : Blk W0 w.heap.size 23 #[.string s, .int .i64 y, .int .i64 z, .int .i64 u] := by rw [← hW0]; exact Blk.new _ _ _ rfl
  obtain ⟨p0, p1, p2, p3⟩ := vpos_cells bP
  have HT := Lib.hid (hT.next hB)
  have HW := Lib.hid hW0
  have HB := Lib.hid hB
  have HP := Lib.hid bP
  by_cases hl : high ≤ low
  · have hv0 : v = low := by rw [← hv]; unfold windowV; rw [if_pos hl]
    subst hv0
    clear hv h9 bP hW0 hlo hhi hT
    go_enter Tryz.func36, Tryz.ntmps36
    go_wp2_with fail
    go_ret
    (try rw [HW.out])
    exact ⟨rfl, HB.out⟩
  · have hv0 : v = min (max (quietV s y z u) low) high := by rw [← hv]; unfold windowV; rw [if_neg hl]
    obtain ⟨k, hk⟩ : ∃ k, wellN s y z u = k := ⟨_, rfl⟩
    have HK := Lib.hid hk
    by_cases h0 : k = 0
    · subst h0
      obtain ⟨x, hx⟩ : ∃ x, ofV s y = x := ⟨_, rfl⟩
      have HX := Lib.hid hx
      have HS := Lib.hid (fun W hTW => settled_any 9 s y z u x low high W hTW hk (h9 hk) (h9 hk) hx hlo hhi (by omega))
      have HV : Hid (v = min (max (quietF 9 s y) low) high) := by
        show _ = _
        rw [hv0]
        unfold quietV
        rw [if_pos hk]
      clear hv hv0 h9 bP hW0 hlo hhi hT hk hx hB
      go_enter Tryz.func36, Tryz.ntmps36
      go_wp2_with fail
      (try rw [HW.out])
      refine (well_is s y z u 0 _ HT.out HK.out).mono ?_
      rintro e w1 ⟨rfl, hb1⟩
      have HB1 := Lib.hid (HB.out.trans (hb1.mono HB.out.size))
      have HT1 := Lib.hid (HT.out.next hb1)
      have hp1 := HP.out.next hb1
      clear hb1 p0 p1 p2 p3
      obtain ⟨p0, p1, p2, p3⟩ := vpos_cells hp1
      have hS : w1.drew.cell? ⟨w.heap.size, 0, none⟩ = some (.string s) ∧ w1.drew.cell? ⟨w.heap.size, 1, none⟩ = some (.int .i64 y) ∧ w1.drew.cell? ⟨w.heap.size, 2, none⟩ = some (.int .i64 z) ∧ w1.drew.cell? ⟨w.heap.size, 3, none⟩ = some (.int .i64 u) ∧ Tab w1.drew ∧ Below w.heap.size w w1.drew := ⟨p0, p1, p2, p3, HT1.out.next (Below.refl _ _).drew, HB1.out.drew⟩
      have HL : Hid (low < high) := by show _ < _; omega
      clear hp1
      go_wp2_with fail
      go_region_held3 (fun W => W.cell? ⟨w.heap.size, 0, none⟩ = some (.string s) ∧ W.cell? ⟨w.heap.size, 1, none⟩ = some (.int .i64 y) ∧ W.cell? ⟨w.heap.size, 2, none⟩ = some (.int .i64 z) ∧ W.cell? ⟨w.heap.size, 3, none⟩ = some (.int .i64 u) ∧ Tab W ∧ Below w.heap.size w W)
        (first | exact hS | exact posT_keep (by assumption) hb)
        (first
          | (go_at_call 64; refine (between_is _ low high v _ (by assumption)).mono ?_; rintro e w4 ⟨rfl, hb⟩)
          | (go_at_call 65; refine (HS.out _ ?_).mono ?_; (exact posT_tab (by assumption)); rintro e w3 ⟨r, rfl, hs, _, _, hb⟩; have hbt : min (max r low) high = v := (sound_between hs HL.out).trans HV.out.symm)
          | (go_at_call 66; refine (vof_is s y z u x _ ?_ HX.out).mono ?_; (exact posT_tab (by assumption)); rintro e w2 ⟨rfl, hb⟩))
      rename_i hh
      have hB := posT_below hh
      clear hh
      go_wp2
      go_ret
      exact ⟨rfl, hB⟩
    · have k0 : (k != 0) = true := by rw [bne_iff_ne]; exact h0
      have HV : Hid (min (max 0 low) high = v) := by
        show _ = _
        rw [hv0]
        unfold quietV
        rw [hk, if_neg h0]
      clear hv hv0 h9 bP hW0 hlo hhi hT hk hB h0
      go_enter Tryz.func36, Tryz.ntmps36
      go_wp2_with fail
      (try rw [HW.out])
      refine (well_is s y z u k _ HT.out HK.out).mono ?_
      rintro e w1 ⟨rfl, hb1⟩
      have HB1 := Lib.hid (HB.out.trans (hb1.mono HB.out.size))
      clear hb1 p0 p1 p2 p3
      go_wp2_with fail
      refine (between_is 0 low high v _ HV.out).mono ?_
      rintro e w2 ⟨rfl, hb2⟩
      have hb := HB1.out.trans (hb2.mono HB1.out.size)
      go_wp2_with fail
      go_ret
      exact ⟨rfl, hb⟩
set_option maxHeartbeats 2000000 in
theorem qof_is (s : ByteArray) (y z u v : Int) (w : World) (hT : Tab w) (h9 : wellN s y z u = 0 → cntP s ≤ 9) (hv : quietV s y z u = v) : Calls Tryz.prog 34 #[.agg #[.string s, .int .i64 y, .int .i64 z, .int .i64 u]] w (Gives w (.int .i64 v)) := by
  unfold Gives
  obtain ⟨W0, hW0⟩ : ∃ W0, w.alloc (.cells #[.string s, .int .i64 y, .int .i64 z, .int .i64 u] 23) = W0 := ⟨_, rfl⟩
  have hB : Below w.heap.size w W0 := by rw [← hW0]; exact below_new _ _
  have bP : Blk W0 w.heap.size 23 #[.string s, .int .i64 y, .int .i64 z, .int .i64 u] := by rw [← hW0]; exact Blk.new _ _ _ rfl
  obtain ⟨p0, p1, p2, p3⟩ := vpos_cells bP
  have hb := quietV_bd h9
  have hw : windowV s y z u (-10000) 10000 = v := by
    unfold windowV
    rw [if_neg (by decide)]
    omega
  have HC := Lib.hid (qwindow_is s y z u (-10000) 10000 v W0 (hT.next hB) h9 (by decide) (by decide) hw)
  have HW := Lib.hid hW0
  have HB := Lib.hid hB
  clear hW0 hB bP hT hb hw hv h9
  go_enter Tryz.func34, Tryz.ntmps34
  go_wp2_with fail
  (try rw [HW.out])
  refine HC.out.mono ?_
  rintro e w1 ⟨rfl, hb1⟩
  have hb := HB.out.trans (hb1.mono HB.out.size)
  go_wp2_with fail
  go_ret
  exact ⟨rfl, hb⟩
end Go.Proofs.YtbdgbihdhbjljaaGreatDoor
