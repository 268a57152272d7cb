/- Captures, what promises most first: the same captures. -/
import Derived.Test.YtbdgbihdhbjljaaGreatDoorQuietB
import Derived.Test.YtbdgbihdhbjljaaGreatDoorQuietA
namespace Go.Proofs.YtbdgbihdhbjljaaGreatDoor
open Go.RowKit Go.Shelf
open M (S)

/-- The captures, as the program has them. -/
def capsI (s : ByteArray) (y : Int) : List (Int × Int) := (capsN s y).map fun m => ((m.1 : Int), (m.2 : Int))
theorem capsI_mem {s : ByteArray} {y : Int} {x : Int × Int} (h : x ∈ capsI s y) : ∃ m : Nat × Nat, m ∈ capsN s y ∧ x = ((m.1 : Int), (m.2 : Int)) := by
  obtain ⟨m, hm, rfl⟩ := List.mem_map.1 h
  exact ⟨m, hm, rfl⟩
theorem q3_keep {g h : Nat} {v0 a b : Value} {w W W' : World} (H : W.cell? ⟨g, 0, none⟩ = some v0 ∧ W.cell? ⟨h, 0, none⟩ = some a ∧ W.cell? ⟨h, 1, none⟩ = some b ∧ Below w.heap.size w W) (hb : Below W.heap.size W W') : W'.cell? ⟨g, 0, none⟩ = some v0 ∧ W'.cell? ⟨h, 0, none⟩ = some a ∧ W'.cell? ⟨h, 1, none⟩ = some b ∧ Below w.heap.size w W' :=
  ⟨(hb.cell (cell_lt H.1)).trans H.1, (hb.cell (cell_lt H.2.1)).trans H.2.1, (hb.cell (cell_lt H.2.2.1)).trans H.2.2.1, H.2.2.2.trans (hb.mono H.2.2.2.size)⟩
theorem q3_below {g h : Nat} {v0 a b : Value} {w W : World} (H : W.cell? ⟨g, 0, none⟩ = some v0 ∧ W.cell? ⟨h, 0, none⟩ = some a ∧ W.cell? ⟨h, 1, none⟩ = some b ∧ Below w.heap.size w W) : Below w.heap.size w W := H.2.2.2
theorem isnan_any (x : Int) (w : World) : Calls Tryz.prog 190 #[.int .i64 x] w (Says w (.bool false)) := by
  unfold Says
  have h : (x != x) = false := by simp
  go_enter Tryz.func190, Tryz.ntmps190
  go_wp2
  go_ret
  exact ⟨rfl, rfl⟩
set_option maxRecDepth 100000 in
theorem compare_any (x y : Int) (w : World) : Calls Tryz.prog 148 #[.int .i64 x, .int .i64 y] w fun e w' => ∃ k, e = .returned (.int .i64 k) ∧ Below w.heap.size w w' := by
  have h0 := isnan_any x w
  have h1 := isnan_any y w
  unfold Says at h0 h1
  rcases Int.lt_trichotomy x y with h | h | h
  · go_enter Tryz.func148, Tryz.ntmps148
    go_wp2_with (first | (go_at_call 190; refine h0.mono ?_; rintro e w1 ⟨rfl, rfl⟩) | (go_at_call 190; refine h1.mono ?_; rintro e w1 ⟨rfl, rfl⟩))
    go_ret
    exact ⟨_, rfl, Below.refl _ _⟩
  · subst h
    have h : ¬ x < x := by omega
    go_enter Tryz.func148, Tryz.ntmps148
    go_wp2_with (first | (go_at_call 190; refine h0.mono ?_; rintro e w1 ⟨rfl, rfl⟩))
    go_ret
    exact ⟨_, rfl, Below.refl _ _⟩
  · have h' : ¬ x < y := by omega
    go_enter Tryz.func148, Tryz.ntmps148
    go_wp2_with (first | (go_at_call 190; refine h0.mono ?_; rintro e w1 ⟨rfl, rfl⟩) | (go_at_call 190; refine h1.mono ?_; rintro e w1 ⟨rfl, rfl⟩))
    go_ret
    exact ⟨_, rfl, Below.refl _ _⟩
set_option maxRecDepth 100000 in
set_option maxHeartbeats 4000000 in
theorem promise_any (s : ByteArray) (y z u : Int) (g a b : Nat) (w : World) (bP : Blk w g 23 #[.string s, .int .i64 y, .int .i64 z, .int .i64 u]) (hz : s.size = 90) (ha : a < 90) (hb : b < 90) : Calls Tryz.prog 143 #[.agg #[.int .i64 (a : Int), .int .i64 (b : Int)], .pointer (some ⟨g, 0, none⟩)] w fun e w' => ∃ k, e = .returned (.int .i64 k) ∧ Below w.heap.size w w' := by
  obtain ⟨W0, hW0⟩ : ∃ W0, w.alloc (.cells #[.int .i64 (a : Int), .int .i64 (b : Int)] 48) = W0 := ⟨_, rfl⟩
  have hB : Below w.heap.size w W0 := by rw [← hW0]; exact below_new _ _
  have bM : Blk W0 w.heap.size 48 #[.int .i64 (a : Int), .int .i64 (b : Int)] := by rw [← hW0]; exact Blk.new _ _ _ rfl
  have hS : W0.drew.cell? ⟨g, 0, none⟩ = some (.string s) ∧ W0.drew.cell? ⟨w.heap.size, 0, none⟩ = some (.int .i64 (a : Int)) ∧ W0.drew.cell? ⟨w.heap.size, 1, none⟩ = some (.int .i64 (b : Int)) ∧ Below w.heap.size w W0.drew := ⟨(bP.next hB).cell 0, bM.cell 0, bM.cell 1, hB.drew⟩
  have a1 : (0 : Int) ≤ (a : Int) := by omega
  have a2 : (a : Int) < (s.size : Int) := by omega
  have b1 : (0 : Int) ≤ (b : Int) := by omega
  have b2 : (b : Int) < (s.size : Int) := by omega
  have HW := Lib.hid hW0
  clear hB bM hW0 hz bP ha hb
  go_enter Tryz.func143, Tryz.ntmps143
  go_wp2_with fail
  rw [HW.out]
  go_region_held3 (fun W => W.cell? ⟨g, 0, none⟩ = some (.string s) ∧ W.cell? ⟨w.heap.size, 0, none⟩ = some (.int .i64 (a : Int)) ∧ W.cell? ⟨w.heap.size, 1, none⟩ = some (.int .i64 (b : Int)) ∧ Below w.heap.size w W)
    (first | exact hS | with_reducible assumption | exact q3_keep (by assumption) hb)
    (first | (go_at_call 144; refine (vpiece_any _ _ _).mono ?_; rintro e w1 ⟨rfl, hb⟩))
  all_goals go_wp2
  all_goals (go_ret; exact ⟨_, rfl, q3_below (by assumption)⟩)
theorem enters_promise : ∀ args w, (callFunc 143 args).run Tryz.prog w = .ok (.enter 143 args) w := enters_of Tryz.func143 (by kernel_rfl) rfl
theorem enters_order : ∀ args w, (callFunc 147 args).run Tryz.prog w = .ok (.enter 147 args) w := enters_of Tryz.func147 (by kernel_rfl) rfl
theorem o2_keep {g h : Nat} {t : TypeId} {cs : Array Value} {f a1 b1 a2 b2 : Value} {w W W' : World} (H : W.cell? ⟨h, 0, none⟩ = some f ∧ W.cell? ⟨w.heap.size, 0, none⟩ = some a1 ∧ W.cell? ⟨w.heap.size, 1, none⟩ = some b1 ∧ W.cell? ⟨w.heap.size + 1, 0, none⟩ = some a2 ∧ W.cell? ⟨w.heap.size + 1, 1, none⟩ = some b2 ∧ Blk W g t cs ∧ Below w.heap.size w W) (hb : Below W.heap.size W W') : W'.cell? ⟨h, 0, none⟩ = some f ∧ W'.cell? ⟨w.heap.size, 0, none⟩ = some a1 ∧ W'.cell? ⟨w.heap.size, 1, none⟩ = some b1 ∧ W'.cell? ⟨w.heap.size + 1, 0, none⟩ = some a2 ∧ W'.cell? ⟨w.heap.size + 1, 1, none⟩ = some b2 ∧ Blk W' g t cs ∧ Below w.heap.size w W' :=
  ⟨(hb.cell (cell_lt H.1)).trans H.1, (hb.cell (cell_lt H.2.1)).trans H.2.1, (hb.cell (cell_lt H.2.2.1)).trans H.2.2.1, (hb.cell (cell_lt H.2.2.2.1)).trans H.2.2.2.1, (hb.cell (cell_lt H.2.2.2.2.1)).trans H.2.2.2.2.1, H.2.2.2.2.2.1.next hb, H.2.2.2.2.2.2.trans (hb.mono H.2.2.2.2.2.2.size)⟩
theorem o2_blk {g h : Nat} {t : TypeId} {cs : Array Value} {f a1 b1 a2 b2 : Value} {w W : World} (H : W.cell? ⟨h, 0, none⟩ = some f ∧ W.cell? ⟨w.heap.size, 0, none⟩ = some a1 ∧ W.cell? ⟨w.heap.size, 1, none⟩ = some b1 ∧ W.cell? ⟨w.heap.size + 1, 0, none⟩ = some a2 ∧ W.cell? ⟨w.heap.size + 1, 1, none⟩ = some b2 ∧ Blk W g t cs ∧ Below w.heap.size w W) : Blk W g t cs := H.2.2.2.2.2.1
theorem o2_below {g h : Nat} {t : TypeId} {cs : Array Value} {f a1 b1 a2 b2 : Value} {w W : World} (H : W.cell? ⟨h, 0, none⟩ = some f ∧ W.cell? ⟨w.heap.size, 0, none⟩ = some a1 ∧ W.cell? ⟨w.heap.size, 1, none⟩ = some b1 ∧ W.cell? ⟨w.heap.size + 1, 0, none⟩ = some a2 ∧ W.cell? ⟨w.heap.size + 1, 1, none⟩ = some b2 ∧ Blk W g t cs ∧ Below w.heap.size w W) : Below w.heap.size w W := H.2.2.2.2.2.2
set_option maxRecDepth 100000 in
set_option maxHeartbeats 4000000 in
theorem order_any (s : ByteArray) (y z u : Int) (g h a1 b1 a2 b2 : Nat) (w : World) (bP : Blk w g 23 #[.string s, .int .i64 y, .int .i64 z, .int .i64 u]) (bF : Blk w h 135 #[.func (.func 143) #[] #[.pointer (some ⟨g, 0, none⟩)]]) (hz : s.size = 90) (h1 : a1 < 90) (h2 : b1 < 90) (h3 : a2 < 90) (h4 : b2 < 90) : Calls Tryz.prog 147 #[.agg #[.int .i64 (a1 : Int), .int .i64 (b1 : Int)], .agg #[.int .i64 (a2 : Int), .int .i64 (b2 : Int)], .pointer (some ⟨h, 0, none⟩)] w fun e w' => ∃ k, e = .returned (.int .i64 k) ∧ Below w.heap.size w w' := by
  obtain ⟨W0, hW0⟩ : ∃ W0, (w.alloc (.cells #[.int .i64 (a1 : Int), .int .i64 (b1 : Int)] 48)).alloc (.cells #[.int .i64 (a2 : Int), .int .i64 (b2 : Int)] 48) = W0 := ⟨_, rfl⟩
  have hB : Below w.heap.size w W0 := by rw [← hW0]; exact (below_new _ _).alloc (by rw [World.size_alloc]; exact Nat.le_succ _) _
  have bM : Blk W0 w.heap.size 48 #[.int .i64 (a1 : Int), .int .i64 (b1 : Int)] := by rw [← hW0]; exact (Blk.new _ _ _ rfl).alloc _
  have bN : Blk W0 (w.heap.size + 1) 48 #[.int .i64 (a2 : Int), .int .i64 (b2 : Int)] := by rw [← hW0]; exact Blk.new _ _ _ (by rw [World.size_alloc])
  have hS : W0.drew.cell? ⟨h, 0, none⟩ = some (.func (.func 143) #[] #[.pointer (some ⟨g, 0, none⟩)]) ∧ W0.drew.cell? ⟨w.heap.size, 0, none⟩ = some (.int .i64 (a1 : Int)) ∧ W0.drew.cell? ⟨w.heap.size, 1, none⟩ = some (.int .i64 (b1 : Int)) ∧ W0.drew.cell? ⟨w.heap.size + 1, 0, none⟩ = some (.int .i64 (a2 : Int)) ∧ W0.drew.cell? ⟨w.heap.size + 1, 1, none⟩ = some (.int .i64 (b2 : Int)) ∧ Blk W0.drew g 23 #[.string s, .int .i64 y, .int .i64 z, .int .i64 u] ∧ Below w.heap.size w W0.drew := ⟨(bF.next hB).cell 0, bM.cell 0, bM.cell 1, bN.cell 0, bN.cell 1, (bP.next hB).next (Below.refl _ _).drew, hB.drew⟩
  have HPR : Hid (∀ W (a b : Nat), a < 90 → b < 90 → Blk W g 23 #[.string s, .int .i64 y, .int .i64 z, .int .i64 u] → Calls Tryz.prog 143 #[.agg #[.int .i64 (a : Int), .int .i64 (b : Int)], .pointer (some ⟨g, 0, none⟩)] W fun e w' => ∃ k, e = .returned (.int .i64 k) ∧ Below W.heap.size W w') := fun W a b ha hb hp => promise_any s y z u g a b W hp hz ha hb
  have HW := Lib.hid hW0
  have eg := enters_promise
  clear hB bM bN hW0 hz bP bF
  go_enter Tryz.func147, Tryz.ntmps147
  go_wp2_with fail
  rw [HW.out]
  go_region_held3 (fun W => W.cell? ⟨h, 0, none⟩ = some (.func (.func 143) #[] #[.pointer (some ⟨g, 0, none⟩)]) ∧ W.cell? ⟨w.heap.size, 0, none⟩ = some (.int .i64 (a1 : Int)) ∧ W.cell? ⟨w.heap.size, 1, none⟩ = some (.int .i64 (b1 : Int)) ∧ W.cell? ⟨w.heap.size + 1, 0, none⟩ = some (.int .i64 (a2 : Int)) ∧ W.cell? ⟨w.heap.size + 1, 1, none⟩ = some (.int .i64 (b2 : Int)) ∧ Blk W g 23 #[.string s, .int .i64 y, .int .i64 z, .int .i64 u] ∧ Below w.heap.size w W)
    (first | exact hS | with_reducible assumption | exact o2_keep (by assumption) hb)
    (first
      | (go_at_call 148; refine (compare_any _ _ _).mono ?_; rintro e w1 ⟨k, rfl, hb⟩)
      | (go_at_fn 143; refine (HPR.out _ _ _ (by assumption) (by assumption) ?_).mono ?_; (exact o2_blk (by assumption)); rintro e w1 ⟨k, rfl, hb⟩))
  all_goals go_wp2
  all_goals (go_ret; exact ⟨_, rfl, o2_below (by assumption)⟩)
/-- What is ordered: the captures, in a row of their own. -/
def Ordered (w : World) (s : ByteArray) (y : Int) (m : Nat) (e : Ending) (w' : World) : Prop := ∃ (A' : Option Addr) (c' : Nat) (zs : List (Int × Int)), e = .returned (.slice A' m c') ∧ zs.Perm (capsI s y) ∧ w'.ownsRow w.heap.size 48 2 (.slice A' m c') m (mzL zs) ∧ Below w.heap.size w w'
set_option maxRecDepth 100000 in
set_option maxHeartbeats 4000000 in
theorem ordered_any (s : ByteArray) (y z u : Int) (m : Nat) (w : World) (hT : Tab w) (hw : wellN s y z u = 0) (hm : (capsN s y).length = m) (h20 : m ≤ 20) : Calls Tryz.prog 105 #[.agg #[.string s, .int .i64 y, .int .i64 z, .int .i64 u]] w (Ordered w s y m) := by
  unfold Ordered
  obtain ⟨W0, hW0⟩ : ∃ W0, (w.alloc (.cells #[.string s, .int .i64 y, .int .i64 z, .int .i64 u] 23)).alloc (.cells #[.func (.func 143) #[] #[.pointer (some ⟨w.heap.size, 0, none⟩)]] 135) = W0 := ⟨_, rfl⟩
  have hB : Below w.heap.size w W0 := by rw [← hW0]; exact (below_new _ _).alloc (by rw [World.size_alloc]; exact Nat.le_succ _) _
  have bP : Blk W0 w.heap.size 23 #[.string s, .int .i64 y, .int .i64 z, .int .i64 u] := by rw [← hW0]; exact (Blk.new _ _ _ rfl).alloc _
  have bF : Blk W0 (w.heap.size + 1) 135 #[.func (.func 143) #[] #[.pointer (some ⟨w.heap.size, 0, none⟩)]] := by rw [← hW0]; exact Blk.new _ _ _ (by rw [World.size_alloc])
  have hz : s.size = 90 := isB_size (well_side hw).1
  have hl : (legalC s y z u).length = m := by rw [caps_same hw, hm]
  have HC := Lib.hid (lcaps_own s y z u (legalC s y z u) m W0 (hT.next hB) rfl hl)
  have HE : Hid (mvs (legalC s y z u) = mzL (capsI s y)) := by show _ = _; rw [caps_same hw, mvs_mz]; rfl
  have HLI : Hid ((capsI s y).length = m) := by show _ = _; unfold capsI; rw [List.length_map, hm]
  have hcm : CmpOn 147 #[.pointer (some ⟨w.heap.size + 1, 0, none⟩)] (capsI s y) W0.heap.size W0 := fun W x1 x2 hx1 hx2 hb => by
    obtain ⟨m1, hm1, rfl⟩ := capsI_mem hx1
    obtain ⟨m2, hm2, rfl⟩ := capsI_mem hx2
    have f1 := cap_facts hw (caps_mem.1 hm1).1
    have f2 := cap_facts hw (caps_mem.1 hm2).1
    exact order_any s y z u w.heap.size (w.heap.size + 1) m1.1 m1.2 m2.1 m2.2 W (bP.next hb) (bF.next hb) hz f1.1 f1.2.1 f2.1 f2.2.1
  have HCM := Lib.hid hcm
  obtain ⟨p0, p1, p2, p3⟩ := vpos_cells bP
  have HW := Lib.hid hW0
  have HB := Lib.hid hB
  clear hW0 hB bP bF hz hl hcm hT hw hm
  go_enter Tryz.func105, Tryz.ntmps105
  go_wp2_with fail
  (try rw [HW.out])
  refine HC.out.mono ?_
  rintro e w2 ⟨v, rfl, ho, hb⟩
  rw [HE.out] at ho
  obtain ⟨A', c', rfl, _, _⟩ := own_any ho
  have HO := Lib.hid ho
  have HB2 := Lib.hid hb
  have HBS : Hid (W0.heap.size ≤ w2.heap.size) := hb.size
  clear ho hb p0 p1 p2 p3
  go_wp2_with fail
  refine (mstablef_few 147 _ enters_order _ m (capsI s y) W0.heap.size w2 (HCM.out.later HB2.out) HO.out HLI.out h20 HBS.out).mono ?_
  rintro e w3 ⟨rfl, zs, hp, ho3, hb3⟩
  have HP := Lib.hid hp
  have HO3 := Lib.hid (own_mono ho3 HB.out.size)
  have HB3 := Lib.hid (HB.out.trans ((HB2.out.trans hb3).mono HB.out.size))
  clear hp ho3 hb3
  go_wp2_with fail
  go_ret
  exact ⟨_, _, zs, rfl, HP.out, HO3.out, HB3.out⟩
end Go.Proofs.YtbdgbihdhbjljaaGreatDoor
