/- Moves that are read, and written, are read as the same: the call answers true. -/
import Derived.Test.YtmmomgaijgpmmaaGreatDoorIccsY
namespace Go.Proofs.YtmmomgaijgpmmaaGreatDoor.iagain
open Go.RowKit Go.Shelf Go.Proofs.YtmmomgaijgpmmaaGreatDoor.F Go.Proofs.YtmmomgaijgpmmaaGreatDoor.I
open M (S)
attribute [local go_sem] Oper.semAt_some
theorem k5 {c : ByteArray} {y z u : Int} {H : Nat} {V W : World} (h : V.cell? ⟨H, 0, none⟩ = some (.string c) ∧ V.cell? ⟨H, 1, none⟩ = some (.int .i64 y) ∧ V.cell? ⟨H, 2, none⟩ = some (.int .i64 z) ∧ V.cell? ⟨H, 3, none⟩ = some (.int .i64 u)) (hb : Below V.heap.size V W) : (W.cell? ⟨H, 0, none⟩ = some (.string c) ∧ W.cell? ⟨H, 1, none⟩ = some (.int .i64 y) ∧ W.cell? ⟨H, 2, none⟩ = some (.int .i64 z) ∧ W.cell? ⟨H, 3, none⟩ = some (.int .i64 u)) ∧ Below V.heap.size V W := by
  obtain ⟨h0, h1, h2, h3⟩ := h
  exact ⟨⟨(hb.cell (p := ⟨H, 0, none⟩) (cell_lt h0)).trans h0, (hb.cell (p := ⟨H, 1, none⟩) (cell_lt h1)).trans h1, (hb.cell (p := ⟨H, 2, none⟩) (cell_lt h2)).trans h2, (hb.cell (p := ⟨H, 3, none⟩) (cell_lt h3)).trans h3⟩, hb⟩
theorem rd_far {w : World} {A : Option Addr} {xs : List Value} (h : Rd w A xs) (p : Addr) (v : Value) (hne : ∀ ad, A = some ad → ad.block ≠ p.block) : Rd (w.setCell p v) A xs := fun j u hu => by
  obtain ⟨ad, ha, hc⟩ := h j u hu
  refine ⟨ad, ha, ?_⟩
  rw [← hc]
  have hb : (ad.add j).block = ad.block := by
    simp only [Addr.add]
    split <;> rfl
  exact World.cell?_setCell_far _ _ _ _ (fun e => hne ad ha (by rw [← hb]; exact e.symm))
set_option maxRecDepth 100000 in
set_option maxHeartbeats 8000000 in
theorem large (c : ByteArray) (y z u : Int) (s : ByteArray) (w : World) {a0 a1 a2 : Addr} (hE : Errs w a0 a1 a2) (hT : Tab w) (h : 200 < c.size ∨ 300 < s.size) : Calls Tryz.prog 5 #[.agg #[.string c, .int .i64 y, .int .i64 z, .int .i64 u], .string s] w (Gives w (.bool true)) := by
  unfold Gives
  have hc : decide (200 < (c.size : Int)) = true ∨ (decide (200 < (c.size : Int)) = false ∧ decide (300 < (s.size : Int)) = true) := by
    simp only [decide_eq_true_eq, decide_eq_false_iff_not]
    omega
  clear h
  rcases hc with d0 | ⟨d0, d1⟩
  all_goals
    obtain ⟨W0, hW0⟩ : ∃ W0, w.alloc (.cells #[.string c, .int .i64 y, .int .i64 z, .int .i64 u] 32) = W0 := ⟨_, rfl⟩
    have hB : Below w.heap.size w W0 := by rw [← hW0]; exact (by repeat (first | exact Below.refl _ _ | (refine Below.setCell ?_ (by first | omega | (simp; done) | (simp; omega) | (simp at *; omega)) _) | (refine Below.alloc ?_ (by first | omega | (simp; done) | (simp; omega) | (simp at *; omega)) _) | refine Below.drew ?_ | (refine below_drewN ?_ _) | (refine Below.trans ?_ (Below.mono (by assumption) (by first | omega | (simp; done) | (simp; omega) | (simp at *; omega))))))
    have bP : Blk W0 w.heap.size 32 #[.string c, .int .i64 y, .int .i64 z, .int .i64 u] := by rw [← hW0]; exact Blk.new _ _ _ rfl
    have HW := Lib.hid hW0
    clear hW0
    obtain ⟨p0, p1, p2, p3⟩ := cell4 bP
    go_enter Tryz.func5, Tryz.ntmps5
    go_wp2_with fail
    rw [HW.out]
    go_wp2_with fail
    refine (live12_any (hE.next hB) (hT.next hB)).mono ?_
    rintro e w3 ⟨rfl, hb⟩
    go_wp2
    go_ret
    exact ⟨rfl, hB.trans (hb.mono hB.size)⟩
set_option maxRecDepth 100000 in
set_option maxHeartbeats 8000000 in
theorem refused (c : ByteArray) (y z u : Int) (s : ByteArray) (w : World) {a0 a1 a2 : Addr} (hE : Errs w a0 a1 a2) (hT : Tab w) (hc : c.size ≤ 200) (hs : s.size ≤ 300) (k : Int) (h : lineT ⟨c, y, z, u⟩ s = .no k) : Calls Tryz.prog 5 #[.agg #[.string c, .int .i64 y, .int .i64 z, .int .i64 u], .string s] w (Gives w (.bool true)) := by
  unfold Gives
  have d0 : decide (200 < (c.size : Int)) = false := by simp; omega
  have d1 : decide (300 < (s.size : Int)) = false := by simp; omega
  have hk := no_num h
  have hk1 : (k != 0) = true := by rw [bne_iff_ne]; exact hk
  have hk2 : ¬ k = 0 := hk
  have hz : s.size ≤ 100000 := by omega
  have H := Lib.hid h
  have HZ := Lib.hid hz
  clear hc hs h hk hz
  obtain ⟨W0, hW0⟩ : ∃ W0, w.alloc (.cells #[.string c, .int .i64 y, .int .i64 z, .int .i64 u] 32) = W0 := ⟨_, rfl⟩
  have hB : Below w.heap.size w W0 := by rw [← hW0]; exact (by repeat (first | exact Below.refl _ _ | (refine Below.setCell ?_ (by first | omega | (simp; done) | (simp; omega) | (simp at *; omega)) _) | (refine Below.alloc ?_ (by first | omega | (simp; done) | (simp; omega) | (simp at *; omega)) _) | refine Below.drew ?_ | (refine below_drewN ?_ _) | (refine Below.trans ?_ (Below.mono (by assumption) (by first | omega | (simp; done) | (simp; omega) | (simp at *; omega))))))
  have bP : Blk W0 w.heap.size 32 #[.string c, .int .i64 y, .int .i64 z, .int .i64 u] := by rw [← hW0]; exact Blk.new _ _ _ rfl
  have HW := Lib.hid hW0
  clear hW0
  obtain ⟨p0, p1, p2, p3⟩ := cell4 bP
  go_enter Tryz.func5, Tryz.ntmps5
  go_wp2_with fail
  rw [HW.out]
  go_wp2_with fail
  refine (line_no (hE.next hB) (hT.next hB) c y z u s HZ.out k H.out).mono ?_
  rintro e w1 ⟨rfl, hb⟩
  have hB1 := hB.trans (hb.mono hB.size)
  clear hb hB bP p0 p1 p2 p3
  obtain ⟨V1, hV1⟩ : ∃ v, w1.alloc (.cells #[.string ⟨#[]⟩, .int .i64 0, .int .i64 0, .int .i64 0] 32) = v := ⟨_, rfl⟩
  have hB2 : Below w.heap.size w V1 := by rw [← hV1]; exact hB1.alloc hB1.size _
  have bQ : Blk (w1.alloc (.cells #[.string ⟨#[]⟩, .int .i64 0, .int .i64 0, .int .i64 0] 32)) w1.heap.size 32 #[.string ⟨#[]⟩, .int .i64 0, .int .i64 0, .int .i64 0] := Blk.new _ _ _ rfl
  obtain ⟨q0, q1, q2, q3⟩ := cell4 bQ
  have HV1 := Lib.hid hV1
  clear hV1 bQ
  go_wp2_with fail
  rw [HV1.out]
  refine (live12_any (hE.next hB2) (hT.next hB2)).mono ?_
  rintro e w3 ⟨rfl, hb⟩
  go_wp2
  go_ret
  exact ⟨rfl, hB2.trans (hb.mono hB2.size)⟩
set_option maxRecDepth 100000 in
set_option maxHeartbeats 8000000 in
theorem some_ (c : ByteArray) (y z u : Int) (s : ByteArray) (w : World) {a0 a1 a2 : Addr} (hE : Errs w a0 a1 a2) (hT : Tab w) (hc : c.size ≤ 200) (hs : s.size ≤ 300) (l : List (Int × Int)) (q : Pz) (h : lineT ⟨c, y, z, u⟩ s = .got l q) : Calls Tryz.prog 5 #[.agg #[.string c, .int .i64 y, .int .i64 z, .int .i64 u], .string s] w (Gives w (.bool true)) := by
  unfold Gives
  have d0 : decide (200 < (c.size : Int)) = false := by simp; omega
  have d1 : decide (300 < (s.size : Int)) = false := by simp; omega
  have hz : s.size ≤ 100000 := by omega
  have hll := got_len h
  have hv := got_valid h
  have ht5 := text_le hv
  obtain ⟨t, ht⟩ : ∃ t, textT l = t := ⟨_, rfl⟩
  have h2 := line_again h
  rw [ht] at h2 ht5
  have htz : t.size ≤ 100000 := by omega
  obtain ⟨n, hn⟩ : ∃ n, l.length = n := ⟨_, rfl⟩
  have hn5 : n ≤ 301 := by omega
  have H := Lib.hid h
  have H2 := Lib.hid h2
  have HZ := Lib.hid (And.intro hz htz)
  have HN := Lib.hid hn
  have HV := Lib.hid hv
  have HT2 := Lib.hid ht
  have HG : Hid (∀ (c' : ByteArray) (y' z' u' : Int) (t' : ByteArray) (W : World), Errs W a0 a1 a2 → Tab W → t'.size ≤ 100000 → lineT ⟨c', y', z', u'⟩ t' = .got l q → Calls Tryz.prog 13 #[.agg #[.string c', .int .i64 y', .int .i64 z', .int .i64 u'], .string t'] W fun e w' => ∃ A cc, e = .returned (.tuple #[.slice A n cc, .agg #[.string q.s, .int .i64 q.y, .int .i64 q.z, .int .i64 q.u], .int .i64 0]) ∧ (n ≤ cc ∧ ∀ ad, A = some ad → W.heap.size ≤ ad.block) ∧ Rd w' A (mvl l) ∧ Below W.heap.size W w') := fun c' y' z' u' t' W e1 e2 e3 e4 => by rw [← hn]; exact line_got e1 e2 c' y' z' u' t' e3 l q e4
  clear hc hs h hz hll hv ht5 ht h2 htz hn
  obtain ⟨W0, hW0⟩ : ∃ W0, w.alloc (.cells #[.string c, .int .i64 y, .int .i64 z, .int .i64 u] 32) = W0 := ⟨_, rfl⟩
  have hB : Below w.heap.size w W0 := by rw [← hW0]; exact (by repeat (first | exact Below.refl _ _ | (refine Below.setCell ?_ (by first | omega | (simp; done) | (simp; omega) | (simp at *; omega)) _) | (refine Below.alloc ?_ (by first | omega | (simp; done) | (simp; omega) | (simp at *; omega)) _) | refine Below.drew ?_ | (refine below_drewN ?_ _) | (refine Below.trans ?_ (Below.mono (by assumption) (by first | omega | (simp; done) | (simp; omega) | (simp at *; omega))))))
  have bP : Blk W0 w.heap.size 32 #[.string c, .int .i64 y, .int .i64 z, .int .i64 u] := by rw [← hW0]; exact Blk.new _ _ _ rfl
  have HW := Lib.hid hW0
  clear hW0
  obtain ⟨p0, p1, p2, p3⟩ := cell4 bP
  go_enter Tryz.func5, Tryz.ntmps5
  go_wp2_with fail
  rw [HW.out]
  go_wp2_with fail
  refine (HG.out c y z u s _ (hE.next hB) (hT.next hB) HZ.out.1 H.out).mono ?_
  rintro e w1 ⟨A, cc, rfl, ⟨hcc, _⟩, hr, hb⟩
  have hB1 := hB.trans (hb.mono hB.size)
  have bP1 := bP.next hb
  clear hb hB bP p0 p1 p2 p3
  obtain ⟨V1, hV1⟩ : ∃ v, w1.alloc (.cells #[.string q.s, .int .i64 q.y, .int .i64 q.z, .int .i64 q.u] 32) = v := ⟨_, rfl⟩
  have hB2 : Below w.heap.size w V1 := by rw [← hV1]; exact hB1.alloc hB1.size _
  have bP2 : Blk V1 w.heap.size 32 #[.string c, .int .i64 y, .int .i64 z, .int .i64 u] := by rw [← hV1]; exact bP1.alloc _
  have bQ2 : Blk V1 w1.heap.size 32 #[.string q.s, .int .i64 q.y, .int .i64 q.z, .int .i64 q.u] := by rw [← hV1]; exact Blk.new _ _ _ rfl
  have hr2 : Rd V1 A (mvl l) := by rw [← hV1]; exact hr.next ((Below.refl _ _).alloc (Nat.le_refl _) _)
  have bPr := bP2
  rw [← hV1] at bPr
  obtain ⟨p0, p1, p2, p3⟩ := cell4 bPr
  have HV1 := Lib.hid hV1
  clear hV1 bPr hB1 bP1 hr
  go_wp2_with fail
  rw [HV1.out]
  clear HV1 p0 p1 p2 p3
  obtain ⟨p0, p1, p2, p3⟩ := cell4 bP2
  have hS0 : V1.cell? ⟨w.heap.size, 0, none⟩ = some (.string c) ∧ V1.cell? ⟨w.heap.size, 1, none⟩ = some (.int .i64 y) ∧ V1.cell? ⟨w.heap.size, 2, none⟩ = some (.int .i64 z) ∧ V1.cell? ⟨w.heap.size, 3, none⟩ = some (.int .i64 u) := ⟨p0, p1, p2, p3⟩
  have hS1 : (V1.drew.cell? ⟨w.heap.size, 0, none⟩ = some (.string c) ∧ V1.drew.cell? ⟨w.heap.size, 1, none⟩ = some (.int .i64 y) ∧ V1.drew.cell? ⟨w.heap.size, 2, none⟩ = some (.int .i64 z) ∧ V1.drew.cell? ⟨w.heap.size, 3, none⟩ = some (.int .i64 u)) ∧ Below V1.heap.size V1 V1.drew := ⟨hS0, (Below.refl _ _).drew⟩
  have HBZ : Hid (Blk (V1.alloc (.cells #[.string ⟨#[]⟩, .int .i64 0, .int .i64 0, .int .i64 0] 32)).drew V1.heap.size 32 #[.string ⟨#[]⟩, .int .i64 0, .int .i64 0, .int .i64 0]) := (Blk.new V1 32 #[.string ⟨#[]⟩, .int .i64 0, .int .i64 0, .int .i64 0] rfl).next (Below.refl _ _).drew
  have HTX : Hid (∀ W, Rd W A (mvl l) → Calls Tryz.prog 14 #[.slice A n cc] W (Gives W (.string t))) := fun W h => by rw [← HT2.out]; exact itext_any l n A cc W h HN.out (by omega) HV.out
  have hEV := hE.next hB2
  have hTV := hT.next hB2
  clear p0 p1 p2 p3 bP2
  refine wp_region_held_drew (S := fun W => (W.cell? ⟨w.heap.size, 0, none⟩ = some (.string c) ∧ W.cell? ⟨w.heap.size, 1, none⟩ = some (.int .i64 y) ∧ W.cell? ⟨w.heap.size, 2, none⟩ = some (.int .i64 z) ∧ W.cell? ⟨w.heap.size, 3, none⟩ = some (.int .i64 u)) ∧ Below V1.heap.size V1 W) (by kernel_rfl) (hS1) (fun hHeld => ?_)
  refine wpAnyH_take (i := 0) (oi := { dst := some 42, op := Op.load 32 (Operand.tmp 2), type := 32, pos := "law.go:60", after := #[], guard := none }) (v := ?_) rfl (by kernel_rfl) (by kernel_rfl) (by kernel_rfl) (fun _ _ _ h => h) (Or.inl ⟨by rfl, ?_⟩) (by assumption) ?_
  case refine_2 =>
    intro w hSw
    (try dsimp only at hSw)
    (try go_simp)
    all_goals (with_reducible rfl)
  (try dsimp only [Act.put]); (try simp only [List.setIfInBounds_toArray, List.set_cons_zero, List.set_cons_succ])
  refine wpAnyH_take (i := 1) (oi := { dst := some 43, op := Op.move (Operand.tmp 5), type := 33, pos := "law.go:60", after := #[], guard := none }) (v := ?_) rfl (by kernel_rfl) (by kernel_rfl) (by kernel_rfl) (fun _ _ _ h => h) (Or.inl ⟨by rfl, ?_⟩) (by assumption) ?_
  case refine_2 =>
    intro w hSw
    (try dsimp only at hSw)
    (try go_simp)
    all_goals (with_reducible rfl)
  (try dsimp only [Act.put]); (try simp only [List.setIfInBounds_toArray, List.set_cons_zero, List.set_cons_succ])
  refine wpAnyH_ready (rs := [2, 8]) (by kernel_rfl) (by simp) (AllReadyH.cons (o := { dst := some 44, op := Op.call { callee := Callee.value (Operand.func 14), args := #[Operand.tmp 43], argTypes := #[33] }, type := 9, pos := "law.go:60", after := #[{ on := 1, ground := Ground.data }], guard := none }) rfl (fun K hK => ?rd1) (AllReadyH.cons (o := { dst := some 9, op := Op.alloc 32, type := 0, pos := "law.go:60", after := #[], guard := none }) rfl (fun K hK => ?rd2) AllReadyH.nil))
  case' rd1 =>
    go_simp
    refine (HTX.out _ (hr2.next hHeld.2)).mono ?_; rintro e w2 ⟨rfl, hb⟩; have hz2 : V1.heap.size ≤ w2.heap.size := Nat.le_trans (by first | exact hHeld.2.size | exact hS1.2.size) hb.size; (try have bz := HBZ.out.next hb)
    refine hK.out _ _ ?_ (fun hHeld => ?_)
    · first | exact k5 hS0 (hHeld.2.trans (hb.mono hHeld.2.size)) | exact k5 hS0 (hS1.2.trans (hb.mono hS1.2.size))
    clear hK K
    refine wpAnyH_ready (rs := [3, 8]) (by kernel_rfl) (by simp) (AllReadyH.cons (o := { dst := some 45, op := Op.call { callee := Callee.value (Operand.func 13), args := #[Operand.tmp 42, Operand.tmp 44], argTypes := #[32, 9] }, type := 34, pos := "law.go:60", after := #[{ on := 0, ground := Ground.data }, { on := 2, ground := Ground.data }, { on := 2, ground := Ground.chain }], guard := none }) rfl (fun K hK => ?rd3) (AllReadyH.cons (o := { dst := some 9, op := Op.alloc 32, type := 0, pos := "law.go:60", after := #[], guard := none }) rfl (fun K hK => ?rd4) AllReadyH.nil))
    case' rd3 =>
      go_simp
      (try have hq2 := bz.lt); refine (HG.out c y z u t _ (hEV.next hHeld.2) (hTV.next hHeld.2) HZ.out.2 H2.out).mono ?_; rintro e w3 ⟨A2, cc2, rfl, ⟨hcc2, hnew⟩, hr3, hb⟩; have hB3 : Below V1.heap.size V1 w3 := hHeld.2.trans (hb.mono hHeld.2.size); (try (have bz := (by first | exact bz.next hb | exact (Blk.new w2 32 #[.string ⟨#[]⟩, .int .i64 0, .int .i64 0, .int .i64 0] rfl).next hb); obtain ⟨y4, y5, y6, y7⟩ := cell4 bz; have y0 := bz.frozen 0; have y1 := bz.frozen 1; have y2 := bz.frozen 2; have y3 := bz.frozen 3))
      refine hK.out _ _ ?_ (fun hHeld => ?_)
      · first | exact k5 hS0 (hHeld.2.trans (hb.mono hHeld.2.size)) | exact k5 hS0 (hS1.2.trans (hb.mono hS1.2.size))
      clear hK K
      refine wpAnyH_take (i := 4) (oi := { dst := some 41, op := Op.move (Operand.tmp 45), type := 34, pos := "law.go:60", after := #[{ on := 3, ground := Ground.data }], guard := none }) (v := ?_) rfl (by kernel_rfl) (by kernel_rfl) (by kernel_rfl) (fun _ _ _ h => h) (Or.inl ⟨by rfl, ?_⟩) (by assumption) ?_
      case refine_2 =>
        intro w hSw
        (try dsimp only at hSw)
        (try go_simp)
        all_goals (with_reducible rfl)
      (try dsimp only [Act.put]); (try simp only [List.setIfInBounds_toArray, List.set_cons_zero, List.set_cons_succ])
      refine wpAnyH_take (i := 5) (oi := { dst := some 46, op := Op.extract (Operand.tmp 41) 0, type := 33, pos := "law.go:60", after := #[{ on := 4, ground := Ground.data }], guard := none }) (v := ?_) rfl (by kernel_rfl) (by kernel_rfl) (by kernel_rfl) (fun _ _ _ h => h) (Or.inl ⟨by rfl, ?_⟩) (by assumption) ?_
      case refine_2 =>
        intro w hSw
        (try dsimp only at hSw)
        (try go_simp)
        all_goals (with_reducible rfl)
      (try dsimp only [Act.put]); (try simp only [List.setIfInBounds_toArray, List.set_cons_zero, List.set_cons_succ])
      refine wpAnyH_take (i := 6) (oi := { dst := some 47, op := Op.extract (Operand.tmp 41) 1, type := 32, pos := "law.go:60", after := #[{ on := 4, ground := Ground.data }, { on := 9, ground := Ground.gcOnly Departure.lateStores }], guard := none }) (v := ?_) rfl (by kernel_rfl) (by kernel_rfl) (by kernel_rfl) (fun _ _ _ h => h) (Or.inl ⟨by rfl, ?_⟩) (by assumption) ?_
      case refine_2 =>
        intro w hSw
        (try dsimp only at hSw)
        (try go_simp)
        all_goals (with_reducible rfl)
      (try dsimp only [Act.put]); (try simp only [List.setIfInBounds_toArray, List.set_cons_zero, List.set_cons_succ])
      refine wpAnyH_take (i := 7) (oi := { dst := some 48, op := Op.extract (Operand.tmp 41) 2, type := 25, pos := "law.go:60", after := #[{ on := 4, ground := Ground.data }, { on := 10, ground := Ground.gcOnly Departure.lateStores }], guard := none }) (v := ?_) rfl (by kernel_rfl) (by kernel_rfl) (by kernel_rfl) (fun _ _ _ h => h) (Or.inl ⟨by rfl, ?_⟩) (by assumption) ?_
      case refine_2 =>
        intro w hSw
        (try dsimp only at hSw)
        (try go_simp)
        all_goals (with_reducible rfl)
      (try dsimp only [Act.put]); (try simp only [List.setIfInBounds_toArray, List.set_cons_zero, List.set_cons_succ])
      refine wpAnyH_ready (rs := [8]) (by kernel_rfl) (by simp) (AllReadyH.cons (o := { dst := some 9, op := Op.alloc 32, type := 0, pos := "law.go:60", after := #[], guard := none }) rfl (fun K hK => ?_) AllReadyH.nil)
      go_simp
      refine hK.out _ _ ?_ (fun hHeld => ?_)
      · first | exact k5 hS0 (((Below.refl _ V1).alloc (Nat.le_refl _) _).drew) | exact k5 hS0 (hHeld.2.alloc hHeld.2.size _)
      clear hK K
      (try dsimp only [Act.put]); (try simp only [List.setIfInBounds_toArray, List.set_cons_zero, List.set_cons_succ])
      refine wpAnyH_take (i := 9) (oi := { dst := some 8, op := Op.assign (Operand.tmp 46), type := 33, pos := "law.go:60", after := #[{ on := 5, ground := Ground.data }, { on := 3, ground := Ground.chain }, { on := 0, ground := Ground.phase }, { on := 1, ground := Ground.phase }, { on := 2, ground := Ground.phase }, { on := 3, ground := Ground.phase }, { on := 4, ground := Ground.phase }, { on := 5, ground := Ground.phase }, { on := 6, ground := Ground.textOnly Departure.lateStores }, { on := 7, ground := Ground.textOnly Departure.lateStores }, { on := 8, ground := Ground.phase }], guard := none }) (v := ?_) rfl (by kernel_rfl) (by kernel_rfl) (by kernel_rfl) (fun _ _ _ h => h) (Or.inl ⟨by rfl, ?_⟩) (by assumption) ?_
      case refine_2 =>
        intro w hSw
        (try dsimp only at hSw)
        (try go_simp)
        all_goals (with_reducible rfl)
      (try dsimp only [Act.put]); (try simp only [List.setIfInBounds_toArray, List.set_cons_zero, List.set_cons_succ])
      refine wpAnyH_ready (rs := [10]) (by kernel_rfl) (by simp) (AllReadyH.cons (o := { dst := none, op := Op.store 32 (Operand.tmp 9) (Operand.tmp 47), type := 0, pos := "law.go:60", after := #[{ on := 8, ground := Ground.data }, { on := 6, ground := Ground.data }, { on := 9, ground := Ground.chain }, { on := 0, ground := Ground.phase }, { on := 1, ground := Ground.phase }, { on := 2, ground := Ground.phase }, { on := 3, ground := Ground.phase }, { on := 4, ground := Ground.phase }, { on := 5, ground := Ground.phase }, { on := 6, ground := Ground.phase }, { on := 7, ground := Ground.textOnly Departure.lateStores }, { on := 8, ground := Ground.phase }, { on := 9, ground := Ground.phase }], guard := none }) rfl (fun K hK => ?_) AllReadyH.nil)
      go_simp
      refine hK.out _ _ ?_ (fun hHeld => ?_)
      · first | exact k5 hS0 ((((hHeld.2.setCell (p := ⟨V1.heap.size, 0, none⟩) (Nat.le_refl _) _).setCell (p := ⟨V1.heap.size, 1, none⟩) (Nat.le_refl _) _).setCell (p := ⟨V1.heap.size, 2, none⟩) (Nat.le_refl _) _).setCell (p := ⟨V1.heap.size, 3, none⟩) (Nat.le_refl _) _) | exact k5 hS0 ((((hHeld.2.setCell (p := ⟨w2.heap.size, 0, none⟩) hz2 _).setCell (p := ⟨w2.heap.size, 1, none⟩) hz2 _).setCell (p := ⟨w2.heap.size, 2, none⟩) hz2 _).setCell (p := ⟨w2.heap.size, 3, none⟩) hz2 _) | exact k5 hS0 (hB3.alloc hB3.size _)
      clear hK K
      (try dsimp only [Act.put]); (try simp only [List.setIfInBounds_toArray, List.set_cons_zero, List.set_cons_succ])
      refine wpAnyH_take (i := 11) (oi := { dst := some 10, op := Op.assign (Operand.tmp 48), type := 25, pos := "law.go:60", after := #[{ on := 7, ground := Ground.data }, { on := 10, ground := Ground.chain }, { on := 0, ground := Ground.phase }, { on := 1, ground := Ground.phase }, { on := 2, ground := Ground.phase }, { on := 3, ground := Ground.phase }, { on := 4, ground := Ground.phase }, { on := 5, ground := Ground.phase }, { on := 6, ground := Ground.phase }, { on := 7, ground := Ground.phase }, { on := 8, ground := Ground.phase }, { on := 9, ground := Ground.phase }, { on := 10, ground := Ground.phase }], guard := none }) (v := ?_) rfl (by kernel_rfl) (by kernel_rfl) (by kernel_rfl) (fun _ _ _ h => h) (Or.inl ⟨by rfl, ?_⟩) (by assumption) ?_
      case refine_2 =>
        intro w hSw
        (try dsimp only at hSw)
        (try go_simp)
        all_goals (with_reducible rfl)
      (try dsimp only [Act.put]); (try simp only [List.setIfInBounds_toArray, List.set_cons_zero, List.set_cons_succ])
      refine wpAnyH_done (by kernel_rfl) ?_ _
    case' rd4 =>
      go_simp
      refine hK.out _ _ ?_ (fun hHeld => ?_)
      · first | exact k5 hS0 (((Below.refl _ V1).alloc (Nat.le_refl _) _).drew) | exact k5 hS0 (hHeld.2.alloc hHeld.2.size _)
      clear hK K
      (try dsimp only [Act.put]); (try simp only [List.setIfInBounds_toArray, List.set_cons_zero, List.set_cons_succ])
      refine wpAnyH_ready (rs := [3]) (by kernel_rfl) (by simp) (AllReadyH.cons (o := { dst := some 45, op := Op.call { callee := Callee.value (Operand.func 13), args := #[Operand.tmp 42, Operand.tmp 44], argTypes := #[32, 9] }, type := 34, pos := "law.go:60", after := #[{ on := 0, ground := Ground.data }, { on := 2, ground := Ground.data }, { on := 2, ground := Ground.chain }], guard := none }) rfl (fun K hK => ?_) AllReadyH.nil)
      go_simp
      (try have hq2 := bz.lt); refine (HG.out c y z u t _ (hEV.next hHeld.2) (hTV.next hHeld.2) HZ.out.2 H2.out).mono ?_; rintro e w3 ⟨A2, cc2, rfl, ⟨hcc2, hnew⟩, hr3, hb⟩; have hB3 : Below V1.heap.size V1 w3 := hHeld.2.trans (hb.mono hHeld.2.size); (try (have bz := (by first | exact bz.next hb | exact (Blk.new w2 32 #[.string ⟨#[]⟩, .int .i64 0, .int .i64 0, .int .i64 0] rfl).next hb); obtain ⟨y4, y5, y6, y7⟩ := cell4 bz; have y0 := bz.frozen 0; have y1 := bz.frozen 1; have y2 := bz.frozen 2; have y3 := bz.frozen 3))
      refine hK.out _ _ ?_ (fun hHeld => ?_)
      · first | exact k5 hS0 (hHeld.2.trans (hb.mono hHeld.2.size)) | exact k5 hS0 (hS1.2.trans (hb.mono hS1.2.size))
      clear hK K
      refine wpAnyH_take (i := 4) (oi := { dst := some 41, op := Op.move (Operand.tmp 45), type := 34, pos := "law.go:60", after := #[{ on := 3, ground := Ground.data }], guard := none }) (v := ?_) rfl (by kernel_rfl) (by kernel_rfl) (by kernel_rfl) (fun _ _ _ h => h) (Or.inl ⟨by rfl, ?_⟩) (by assumption) ?_
      case refine_2 =>
        intro w hSw
        (try dsimp only at hSw)
        (try go_simp)
        all_goals (with_reducible rfl)
      (try dsimp only [Act.put]); (try simp only [List.setIfInBounds_toArray, List.set_cons_zero, List.set_cons_succ])
      refine wpAnyH_take (i := 5) (oi := { dst := some 46, op := Op.extract (Operand.tmp 41) 0, type := 33, pos := "law.go:60", after := #[{ on := 4, ground := Ground.data }], guard := none }) (v := ?_) rfl (by kernel_rfl) (by kernel_rfl) (by kernel_rfl) (fun _ _ _ h => h) (Or.inl ⟨by rfl, ?_⟩) (by assumption) ?_
      case refine_2 =>
        intro w hSw
        (try dsimp only at hSw)
        (try go_simp)
        all_goals (with_reducible rfl)
      (try dsimp only [Act.put]); (try simp only [List.setIfInBounds_toArray, List.set_cons_zero, List.set_cons_succ])
      refine wpAnyH_take (i := 6) (oi := { dst := some 47, op := Op.extract (Operand.tmp 41) 1, type := 32, pos := "law.go:60", after := #[{ on := 4, ground := Ground.data }, { on := 9, ground := Ground.gcOnly Departure.lateStores }], guard := none }) (v := ?_) rfl (by kernel_rfl) (by kernel_rfl) (by kernel_rfl) (fun _ _ _ h => h) (Or.inl ⟨by rfl, ?_⟩) (by assumption) ?_
      case refine_2 =>
        intro w hSw
        (try dsimp only at hSw)
        (try go_simp)
        all_goals (with_reducible rfl)
      (try dsimp only [Act.put]); (try simp only [List.setIfInBounds_toArray, List.set_cons_zero, List.set_cons_succ])
      refine wpAnyH_take (i := 7) (oi := { dst := some 48, op := Op.extract (Operand.tmp 41) 2, type := 25, pos := "law.go:60", after := #[{ on := 4, ground := Ground.data }, { on := 10, ground := Ground.gcOnly Departure.lateStores }], guard := none }) (v := ?_) rfl (by kernel_rfl) (by kernel_rfl) (by kernel_rfl) (fun _ _ _ h => h) (Or.inl ⟨by rfl, ?_⟩) (by assumption) ?_
      case refine_2 =>
        intro w hSw
        (try dsimp only at hSw)
        (try go_simp)
        all_goals (with_reducible rfl)
      (try dsimp only [Act.put]); (try simp only [List.setIfInBounds_toArray, List.set_cons_zero, List.set_cons_succ])
      refine wpAnyH_take (i := 9) (oi := { dst := some 8, op := Op.assign (Operand.tmp 46), type := 33, pos := "law.go:60", after := #[{ on := 5, ground := Ground.data }, { on := 3, ground := Ground.chain }, { on := 0, ground := Ground.phase }, { on := 1, ground := Ground.phase }, { on := 2, ground := Ground.phase }, { on := 3, ground := Ground.phase }, { on := 4, ground := Ground.phase }, { on := 5, ground := Ground.phase }, { on := 6, ground := Ground.textOnly Departure.lateStores }, { on := 7, ground := Ground.textOnly Departure.lateStores }, { on := 8, ground := Ground.phase }], guard := none }) (v := ?_) rfl (by kernel_rfl) (by kernel_rfl) (by kernel_rfl) (fun _ _ _ h => h) (Or.inl ⟨by rfl, ?_⟩) (by assumption) ?_
      case refine_2 =>
        intro w hSw
        (try dsimp only at hSw)
        (try go_simp)
        all_goals (with_reducible rfl)
      (try dsimp only [Act.put]); (try simp only [List.setIfInBounds_toArray, List.set_cons_zero, List.set_cons_succ])
      refine wpAnyH_ready (rs := [10]) (by kernel_rfl) (by simp) (AllReadyH.cons (o := { dst := none, op := Op.store 32 (Operand.tmp 9) (Operand.tmp 47), type := 0, pos := "law.go:60", after := #[{ on := 8, ground := Ground.data }, { on := 6, ground := Ground.data }, { on := 9, ground := Ground.chain }, { on := 0, ground := Ground.phase }, { on := 1, ground := Ground.phase }, { on := 2, ground := Ground.phase }, { on := 3, ground := Ground.phase }, { on := 4, ground := Ground.phase }, { on := 5, ground := Ground.phase }, { on := 6, ground := Ground.phase }, { on := 7, ground := Ground.textOnly Departure.lateStores }, { on := 8, ground := Ground.phase }, { on := 9, ground := Ground.phase }], guard := none }) rfl (fun K hK => ?_) AllReadyH.nil)
      go_simp
      refine hK.out _ _ ?_ (fun hHeld => ?_)
      · first | exact k5 hS0 ((((hHeld.2.setCell (p := ⟨V1.heap.size, 0, none⟩) (Nat.le_refl _) _).setCell (p := ⟨V1.heap.size, 1, none⟩) (Nat.le_refl _) _).setCell (p := ⟨V1.heap.size, 2, none⟩) (Nat.le_refl _) _).setCell (p := ⟨V1.heap.size, 3, none⟩) (Nat.le_refl _) _) | exact k5 hS0 ((((hHeld.2.setCell (p := ⟨w2.heap.size, 0, none⟩) hz2 _).setCell (p := ⟨w2.heap.size, 1, none⟩) hz2 _).setCell (p := ⟨w2.heap.size, 2, none⟩) hz2 _).setCell (p := ⟨w2.heap.size, 3, none⟩) hz2 _) | exact k5 hS0 (hB3.alloc hB3.size _)
      clear hK K
      (try dsimp only [Act.put]); (try simp only [List.setIfInBounds_toArray, List.set_cons_zero, List.set_cons_succ])
      refine wpAnyH_take (i := 11) (oi := { dst := some 10, op := Op.assign (Operand.tmp 48), type := 25, pos := "law.go:60", after := #[{ on := 7, ground := Ground.data }, { on := 10, ground := Ground.chain }, { on := 0, ground := Ground.phase }, { on := 1, ground := Ground.phase }, { on := 2, ground := Ground.phase }, { on := 3, ground := Ground.phase }, { on := 4, ground := Ground.phase }, { on := 5, ground := Ground.phase }, { on := 6, ground := Ground.phase }, { on := 7, ground := Ground.phase }, { on := 8, ground := Ground.phase }, { on := 9, ground := Ground.phase }, { on := 10, ground := Ground.phase }], guard := none }) (v := ?_) rfl (by kernel_rfl) (by kernel_rfl) (by kernel_rfl) (fun _ _ _ h => h) (Or.inl ⟨by rfl, ?_⟩) (by assumption) ?_
      case refine_2 =>
        intro w hSw
        (try dsimp only at hSw)
        (try go_simp)
        all_goals (with_reducible rfl)
      (try dsimp only [Act.put]); (try simp only [List.setIfInBounds_toArray, List.set_cons_zero, List.set_cons_succ])
      refine wpAnyH_done (by kernel_rfl) ?_ _
  case' rd2 =>
    go_simp
    refine hK.out _ _ ?_ (fun hHeld => ?_)
    · first | exact k5 hS0 (((Below.refl _ V1).alloc (Nat.le_refl _) _).drew) | exact k5 hS0 (hHeld.2.alloc hHeld.2.size _)
    clear hK K
    (try dsimp only [Act.put]); (try simp only [List.setIfInBounds_toArray, List.set_cons_zero, List.set_cons_succ])
    refine wpAnyH_ready (rs := [2]) (by kernel_rfl) (by simp) (AllReadyH.cons (o := { dst := some 44, op := Op.call { callee := Callee.value (Operand.func 14), args := #[Operand.tmp 43], argTypes := #[33] }, type := 9, pos := "law.go:60", after := #[{ on := 1, ground := Ground.data }], guard := none }) rfl (fun K hK => ?_) AllReadyH.nil)
    go_simp
    refine (HTX.out _ (hr2.next hHeld.2)).mono ?_; rintro e w2 ⟨rfl, hb⟩; have hz2 : V1.heap.size ≤ w2.heap.size := Nat.le_trans (by first | exact hHeld.2.size | exact hS1.2.size) hb.size; (try have bz := HBZ.out.next hb)
    refine hK.out _ _ ?_ (fun hHeld => ?_)
    · first | exact k5 hS0 (hHeld.2.trans (hb.mono hHeld.2.size)) | exact k5 hS0 (hS1.2.trans (hb.mono hS1.2.size))
    clear hK K
    refine wpAnyH_ready (rs := [3]) (by kernel_rfl) (by simp) (AllReadyH.cons (o := { dst := some 45, op := Op.call { callee := Callee.value (Operand.func 13), args := #[Operand.tmp 42, Operand.tmp 44], argTypes := #[32, 9] }, type := 34, pos := "law.go:60", after := #[{ on := 0, ground := Ground.data }, { on := 2, ground := Ground.data }, { on := 2, ground := Ground.chain }], guard := none }) rfl (fun K hK => ?_) AllReadyH.nil)
    go_simp
    (try have hq2 := bz.lt); refine (HG.out c y z u t _ (hEV.next hHeld.2) (hTV.next hHeld.2) HZ.out.2 H2.out).mono ?_; rintro e w3 ⟨A2, cc2, rfl, ⟨hcc2, hnew⟩, hr3, hb⟩; have hB3 : Below V1.heap.size V1 w3 := hHeld.2.trans (hb.mono hHeld.2.size); (try (have bz := (by first | exact bz.next hb | exact (Blk.new w2 32 #[.string ⟨#[]⟩, .int .i64 0, .int .i64 0, .int .i64 0] rfl).next hb); obtain ⟨y4, y5, y6, y7⟩ := cell4 bz; have y0 := bz.frozen 0; have y1 := bz.frozen 1; have y2 := bz.frozen 2; have y3 := bz.frozen 3))
    refine hK.out _ _ ?_ (fun hHeld => ?_)
    · first | exact k5 hS0 (hHeld.2.trans (hb.mono hHeld.2.size)) | exact k5 hS0 (hS1.2.trans (hb.mono hS1.2.size))
    clear hK K
    refine wpAnyH_take (i := 4) (oi := { dst := some 41, op := Op.move (Operand.tmp 45), type := 34, pos := "law.go:60", after := #[{ on := 3, ground := Ground.data }], guard := none }) (v := ?_) rfl (by kernel_rfl) (by kernel_rfl) (by kernel_rfl) (fun _ _ _ h => h) (Or.inl ⟨by rfl, ?_⟩) (by assumption) ?_
    case refine_2 =>
      intro w hSw
      (try dsimp only at hSw)
      (try go_simp)
      all_goals (with_reducible rfl)
    (try dsimp only [Act.put]); (try simp only [List.setIfInBounds_toArray, List.set_cons_zero, List.set_cons_succ])
    refine wpAnyH_take (i := 5) (oi := { dst := some 46, op := Op.extract (Operand.tmp 41) 0, type := 33, pos := "law.go:60", after := #[{ on := 4, ground := Ground.data }], guard := none }) (v := ?_) rfl (by kernel_rfl) (by kernel_rfl) (by kernel_rfl) (fun _ _ _ h => h) (Or.inl ⟨by rfl, ?_⟩) (by assumption) ?_
    case refine_2 =>
      intro w hSw
      (try dsimp only at hSw)
      (try go_simp)
      all_goals (with_reducible rfl)
    (try dsimp only [Act.put]); (try simp only [List.setIfInBounds_toArray, List.set_cons_zero, List.set_cons_succ])
    refine wpAnyH_take (i := 6) (oi := { dst := some 47, op := Op.extract (Operand.tmp 41) 1, type := 32, pos := "law.go:60", after := #[{ on := 4, ground := Ground.data }, { on := 9, ground := Ground.gcOnly Departure.lateStores }], guard := none }) (v := ?_) rfl (by kernel_rfl) (by kernel_rfl) (by kernel_rfl) (fun _ _ _ h => h) (Or.inl ⟨by rfl, ?_⟩) (by assumption) ?_
    case refine_2 =>
      intro w hSw
      (try dsimp only at hSw)
      (try go_simp)
      all_goals (with_reducible rfl)
    (try dsimp only [Act.put]); (try simp only [List.setIfInBounds_toArray, List.set_cons_zero, List.set_cons_succ])
    refine wpAnyH_take (i := 7) (oi := { dst := some 48, op := Op.extract (Operand.tmp 41) 2, type := 25, pos := "law.go:60", after := #[{ on := 4, ground := Ground.data }, { on := 10, ground := Ground.gcOnly Departure.lateStores }], guard := none }) (v := ?_) rfl (by kernel_rfl) (by kernel_rfl) (by kernel_rfl) (fun _ _ _ h => h) (Or.inl ⟨by rfl, ?_⟩) (by assumption) ?_
    case refine_2 =>
      intro w hSw
      (try dsimp only at hSw)
      (try go_simp)
      all_goals (with_reducible rfl)
    (try dsimp only [Act.put]); (try simp only [List.setIfInBounds_toArray, List.set_cons_zero, List.set_cons_succ])
    refine wpAnyH_take (i := 9) (oi := { dst := some 8, op := Op.assign (Operand.tmp 46), type := 33, pos := "law.go:60", after := #[{ on := 5, ground := Ground.data }, { on := 3, ground := Ground.chain }, { on := 0, ground := Ground.phase }, { on := 1, ground := Ground.phase }, { on := 2, ground := Ground.phase }, { on := 3, ground := Ground.phase }, { on := 4, ground := Ground.phase }, { on := 5, ground := Ground.phase }, { on := 6, ground := Ground.textOnly Departure.lateStores }, { on := 7, ground := Ground.textOnly Departure.lateStores }, { on := 8, ground := Ground.phase }], guard := none }) (v := ?_) rfl (by kernel_rfl) (by kernel_rfl) (by kernel_rfl) (fun _ _ _ h => h) (Or.inl ⟨by rfl, ?_⟩) (by assumption) ?_
    case refine_2 =>
      intro w hSw
      (try dsimp only at hSw)
      (try go_simp)
      all_goals (with_reducible rfl)
    (try dsimp only [Act.put]); (try simp only [List.setIfInBounds_toArray, List.set_cons_zero, List.set_cons_succ])
    refine wpAnyH_ready (rs := [10]) (by kernel_rfl) (by simp) (AllReadyH.cons (o := { dst := none, op := Op.store 32 (Operand.tmp 9) (Operand.tmp 47), type := 0, pos := "law.go:60", after := #[{ on := 8, ground := Ground.data }, { on := 6, ground := Ground.data }, { on := 9, ground := Ground.chain }, { on := 0, ground := Ground.phase }, { on := 1, ground := Ground.phase }, { on := 2, ground := Ground.phase }, { on := 3, ground := Ground.phase }, { on := 4, ground := Ground.phase }, { on := 5, ground := Ground.phase }, { on := 6, ground := Ground.phase }, { on := 7, ground := Ground.textOnly Departure.lateStores }, { on := 8, ground := Ground.phase }, { on := 9, ground := Ground.phase }], guard := none }) rfl (fun K hK => ?_) AllReadyH.nil)
    go_simp
    refine hK.out _ _ ?_ (fun hHeld => ?_)
    · first | exact k5 hS0 ((((hHeld.2.setCell (p := ⟨V1.heap.size, 0, none⟩) (Nat.le_refl _) _).setCell (p := ⟨V1.heap.size, 1, none⟩) (Nat.le_refl _) _).setCell (p := ⟨V1.heap.size, 2, none⟩) (Nat.le_refl _) _).setCell (p := ⟨V1.heap.size, 3, none⟩) (Nat.le_refl _) _) | exact k5 hS0 ((((hHeld.2.setCell (p := ⟨w2.heap.size, 0, none⟩) hz2 _).setCell (p := ⟨w2.heap.size, 1, none⟩) hz2 _).setCell (p := ⟨w2.heap.size, 2, none⟩) hz2 _).setCell (p := ⟨w2.heap.size, 3, none⟩) hz2 _) | exact k5 hS0 (hB3.alloc hB3.size _)
    clear hK K
    (try dsimp only [Act.put]); (try simp only [List.setIfInBounds_toArray, List.set_cons_zero, List.set_cons_succ])
    refine wpAnyH_take (i := 11) (oi := { dst := some 10, op := Op.assign (Operand.tmp 48), type := 25, pos := "law.go:60", after := #[{ on := 7, ground := Ground.data }, { on := 10, ground := Ground.chain }, { on := 0, ground := Ground.phase }, { on := 1, ground := Ground.phase }, { on := 2, ground := Ground.phase }, { on := 3, ground := Ground.phase }, { on := 4, ground := Ground.phase }, { on := 5, ground := Ground.phase }, { on := 6, ground := Ground.phase }, { on := 7, ground := Ground.phase }, { on := 8, ground := Ground.phase }, { on := 9, ground := Ground.phase }, { on := 10, ground := Ground.phase }], guard := none }) (v := ?_) rfl (by kernel_rfl) (by kernel_rfl) (by kernel_rfl) (fun _ _ _ h => h) (Or.inl ⟨by rfl, ?_⟩) (by assumption) ?_
    case refine_2 =>
      intro w hSw
      (try dsimp only at hSw)
      (try go_simp)
      all_goals (with_reducible rfl)
    (try dsimp only [Act.put]); (try simp only [List.setIfInBounds_toArray, List.set_cons_zero, List.set_cons_succ])
    refine wpAnyH_done (by kernel_rfl) ?_ _
  all_goals
    first
    | (obtain ⟨W4, hW4⟩ : ∃ x, ((((w3.setCell ⟨V1.heap.size, 0, none⟩ (.string q.s)).setCell ⟨V1.heap.size, 1, none⟩ (.int .i64 q.y)).setCell ⟨V1.heap.size, 2, none⟩ (.int .i64 q.z)).setCell ⟨V1.heap.size, 3, none⟩ (.int .i64 q.u)) = x := ⟨_, rfl⟩
       have bR : Blk W4 V1.heap.size 32 #[.string q.s, .int .i64 q.y, .int .i64 q.z, .int .i64 q.u] := by rw [← hW4]; exact (((bz.set_ 0 _).set_ 1 _).set_ 2 _).set_ 3 _
       have hb4 : Below V1.heap.size V1 W4 := by rw [← hW4]; exact hHeld.2
       have hne : ∀ ad, A2 = some ad → ad.block ≠ V1.heap.size := fun ad h => by have := hnew ad h; omega
       have hrW : Rd W4 A2 (mvl l) := by rw [← hW4]; exact rd_far (rd_far (rd_far (rd_far hr3 _ _ hne) _ _ hne) _ _ hne) _ _ hne
       rw [hW4]
       clear hW4 hne hq2
       clear bz y0 y1 y2 y3 y4 y5 y6 y7
       generalize V1.heap.size = gq at bR ⊢)
    | (obtain ⟨W4, hW4⟩ : ∃ x, ((((w3.setCell ⟨w2.heap.size, 0, none⟩ (.string q.s)).setCell ⟨w2.heap.size, 1, none⟩ (.int .i64 q.y)).setCell ⟨w2.heap.size, 2, none⟩ (.int .i64 q.z)).setCell ⟨w2.heap.size, 3, none⟩ (.int .i64 q.u)) = x := ⟨_, rfl⟩
       have bR : Blk W4 w2.heap.size 32 #[.string q.s, .int .i64 q.y, .int .i64 q.z, .int .i64 q.u] := by rw [← hW4]; exact (((bz.set_ 0 _).set_ 1 _).set_ 2 _).set_ 3 _
       have hb4 : Below V1.heap.size V1 W4 := by rw [← hW4]; exact hHeld.2
       have hne : ∀ ad, A2 = some ad → ad.block ≠ w2.heap.size := fun ad h => by have := hnew ad h; simp at this; omega
       have hrW : Rd W4 A2 (mvl l) := by rw [← hW4]; exact rd_far (rd_far (rd_far (rd_far hr3 _ _ hne) _ _ hne) _ _ hne) _ _ hne
       rw [hW4]
       clear hW4 hne
       clear bz y0 y1 y2 y3 y4 y5 y6 y7
       generalize w2.heap.size = gq at bR ⊢)
    | (obtain ⟨W4, hW4⟩ : ∃ x, w3.alloc (.cells #[.string q.s, .int .i64 q.y, .int .i64 q.z, .int .i64 q.u] 32) = x := ⟨_, rfl⟩
       have bR : Blk W4 w3.heap.size 32 #[.string q.s, .int .i64 q.y, .int .i64 q.z, .int .i64 q.u] := by rw [← hW4]; exact Blk.new _ _ _ rfl
       have hb4 : Below V1.heap.size V1 W4 := by rw [← hW4]; exact hHeld.2
       have hrW : Rd W4 A2 (mvl l) := by rw [← hW4]; exact hr3.next ((Below.refl _ _).alloc (Nat.le_refl _) _)
       rw [hW4]
       clear hW4
       generalize w3.heap.size = gq at bR ⊢)
    have bQ4 := bQ2.next hb4
    have hrA := hr2.next hb4
    have hB4 := hB2.trans (hb4.mono hB2.size)
    clear hHeld hb4 hS1 hS0 HBZ hb hB3 hz2 hr3 hnew
    generalize w1.heap.size = g1 at bQ4 ⊢
    go_wp2_with fail
    refine (same12 A A2 l n cc cc2 _ hrA hrW HN.out (by omega)).mono ?_
    rintro e w5 ⟨rfl, hb⟩
    have bQ5 := bQ4.next hb
    have bR5 := bR.next hb
    have hB5 := hB4.trans (hb.mono hB4.size)
    clear hb bQ4 bR hB4 hrA hrW hr2 bQ2 hB2
    obtain ⟨q0, q1, q2, q3⟩ := cell4 bQ5
    obtain ⟨r0, r1, r2, r3⟩ := cell4 bR5
    go_wp2_with fail
    refine (live12_any (hE.next hB5) (hT.next hB5)).mono ?_
    rintro e w6 ⟨rfl, hb⟩
    go_wp2
    go_ret
    exact ⟨rfl, hB5.trans (hb.mono hB5.size)⟩
theorem walk (c : ByteArray) (y z u : Int) (s : ByteArray) (w : World) {a0 a1 a2 : Addr} (hE : Errs w a0 a1 a2) (hT : Tab w) : Calls Tryz.prog 5 #[.agg #[.string c, .int .i64 y, .int .i64 z, .int .i64 u], .string s] w (Gives w (.bool true)) := by
  by_cases hc : 200 < c.size ∨ 300 < s.size
  · exact large c y z u s w hE hT hc
  · cases h : lineT ⟨c, y, z, u⟩ s with
    | no k => exact refused c y z u s w hE hT (by omega) (by omega) k h
    | got l q => exact some_ c y z u s w hE hT (by omega) (by omega) l q h
end Go.Proofs.YtmmomgaijgpmmaaGreatDoor.iagain
