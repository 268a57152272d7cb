/- What the calls that write and read a square answer; Print. -/
import Derived.Test.YtpogpjebhnoncabGreatDoorIccsA
namespace Go.Proofs.YtpogpjebhnoncabGreatDoor
open Go.RowKit Go.Shelf
open M (S)

theorem txt2_of (W : World) (g C c d : Nat) (hc : c < 256) (hd : d < 256) (h : W.cell? ⟨g, 0, none⟩ = some (.int .u8 (c : Int))) (k : W.cell? ⟨g, 1, none⟩ = some (.int .u8 (d : Int))) :
    (convert 64 9 (.slice (some ⟨g, 0, none⟩) 2 C)).run Tryz.prog W = .ok (.string ⟨#[UInt8.ofNat c, UInt8.ofNat d]⟩) W :=
  run_convert_bytes_back (P := Tryz.prog) W 64 9 5 ⟨g, 0, none⟩ C [UInt8.ofNat c, UInt8.ofNat d] Tryz.underlying64 Tryz.underlying5 Tryz.underlying9 (fun j hj => by
    have : j = 0 ∨ j = 1 := by simp at hj; omega
    rcases this with rfl | rfl
    · rw [show (Addr.add ⟨g, 0, none⟩ 0) = ⟨g, 0, none⟩ by simp [Addr.add], h]
      simp only [List.getElem_cons_zero]
      rw [UInt8.toNat_ofNat_of_lt' (by omega)]
    · rw [show (Addr.add ⟨g, 0, none⟩ 1) = ⟨g, 1, none⟩ by simp [Addr.add], k]
      simp only [List.getElem_cons_succ, List.getElem_cons_zero]
      rw [UInt8.toNat_ofNat_of_lt' (by omega)])
theorem sqTxtI_of {n : Int} (h : sqI n = true) : sqTxtI n = sqTxt n.toNat := by unfold sqTxtI; rw [if_pos h]
theorem sqTxtI_no {n : Int} (h : sqI n = false) : sqTxtI n = ⟨#[]⟩ := by unfold sqTxtI; rw [h]; rfl
set_option maxHeartbeats 2000000 in
theorem psq_is (n : Int) (t : ByteArray) (w : World) (h : sqTxtI n = t) : Calls Tryz.prog 49 #[.int .i64 n] w (Gives w (.string t)) := by
  unfold Gives
  cases hs : sqI n
  · rw [sqTxtI_no hs] at h
    subst h
    have hf : fileI n = -1 := by unfold fileI; rw [if_neg (fun e => by rw [sqI_iff.2 e] at hs; cases hs)]
    have hr : rankI n = -1 := by unfold rankI; rw [if_neg (fun e => by rw [sqI_iff.2 e] at hs; cases hs)]
    clear hs
    go_enter Tryz.func49, Tryz.ntmps49
    go_wp2_with (first | (go_at_call 75; refine (file_is _ _ _ hf).mono ?_; rintro e w' ⟨rfl, rfl⟩) | (go_at_call 76; refine (rank_is _ _ _ hr).mono ?_; rintro e w' ⟨rfl, rfl⟩))
    go_ret
    exact ⟨rfl, Below.refl _ _⟩
  · rw [sqTxtI_of hs] at h
    obtain ⟨h0, h1⟩ := sqI_iff.1 hs
    obtain ⟨k, rfl⟩ : ∃ k : Nat, n = k := ⟨n.toNat, by omega⟩
    have hk : k < 90 := by omega
    obtain ⟨f, hf0⟩ : ∃ f, k % 9 = f := ⟨_, rfl⟩
    obtain ⟨r, hr0⟩ : ∃ r, k / 9 = r := ⟨_, rfl⟩
    have hf : fileI (k : Int) = (f : Int) := by unfold fileI; rw [if_pos ⟨h0, h1⟩]; omega
    have hr : rankI (k : Int) = (r : Int) := by unfold rankI; rw [if_pos ⟨h0, h1⟩]; omega
    have hf9 : f < 9 := by omega
    have hr10 : r < 10 := by omega
    have ht : (⟨#[UInt8.ofNat (97 + f), UInt8.ofNat (48 + r)]⟩ : ByteArray) = t := by rw [← h, Int.toNat_natCast]; unfold sqTxt; rw [hf0, hr0]
    obtain ⟨x, hx⟩ : ∃ x, 97 + f = x := ⟨_, rfl⟩
    obtain ⟨y, hy⟩ : ∃ y, 48 + r = y := ⟨_, rfl⟩
    rw [hx, hy] at ht
    have i1 : IntKind.u8.wrap (f : Int) = (f : Int) := IntWalk.u8_in _ (by omega)
    have i2 : IntKind.u8.wrap (r : Int) = (r : Int) := IntWalk.u8_in _ (by omega)
    have i3 : IntKind.u8.wrap (97 + (f : Int)) = (x : Int) := by rw [IntWalk.u8_in _ (by omega)]; omega
    have i4 : IntKind.u8.wrap (48 + (r : Int)) = (y : Int) := by rw [IntWalk.u8_in _ (by omega)]; omega
    have hn : decide ((f : Int) < 0) = false := by simp
    have hcv : ∀ (W : World) (g C : Nat), W.cell? ⟨g, 0, none⟩ = some (.int .u8 (x : Int)) → W.cell? ⟨g, 1, none⟩ = some (.int .u8 (y : Int)) → (convert 64 9 (.slice (some ⟨g, 0, none⟩) 2 C)).run Tryz.prog W = .ok (.string t) W := fun W g C h k => by rw [← ht]; exact txt2_of W g C x y (by omega) (by omega) h k
    have HT := Lib.hid ht
    clear ht h hs h0 h1 hf0 hr0 hk hx hy
    go_enter Tryz.func49, Tryz.ntmps49
    go_wp2_with fail
    refine (file_is _ _ _ hf).mono ?_
    rintro e w1 ⟨rfl, rfl⟩
    go_wp2_with fail
    refine (rank_is _ _ _ hr).mono ?_
    rintro e w2 ⟨rfl, rfl⟩
    go_wp2_with fail
    go_ret
    exact ⟨rfl, (by repeat (first | exact Below.refl _ _ | (refine Below.setCell ?_ (by first | omega | (simp; done) | (simp; omega) | (simp at *; omega)) _) | (refine Below.alloc ?_ (by first | omega | (simp; done) | (simp; omega) | (simp at *; omega)) _) | refine Below.drew ?_ | (refine below_drewN ?_ _) | (refine Below.trans ?_ (Below.mono (by assumption) (by first | omega | (simp; done) | (simp; omega) | (simp at *; omega))))))⟩
theorem mv_of {W0 W : World} {p q : Addr} {a b : Int} (h : W0.cell? p = some (.int .i64 a) ∧ W0.cell? q = some (.int .i64 b)) (hp : p.block < W0.heap.size) (hq : q.block < W0.heap.size) (hB : Below W0.heap.size W0 W) : W.cell? p = some (.int .i64 a) ∧ W.cell? q = some (.int .i64 b) ∧ Below W0.heap.size W0 W :=
  ⟨(hB.cell (p := p) hp).trans h.1, (hB.cell (p := q) hq).trans h.2, hB⟩
theorem psq_any (n : Int) (w : World) : Calls Tryz.prog 49 #[.int .i64 n] w (Gives w (.string (sqTxtI n))) := psq_is n _ w rfl
theorem sqTxt_ne (n : Nat) : ¬ (sqTxt n).toList = [] := by
  rw [ByteArray.toList_eq]
  intro e
  cases e
theorem sqTxt_em (n : Nat) : (sqTxt n).toList.isEmpty = false := by
  rw [ByteArray.toList_eq]
  rfl
theorem sqTxtI_size (n : Int) : (sqTxtI n).size ≤ 2 := by
  unfold sqTxtI
  split
  · exact Nat.le_refl 2
  · exact Nat.zero_le 2
set_option maxHeartbeats 4000000 in
theorem print_is (a b : Int) (t : ByteArray) (w : World) (h : printT a b = t) : Calls Tryz.prog 35 #[.agg #[.int .i64 a, .int .i64 b]] w (Gives w (.string t)) := by
  unfold Gives
  obtain ⟨W0, hW0⟩ : ∃ W0, w.alloc (.cells #[.int .i64 a, .int .i64 b] 60) = W0 := ⟨_, rfl⟩
  have hB : Below w.heap.size w W0 := by rw [← hW0]; exact (by repeat (first | exact Below.refl _ _ | (refine Below.setCell ?_ (by first | omega | (simp; done) | (simp; omega) | (simp at *; omega)) _) | (refine Below.alloc ?_ (by first | omega | (simp; done) | (simp; omega) | (simp at *; omega)) _) | refine Below.drew ?_ | (refine below_drewN ?_ _) | (refine Below.trans ?_ (Below.mono (by assumption) (by first | omega | (simp; done) | (simp; omega) | (simp at *; omega))))))
  have bM : Blk W0 w.heap.size 60 #[.int .i64 a, .int .i64 b] := by rw [← hW0]; exact Blk.new _ _ _ rfl
  have HC : Hid (W0.cell? ⟨w.heap.size, 0, none⟩ = some (.int .i64 a) ∧ W0.cell? ⟨w.heap.size, 1, none⟩ = some (.int .i64 b)) := ⟨bM.cell 0, bM.cell 1⟩
  have hlt : w.heap.size < W0.heap.size := bM.lt
  have hS : W0.drew.cell? ⟨w.heap.size, 0, none⟩ = some (.int .i64 a) ∧ W0.drew.cell? ⟨w.heap.size, 1, none⟩ = some (.int .i64 b) ∧ Below W0.heap.size W0 W0.drew := mv_of HC.out hlt hlt (Below.refl _ _).drew
  have HW := Lib.hid hW0
  have HT := Lib.hid h
  have hsa := sqTxtI_size a
  have hsb := sqTxtI_size b
  clear hW0 h bM
  go_enter Tryz.func35, Tryz.ntmps35
  go_wp2_with fail
  rw [HW.out]
  refine wp_region_held_drew (S := fun W => W.cell? ⟨w.heap.size, 0, none⟩ = some (.int .i64 a) ∧ W.cell? ⟨w.heap.size, 1, none⟩ = some (.int .i64 b) ∧ Below W0.heap.size W0 W) (by kernel_rfl) (hS) (fun hHeld => ?_)
  refine wpAnyH_take (i := 0) (oi := { dst := some 5, op := Op.fieldAddr 60 (Operand.tmp 1) 0, type := 0, pos := "iccs.go:31", after := #[], guard := none }) (v := ?_) rfl (by kernel_rfl) (by kernel_rfl) (by kernel_rfl) (fun _ _ _ h => h) (Or.inl ⟨by rfl, ?_⟩) (by assumption) ?_
  case refine_2 =>
    intro w hSw
    (try dsimp only at hSw)
    (try go_simp)
    all_goals (with_reducible rfl)
  (try dsimp only [Act.put]); (try simp only [List.setIfInBounds_toArray, List.set_cons_zero, List.set_cons_succ])
  refine wpAnyH_take (i := 1) (oi := { dst := some 6, op := Op.load 3 (Operand.tmp 5), type := 3, pos := "iccs.go:31", after := #[{ on := 0, ground := Ground.data }], guard := none }) (v := ?_) rfl (by kernel_rfl) (by kernel_rfl) (by kernel_rfl) (fun _ _ _ h => h) (Or.inl ⟨by rfl, ?_⟩) (by assumption) ?_
  case refine_2 =>
    intro w hSw
    (try dsimp only at hSw)
    (try go_simp)
    all_goals (with_reducible rfl)
  (try dsimp only [Act.put]); (try simp only [List.setIfInBounds_toArray, List.set_cons_zero, List.set_cons_succ])
  refine wpAnyH_take (i := 3) (oi := { dst := some 8, op := Op.fieldAddr 60 (Operand.tmp 1) 1, type := 0, pos := "iccs.go:31", after := #[], guard := none }) (v := ?_) rfl (by kernel_rfl) (by kernel_rfl) (by kernel_rfl) (fun _ _ _ h => h) (Or.inl ⟨by rfl, ?_⟩) (by assumption) ?_
  case refine_2 =>
    intro w hSw
    (try dsimp only at hSw)
    (try go_simp)
    all_goals (with_reducible rfl)
  (try dsimp only [Act.put]); (try simp only [List.setIfInBounds_toArray, List.set_cons_zero, List.set_cons_succ])
  refine wpAnyH_take (i := 4) (oi := { dst := some 9, op := Op.load 3 (Operand.tmp 8), type := 3, pos := "iccs.go:31", after := #[{ on := 3, ground := Ground.data }], guard := none }) (v := ?_) rfl (by kernel_rfl) (by kernel_rfl) (by kernel_rfl) (fun _ _ _ h => h) (Or.inl ⟨by rfl, ?_⟩) (by assumption) ?_
  case refine_2 =>
    intro w hSw
    (try dsimp only at hSw)
    (try go_simp)
    all_goals (with_reducible rfl)
  (try dsimp only [Act.put]); (try simp only [List.setIfInBounds_toArray, List.set_cons_zero, List.set_cons_succ])
  refine wpAnyH_ready (rs := [2]) (by kernel_rfl) (by simp) (AllReadyH.cons (o := { dst := some 7, op := Op.call { callee := Callee.value (Operand.func 49), args := #[Operand.tmp 6], argTypes := #[3] }, type := 9, pos := "iccs.go:31", after := #[{ on := 1, ground := Ground.data }], guard := none }) rfl (fun K hK => ?_) AllReadyH.nil)
  go_simp
  refine (psq_any _ _).mono ?_; rintro e w1 ⟨rfl, hb⟩
  refine hK.out _ _ ?_ (fun hHeld => ?_)
  · first | with_reducible assumption | exact mv_of HC.out hlt hlt (hHeld.2.2.trans (hb.mono hHeld.2.2.size)) | exact mv_of HC.out hlt hlt (hS.2.2.trans (hb.mono hS.2.2.size))
  clear hK K
  refine wpAnyH_ready (rs := [5]) (by kernel_rfl) (by simp) (AllReadyH.cons (o := { dst := some 10, op := Op.call { callee := Callee.value (Operand.func 49), args := #[Operand.tmp 9], argTypes := #[3] }, type := 9, pos := "iccs.go:31", after := #[{ on := 4, ground := Ground.data }, { on := 2, ground := Ground.chain }], guard := none }) rfl (fun K hK => ?_) AllReadyH.nil)
  go_simp
  refine (psq_any _ _).mono ?_; rintro e w1 ⟨rfl, hb⟩
  refine hK.out _ _ ?_ (fun hHeld => ?_)
  · first | with_reducible assumption | exact mv_of HC.out hlt hlt (hHeld.2.2.trans (hb.mono hHeld.2.2.size)) | exact mv_of HC.out hlt hlt (hS.2.2.trans (hb.mono hS.2.2.size))
  clear hK K
  refine wpAnyH_take (i := 6) (oi := { dst := some 3, op := Op.assign (Operand.tmp 7), type := 9, pos := "iccs.go:31", after := #[{ on := 2, ground := Ground.data }, { on := 5, ground := Ground.chain }, { on := 0, ground := Ground.phase }, { on := 1, ground := Ground.phase }, { on := 2, ground := Ground.phase }, { on := 3, ground := Ground.textOnly Departure.lateStores }, { on := 4, ground := Ground.textOnly Departure.lateStores }, { on := 5, ground := Ground.textOnly Departure.lateStoresUnsure }], guard := none }) (v := ?_) rfl (by kernel_rfl) (by kernel_rfl) (by kernel_rfl) (fun _ _ _ h => h) (Or.inl ⟨by rfl, ?_⟩) (by assumption) ?_
  case refine_2 =>
    intro w hSw
    (try dsimp only at hSw)
    (try go_simp)
    all_goals (with_reducible rfl)
  (try dsimp only [Act.put]); (try simp only [List.setIfInBounds_toArray, List.set_cons_zero, List.set_cons_succ])
  refine wpAnyH_take (i := 7) (oi := { dst := some 4, op := Op.assign (Operand.tmp 10), type := 9, pos := "iccs.go:31", after := #[{ on := 5, ground := Ground.data }, { on := 6, ground := Ground.chain }, { on := 0, ground := Ground.phase }, { on := 1, ground := Ground.phase }, { on := 2, ground := Ground.phase }, { on := 3, ground := Ground.phase }, { on := 4, ground := Ground.phase }, { on := 5, ground := Ground.phase }, { on := 6, ground := Ground.phase }], guard := none }) (v := ?_) rfl (by kernel_rfl) (by kernel_rfl) (by kernel_rfl) (fun _ _ _ h => h) (Or.inl ⟨by rfl, ?_⟩) (by assumption) ?_
  case refine_2 =>
    intro w hSw
    (try dsimp only at hSw)
    (try go_simp)
    all_goals (with_reducible rfl)
  (try dsimp only [Act.put]); (try simp only [List.setIfInBounds_toArray, List.set_cons_zero, List.set_cons_succ])
  refine wpAnyH_done (by kernel_rfl) ?_ _
  all_goals
    have hBw := hB.trans (hHeld.2.2.mono hB.size)
    have hH := Lib.hid hBw
    clear hHeld hS hB hBw hb
    cases ha : sqI a
    · have e0 : t = ⟨#[]⟩ := by rw [← HT.out]; exact print_none (by rw [ha]; rfl)
      rw [sqTxtI_no ha]
      clear ha
      go_wp2_with fail
      go_ret
      exact ⟨by rw [e0]; rfl, hH.out⟩
    · cases hb2 : sqI b
      · have e0 : t = ⟨#[]⟩ := by rw [← HT.out]; exact print_none (by rw [ha, hb2]; rfl)
        rw [sqTxtI_no hb2, sqTxtI_of ha]
        obtain ⟨x, hx⟩ : ∃ x, sqTxt a.toNat = x := ⟨_, rfl⟩
        have hne : ¬ x.toList = [] := by rw [← hx]; exact sqTxt_ne _
        have hne1 : x.toList.isEmpty = false := by rw [← hx]; exact sqTxt_em _
        rw [hx]
        clear ha hb2 hx
        go_wp2_with fail
        go_ret
        exact ⟨by rw [e0]; rfl, hH.out⟩
      · rw [sqTxtI_of hb2, sqTxtI_of ha]
        obtain ⟨x, hx⟩ : ∃ x, sqTxt a.toNat = x := ⟨_, rfl⟩
        obtain ⟨y, hy⟩ : ∃ y, sqTxt b.toNat = y := ⟨_, rfl⟩
        have hne : ¬ x.toList = [] := by rw [← hx]; exact sqTxt_ne _
        have hne1 : x.toList.isEmpty = false := by rw [← hx]; exact sqTxt_em _
        have hne2 : ¬ y.toList = [] := by rw [← hy]; exact sqTxt_ne _
        have hne3 : y.toList.isEmpty = false := by rw [← hy]; exact sqTxt_em _
        have e0 : x ++ y = t := by rw [← HT.out]; unfold printT; rw [ha, hb2, hx, hy]; rfl
        have hadd : ∀ W, (Op.stringOp .add x y).run Tryz.prog W = .ok (.string t) W := fun W => by
          rw [← e0]
          exact run_string_add_sum _ _ _ (by rw [← hx, ← hy]; show 2 + 2 ≤ _; decide)
        rw [hx, hy]
        clear ha hb2 hx hy e0 hsa hsb
        go_wp2_with fail
        go_ret
        exact ⟨rfl, hH.out⟩
set_option maxHeartbeats 4000000 in
theorem rletter_any (c : Nat) (w : World) : Calls Tryz.prog 145 #[.int .u8 (c : Int)] w (Says w (.int .i64 (letF c))) := by
  unfold Says
  by_cases h1 : 65 ≤ c ∧ c ≤ 73
  · have : c = 65 ∨ c = 66 ∨ c = 67 ∨ c = 68 ∨ c = 69 ∨ c = 70 ∨ c = 71 ∨ c = 72 ∨ c = 73 := by omega
    rcases this with rfl | rfl | rfl | rfl | rfl | rfl | rfl | rfl | rfl
    all_goals
      clear h1
      go_enter Tryz.func145, Tryz.ntmps145
      go_wp2
      go_ret
      exact ⟨rfl, rfl⟩
  · by_cases h2 : 97 ≤ c ∧ c ≤ 105
    · have : c = 97 ∨ c = 98 ∨ c = 99 ∨ c = 100 ∨ c = 101 ∨ c = 102 ∨ c = 103 ∨ c = 104 ∨ c = 105 := by omega
      rcases this with rfl | rfl | rfl | rfl | rfl | rfl | rfl | rfl | rfl
      all_goals
        clear h1 h2
        go_enter Tryz.func145, Tryz.ntmps145
        go_wp2
        go_ret
        exact ⟨rfl, rfl⟩
    · have e : letF c = -1 := by unfold letF; rw [if_neg h2, if_neg h1]
      rw [e]
      have a0 : ¬ (c : Int) = 65 := by omega
      have a1 : ¬ (c : Int) = 66 := by omega
      have a2 : ¬ (c : Int) = 67 := by omega
      have a3 : ¬ (c : Int) = 68 := by omega
      have a4 : ¬ (c : Int) = 69 := by omega
      have a5 : ¬ (c : Int) = 70 := by omega
      have a6 : ¬ (c : Int) = 71 := by omega
      have a7 : ¬ (c : Int) = 72 := by omega
      have a8 : ¬ (c : Int) = 73 := by omega
      have b0 : ¬ (c : Int) = 97 := by omega
      have b1 : ¬ (c : Int) = 98 := by omega
      have b2 : ¬ (c : Int) = 99 := by omega
      have b3 : ¬ (c : Int) = 100 := by omega
      have b4 : ¬ (c : Int) = 101 := by omega
      have b5 : ¬ (c : Int) = 102 := by omega
      have b6 : ¬ (c : Int) = 103 := by omega
      have b7 : ¬ (c : Int) = 104 := by omega
      have b8 : ¬ (c : Int) = 105 := by omega
      clear h1 h2 e
      go_enter Tryz.func145, Tryz.ntmps145
      go_wp2
      go_ret
      exact ⟨rfl, rfl⟩
theorem rletter_is (c : Nat) (v : Int) (w : World) (h : letF c = v) : Calls Tryz.prog 145 #[.int .u8 (c : Int)] w (Says w (.int .i64 v)) := by subst h; exact rletter_any c w
set_option maxHeartbeats 2000000 in
theorem rsq_any (s : ByteArray) (c d : Nat) (w : World) (hs : 2 ≤ s.size) (hc : bAt s 0 = c) (hd : bAt s 1 = d) : Calls Tryz.prog 122 #[.string s] w (Gives w (.int .i64 (sqT c d))) := by
  unfold Gives
  have s0 : (0 : Int) < s.size := by omega
  have s1 : (1 : Int) < s.size := by omega
  have e0 : (s[0]'(by omega)).toNat = c := by rw [← hc]; exact bAt_eq s 0 (by omega)
  have e1 : (s[1]'(by omega)).toNat = d := by rw [← hd]; exact bAt_eq s 1 (by omega)
  obtain ⟨f, hf⟩ : ∃ f, letF c = f := ⟨_, rfl⟩
  have hd256 : d < 256 := by rw [← hd]; exact bAt_lt s 1
  have i0 : IntKind.i64.wrap (d : Int) = (d : Int) := IntWalk.i64_in _ (by omega)
  have i1 : IntKind.i64.wrap ((d : Int) - 48) = (d : Int) - 48 := IntWalk.i64_in _ (by omega)
  have HQ : Hid (squareI f ((d : Int) - 48) = sqT c d) := by show _ = _; unfold sqT; rw [hf]
  have HF := Lib.hid hf
  clear hc hd hf
  go_enter Tryz.func122, Tryz.ntmps122
  go_wp2_with fail
  go_region_with (first | (go_at_call 145; refine (rletter_is _ _ _ HF.out).mono ?_; rintro e w' ⟨rfl, rfl⟩) | (go_at_call 144; refine (square_is _ _ _ _ HQ.out).mono ?_; rintro e w' ⟨rfl, rfl⟩))
  all_goals
    go_wp2
    go_ret
    exact ⟨rfl, (by repeat (first | exact Below.refl _ _ | (refine Below.setCell ?_ (by first | omega | (simp; done) | (simp; omega) | (simp at *; omega)) _) | (refine Below.alloc ?_ (by first | omega | (simp; done) | (simp; omega) | (simp at *; omega)) _) | refine Below.drew ?_ | (refine below_drewN ?_ _) | (refine Below.trans ?_ (Below.mono (by assumption) (by first | omega | (simp; done) | (simp; omega) | (simp at *; omega))))))⟩
end Go.Proofs.YtpogpjebhnoncabGreatDoor
