/- What guard's Guarded answers. -/
import Derived.Test.YtnkbilikkbaeeaaGreatDoorGuardD
namespace Go.Proofs.YtnkbilikkbaeeaaGreatDoor
open Go.RowKit Go.Shelf
open M (S)
attribute [local go_sem] Oper.semAt_some

theorem guard_side {s : ByteArray} {a b : Int} (h : couldI s (sideN (atB s a)) a b = true) : isB s = true ∧ (0 ≤ a ∧ a < 90) ∧ (0 ≤ b ∧ b < 90) ∧ atB s a = bAt s a.toNat ∧ couldB s (sideN (bAt s a.toNat)) a.toNat b.toNat = true := by
  obtain ⟨h1, h2, h3, h4⟩ := couldI_parts h
  have e : atB s a = bAt s a.toNat := by
    unfold atB
    rw [if_pos ⟨h1, sqI_true h2⟩]
  rw [e] at h4
  exact ⟨h1, h2, h3, e, h4⟩
theorem guard_none {s : ByteArray} {a b : Int} (h : couldI s (sideN (atB s a)) a b = false) : guardI s a b = false := by
  cases e : guardI s a b
  · rfl
  · have h1 := guardI_could e
    obtain ⟨g1, g2, _, _⟩ := couldI_parts h1
    have e2 : atB s a = bAt s a.toNat := by
      unfold atB
      rw [if_pos ⟨g1, sqI_true g2⟩]
    rw [e2, h1] at h
    cases h
theorem go_one (s : ByteArray) (side : Int) (b n : Nat) : goG s side [b] n = if couldB s side n b then [(n, b)] else [] := by
  unfold goG
  cases h : couldB s side n b <;> simp [h]
theorem go_again {q : ByteArray} (hq : isB q = true) {z : Int} (hz : 0 ≤ z) (b : Nat) : againB q z b = !(goL q z [b]).isEmpty := by
  rw [gone_one hz]
  unfold goL ownL
  rw [if_pos hq]
  generalize ownN q z = l
  induction l with
  | nil => rfl
  | cons x r ih =>
    rw [List.any_cons, List.flatMap_cons, ih, go_one]
    cases couldB q z x b <;> simp
set_option maxRecDepth 100000 in
set_option maxHeartbeats 4000000 in
theorem gguard_no (s : ByteArray) (a b : Int) (c : Nat) (y : Int) (w : World) (hT : Tab w) (hc : atB s a = c) (hy : sideN c = y) (h : couldI s y a b = false) : Calls Tryz.prog 127 #[.string s, .agg #[.int .i64 a, .int .i64 b]] w (Gives w (.bool false)) := by
  unfold Gives
  obtain ⟨W0, hW0⟩ : ∃ W0, (w.alloc (.cells #[.int .i64 a, .int .i64 b] 28)).alloc (.cells #[.bool false] 4) = W0 := ⟨_, rfl⟩
  have hB : Below w.heap.size w W0 := by rw [← hW0]; exact (by repeat (first | exact Below.refl _ _ | (refine Below.setCell ?_ (by first | omega | (simp; done) | (simp; omega) | (simp at *; omega)) _) | (refine Below.alloc ?_ (by first | omega | (simp; done) | (simp; omega) | (simp at *; omega)) _) | refine Below.drew ?_ | (refine below_drewN ?_ _) | (refine Below.trans ?_ (Below.mono (by assumption) (by first | omega | (simp; done) | (simp; omega) | (simp at *; omega))))))
  have bM : Blk W0 w.heap.size 28 #[.int .i64 a, .int .i64 b] := by rw [← hW0]; exact (Blk.new _ _ _ rfl).alloc _
  have bR : Blk W0 (w.heap.size + 1) 4 #[.bool false] := by rw [← hW0]; exact Blk.new _ _ _ (by simp)
  have m0 : W0.cell? ⟨w.heap.size, 0, none⟩ = some (.int .i64 a) := bM.cell 0
  have m1 : W0.cell? ⟨w.heap.size, 1, none⟩ = some (.int .i64 b) := bM.cell 1
  have hT0 := hT.below hB hT.lt
  have HW := Lib.hid hW0
  have HC := Lib.hid hc
  have HY := Lib.hid hy
  have HN := Lib.hid h
  clear hW0 hc hy h
  go_enter Tryz.func127, Tryz.ntmps127
  go_wp2_with fail
  rw [HW.out]
  refine (at_is s a c _ HC.out).mono ?_
  rintro e w1 ⟨rfl, rfl⟩
  go_wp2_with fail
  refine (side_is c y _ HY.out).mono ?_
  rintro e w1 ⟨rfl, rfl⟩
  go_wp2_with fail
  refine (gcan_is s y a b false _ hT0 HN.out).mono ?_
  rintro e w2 ⟨rfl, hb⟩
  have bR2 := bR.next hb
  have r0 : w2.cell? ⟨w.heap.size + 1, 0, none⟩ = some (.bool false) := bR2.cell 0
  have f0 := bR2.frozen 0
  have hB2 := hB.trans (hb.mono hB.size)
  clear m0 m1
  go_wp2
  have bR3 := bR2.set_ 0 (.bool false)
  exact bodyPost_ret (v := .bool false) (by simp [results, Tryz.results127, go_sem, bR3.cell 0]) rfl ⟨rfl, hB2.setCell (p := ⟨w.heap.size + 1, 0, none⟩) (by simp) _⟩
theorem gother_g (side k : Int) (w : World) (h0 : 0 ≤ side) (h1 : side ≤ 1) (hk : 1 - side = k) : Calls Tryz.prog 49 #[.int .i64 side] w (Gives w (.int .i64 k)) := (gother_is side k w h0 h1 hk).mono fun _ _ ⟨a, b⟩ => ⟨a, b ▸ Below.refl _ _⟩
theorem hide_calm {F : Fence} {n : Nat} {P : Program} {c : Code} {Q : Exit → Act → World → Prop} {a : Act} {w : World} (h : ∀ Q' : Exit → Act → World → Prop, (∀ e a w, (∀ x, e ≠ .panic x) → Q e a w → Q' e a w) → (∀ x a w, ¬ Q' (.panic x) a w) → c.wpIn F n P Q' a w) : c.wpIn F n P Q a w :=
  wpIn_mono (h (fun e a w => (∀ x, e ≠ .panic x) ∧ Q e a w) (fun _ _ _ h1 h2 => ⟨h1, h2⟩) (fun x _ _ h => h.1 x rfl)) fun _ _ _ h => h.2
/-- What lies where the moves are about to be gone through. -/
structure Laid3 (w w' : World) (q : ByteArray) (z : Int) (A : Option Addr) (n c : Nat) : Prop where
  hb : Below w.heap.size w w'
  bc : Blk w' w.heap.size 9 #[.string q]
  bs : Blk w' (w.heap.size + 1) 3 #[.int .i64 z]
  bg : Blk w' (w.heap.size + 1 + 1) 23 #[.slice A n c]
  sz : w'.heap.size = w.heap.size + 1 + 1 + 1
theorem moves_laid {w4 w5 : World} {q : ByteArray} {z : Int} {g b T : Nat} (hl : Laid3 w4 w5 q z (some ⟨g, 0, none⟩) 1 1) (bG : Blk w5 g 3 #[.int .i64 (b : Int)]) (bR : Blk w5 T 4 #[.bool false]) (hT : Tab w5) (hTl : T < w4.heap.size) (hg : 0 < T) : MovesAt w5 w4.heap.size T w5.heap.size q z (some ⟨g, 0, none⟩) [b] 1 := by
  have hs := hl.sz
  refine ⟨hl.bc, hl.bs, hl.bg, rd_lit (xs := [(b : Int)]) bG, fun ad e => ?_, hT, hTl, by omega, hg⟩
  cases e
  refine ⟨bG.lt, ?_⟩
  rintro rfl
  have h := bR.symm.trans bG
  injection h with h
  injection h with _ h2 _
  exact absurd h2 (by decide)
/-- A range over a function whose loop variable is set by no code. -/
theorem wpIn_rangeFunc_skip {α : Type} {F : Fence} {n : Nat} {P : Program} {g : Operand} {ps : Array Tmp} {body : Code} {Q : Exit → Act → World → Prop} {a : Act} {w : World}
    (hro : F.round = none) (h1 : 1 ≤ n) {gf : Nat} {lb : Array Value} (hg : a.eval g = .func (.func gf) #[] lb) (hFg : F.fn gf) (eg : ∀ args w, (callFunc gf args).run P w = .ok (.enter gf args) w)
    {encs : α → Array Value} {Kp : World → World → Prop} {S Sp : List α → Prop} {N : Nat} {w0 : World} (hseq : SeqStopsK F (n - 1) P gf lb encs Kp S Sp N w0)
    (hKt : ∀ {A B C : World}, Kp A B → Kp B C → Kp A C) (hKb : ∀ (W : World) (l : Nat) (o o' : Obj), w.heap.size ≤ l → W.heap[l]? = some o → o.isCells = false → o.isWalk = false → Kp W (W.putObj l o')) (hb0 : Below w0.heap.size w0 w) (hps : ∀ x, (encs x).size = ps.size)
    (I : List α → World → Prop) (Ix : Code → List α → World → Prop) (hI : OwnFrom w.heap.size I) (hIx : ∀ c, OwnFrom w.heap.size (Ix c)) (h0 : I [] w)
    (hbody : ∀ (l : Nat) (pre : List α) (x : α) (W : World), I pre W → pre.length < N → body.wpIn (F.inRound l) (n - 1 - 1) P (ownPostG w.heap.size Kp I Ix (pre ++ [x]) W) { tmps := (ps.zip (encs x)).foldl (fun t (p, v) => t.setIfInBounds p v) a.tmps, defers := [] } W)
    (hdone : ∀ (D : Nat) (xs : List α) (W : World), w.heap.size ≤ D → S xs → I xs W → W.heap[D]? = some (.deferred (some [])) → Q .normal { a with defers := { target := .collected D, args := #[] } :: a.defers } W)
    (hstop : ∀ (D : Nat) (c : Code) (pre : List α) (W : World), w.heap.size ≤ D → Sp pre → Ix c pre W → W.heap[D]? = some (.deferred (some [])) → c.wpIn F n P Q { a with defers := { target := .collected D, args := #[] } :: a.defers } W) :
    (Code.rangeFunc g ps .skip body).wpIn F n P Q a w :=
  wpIn_rangeFunc_ownG hro h1 hg hFg eg hseq (fun h k => hKt h k) hKb hb0 hps I Ix hI hIx h0 (fun x => { tmps := (ps.zip (encs x)).foldl (fun t (p, v) => t.setIfInBounds p v) a.tmps, defers := [] }) (fun _ _ _ _ hK => wpIn_skip hK) hbody hdone hstop
theorem gmoves_at (q : ByteArray) (z : Int) (A : Option Addr) (n c : Nat) (w : World) : Calls Tryz.prog 47 #[.string q, .int .i64 z, .slice A n c] w fun e w' => e = .returned (.func (.func 83) #[] #[.pointer (some ⟨w.heap.size, 0, none⟩), .pointer (some ⟨w.heap.size + 1, 0, none⟩), .pointer (some ⟨w.heap.size + 1 + 1, 0, none⟩)]) ∧ Laid3 w w' q z A n c := by
  refine (gmoves_is q z A n c w).mono ?_
  rintro e w' ⟨rfl, rfl⟩
  exact ⟨rfl, ⟨(by repeat (first | exact Below.refl _ _ | (refine Below.setCell ?_ (by first | omega | (simp; done) | (simp; omega) | (simp at *; omega)) _) | (refine Below.alloc ?_ (by first | omega | (simp; done) | (simp; omega) | (simp at *; omega)) _) | refine Below.drew ?_ | (refine below_drewN ?_ _) | (refine Below.trans ?_ (Below.mono (by assumption) (by first | omega | (simp; done) | (simp; omega) | (simp at *; omega)))))), ((Blk.new _ _ _ rfl).alloc _).alloc _, (Blk.new _ _ _ (by simp)).alloc _, Blk.new _ _ _ (by simp), by simp⟩⟩
theorem goal_new {w W : World} {g b : Nat} {p0 p1 : Value} (_ : W.cell? ⟨g, 0, none⟩ = some p0 ∧ W.cell? ⟨g, 1, none⟩ = some p1 ∧ Below w.heap.size w W) : Blk (W.alloc (.cells #[.int .i64 (b : Int)] 3)) W.heap.size 3 #[.int .i64 (b : Int)] := Blk.new _ _ _ rfl
theorem goal_keep {w W : World} {g : Nat} {p0 p1 : Value} {o : Obj} (h : W.cell? ⟨g, 0, none⟩ = some p0 ∧ W.cell? ⟨g, 1, none⟩ = some p1 ∧ Below w.heap.size w W) : (W.alloc o).cell? ⟨g, 0, none⟩ = some p0 ∧ (W.alloc o).cell? ⟨g, 1, none⟩ = some p1 ∧ Below w.heap.size w (W.alloc o) := mv2_keep h (below_new W o)
set_option maxRecDepth 100000 in
set_option maxHeartbeats 8000000 in
theorem gguard_in (s q : ByteArray) (a b c : Nat) (y z : Int) (v : Bool) (w : World) (hT : Tab w) (hs : isB s = true) (ha : a < 90) (hb9 : b < 90) (hc : atB s (a : Int) = c) (hy : sideN c = y) (h : couldI s y (a : Int) (b : Int) = true) (hy0 : 0 ≤ y) (hy1 : y ≤ 1) (hz : 1 - y = z) (hq : behindS s (a, b) = q) (hqb : isB q = true) (hv : againB q z b = v) :
    CallsIn Fence.wide 5 Tryz.prog 127 #[.string s, .agg #[.int .i64 (a : Int), .int .i64 (b : Int)]] w fun e W' => e = .returned (.bool v) ∧ Below w.heap.size w W' := by
  have hro : Fence.wide.round = none := rfl
  have hg := hT.lt
  obtain ⟨W0, hW0⟩ : ∃ W0, (w.alloc (.cells #[.int .i64 (a : Int), .int .i64 (b : Int)] 28)).alloc (.cells #[.bool false] 4) = W0 := ⟨_, rfl⟩
  have hB : Below w.heap.size w W0 := by rw [← hW0]; exact (by repeat (first | exact Below.refl _ _ | (refine Below.setCell ?_ (by first | omega | (simp; done) | (simp; omega) | (simp at *; omega)) _) | (refine Below.alloc ?_ (by first | omega | (simp; done) | (simp; omega) | (simp at *; omega)) _) | refine Below.drew ?_ | (refine below_drewN ?_ _) | (refine Below.trans ?_ (Below.mono (by assumption) (by first | omega | (simp; done) | (simp; omega) | (simp at *; omega))))))
  have bM : Blk W0 w.heap.size 28 #[.int .i64 (a : Int), .int .i64 (b : Int)] := by rw [← hW0]; exact (Blk.new _ _ _ rfl).alloc _
  have bR : Blk W0 (w.heap.size + 1) 4 #[.bool false] := by rw [← hW0]; exact Blk.new _ _ _ (by simp)
  have m0 : W0.cell? ⟨w.heap.size, 0, none⟩ = some (.int .i64 (a : Int)) := bM.cell 0
  have m1 : W0.cell? ⟨w.heap.size, 1, none⟩ = some (.int .i64 (b : Int)) := bM.cell 1
  have hsz0 : W0.heap.size = w.heap.size + 1 + 1 := by rw [← hW0]; simp
  have hT0 := hT.below hB hT.lt
  have HW := Lib.hid hW0
  have HC := Lib.hid hc
  have HY := Lib.hid hy
  have HN := Lib.hid h
  have HZ := Lib.hid hz
  have HS0 := Lib.hid hsz0
  have HMV := Lib.hid (fun W => gmoved_is s q a b W hs ha hb9 hq)
  have HV : Hid ((!(goL q z [b]).isEmpty) = v) := by
    show _ = _
    rw [← go_again hqb (by omega), hv]
  clear hW0 hc hy h hz hq hs hv hsz0
  refine callsIn_of_wp_marks Tryz.func127 rfl trivial ?_ hro
  simp only [Tryz.ntmps127, List.size_toArray, List.length_cons, List.length_nil, Nat.reduceAdd, Nat.reduceSub, Array.replicate_succ, Array.replicate_zero, List.push_toArray, List.append_toArray, List.nil_append, List.cons_append]
  refine hide_calm fun Q hQ hpn => ?_
  gi_wp2_with (first
    | (refine ⟨trivial, ?_⟩; gi_at_call 19; rw [HW.out]; refine (callsIn_wide.2 (at_is s _ c _ HC.out)).mono ?_; rintro e w1 ⟨rfl, rfl⟩)
    | (refine ⟨trivial, ?_⟩; gi_at_call 20; refine (callsIn_wide.2 (side_is c y _ HY.out)).mono ?_; rintro e w1 ⟨rfl, rfl⟩)
    | (refine ⟨trivial, ?_⟩; gi_at_call 84; refine (callsIn_wide.2 (gcan_is s y a b true _ hT0 HN.out)).mono ?_; rintro e w2 ⟨rfl, hb⟩))
  have hB2 := hB.trans (hb.mono hB.size)
  have hS : w2.drew.cell? ⟨w.heap.size, 0, none⟩ = some (.int .i64 (a : Int)) ∧ w2.drew.cell? ⟨w.heap.size, 1, none⟩ = some (.int .i64 (b : Int)) ∧ Below w.heap.size w w2.drew := ⟨(bM.next hb).cell 0, (bM.next hb).cell 1, hB2.drew⟩
  have bR2 : Blk w2.drew (w.heap.size + 1) 4 #[.bool false] := (bR.next hb).next (Below.refl _ _).drew
  clear m0 m1 bM bR hB hT0
  refine wpIn_wide.2 ?_
  refine wp_region_held_drew (S := fun W => W.cell? ⟨w.heap.size, 0, none⟩ = some (.int .i64 (a : Int)) ∧ W.cell? ⟨w.heap.size, 1, none⟩ = some (.int .i64 (b : Int)) ∧ Below w.heap.size w W) (by kernel_rfl) (hS) (fun hHeld => ?_)
  refine wpAnyH_take (i := 0) (oi := { dst := some 16, op := Op.move (Operand.tmp 0), type := 9, pos := "guard.go:30", after := #[], guard := none }) (v := ?_) rfl (by kernel_rfl) (by kernel_rfl) (by kernel_rfl) (fun _ _ _ h => (hpn _ _ _ h).elim) (Or.inl ⟨by rfl, ?_⟩) (by assumption) ?_
  case refine_2 =>
    intro w hSw
    (try dsimp only at hSw)
    (try go_simp)
    all_goals (with_reducible rfl)
  (try dsimp only [Act.put]); (try simp only [List.setIfInBounds_toArray, List.set_cons_zero, List.set_cons_succ])
  refine wpAnyH_take (i := 1) (oi := { dst := some 17, op := Op.load 28 (Operand.tmp 3), type := 28, pos := "guard.go:30", after := #[], guard := none }) (v := ?_) rfl (by kernel_rfl) (by kernel_rfl) (by kernel_rfl) (fun _ _ _ h => (hpn _ _ _ h).elim) (Or.inl ⟨by rfl, ?_⟩) (by assumption) ?_
  case refine_2 =>
    intro w hSw
    (try dsimp only at hSw)
    (try go_simp)
    all_goals (with_reducible rfl)
  (try dsimp only [Act.put]); (try simp only [List.setIfInBounds_toArray, List.set_cons_zero, List.set_cons_succ])
  refine wpAnyH_take (i := 3) (oi := { dst := some 19, op := Op.move (Operand.tmp 5), type := 3, pos := "guard.go:30", after := #[], guard := none }) (v := ?_) rfl (by kernel_rfl) (by kernel_rfl) (by kernel_rfl) (fun _ _ _ h => (hpn _ _ _ h).elim) (Or.inl ⟨by rfl, ?_⟩) (by assumption) ?_
  case refine_2 =>
    intro w hSw
    (try dsimp only at hSw)
    (try go_simp)
    all_goals (with_reducible rfl)
  (try dsimp only [Act.put]); (try simp only [List.setIfInBounds_toArray, List.set_cons_zero, List.set_cons_succ])
  refine wpAnyH_take (i := 5) (oi := { dst := some 21, op := Op.fieldAddr 28 (Operand.tmp 3) 1, type := 0, pos := "guard.go:30", after := #[], guard := none }) (v := ?_) rfl (by kernel_rfl) (by kernel_rfl) (by kernel_rfl) (fun _ _ _ h => (hpn _ _ _ h).elim) (Or.inl ⟨by rfl, ?_⟩) (by assumption) ?_
  case refine_2 =>
    intro w hSw
    (try dsimp only at hSw)
    (try go_simp)
    all_goals (with_reducible rfl)
  (try dsimp only [Act.put]); (try simp only [List.setIfInBounds_toArray, List.set_cons_zero, List.set_cons_succ])
  refine wpAnyH_take (i := 6) (oi := { dst := some 22, op := Op.load 3 (Operand.tmp 21), type := 3, pos := "guard.go:30", after := #[{ on := 5, ground := Ground.data }], guard := none }) (v := ?_) rfl (by kernel_rfl) (by kernel_rfl) (by kernel_rfl) (fun _ _ _ h => (hpn _ _ _ h).elim) (Or.inl ⟨by rfl, ?_⟩) (by assumption) ?_
  case refine_2 =>
    intro w hSw
    (try dsimp only at hSw)
    (try go_simp)
    all_goals (with_reducible rfl)
  (try dsimp only [Act.put]); (try simp only [List.setIfInBounds_toArray, List.set_cons_zero, List.set_cons_succ])
  refine wpAnyH_ready (rs := [2, 7]) (by kernel_rfl) (by simp) (AllReadyH.cons (o := { dst := some 18, op := Op.call { callee := Callee.value (Operand.func 125), args := #[Operand.tmp 16, Operand.tmp 17], argTypes := #[9, 28] }, type := 9, pos := "guard.go:30", after := #[{ on := 0, ground := Ground.data }, { on := 1, ground := Ground.data }], guard := none }) rfl (fun K hK => ?rd1) (AllReadyH.cons (o := { dst := some 23, op := Op.buildSlice 23 1 #[(0, Operand.tmp 22)], type := 23, pos := "guard.go:30", after := #[{ on := 6, ground := Ground.data }], guard := none }) rfl (fun K hK => ?rd2) AllReadyH.nil))
  case' rd1 =>
    go_simp
    refine (HMV.out _).mono ?_; rintro e w3 ⟨rfl, hb⟩; replace bR2 := bR2.next hb; (try replace bG := bG.next hb)
    refine hK.out _ _ ?_ (fun hHeld => ?_)
    · exact mv2_keep hHeld hb
    clear hK K
    refine wpAnyH_ready (rs := [4, 7]) (by kernel_rfl) (by simp) (AllReadyH.cons (o := { dst := some 20, op := Op.call { callee := Callee.value (Operand.func 49), args := #[Operand.tmp 19], argTypes := #[3] }, type := 3, pos := "guard.go:30", after := #[{ on := 3, ground := Ground.data }, { on := 2, ground := Ground.chain }], guard := none }) rfl (fun K hK => ?rd3) (AllReadyH.cons (o := { dst := some 23, op := Op.buildSlice 23 1 #[(0, Operand.tmp 22)], type := 23, pos := "guard.go:30", after := #[{ on := 6, ground := Ground.data }], guard := none }) rfl (fun K hK => ?rd4) AllReadyH.nil))
    case' rd3 =>
      go_simp
      refine (gother_g y z _ hy0 hy1 HZ.out).mono ?_; rintro e w4 ⟨rfl, hb⟩; replace bR2 := bR2.next hb; (try replace bG := bG.next hb)
      refine hK.out _ _ ?_ (fun hHeld => ?_)
      · exact mv2_keep hHeld hb
      clear hK K
      refine wpAnyH_ready (rs := [7]) (by kernel_rfl) (by simp) (AllReadyH.cons (o := { dst := some 23, op := Op.buildSlice 23 1 #[(0, Operand.tmp 22)], type := 23, pos := "guard.go:30", after := #[{ on := 6, ground := Ground.data }], guard := none }) rfl (fun K hK => ?_) AllReadyH.nil)
      go_simp; have bG := goal_new (b := b) hHeld; replace bR2 := bR2.next (below_new _ (.cells #[.int .i64 (b : Int)] 3))
      refine hK.out _ _ ?_ (fun hHeld => ?_)
      · exact goal_keep hHeld
      clear hK K
      (try dsimp only [Act.put]); (try simp only [List.setIfInBounds_toArray, List.set_cons_zero, List.set_cons_succ])
      refine wpAnyH_ready (rs := [8]) (by kernel_rfl) (by simp) (AllReadyH.cons (o := { dst := some 24, op := Op.call { callee := Callee.value (Operand.func 47), args := #[Operand.tmp 18, Operand.tmp 20, Operand.tmp 23], argTypes := #[9, 3, 23] }, type := 74, pos := "guard.go:30", after := #[{ on := 2, ground := Ground.data }, { on := 4, ground := Ground.data }, { on := 7, ground := Ground.data }, { on := 4, ground := Ground.chain }], guard := none }) rfl (fun K hK => ?_) AllReadyH.nil)
      go_simp
      refine (gmoves_at q z _ 1 1 _).mono ?_; rintro e w5 ⟨rfl, hl3⟩; have hb := hl3.hb; have hTl := bR2.lt; replace bR2 := bR2.next hb; have bG3 := bG.next hb
      refine hK.out _ _ ?_ (fun hHeld => ?_)
      · exact mv2_keep hHeld hb
      clear hK K
      refine wpAnyH_done (by kernel_rfl) ?_ _
    case' rd4 =>
      go_simp; have bG := goal_new (b := b) hHeld; replace bR2 := bR2.next (below_new _ (.cells #[.int .i64 (b : Int)] 3))
      refine hK.out _ _ ?_ (fun hHeld => ?_)
      · exact goal_keep hHeld
      clear hK K
      (try dsimp only [Act.put]); (try simp only [List.setIfInBounds_toArray, List.set_cons_zero, List.set_cons_succ])
      refine wpAnyH_ready (rs := [4]) (by kernel_rfl) (by simp) (AllReadyH.cons (o := { dst := some 20, op := Op.call { callee := Callee.value (Operand.func 49), args := #[Operand.tmp 19], argTypes := #[3] }, type := 3, pos := "guard.go:30", after := #[{ on := 3, ground := Ground.data }, { on := 2, ground := Ground.chain }], guard := none }) rfl (fun K hK => ?_) AllReadyH.nil)
      go_simp
      refine (gother_g y z _ hy0 hy1 HZ.out).mono ?_; rintro e w4 ⟨rfl, hb⟩; replace bR2 := bR2.next hb; (try replace bG := bG.next hb)
      refine hK.out _ _ ?_ (fun hHeld => ?_)
      · exact mv2_keep hHeld hb
      clear hK K
      refine wpAnyH_ready (rs := [8]) (by kernel_rfl) (by simp) (AllReadyH.cons (o := { dst := some 24, op := Op.call { callee := Callee.value (Operand.func 47), args := #[Operand.tmp 18, Operand.tmp 20, Operand.tmp 23], argTypes := #[9, 3, 23] }, type := 74, pos := "guard.go:30", after := #[{ on := 2, ground := Ground.data }, { on := 4, ground := Ground.data }, { on := 7, ground := Ground.data }, { on := 4, ground := Ground.chain }], guard := none }) rfl (fun K hK => ?_) AllReadyH.nil)
      go_simp
      refine (gmoves_at q z _ 1 1 _).mono ?_; rintro e w5 ⟨rfl, hl3⟩; have hb := hl3.hb; have hTl := bR2.lt; replace bR2 := bR2.next hb; have bG3 := bG.next hb
      refine hK.out _ _ ?_ (fun hHeld => ?_)
      · exact mv2_keep hHeld hb
      clear hK K
      refine wpAnyH_done (by kernel_rfl) ?_ _
  case' rd2 =>
    go_simp; have bG := goal_new (b := b) hHeld; replace bR2 := bR2.next (below_new _ (.cells #[.int .i64 (b : Int)] 3))
    refine hK.out _ _ ?_ (fun hHeld => ?_)
    · exact goal_keep hHeld
    clear hK K
    (try dsimp only [Act.put]); (try simp only [List.setIfInBounds_toArray, List.set_cons_zero, List.set_cons_succ])
    refine wpAnyH_ready (rs := [2]) (by kernel_rfl) (by simp) (AllReadyH.cons (o := { dst := some 18, op := Op.call { callee := Callee.value (Operand.func 125), args := #[Operand.tmp 16, Operand.tmp 17], argTypes := #[9, 28] }, type := 9, pos := "guard.go:30", after := #[{ on := 0, ground := Ground.data }, { on := 1, ground := Ground.data }], guard := none }) rfl (fun K hK => ?_) AllReadyH.nil)
    go_simp
    refine (HMV.out _).mono ?_; rintro e w3 ⟨rfl, hb⟩; replace bR2 := bR2.next hb; (try replace bG := bG.next hb)
    refine hK.out _ _ ?_ (fun hHeld => ?_)
    · exact mv2_keep hHeld hb
    clear hK K
    refine wpAnyH_ready (rs := [4]) (by kernel_rfl) (by simp) (AllReadyH.cons (o := { dst := some 20, op := Op.call { callee := Callee.value (Operand.func 49), args := #[Operand.tmp 19], argTypes := #[3] }, type := 3, pos := "guard.go:30", after := #[{ on := 3, ground := Ground.data }, { on := 2, ground := Ground.chain }], guard := none }) rfl (fun K hK => ?_) AllReadyH.nil)
    go_simp
    refine (gother_g y z _ hy0 hy1 HZ.out).mono ?_; rintro e w4 ⟨rfl, hb⟩; replace bR2 := bR2.next hb; (try replace bG := bG.next hb)
    refine hK.out _ _ ?_ (fun hHeld => ?_)
    · exact mv2_keep hHeld hb
    clear hK K
    refine wpAnyH_ready (rs := [8]) (by kernel_rfl) (by simp) (AllReadyH.cons (o := { dst := some 24, op := Op.call { callee := Callee.value (Operand.func 47), args := #[Operand.tmp 18, Operand.tmp 20, Operand.tmp 23], argTypes := #[9, 3, 23] }, type := 74, pos := "guard.go:30", after := #[{ on := 2, ground := Ground.data }, { on := 4, ground := Ground.data }, { on := 7, ground := Ground.data }, { on := 4, ground := Ground.chain }], guard := none }) rfl (fun K hK => ?_) AllReadyH.nil)
    go_simp
    refine (gmoves_at q z _ 1 1 _).mono ?_; rintro e w5 ⟨rfl, hl3⟩; have hb := hl3.hb; have hTl := bR2.lt; replace bR2 := bR2.next hb; have bG3 := bG.next hb
    refine hK.out _ _ ?_ (fun hHeld => ?_)
    · exact mv2_keep hHeld hb
    clear hK K
    refine wpAnyH_done (by kernel_rfl) ?_ _
  all_goals
    obtain ⟨_, _, hB5⟩ := hHeld
    have hM := moves_laid hl3 bG3 bR2 (hT.below hB5 hg) hTl (by omega)
    clear bG3 hS hb hB2 bG
    gi_wp2
    refine wpIn_rangeFunc_skip hro (by decide) (gf := 83) (lb := _) rfl trivial (enters_of Tryz.func83 (by kernel_rfl) rfl)
      (moves_stops 4 (by decide) _ (w.heap.size + 1) _ q z _ [b] 1 _ hM (by simp; omega) (by simp) (Nat.le_refl _)) KeptT.trans KeptT.put (Below.refl _ _) (fun _ => rfl)
      (fun pre W => pre = [] ∧ Blk W (w.heap.size + 1) 4 #[.bool false] ∧ Below w.heap.size w W)
      (fun c pre W => c = .ret ∧ Blk W (w.heap.size + 1) 4 #[.bool true] ∧ pre ≠ [] ∧ Below w.heap.size w W)
      (OwnFrom.and (ownFrom_pure _ _) (OwnFrom.and (Own.from (blk_own _ _ _) _) (ownFrom_below (Nat.le_refl _) hB5.size)))
      (fun c => OwnFrom.and (ownFrom_pure _ _) (OwnFrom.and (Own.from (blk_own _ _ _) _) (OwnFrom.and (ownFrom_pure _ _) (ownFrom_below (Nat.le_refl _) hB5.size))))
      ⟨rfl, bR2, hB5⟩ ?body ?done ?stop
    case body =>
      rintro l pre x W ⟨rfl, bR, hB⟩ hlt
      have f0 := bR.frozen 0
      have r0 : W.cell? ⟨w.heap.size + 1, 0, none⟩ = some (.bool false) := bR.cell 0
      gi_wp2
      exact ⟨(KeepsOthers.setCell _ _ _).from _, rfl, bR.set_ 0 (.bool true), by simp, hB.setCell (p := ⟨w.heap.size + 1, 0, none⟩) (by simp) _⟩
    case done =>
      rintro D ys W hD hys ⟨hn, bR, hB⟩ hK
      have f0 := bR.frozen 0
      have r0 : W.cell? ⟨w.heap.size + 1, 0, none⟩ = some (.bool false) := bR.cell 0
      have hfin : v = false := by
        rw [← HV.out, ← hys, hn]
        rfl
      have HF := Lib.hid hfin
      clear hfin hys hn
      gi_wp2
      refine hQ _ _ _ (fun x e => by cases e) ?_
      have hK2 := (KeepsOthers.setCell W ⟨w.heap.size + 1, 0, none⟩ (.bool false)).same D _ hK rfl
      have bR2 := (bR.set_ 0 (.bool false)).put (.deferred none) hK2 rfl
      refine ⟨by simp, .inl ⟨_, _, rfl, run_takeDeferred hK2, ?_⟩⟩
      refine ⟨.bool false, by simp [results, Tryz.results127, go_sem, bR2.cell 0], by rw [HF.out], ?_⟩
      exact (hB.setCell (p := ⟨w.heap.size + 1, 0, none⟩) (by simp) _).trans (belowK_b (w := w) (Nat.le_refl _) _ D _ _ (by have := hB5.size; omega) hK2 rfl rfl)
    case stop =>
      rintro D c pre W hD hpre ⟨rfl, bR, hne, hB⟩ hK
      have hfin : v = true := by
        rw [← HV.out]
        obtain ⟨r, hr⟩ := hpre
        rw [← hr]
        cases pre with
        | nil => exact absurd rfl hne
        | cons x p => rfl
      have HF := Lib.hid hfin
      clear hfin hpre hne
      have r0 : W.cell? ⟨w.heap.size + 1, 0, none⟩ = some (.bool true) := bR.cell 0
      gi_wp2
      refine hQ _ _ _ (fun x e => by cases e) ?_
      have bR2 := bR.put (.deferred none) hK rfl
      refine ⟨by simp, .inl ⟨_, _, rfl, run_takeDeferred hK, ?_⟩⟩
      refine ⟨.bool true, by simp [results, Tryz.results127, go_sem, bR2.cell 0], by rw [HF.out], ?_⟩
      exact hB.trans (belowK_b (w := w) (Nat.le_refl _) _ D _ _ (by have := hB5.size; omega) hK rfl rfl)
theorem gguard_any (s : ByteArray) (a b : Int) (w : World) (hT : Tab w) : Calls Tryz.prog 127 #[.string s, .agg #[.int .i64 a, .int .i64 b]] w (Gives w (.bool (guardI s a b))) := by
  cases h : couldI s (sideN (atB s a)) a b
  · rw [guard_none h]
    exact gguard_no s a b _ _ w hT rfl rfl h
  · obtain ⟨hs, ⟨a0, a1⟩, ⟨b0, b1⟩, he, hc⟩ := guard_side h
    obtain ⟨x, rfl⟩ : ∃ x : Nat, a = x := ⟨a.toNat, by omega⟩
    obtain ⟨y, rfl⟩ : ∃ y : Nat, b = y := ⟨b.toNat, by omega⟩
    simp only [Int.toNat_natCast] at he hc
    have hx : x < 90 := by omega
    have hy : y < 90 := by omega
    have hsd := could_sides hc
    have hv : guardI s (x : Int) (y : Int) = againB (behindS s (x, y)) (1 - sideN (bAt s x)) y := by
      rw [guardI_nat hs hx hy]
      unfold guardB
      rw [hc, Bool.true_and]
    rw [hv]
    refine callsIn_wide.1 (gguard_in s _ x y _ _ _ _ w hT hs hx hy he rfl ?_ (by omega) (by omega) rfl rfl (moved_board hs (bAt_lt s x) (isB_fill hs x hx)) rfl)
    rw [← he]
    exact h
theorem gguard_is (s : ByteArray) (a b : Int) (v : Bool) (w : World) (hT : Tab w) (h : guardI s a b = v) : Calls Tryz.prog 127 #[.string s, .agg #[.int .i64 a, .int .i64 b]] w (Gives w (.bool v)) := by subst h; exact gguard_any s a b w hT
theorem gtakes_is (s : ByteArray) (side : Int) (l : List (Nat × Nat)) (n : Nat) (w : World) (hT : Tab w) (hl : takesG s side = l) (hn : l.length = n) : Calls Tryz.prog 17 #[.string s, .int .i64 side] w (OwnM w l n) := callsIn_wide.1 (gtakes_in s side l n w hT hl hn)
end Go.Proofs.YtnkbilikkbaeeaaGreatDoor
