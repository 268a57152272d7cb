/- What the calls of check answer: who attacks a square, where a general stands, whether they face one another, whether one is attacked, what is wrong with a position. -/
import Derived.Test.YtbfkkedcjodceaaDoorCheckC
import Derived.Test.YtbfkkedcjodceaaDoorDelA
import Derived.Test.YtbfkkedcjodceaaDoorReachF
import Derived.Test.YtbfkkedcjodceaaDoorRefP5
namespace Go.Proofs.YtbfkkedcjodceaaDoor
open Go.RowKit Go.Shelf
open M (S)

set_option maxHeartbeats 1000000 in
theorem general_any (s : ByteArray) (side : Int) (w : World) : Calls Tryd.prog 35 #[.string s, .int .i64 side] w (Says w (.int .i64 (generalN s side))) := by
  unfold Says
  cases hb : isB s
  · have B := Lib.hid hb
    have K : Hid (generalN s side = -1) := general_none (by rw [hb]; rfl)
    clear hb
    go_enter Tryd.func35, Tryd.ntmps35
    go_wp2_with fail
    refine (is_is s false _ B.out).mono ?_
    rintro e w1 ⟨rfl, rfl⟩
    go_wp2
    go_ret
    exact ⟨by rw [K.out]; rfl, rfl⟩
  · have hz := isB_size hb
    have B := Lib.hid hb
    by_cases h0 : side = 0
    · subst h0
      have K : Hid (generalN s 0 = leastI s 75) := general_some (by rw [hb]; rfl)
      have X := Lib.hid (index_least hz (c := 75) (by decide))
      clear hb hz
      go_enter Tryd.func35, Tryd.ntmps35
      go_wp2_with fail
      refine (is_is s true _ B.out).mono ?_
      rintro e w1 ⟨rfl, rfl⟩
      go_wp2_with fail
      refine (byte_index s 75 _).mono ?_
      rintro e w2 ⟨rfl, rfl⟩
      go_wp2
      go_ret
      exact ⟨by rw [K.out, ← X.out]; rfl, rfl⟩
    · by_cases h1 : side = 1
      · subst h1
        have K : Hid (generalN s 1 = leastI s 107) := general_some (by rw [hb]; rfl)
        have X := Lib.hid (index_least hz (c := 107) (by decide))
        clear hb hz h0
        go_enter Tryd.func35, Tryd.ntmps35
        go_wp2_with fail
        refine (is_is s true _ B.out).mono ?_
        rintro e w1 ⟨rfl, rfl⟩
        go_wp2_with fail
        refine (byte_index s 107 _).mono ?_
        rintro e w2 ⟨rfl, rfl⟩
        go_wp2
        go_ret
        exact ⟨by rw [K.out, ← X.out]; rfl, rfl⟩
      · have K : Hid (generalN s side = -1) := general_none (by
          rw [hb, Bool.true_and, Bool.or_eq_false_iff, beq_eq_false_iff_ne, beq_eq_false_iff_ne]
          exact ⟨h0, h1⟩)
        have e0 : (side == 0) = false := by rw [beq_eq_false_iff_ne]; exact h0
        have e1 : (side == 1) = false := by rw [beq_eq_false_iff_ne]; exact h1
        clear hb hz h0 h1
        go_enter Tryd.func35, Tryd.ntmps35
        go_wp2_with fail
        refine (is_is s true _ B.out).mono ?_
        rintro e w1 ⟨rfl, rfl⟩
        go_wp2
        go_ret
        exact ⟨by rw [K.out]; rfl, rfl⟩
theorem general_is (s : ByteArray) (side k : Int) (w : World) (h : generalN s side = k) : Calls Tryd.prog 35 #[.string s, .int .i64 side] w (Says w (.int .i64 k)) := by subst h; exact general_any s side w
set_option maxHeartbeats 1000000 in
theorem facing_any (s : ByteArray) (w : World) : Calls Tryd.prog 37 #[.string s] w (Says w (.bool (facingB s))) := by
  unfold Says
  obtain ⟨a, ha⟩ : ∃ a, generalN s 0 = a := ⟨_, rfl⟩
  obtain ⟨b, hb⟩ : ∃ b, generalN s 1 = b := ⟨_, rfl⟩
  obtain ⟨f, hf⟩ : ∃ f, fileI a = f := ⟨_, rfl⟩
  obtain ⟨g, hg⟩ : ∃ g, fileI b = g := ⟨_, rfl⟩
  obtain ⟨k, hk⟩ : ∃ k, betweenV s a b = k := ⟨_, rfl⟩
  have K0 := Lib.hid (facing_file s)
  rw [ha, hb, hf, hg, hk] at K0
  have HA := Lib.hid ha
  have HB := Lib.hid hb
  have HF := Lib.hid hf
  have HG := Lib.hid hg
  have HK := Lib.hid hk
  clear ha hb hf hg hk
  cases he : (f == g)
  · have K : Hid (facingB s = false) := by show _ = _; rw [K0.out, he]; rfl
    clear K0
    go_enter Tryd.func37, Tryd.ntmps37
    go_wp2_with fail
    refine (general_is s 0 a _ HA.out).mono ?_
    rintro e w1 ⟨rfl, rfl⟩
    go_wp2_with fail
    refine (general_is s 1 b _ HB.out).mono ?_
    rintro e w1 ⟨rfl, rfl⟩
    go_wp2_with fail
    refine (file_is a f _ HF.out).mono ?_
    rintro e w1 ⟨rfl, rfl⟩
    go_wp2_with fail
    refine (file_is b g _ HG.out).mono ?_
    rintro e w1 ⟨rfl, rfl⟩
    go_wp2
    go_ret
    exact ⟨by rw [K.out]; rfl, rfl⟩
  · have K : Hid (facingB s = (k == 0)) := by show _ = _; rw [K0.out, he]; rfl
    clear K0
    go_enter Tryd.func37, Tryd.ntmps37
    go_wp2_with fail
    refine (general_is s 0 a _ HA.out).mono ?_
    rintro e w1 ⟨rfl, rfl⟩
    go_wp2_with fail
    refine (general_is s 1 b _ HB.out).mono ?_
    rintro e w1 ⟨rfl, rfl⟩
    go_wp2_with fail
    refine (file_is a f _ HF.out).mono ?_
    rintro e w1 ⟨rfl, rfl⟩
    go_wp2_with fail
    refine (file_is b g _ HG.out).mono ?_
    rintro e w1 ⟨rfl, rfl⟩
    go_wp2_with fail
    refine (between_is5 s a b k _ HK.out).mono ?_
    rintro e w1 ⟨rfl, rfl⟩
    go_wp2
    go_ret
    exact ⟨by rw [K.out]; rfl, rfl⟩
theorem facing_is (s : ByteArray) (v : Bool) (w : World) (h : facingB s = v) : Calls Tryd.prog 37 #[.string s] w (Says w (.bool v)) := by subst h; exact facing_any s w
theorem victim_is (side : Int) (w : World) : Calls Tryd.prog 65 #[.int .i64 side] w (Says w (.int .u8 (pawnOf (1 - side) : Nat))) := by
  unfold Says
  by_cases h : side = 0
  · subst h
    go_enter Tryd.func65, Tryd.ntmps65
    go_wp2
    go_ret
    exact ⟨rfl, rfl⟩
  · have e0 : (side == 0) = false := by rw [beq_eq_false_iff_ne]; exact h
    have K : Hid (pawnOf (1 - side) = 80) := by show _ = _; unfold pawnOf; rw [if_neg (by omega)]
    clear h
    go_enter Tryd.func65, Tryd.ntmps65
    go_wp2
    go_ret
    exact ⟨by rw [K.out]; rfl, rfl⟩
theorem victim_as (side : Int) (c : Nat) (w : World) (h : pawnOf (1 - side) = c) : Calls Tryd.prog 65 #[.int .i64 side] w (Says w (.int .u8 (c : Int))) := by subst h; exact victim_is side w
theorem other_is (side k : Int) (w : World) (h : side = 0 ∨ side = 1) (hk : 1 - side = k) : Calls Tryd.prog 74 #[.int .i64 side] w (Says w (.int .i64 k)) := by
  unfold Says
  subst hk
  rcases h with rfl | rfl
  all_goals
    go_enter Tryd.func74, Tryd.ntmps74
    go_wp2
    go_ret
    exact ⟨rfl, rfl⟩
theorem other_some (side : Int) (w : World) : Calls Tryd.prog 74 #[.int .i64 side] w fun e w' => ∃ k, e = .returned (.int .i64 k) ∧ w = w' := by
  go_enter Tryd.func74, Tryd.ntmps74
  go_wp2
  go_ret
  exact ⟨_, rfl, rfl⟩
theorem att1_any (s : ByteArray) (x n : Int) (g0 g1 : Nat) (W : World) (c0 : W.cell? ⟨g0, 0, none⟩ = some (.string s)) (c1 : W.cell? ⟨g1, 0, none⟩ = some (.int .i64 n)) :
    Calls Tryd.prog 68 #[.int .i64 x, .pointer (some ⟨g0, 0, none⟩), .pointer (some ⟨g1, 0, none⟩)] W fun e w' => e = .returned (.bool (!canI s x n)) ∧ Below W.heap.size W w' := by
  obtain ⟨v, hv⟩ : ∃ v, canI s x n = v := ⟨_, rfl⟩
  rw [hv]
  have HV := Lib.hid hv
  clear hv
  go_enter Tryd.func68, Tryd.ntmps68
  go_wp2_with fail
  refine (can_is5 s x n v _ HV.out).mono ?_
  rintro e w1 ⟨rfl, hb⟩
  go_wp2
  go_ret
  exact ⟨rfl, hb⟩
theorem put_as (s t : ByteArray) (n : Int) (c : Nat) (w : World) (hc : c < 256) (h : putB s n c = t) : Calls Tryd.prog 48 #[.string s, .int .i64 n, .int .u8 (c : Int)] w (Gives w (.string t)) := by subst h; exact put_is s n c w hc
theorem below_same {w w1 : World} (h : w = w1) : Below w.heap.size w w1 := by subst h; exact Below.refl _ _
/-- What the region keeps: the square's number in memory; the table. -/
abbrev NT (w : World) (g : Nat) (n : Int) (W : World) : Prop := W.cell? ⟨g, 0, none⟩ = some (.int .i64 n) ∧ Tab W ∧ Below w.heap.size w W
theorem nT_keep {w : World} {g : Nat} {n : Int} {W W' : World} (h : NT w g n W) (hb : Below W.heap.size W W') : NT w g n W' := by
  obtain ⟨h0, h1, h2⟩ := h
  exact ⟨(hb.cell (p := ⟨g, 0, none⟩) (World.block_lt_of_cell? _ _ h0)).trans h0, h1.next hb, h2.trans (hb.mono h2.size)⟩
theorem nT_set {w : World} {g : Nat} {n : Int} {W X : World} (h : NT w g n W) (hx : NT w g n X) (u : Value) : NT w g n (W.setCell ⟨X.heap.size, 0, none⟩ u) := by
  obtain ⟨h0, h1, h2⟩ := h
  have hg : g < X.heap.size := World.block_lt_of_cell? _ _ hx.1
  refine ⟨?_, h1.below ((Below.refl X.heap.size W).setCell (p := ⟨X.heap.size, 0, none⟩) (Nat.le_refl _) u) hx.2.1.lt, h2.setCell (p := ⟨X.heap.size, 0, none⟩) hx.2.2.size u⟩
  rw [World.cell?_setCell_other _ _ _ _ (by intro e; injection e with e1; omega)]
  exact h0
theorem with_two {P Q R : Prop} (h : P ∧ Q) (k : P → Q → R) : R := k h.1 h.2
theorem box_two {W w1 w2 : World} {v : Value} {t : TypeId} (h : W.alloc (.cells #[v] t) = w1) (hb : Below w1.heap.size w1 w2) : w2.cell? ⟨W.heap.size, 0, none⟩ = some v ∧ w2.frozen? ⟨W.heap.size, 0, none⟩ = false := by
  have h1 : Blk w1 W.heap.size t #[v] := by rw [← h]; exact Blk.new _ _ _ rfl
  exact ⟨(h1.next hb).cell 0, (h1.next hb).frozen 0⟩
theorem box_drew {W w1 w2 : World} {v : Value} {t : TypeId} (h : (W.alloc (.cells #[v] t)).drew = w1) (hb : Below w1.heap.size w1 w2) : w2.cell? ⟨W.heap.size, 0, none⟩ = some v ∧ w2.frozen? ⟨W.heap.size, 0, none⟩ = false := by
  have h1 : Blk w1 W.heap.size t #[v] := by rw [← h]; exact (Blk.new W t #[v] rfl).next (Below.refl _ _).drew
  exact ⟨(h1.next hb).cell 0, (h1.next hb).frozen 0⟩
theorem att_del (s st : ByteArray) (n side : Int) (HF : Hid (((piecesL st side).filter fun x => !(!canI st x n)) = attL s n side)) (W3 w4 : World) (g0 g1 : Nat) (c0 : W3.cell? ⟨g0, 0, none⟩ = some (.string st)) (c1 : W3.cell? ⟨g1, 0, none⟩ = some (.int .i64 n)) (v : Value) (ho : w4.ownsRow W3.heap.size 3 1 v (piecesL st side).length ((piecesL st side).map iv)) (hb4 : Below W3.heap.size W3 w4) :
    Calls Tryd.prog 66 #[v, .func (.func 68) #[] #[.pointer (some ⟨g0, 0, none⟩), .pointer (some ⟨g1, 0, none⟩)]] w4 fun e w' => ∃ v', e = .returned v' ∧ w'.ownsRow W3.heap.size 3 1 v' (attL s n side).length ((attL s n side).map iv) ∧ Below W3.heap.size W3 w' := by
  have hm : (piecesL st side).length ≤ 1000000 := by
    have : (piecesL st side).length ≤ 90 := by
      unfold piecesL
      split
      · exact trues_le _ _
      · simp
    omega
  have eg : ∀ args w, (callFunc 68 args).run Tryd.prog w = .ok (.enter 68 args) w := enters_of Tryd.func68 (by kernel_rfl) rfl
  have hcl : PredOn 68 #[.pointer (some ⟨g0, 0, none⟩), .pointer (some ⟨g1, 0, none⟩)] iv (fun x => !canI st x n) (piecesL st side) W3 := fun W x _ hb => att1_any st x n _ _ W ((hb.cell (p := ⟨g0, 0, none⟩) (World.block_lt_of_cell? _ _ c0)).trans c0) ((hb.cell (p := ⟨g1, 0, none⟩) (World.block_lt_of_cell? _ _ c1)).trans c1)
  have := del_ints (piecesL st side) (fun x => !canI st x n) 68 _ eg v _ W3 w4 hcl ho rfl hm hb4
  rw [HF.out] at this
  exact this
set_option maxHeartbeats 4000000 in
theorem att_any (s : ByteArray) (n side : Int) (w : World) (hT : Tab w) : Calls Tryd.prog 33 #[.string s, .int .i64 n, .int .i64 side] w (OwnL w (attL s n side)) := by
  have HF := Lib.hid (att_filter s n side)
  obtain ⟨c, hc⟩ : ∃ c, pawnOf (1 - side) = c := ⟨_, rfl⟩
  have hc256 : c < 256 := by rw [← hc]; exact pawnOf_lt _
  obtain ⟨st, hst⟩ : ∃ st, stoodS s n side = st := ⟨_, rfl⟩
  have HP : Hid (putB s n c = st) := by show _ = _; rw [← hst, ← hc]; rfl
  have HC := Lib.hid hc
  rw [hst] at HF
  obtain ⟨W0, hW0⟩ : ∃ W0, w.alloc (.cells #[.int .i64 n] 3) = W0 := ⟨_, rfl⟩
  have hB : Below w.heap.size w W0 := by rw [← hW0]; exact (by repeat (first | exact Below.refl _ _ | (refine Below.setCell ?_ (by first | omega | (simp; done) | (simp; omega) | (simp at *; omega)) _) | (refine Below.alloc ?_ (by first | omega | (simp; done) | (simp; omega) | (simp at *; omega)) _) | refine Below.drew ?_ | (refine below_drewN ?_ _) | (refine Below.trans ?_ (Below.mono (by assumption) (by first | omega | (simp; done) | (simp; omega) | (simp at *; omega))))))
  have bN : Blk W0 w.heap.size 3 #[.int .i64 n] := by rw [← hW0]; exact Blk.new _ _ _ rfl
  have HW := Lib.hid hW0
  have hT0 := hT.next hB
  have hS0 : NT w w.heap.size n W0 := ⟨bN.cell 0, hT0, hB⟩
  have hS : NT w w.heap.size n W0.drew := nT_keep hS0 (Below.refl _ _).drew
  clear hc hst hW0 hB bN hT0 hT
  go_enter Tryd.func33, Tryd.ntmps33
  go_wp2_with fail
  rw [HW.out]
  go_region_held3 (fun W => W.cell? ⟨w.heap.size, 0, none⟩ = some (.int .i64 n) ∧ Tab W ∧ Below w.heap.size w W)
    (first | exact hS | exact nT_keep (by assumption) hb | exact nT_keep (by assumption) ((Below.refl _ _).alloc (Nat.le_refl _) _) | exact nT_set (by assumption) (by assumption) _)
    (first
      | (go_at_call 65; refine (victim_as side c _ HC.out).mono ?_; rintro e w1 ⟨rfl, hw⟩; have hb := below_same hw; have h1 : NT w w.heap.size n w1 := nT_keep (by assumption) hb)
      | (go_at_call 48; refine (put_as s st n c _ hc256 HP.out).mono ?_; rintro e w2 ⟨rfl, hb⟩; have h2 : NT w w.heap.size n w2 := nT_keep (by assumption) hb; (first | (refine with_two (box_drew hw hb) ?_; intro q1 q2) | (refine with_two (box_two rfl hb) ?_; intro q1 q2) | skip)))
  · obtain ⟨W3, hW3⟩ : ∃ W3, w2.alloc (.cells #[.string st] 9) = W3 := ⟨_, rfl⟩
    have cS : W3.cell? ⟨w2.heap.size, 0, none⟩ = some (.string st) := by rw [← hW3]; exact (Blk.new _ _ _ rfl).cell 0
    rename_i hh
    rw [hW3] at hh ⊢
    obtain ⟨cN, hT3, hB3⟩ := hh
    clear hW3  hb hw h1 h2 hS hS0 HW HP HC
    go_wp2_with fail
    refine (pieces_own st side _ hT3).mono ?_
    rintro e w4 ⟨v, rfl, ho, hb4⟩
    have hdel := Lib.hid (att_del s st n side HF W3 w4 _ _ cS cN v ho hb4)
    obtain ⟨A', c', rfl⟩ := own_slice ho
    clear ho
    go_wp2_with fail
    refine hdel.out.mono ?_
    rintro e w5 ⟨v5, rfl, ho5, hb5⟩
    go_wp2
    go_ret
    exact ⟨_, rfl, own_mono ho5 hB3.size, hB3.trans (hb5.mono hB3.size)⟩
  · obtain ⟨W3, hW3⟩ : ∃ W3, w2.setCell ⟨w1.heap.size, 0, none⟩ (.string st) = W3 := ⟨_, rfl⟩
    have cS : W3.cell? ⟨w1.heap.size, 0, none⟩ = some (.string st) := by rw [← hW3]; exact World.cell?_setCell_same' _ _ _ (by rw [q1]; rfl)
    rename_i hh
    rw [hW3] at hh ⊢
    obtain ⟨cN, hT3, hB3⟩ := hh
    clear hW3 q1 q2 hb hw h1 h2 hS hS0 HW HP HC
    go_wp2_with fail
    refine (pieces_own st side _ hT3).mono ?_
    rintro e w4 ⟨v, rfl, ho, hb4⟩
    have hdel := Lib.hid (att_del s st n side HF W3 w4 _ _ cS cN v ho hb4)
    obtain ⟨A', c', rfl⟩ := own_slice ho
    clear ho
    go_wp2_with fail
    refine hdel.out.mono ?_
    rintro e w5 ⟨v5, rfl, ho5, hb5⟩
    go_wp2
    go_ret
    exact ⟨_, rfl, own_mono ho5 hB3.size, hB3.trans (hb5.mono hB3.size)⟩
  · obtain ⟨W3, hW3⟩ : ∃ W3, w2.setCell ⟨W0.heap.size, 0, none⟩ (.string st) = W3 := ⟨_, rfl⟩
    have cS : W3.cell? ⟨W0.heap.size, 0, none⟩ = some (.string st) := by rw [← hW3]; exact World.cell?_setCell_same' _ _ _ (by rw [q1]; rfl)
    rename_i hh
    rw [hW3] at hh ⊢
    obtain ⟨cN, hT3, hB3⟩ := hh
    clear hW3 q1 q2 hb hw h1 h2 hS hS0 HW HP HC
    go_wp2_with fail
    refine (pieces_own st side _ hT3).mono ?_
    rintro e w4 ⟨v, rfl, ho, hb4⟩
    have hdel := Lib.hid (att_del s st n side HF W3 w4 _ _ cS cN v ho hb4)
    obtain ⟨A', c', rfl⟩ := own_slice ho
    clear ho
    go_wp2_with fail
    refine hdel.out.mono ?_
    rintro e w5 ⟨v5, rfl, ho5, hb5⟩
    go_wp2
    go_ret
    exact ⟨_, rfl, own_mono ho5 hB3.size, hB3.trans (hb5.mono hB3.size)⟩
end Go.Proofs.YtbfkkedcjodceaaDoor
