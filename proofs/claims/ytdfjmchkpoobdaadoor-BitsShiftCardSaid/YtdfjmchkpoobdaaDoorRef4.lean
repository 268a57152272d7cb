/- What more of the document's plain answers of layer 1 come to: a list of squares; a truth that is put; the truths of a list. -/
import Derived.Test.YtdfjmchkpoobdaaDoorRef2
namespace Go.Proofs.YtdfjmchkpoobdaaDoor
open Go.RowKit Go.Shelf
open M (S)

theorem below_app {w wr w1 : World} {n₀ : Nat} {e : TypeId} {size k : Nat} {v : Value} {xs : List Value} {o : Obj} (hB : Below n₀ w wr) (hn : n₀ ≤ wr.heap.size) (hown : wr.ownsRow n₀ e size v k xs) (hgrow : (wr.alloc o).grownBy w1 v.ownBlock) : Below n₀ w w1 := by
  refine (hB.alloc hn o).grown hgrow (by simp; omega) fun j ej => ?_
  rcases hown.2 with ⟨rfl, _⟩ | ⟨g, cap, cur, rfl, hb, _, _⟩
  · simp [Value.ownBlock] at ej
  · obtain rfl : g = j := by simpa [Value.ownBlock] using ej
    exact hb

/-- The numbers below k at which p holds. -/
def trues (p : Nat → Bool) (k : Nat) : List Int := ((List.range k).filter p).map fun i : Nat => (i : Int)
theorem trues_succ (p : Nat → Bool) (k : Nat) : trues p (k + 1) = if p k then trues p k ++ [(k : Int)] else trues p k := by
  unfold trues
  rw [List.range_succ, List.filter_append]
  cases h : p k <;> simp [h]
theorem trues_le (p : Nat → Bool) (k : Nat) : (trues p k).length ≤ k := by
  unfold trues
  rw [List.length_map]
  exact Nat.le_trans (List.length_filter_le _ _) (by simp)

set_option maxRecDepth 100000 in
set_option maxHeartbeats 2000000 in
theorem rlist_any (A : Option Addr) (c : Nat) (p : Nat → Bool) (w : World) (hp : Rd w A (bl p)) :
    Calls Tryd.prog 18 #[.slice A 90 c] w (GivesList w (trues p 90) (trues p 90).length) := by
  obtain ⟨a1, rfl, h1⟩ := rd_at hp
  have H1 := Lib.hid h1
  clear h1 hp
  obtain ⟨i0, hi, hz0, hz1, hz2⟩ := info_parts info_int
  go_enter Tryd.func18, Tryd.ntmps18
  go_wp2
  go_loopw [3, 4] (fun v i wr => ∃ k : Nat, k ≤ 90 ∧ i = .int .i64 k ∧ wr.ownsRow w.heap.size 3 1 v (trues p k).length ((trues p k).map iv) ∧ Below w.heap.size w wr) (fun _ i _ => 90 - (intOf i).toNat)
  case atStart => exact ⟨0, by omega, rfl, by simpa [trues] using World.ownsRow_nil w w.heap.size 3 1, Below.refl _ _⟩
  case round =>
    obtain ⟨k, hk, rfl, hown, hB⟩ := hrel
    have hbs := hB.size
    have hle := trues_le p k
    by_cases hlt : k < 90
    · have c1 := cell_on hB rfl (H1.out k hlt)
      have hs := trues_succ p k
      cases hpk : p k
      · rw [hpk] at c1 hs
        have Hs := Lib.hid hs
        clear hpk hs
        go_wp2
        go_roundw
        case rel => exact ⟨k + 1, by omega, by go_num, by rw [Hs.out]; exact hown, hB⟩
        case measure => simp [intOf]; omega
      · rw [hpk] at c1 hs
        have Hs := Lib.hid hs
        clear hpk hs
        go_wp2_with (at_builtin; refine wpList_append_own _ rfl _ _ 33 rfl w.heap.size 3 i0 (.int .i64 0) 1 8 Tryd.underlying33 hi hz0 hz1 hz2 rfl (by decide) _ _ _ rfl (hown.alloc _) ⟨wr.heap.size, 0, none⟩ 1 1 [iv k] rfl rfl (cell_one_new _ _ _) (by simp [Value.oneCell']) (by unfold maxLen; omega) (by omega) (by simp; omega) ?_; intro v' w1 hown' hgrow _)
        go_roundw
        case rel => exact ⟨k + 1, by omega, by go_num, by rw [Hs.out]; simpa using hown', below_app hB hbs hown hgrow⟩
        case measure => simp [intOf]; omega
    · obtain rfl : k = 90 := by omega
      obtain ⟨A', c', rfl⟩ := own_slice hown
      go_wp2
      go_ret
      exact ⟨A', c', rfl, Rd.own hown, hB⟩

theorem below_none {w w1 : World} (hg : w.grownBy w1 none) : Below w.heap.size w w1 := ⟨hg.os, hg.tape, hg.output, hg.size, fun k hk => hg.block k hk (by simp)⟩
theorem own_ge {w : World} {base : Nat} {e : TypeId} {g n cap : Nat} {xs : List Value} (h : w.ownsRow base e 1 (.slice (some ⟨g, 0, none⟩) n cap) n xs) : base ≤ g := by
  rcases h.2 with ⟨h1, _⟩ | ⟨g', cap', cur, h1, hb, _⟩
  · simp at h1
  · simp only [Value.slice.injEq, Option.some.injEq, Addr.mk.injEq, and_true] at h1
    rw [h1.1]; exact hb
theorem own_cell {w : World} {base : Nat} {e : TypeId} {g cap : Nat} {p : Nat → Bool} {n : Int} (h : w.ownsRow base e 1 (.slice (some ⟨g, 0, none⟩) (0 + 90) cap) (0 + 90) ([] ++ bl p)) (h0 : 0 ≤ n) (h1 : n < 90) : w.cell? ⟨g, n.toNat, none⟩ = some (.bool (p n.toNat)) := by
  rw [World.ownsRow.cellAt h n.toNat (by omega), List.nil_append, bl_get p n.toNat (by omega)]

theorem info_bool : (Tryd.prog.info? 4).map (fun i => (i.zero, i.size, i.bytes)) = some (some (.bool false), 1, 1) := by kernel_rfl
/-- A truth that is put. -/
def putF (p : Nat → Bool) (n : Int) (b : Bool) (i : Nat) : Bool := if (i : Int) = n then b else p i
theorem bl_put (p : Nat → Bool) (j : Nat) (b : Bool) : (bl p).set j (.bool b) = bl (putF p (j : Int) b) := by
  have h := bl_set p j b
  have h2 : ((bl p).set j (.bool b)).toArray = (bl p).toArray.setIfInBounds j (.bool b) := by simp
  have h3 : (bl fun i => if i = j then b else p i) = bl (putF p (j : Int) b) := bl_congr fun i _ => by
    unfold putF
    by_cases e : i = j
    · rw [if_pos e, if_pos (by omega)]
    · rw [if_neg e, if_neg (by omega)]
  rw [h, h3] at h2
  simpa using h2

theorem bl_one (p : Nat → Bool) : ∀ u ∈ bl p, u.oneCell' = true := fun u hu => by
  obtain ⟨i, _, rfl⟩ := List.mem_map.1 hu
  rfl

set_option maxRecDepth 100000 in
set_option maxHeartbeats 2000000 in
theorem rput_any (A : Option Addr) (c : Nat) (p : Nat → Bool) (n : Int) (b : Bool) (w : World) (hp : Rd w A (bl p)) :
    Calls Tryd.prog 27 #[.slice A 90 c, .int .i64 n, .bool b] w (GivesBools w (putF p n b)) := by
  obtain ⟨a1, rfl, h1⟩ := rd_at hp
  have hnews : ∀ j u, (bl p)[j]? = some u → w.cell? (a1.add j) = some u := fun j u hu => by
    have hl := (List.getElem?_eq_some_iff.1 hu).1
    rw [bl_length] at hl
    rw [bl_get p j hl] at hu
    rw [h1 j hl, hu]
  have H1 := Lib.hid hnews
  clear h1 hp hnews
  obtain ⟨i0, hi, hz0, hz1, hz2⟩ := info_parts info_bool
  by_cases hsq : 0 ≤ n ∧ n < 90
  · have e1 : sqB n = true := by unfold sqB; rw [decide_eq_true hsq.1, decide_eq_true hsq.2]; rfl
    have E1 := Lib.hid e1
    obtain ⟨hn0, hn1⟩ := hsq
    clear e1
    go_enter Tryd.func27, Tryd.ntmps27
    go_wp2_with (first | (at_builtin; refine wpList_append_own _ rfl _ _ 25 rfl w.heap.size 4 i0 (.bool false) 1 1 Tryd.underlying25 hi hz0 hz1 hz2 rfl (by decide) _ _ _ rfl (World.ownsRow_nil w w.heap.size 4 1) a1 90 c (bl p) rfl (bl_length p) H1.out (bl_one p) (by unfold maxLen; omega) (by omega) (Nat.le_refl _) ?_; intro v' w1 hown' hgrow _; obtain ⟨g, cap, rfl⟩ := ownsRow_succ (k := 89) hown'; have hcl := own_cell hown' hn0 hn1; have hfr := World.ownsRow.frozenAt hown' n.toNat) | (go_at_call 19; refine (square_any _ _).mono ?_; rintro e w' ⟨rfl, rfl⟩; rw [E1.out]))
    go_ret
    have hg : w.grownBy w1 none := hgrow
    have hb : Below w.heap.size w w1 := below_none hg
    have hst := (World.ownsRow.stored hown' n.toNat (.bool b)).1
    have hgl : w.heap.size ≤ g := own_ge hown'
    refine ⟨_, _, rfl, ?_, hb.setCell (p := ⟨g, n.toNat, none⟩) hgl _⟩
    have h2 := Rd.own (n := 90) hst
    rw [List.nil_append, bl_put, show ((n.toNat : Nat) : Int) = n by omega] at h2
    exact h2
  · have e1 : sqB n = false := by
      unfold sqB
      by_cases h : 0 ≤ n
      · rw [decide_eq_false (p := n < 90) (by omega)]; simp
      · rw [decide_eq_false h]; simp
    have E1 := Lib.hid e1
    have He : Hid (bl (putF p n b) = bl p) := bl_congr fun i hi' => by unfold putF; rw [if_neg (by omega)]
    clear e1 hsq
    go_enter Tryd.func27, Tryd.ntmps27
    go_wp2_with (first | (at_builtin; refine wpList_append_own _ rfl _ _ 25 rfl w.heap.size 4 i0 (.bool false) 1 1 Tryd.underlying25 hi hz0 hz1 hz2 rfl (by decide) _ _ _ rfl (World.ownsRow_nil w w.heap.size 4 1) a1 90 c (bl p) rfl (bl_length p) H1.out (bl_one p) (by unfold maxLen; omega) (by omega) (Nat.le_refl _) ?_; intro v' w1 hown' hgrow _) | (go_at_call 19; refine (square_any _ _).mono ?_; rintro e w' ⟨rfl, rfl⟩; rw [E1.out]))
    obtain ⟨A', c', rfl⟩ := own_slice hown'
    go_ret
    have hg : w.grownBy w1 none := hgrow
    refine ⟨A', c', rfl, ?_, below_none hg⟩
    rw [He.out]
    exact Rd.own (n := 90) hown'

/-- The truths of the first k numbers of a list. -/
def ofp (xs : List Int) (k i : Nat) : Bool := (xs.take k).any fun x => decide (x = (i : Int))
theorem ofp_succ (xs : List Int) (k i : Nat) (h : k < xs.length) : ofp xs (k + 1) i = (ofp xs k i || decide (xs[k] = (i : Int))) := by
  unfold ofp
  rw [List.take_succ_eq_append_getElem h, List.any_append]
  simp

attribute [local go_sem ↓] make90 in
set_option maxRecDepth 100000 in
set_option maxHeartbeats 2000000 in
theorem rof_any (A : Option Addr) (xs : List Int) (c : Nat) (w : World) (hr : Rd w A (xs.map iv)) (hm : xs.length ≤ 1000000) :
    Calls Tryd.prog 34 #[.slice A xs.length c] w (GivesBools w (ofp xs xs.length)) := by
  go_enter Tryd.func34, Tryd.ntmps34
  go_wp2
  obtain ⟨W0, hW0⟩ : ∃ W0, w.alloc (.cells (bl fun _ => false).toArray 4) = W0 := ⟨_, rfl⟩
  have b0 : Blk W0 w.heap.size 4 (bl (ofp xs 0)).toArray := by rw [← hW0, show bl (ofp xs 0) = bl (fun _ => false) from bl_congr fun i _ => by simp [ofp]]; exact Blk.new _ _ _ rfl
  have hB0 : Below w.heap.size w W0 := by rw [← hW0]; exact (by repeat (first | exact Below.refl _ _ | (refine Below.setCell ?_ (by first | omega | (simp; done) | (simp; omega) | (simp at *; omega)) _) | (refine Below.alloc ?_ (by first | omega | (simp; done) | (simp; omega) | (simp at *; omega)) _) | refine Below.drew ?_ | (refine below_drewN ?_ _) | (refine Below.trans ?_ (Below.mono (by assumption) (by first | omega | (simp; done) | (simp; omega) | (simp at *; omega))))))
  rw [hW0]
  clear hW0
  go_loopw [4] (fun i wr => ∃ k : Nat, k ≤ xs.length ∧ i = .int .i64 k ∧ Blk wr w.heap.size 4 (bl (ofp xs k)).toArray ∧ Below w.heap.size w wr) (fun i _ => xs.length - (intOf i).toNat)
  case atStart => exact ⟨0, by omega, rfl, b0, hB0⟩
  case round =>
    obtain ⟨k, hk, rfl, bR, hB⟩ := hrel
    by_cases hlt : k < xs.length
    · obtain ⟨a1, rfl, hc⟩ := hr k (iv xs[k]) (by simp [hlt])
      have c1 := cell_on hB rfl hc
      have hstep := fun i => ofp_succ xs k i hlt
      obtain ⟨x, hx⟩ : ∃ x, xs[k] = x := ⟨_, rfl⟩
      rw [hx] at c1 hc
      simp only [hx] at hstep
      by_cases hsq : 0 ≤ x ∧ x < 90
      · have E1 : Hid (sqB x = true) := by show _ = _; unfold sqB; rw [decide_eq_true hsq.1, decide_eq_true hsq.2]; rfl
        obtain ⟨hn0, hn1⟩ := hsq
        have c0 := bR.cell x.toNat
        have f0 := bR.frozen x.toNat
        rw [bl_getA _ _ (by omega)] at c0
        have Hk : Hid ((bl (ofp xs k)).toArray.setIfInBounds x.toNat (.bool true) = (bl (ofp xs (k + 1))).toArray) := by
          show _ = _
          rw [bl_set]
          congr 1
          apply bl_congr
          intro i _
          rw [hstep]
          by_cases e : i = x.toNat
          · rw [if_pos e, decide_eq_true (p := x = (i : Int)) (by omega)]; simp
          · rw [if_neg e, decide_eq_false (p := x = (i : Int)) (by omega)]; simp
        clear hx hstep hc hr
        go_wp2_with (go_at_call 19; refine (square_any _ _).mono ?_; rintro e w' ⟨rfl, rfl⟩; rw [E1.out])
        go_roundw
        case rel => exact ⟨k + 1, by omega, by go_num, by have h := bR.set_ x.toNat (.bool true); rw [Hk.out] at h; exact h, hB.setCell (p := ⟨w.heap.size, x.toNat, none⟩) (Nat.le_refl _) _⟩
        case measure => simp [intOf]; omega
      · have E1 : Hid (sqB x = false) := by
          show _ = _
          unfold sqB
          by_cases h : 0 ≤ x
          · rw [decide_eq_false (p := x < 90) (by omega)]; simp
          · rw [decide_eq_false h]; simp
        have Hk : Hid (bl (ofp xs k) = bl (ofp xs (k + 1))) := bl_congr fun i hi => by
          rw [hstep, decide_eq_false (p := x = (i : Int)) (by omega)]; simp
        clear hx hstep hc hr hsq
        go_wp2_with (go_at_call 19; refine (square_any _ _).mono ?_; rintro e w' ⟨rfl, rfl⟩; rw [E1.out])
        go_roundw
        case rel => exact ⟨k + 1, by omega, by go_num, by rw [← Hk.out]; exact bR, hB⟩
        case measure => simp [intOf]; omega
    · obtain rfl : k = xs.length := by omega
      go_wp2
      go_ret
      exact ⟨_, _, rfl, rd_blk bR, hB⟩
end Go.Proofs.YtdfjmchkpoobdaaDoor
