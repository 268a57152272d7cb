/- Lists of moves in memory; what the document's own answers of layer 6 come to: the moves of a side, whether two lists are the same, whether a move is one of some. -/
import Derived.Test.YtbdgbihdhbjljaaGreatDoorPseudoA
import Derived.Test.YtbdgbihdhbjljaaGreatDoorRefP5
import Derived.Test.YtbdgbihdhbjljaaGreatDoorReachF
import Derived.Test.YtbdgbihdhbjljaaGreatDoorReachG
import Derived.Test.YtbdgbihdhbjljaaGreatDoorRowA
namespace Go.Proofs.YtbdgbihdhbjljaaGreatDoor
open Go.RowKit Go.Shelf
open M (S)

/-- Moves as they lie in memory, two cells each. -/
def mvs (l : List (Nat × Nat)) : List Value := l.flatMap fun m => [iv m.1, iv m.2]
theorem mvs_len (l : List (Nat × Nat)) : (mvs l).length = l.length * 2 := by
  unfold mvs
  induction l with
  | nil => rfl
  | cons m l ih => simp at ih ⊢; omega
theorem mvs_app (l r : List (Nat × Nat)) : mvs (l ++ r) = mvs l ++ mvs r := by unfold mvs; rw [List.flatMap_append]
theorem mvs_one (a b : Nat) : mvs [(a, b)] = [iv a, iv b] := rfl
theorem mvs_at (l : List (Nat × Nat)) (k : Nat) (h : k < l.length) : (mvs l)[2 * k]? = some (iv l[k].1) ∧ (mvs l)[2 * k + 1]? = some (iv l[k].2) := by
  induction l generalizing k with
  | nil => exact absurd h (Nat.not_lt_zero k)
  | cons m l ih =>
    cases k with
    | zero => exact ⟨rfl, rfl⟩
    | succ k =>
      have := ih k (by simpa using h)
      rw [show 2 * (k + 1) = 2 * k + 1 + 1 by omega]
      exact this
/-- A call's answer is a slice of n moves, those of l. -/
def GivesM (w : World) (l : List (Nat × Nat)) (n : Nat) (e : Ending) (w' : World) : Prop := ∃ A c, e = .returned (.slice A n c) ∧ Rd w' A (mvs l) ∧ Below w.heap.size w w'
/-- A call's answer is a slice of n moves, those of l, in memory of its own. -/
def OwnM (w : World) (l : List (Nat × Nat)) (n : Nat) (e : Ending) (w' : World) : Prop := ∃ v, e = .returned v ∧ w'.ownsRow w.heap.size 48 2 v n (mvs l) ∧ Below w.heap.size w w'
theorem Rd.owns {w : World} {base : Nat} {e : TypeId} {size : Nat} {A : Option Addr} {n c : Nat} {xs : List Value} (h : w.ownsRow base e size (.slice A n c) n xs) : Rd w A xs := fun j u hu => by
  have h1 := h.1
  have h2 := (List.getElem?_eq_some_iff.1 hu).1
  rcases h.2 with ⟨hv, rfl⟩ | ⟨g, cap, cur, hv, _, hb, hn, hm, hs, ht⟩
  · simp at h1
    simp [h1] at h2
  · injection hv with hA _ hc
    subst hA
    refine ⟨_, rfl, ?_⟩
    rw [show (Addr.add ⟨g, 0, none⟩ j) = ⟨g, j, none⟩ by simp [Addr.add]; omega]
    have hb' : w.heap[g]? = some (.cells cur e (0, 0)) := hb
    have : w.cell? ⟨g, j, none⟩ = cur[j]? := by simp [World.cell?, hb']
    rw [this, ← Array.getElem?_toList]
    rw [← ht, List.getElem?_take] at hu
    split at hu
    · exact hu
    · cases hu
theorem owns_slice {w : World} {base : Nat} {e : TypeId} {size : Nat} {v : Value} {n : Nat} {xs : List Value} (h : w.ownsRow base e size v n xs) : ∃ A c, v = .slice A n c := by
  rcases h.2 with ⟨rfl, rfl⟩ | ⟨g, cap, cur, rfl, _⟩
  · exact ⟨_, _, rfl⟩
  · exact ⟨_, _, rfl⟩
theorem OwnM.gives {w : World} {l : List (Nat × Nat)} {n : Nat} {e : Ending} {w' : World} (h : OwnM w l n e w') : GivesM w l n e w' := by
  obtain ⟨v, he, ho, hb⟩ := h
  obtain ⟨A, c, rfl⟩ := owns_slice ho
  exact ⟨A, c, he, Rd.owns ho, hb⟩
theorem cells_two_new (w : World) (x y : Value) (t : TypeId) : ∀ j u, [x, y][j]? = some u → (w.alloc (.cells #[x, y] t)).cell? ((⟨w.heap.size, 0, none⟩ : Addr).add j) = some u := by
  intro j u hj
  rw [show (Addr.add ⟨w.heap.size, 0, none⟩ j) = ⟨w.heap.size, j, none⟩ by simp [Addr.add]; omega, (Blk.new w t #[x, y] rfl).cell j]
  simpa using hj
theorem info_move : (Tryz.prog.info? 48).map (fun i => (i.zero, i.size, i.bytes)) = some (some (.agg #[.int .i64 0, .int .i64 0]), 2, 16) := by kernel_rfl

/-- The moves of the pieces on the first k squares. -/
def movesTo (s : ByteArray) (side : Int) (k : Nat) : List (Nat × Nat) := (List.range k).flatMap (movesOf s side)
theorem movesTo_succ (s : ByteArray) (side : Int) (k : Nat) : movesTo s side (k + 1) = movesTo s side k ++ movesOf s side k := by unfold movesTo; rw [List.range_succ, List.flatMap_append]; simp
/-- Those of one piece to the first k squares. -/
def goTo (s : ByteArray) (a k : Nat) : List (Nat × Nat) := ((List.range k).filter fun b => canB s a b).map fun b => (a, b)
theorem goTo_succ (s : ByteArray) (a k : Nat) : goTo s a (k + 1) = if canB s a k then goTo s a k ++ [(a, k)] else goTo s a k := by
  unfold goTo
  rw [List.range_succ, List.filter_append]
  cases h : canB s a k <;> simp [h]
theorem goTo_len (s : ByteArray) (a k : Nat) : (goTo s a k).length ≤ k := by
  unfold goTo
  rw [List.length_map]
  exact Nat.le_trans (List.length_filter_le _ _) (by simp)
theorem movesOf_yes {s : ByteArray} {side : Int} {a : Nat} (h : sideN (bAt s a) = side) : movesOf s side a = goTo s a 90 := by unfold movesOf goTo reachN; rw [if_pos h]
theorem movesOf_no {s : ByteArray} {side : Int} {a : Nat} (h : sideN (bAt s a) ≠ side) : movesOf s side a = [] := by unfold movesOf; rw [if_neg h]
theorem movesTo_len (s : ByteArray) (side : Int) : ∀ k, (movesTo s side k).length ≤ k * 90
  | 0 => by simp [movesTo]
  | k + 1 => by
    rw [movesTo_succ, List.length_append]
    have h1 := movesTo_len s side k
    have h2 : (movesOf s side k).length ≤ 90 := by
      by_cases h : sideN (bAt s k) = side
      · rw [movesOf_yes h]
        exact goTo_len s k 90
      · rw [movesOf_no h]
        exact Nat.zero_le _
    omega
set_option maxRecDepth 100000 in
set_option maxHeartbeats 4000000 in
theorem rof_any (s : ByteArray) (side : Int) (w : World) (hs : 90 ≤ s.size) : Calls Tryz.prog 93 #[.string s, .int .i64 side] w (GivesM w (movesN s side) (movesN s side).length) := by
  obtain ⟨i0, hi, hy0, hy1, hy2⟩ := info_parts info_move
  go_enter Tryz.func93, Tryz.ntmps93
  go_wp2_with fail
  go_loopw [5, 6, 7] (fun v i _ wr => ∃ k : Nat, k ≤ 90 ∧ i = .int .i64 k ∧ wr.ownsRow w.heap.size 48 2 v (movesTo s side k).length (mvs (movesTo s side k)) ∧ Below w.heap.size w wr) (fun _ i _ _ => 90 - (intOf i).toNat)
  case atStart => exact ⟨0, by omega, rfl, by simpa [movesTo, mvs] using World.ownsRow_nil w w.heap.size 48 2, Below.refl _ _⟩
  case round =>
    obtain ⟨k, hk, rfl, hown, hB⟩ := hrel
    have hbs := hB.size
    have hle := movesTo_len s side k
    by_cases hlt : k < 90
    · obtain ⟨c, hc⟩ : ∃ c, bAt s k = c := ⟨_, rfl⟩
      have hks : k < s.size := by omega
      have hbk : s[k].toNat = c := (bAt_eq s k hks).trans hc
      obtain ⟨d, hd⟩ : ∃ d, sideN c = d := ⟨_, rfl⟩
      have Hd := Lib.hid hd
      by_cases hsd : d = side
      · have e0 : (d != side) = false := by rw [hsd]; simp
        have HM : Hid (movesTo s side (k + 1) = movesTo s side k ++ goTo s k 90) := by show _ = _; rw [movesTo_succ, movesOf_yes (by rw [hc, hd, hsd])]
        clear hc hd hsd
        go_wp2_with fail
        refine (rside_is c d _ Hd.out).mono ?_
        rintro e w1 ⟨rfl, rfl⟩
        go_wp2_with fail
        go_loopw [5, 7] (fun v i wr => ∃ b : Nat, b ≤ 90 ∧ i = .int .i64 b ∧ wr.ownsRow w.heap.size 48 2 v (movesTo s side k ++ goTo s k b).length (mvs (movesTo s side k ++ goTo s k b)) ∧ Below w.heap.size w wr) (fun _ i _ => 90 - (intOf i).toNat)
        case atStart => exact ⟨0, by omega, rfl, by simpa [goTo] using hown, hB⟩
        case round =>
          clear hown hB hbs
          obtain ⟨b, hb, rfl, hown, hB⟩ := hrel
          have hbs := hB.size
          have hle2 : (movesTo s side k ++ goTo s k b).length ≤ 8190 := by
            rw [List.length_append]
            have := goTo_len s k b
            omega
          by_cases hlt2 : b < 90
          · have hst := goTo_succ s k b
            cases hcb : canB s k b
            · rw [hcb] at hst
              have Hs := Lib.hid hst
              have Hm := Lib.hid hcb
              clear hst hcb
              go_wp2_with fail
              refine (fast_is s k b false _ hs hlt hlt2 Hm.out).mono ?_
              rintro e w1 ⟨rfl, rfl⟩
              go_wp2_with fail
              go_roundw
              case rel => exact ⟨b + 1, by omega, by go_num, by rw [Hs.out]; exact hown, hB⟩
              case measure => simp [intOf]; omega
            · rw [hcb, if_pos rfl] at hst
              have Hs : Hid (movesTo s side k ++ goTo s k (b + 1) = (movesTo s side k ++ goTo s k b) ++ [(k, b)]) := by show _ = _; rw [hst, List.append_assoc]
              have Hm := Lib.hid hcb
              clear hst hcb
              go_wp2_with fail
              refine (fast_is s k b true _ hs hlt hlt2 Hm.out).mono ?_
              rintro e w1 ⟨rfl, rfl⟩
              go_wp2_with (at_builtin; refine wpList_append_own _ rfl _ _ 24 rfl w.heap.size 48 i0 (.agg #[.int .i64 0, .int .i64 0]) 2 16 Tryz.underlying24 hi hy0 hy1 hy2 rfl (by decide) _ _ _ rfl (hown.alloc _) ⟨wr.heap.size, 0, none⟩ 1 1 [iv k, iv b] rfl rfl (cells_two_new _ _ _ _) (by simp [Value.oneCell']) (by unfold maxLen; omega) (by omega) (by simp; omega) ?_; intro v' w1 hown' hgrow _)
              go_roundw
              case rel => exact ⟨b + 1, by omega, by go_num, by rw [Hs.out, mvs_app, List.length_append]; exact hown', below_app hB hbs hown hgrow⟩
              case measure => simp [intOf]; omega
          · obtain rfl : b = 90 := by omega
            go_wp2_with fail
            go_roundw
            case rel => exact ⟨k + 1, by omega, by go_num, by rw [HM.out]; exact hown, hB⟩
            case measure => simp [intOf]; omega
      · have e0 : (d != side) = true := by rw [bne_iff_ne]; exact hsd
        have HM : Hid (movesTo s side (k + 1) = movesTo s side k) := by show _ = _; rw [movesTo_succ, movesOf_no (by rw [hc, hd]; exact hsd), List.append_nil]
        clear hc hd hsd
        go_wp2_with fail
        refine (rside_is c d _ Hd.out).mono ?_
        rintro e w1 ⟨rfl, rfl⟩
        go_wp2_with fail
        go_roundw
        case rel => exact ⟨k + 1, by omega, by go_num, by rw [HM.out]; exact hown, hB⟩
        case measure => simp [intOf]; omega
    · obtain rfl : k = 90 := by omega
      have hf : movesTo s side 90 = movesN s side := rfl
      rw [hf] at hown
      obtain ⟨A', c', rfl⟩ := owns_slice hown
      go_wp2
      go_ret
      exact ⟨A', c', rfl, Rd.owns hown, hB⟩
/-- Where the k-th of a slice's moves lies. -/
theorem Rd.move {w : World} {A : Option Addr} {l : List (Nat × Nat)} (h : Rd w A (mvs l)) {k : Nat} (hk : k < l.length) : ∃ g b, A = some ⟨g, b, none⟩ ∧ w.cell? ⟨g, b + k * 2, none⟩ = some (iv l[k].1) ∧ w.cell? ⟨g, b + k * 2 + 1, none⟩ = some (iv l[k].2) := by
  obtain ⟨m0, m1⟩ := mvs_at l k hk
  obtain ⟨⟨g, b, sp⟩, rfl, hc0⟩ := h _ _ m0
  obtain ⟨a', e1, hc1⟩ := h _ _ m1
  cases e1
  obtain ⟨a0, e0, hc⟩ := h _ _ (mvs_at l 0 (by omega)).1
  cases e0
  have hsp : sp = none := by simpa [Addr.add] using World.cell?_spot hc
  subst hsp
  have hadd : ∀ j, (Addr.add ⟨g, b, none⟩ j) = ⟨g, b + j, none⟩ := fun j => by
    simp only [Addr.add]
    split <;> simp_all
  rw [hadd, Nat.mul_comm] at hc0
  rw [hadd, Nat.mul_comm] at hc1
  exact ⟨g, b, rfl, hc0, hc1⟩
theorem Rd.move_at {w : World} {g b : Nat} {l : List (Nat × Nat)} (h : Rd w (some ⟨g, b, none⟩) (mvs l)) {k : Nat} (hk : k < l.length) : w.cell? ⟨g, b + k * 2, none⟩ = some (iv l[k].1) ∧ w.cell? ⟨g, b + k * 2 + 1, none⟩ = some (iv l[k].2) := by
  obtain ⟨g', b', e, h0, h1⟩ := h.move hk
  cases e
  exact ⟨h0, h1⟩
theorem neq_move (a b c d : Int) (W : World) : (binOp .neq 48 (.agg #[.int .i64 a, .int .i64 b]) (.agg #[.int .i64 c, .int .i64 d])).run Tryz.prog W = .ok (.bool (!(a == c && b == d))) W := by
  cases h1 : (a == c) <;> cases h2 : (b == d) <;> go_simp
theorem eql_move (a b c d : Int) (W : World) : (binOp .eql 48 (.agg #[.int .i64 a, .int .i64 b]) (.agg #[.int .i64 c, .int .i64 d])).run Tryz.prog W = .ok (.bool (a == c && b == d)) W := by
  cases h1 : (a == c) <;> cases h2 : (b == d) <;> go_simp
set_option maxRecDepth 100000 in
set_option maxHeartbeats 2000000 in
theorem same_true (A B : Option Addr) (l : List (Nat × Nat)) (n c d : Nat) (w : World) (hx : Rd w A (mvs l)) (hy : Rd w B (mvs l)) (hn : l.length = n) (hm : n ≤ 1000000) :
    Calls Tryz.prog 31 #[.slice A n c, .slice B n d] w (Gives w (.bool true)) := by
  unfold Gives
  have HN := Lib.hid hn
  clear hn
  go_enter Tryz.func31, Tryz.ntmps31
  go_wp2
  go_loopw [5] (fun i wr => ∃ k : Nat, k ≤ n ∧ i = .int .i64 k ∧ Below w.heap.size w wr) (fun i _ => n - (intOf i).toNat)
  case atStart => exact ⟨0, Nat.zero_le _, rfl, Below.refl _ _⟩
  case round =>
    obtain ⟨k, hk, rfl, hB⟩ := hrel
    by_cases hlt : k < n
    · have hkl : k < l.length := by rw [HN.out]; exact hlt
      obtain ⟨g1, o1, rfl, c0, c1⟩ := hx.move hkl
      obtain ⟨g2, o2, rfl, d0, d1⟩ := hy.move hkl
      obtain ⟨u, hu⟩ : ∃ u, l[k].1 = u := ⟨_, rfl⟩
      obtain ⟨v, hv⟩ : ∃ v, l[k].2 = v := ⟨_, rfl⟩
      rw [hu] at c0 d0
      rw [hv] at c1 d1
      have hc0 := (hB.cell (p := ⟨g1, o1 + k * 2, none⟩) (cell_lt c0)).trans c0
      have hc1 := (hB.cell (p := ⟨g1, o1 + k * 2 + 1, none⟩) (cell_lt c1)).trans c1
      have hd0 := (hB.cell (p := ⟨g2, o2 + k * 2, none⟩) (cell_lt d0)).trans d0
      have hd1 := (hB.cell (p := ⟨g2, o2 + k * 2 + 1, none⟩) (cell_lt d1)).trans d1
      have b1 : (k : Int) < (n : Int) := by omega
      have hne := neq_move
      clear c0 c1 d0 d1 hu hv
      go_wp2_with fail
      go_quiet (fail)
      go_wp2_with fail
      go_roundw
      case rel => exact ⟨k + 1, by omega, by go_num, below_drewN hB _⟩
      case measure => simp [intOf]; omega
    · obtain rfl : k = n := by omega
      go_wp2
      go_ret
      exact ⟨rfl, hB⟩
/-- What Moves answers. -/
def movesV (s : ByteArray) (side clock full : Int) : List (Nat × Nat) := if checkN s side clock full = 0 then movesN s side else []
theorem check_size {s : ByteArray} {side clock full : Int} (h : checkN s side clock full = 0) : 90 ≤ s.size := by
  have := isB_size (parts_board (check_zero (s := s) (side := side) (clock := clock) (full := full) (by rw [h]; rfl)).1)
  omega
theorem rofm_is (s : ByteArray) (side : Int) (l : List (Nat × Nat)) (n : Nat) (w : World) (hs : 90 ≤ s.size) (h : movesN s side = l) (hn : l.length = n) : Calls Tryz.prog 93 #[.string s, .int .i64 side] w (GivesM w l n) := by subst h; subst hn; exact rof_any s side w hs
end Go.Proofs.YtbdgbihdhbjljaaGreatDoor
