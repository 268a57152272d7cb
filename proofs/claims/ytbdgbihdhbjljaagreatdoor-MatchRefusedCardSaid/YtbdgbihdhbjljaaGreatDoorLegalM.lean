/- Merged: LegalA LegalB DelB LegalC LegalD LegalE. -/
import Derived.Test.YtbdgbihdhbjljaaGreatDoorCheckA
import Derived.Test.YtbdgbihdhbjljaaGreatDoorPseudoM
import Derived.Test.YtbdgbihdhbjljaaGreatDoorDelA
import Derived.Test.YtbdgbihdhbjljaaGreatDoorCheckM

namespace Go.Proofs.YtbdgbihdhbjljaaGreatDoor

theorem find_same {p q : Nat → Bool} : ∀ {l : List Nat}, (∀ k ∈ l, p k = q k) → l.find? p = l.find? q
  | [], _ => rfl
  | x :: r, h => by
    rw [List.find?_cons, List.find?_cons, h x (by simp), find_same fun k hk => h k (by simp [hk])]
theorem facing_parts {s : ByteArray} (h : facingB s = true) : ∃ a b, Two s a b ∧ isB s = true ∧ a % 9 = b % 9 ∧ betweenN s a b = 0 := by
  unfold facingB at h
  cases ha : leastN s 75 with
  | none => rw [ha] at h; cases h
  | some a =>
    cases hb : leastN s 107 with
    | none => rw [ha, hb] at h; cases h
    | some b =>
      rw [ha, hb] at h
      simp only [Bool.and_eq_true, beq_iff_eq] at h
      exact ⟨a, b, ⟨(least_some ha).1, (least_some hb).1, ha, hb⟩, h.1.1, h.1.2, h.2⟩
theorem between_zero {s : ByteArray} {a b n : Nat} (h : betweenN s a b = 0) (hn : n < 90) (hw : wayB a b n = true) : bAt s n = 46 := by
  unfold betweenN trues at h
  rw [List.length_map, List.length_eq_zero_iff] at h
  have := List.filter_eq_nil_iff.1 h n (List.mem_range.2 hn)
  rw [hw, Bool.true_and, bne_iff_ne] at this
  exact Classical.not_not.1 this
theorem between_some {s : ByteArray} {a b n : Nat} (hn : n < 90) (hw : wayB a b n = true) (h46 : bAt s n ≠ 46) : betweenN s a b ≠ 0 := fun h => h46 (between_zero h hn hw)
/-- Generals face one another no more, if a piece is put between them. -/
theorem facing_between {s : ByteArray} {a b n x : Nat} (h : Two s a b) (hs : isB s = true) (hf : a % 9 = b % 9) (h0 : betweenN s a b = 0) (h1 : min a b < n) (h2 : n < max a b) (h3 : n % 9 = a % 9) (hx : x < 256) (hside : 0 ≤ sideN x) (hk : kindN x ≠ 75) : facingB (putS s n x) = false := by
  have ha := h.ha
  have hb := h.hb
  have hz := isB_size hs
  have hn : n < 90 := by omega
  have hw : wayB a b n = true := by
    unfold wayB
    simp only [Bool.and_eq_true, Bool.or_eq_true, beq_iff_eq, decide_eq_true_eq]
    omega
  have h46 := between_zero h0 hn hw
  have hat : ∀ k, k < 90 → bAt (putS s n x) k = if k = n then x else bAt s k := fun k hk => put_at s n x k hx (by omega)
  have hleast : ∀ c, c = 75 ∨ c = 107 → leastN (putS s n x) c = leastN s c := fun c hc => by
    unfold leastN
    refine find_same fun k hk90 => ?_
    have hk90 := List.mem_range.1 hk90
    rw [hat k hk90]
    by_cases e : k = n
    · rw [if_pos e, e, h46]
      have e1 : (x == c) = false := by
        rw [beq_eq_false_iff_ne]
        intro e2
        exact hk (kind_k (by rw [e2]; exact hc))
      have e2 : ((46 : Nat) == c) = false := by rcases hc with rfl | rfl <;> rfl
      rw [e1, e2]
    · rw [if_neg e]
  have hb2 : betweenN (putS s n x) a b ≠ 0 := between_some hn hw (by
    rw [hat n hn, if_pos rfl]
    intro e
    rw [e] at hside
    exact absurd hside (by decide))
  unfold facingB
  rw [hleast 75 (.inl rfl), hleast 107 (.inr rfl), h.ka, h.kb]
  have : (betweenN (putS s n x) a b == 0) = false := by rw [beq_eq_false_iff_ne]; exact hb2
  simp [this]
theorem check_other {s : ByteArray} {side clock full : Int} (h : (checkN s side clock full : Int) = 0) : (side = 0 ∨ side = 1) ∧ (checkN s (1 - side) clock full : Int) = 0 := by
  obtain ⟨hp, hc, hpl⟩ := check_zero h
  have hnum : (side = 0 ∨ side = 1) ∧ 0 ≤ clock ∧ clock ≤ 120 ∧ 1 ≤ full ∧ full ≤ 9999 := by
    simp only [partsB, Bool.and_eq_true, Bool.or_eq_true, beq_iff_eq, decide_eq_true_eq] at hp
    exact ⟨hp.1.1.1.1.2, hp.1.1.1.2, hp.1.1.2, hp.1.2, hp.2⟩
  obtain ⟨h1, h2, h3, h4, h5⟩ := hnum
  refine ⟨h1, ?_⟩
  have hp2 := parts_true (side := 1 - side) (parts_board hp) (by rcases h1 with rfl | rfl <;> rfl) h2 h3 h4 h5
  rw [checkN, hp2, hc, hpl]
  rfl
theorem well_zero {s : ByteArray} {side clock full : Int} (h : wellN s side clock full = 0) : (checkN s side clock full : Int) = 0 ∧ facingB s = false ∧ inB s (1 - side) = false := by
  unfold wellN at h
  by_cases h0 : (checkN s side clock full : Int) = 0
  · rw [if_pos h0] at h
    refine ⟨h0, ?_⟩
    cases hf : facingB s
    · cases hi : inB s (1 - side)
      · exact ⟨rfl, rfl⟩
      · rw [hf, hi] at h
        exact absurd h (by decide)
    · rw [hf] at h
      exact absurd h (by simp)
  · rw [if_neg h0] at h
    exact absurd h h0
/-- A position that is right, the other side to move. -/
theorem well_other {s : ByteArray} {side clock full : Int} (h : wellN s side clock full = 0) : wellN s (1 - side) clock full = if inB s side then 5 else 0 := by
  obtain ⟨h0, hf, _⟩ := well_zero h
  obtain ⟨_, h1⟩ := check_other h0
  unfold wellN
  rw [if_pos h1, hf, show (1 : Int) - (1 - side) = side by omega]
  rfl
/-- Is a board right behind a side's move? Which moves may be made? -/
def safeB (s : ByteArray) (side : Int) : Bool := !facingB s && !inB s side
def behindS (s : ByteArray) (m : Nat × Nat) : ByteArray := movedS s m.1 m.2 (bAt s m.1)
def legalB (s : ByteArray) (side : Int) (m : Nat × Nat) : Bool := (kindN (bAt s m.2) != 75) && safeB (behindS s m) side
def legalN (s : ByteArray) (side : Int) : List (Nat × Nat) := (movesN s side).filter (legalB s side)
theorem legal_mem {s : ByteArray} {side : Int} {m : Nat × Nat} : m ∈ legalN s side ↔ m.1 < 90 ∧ m.2 < 90 ∧ sideN (bAt s m.1) = side ∧ canB s m.1 m.2 = true ∧ kindN (bAt s m.2) ≠ 75 ∧ safeB (behindS s m) side = true := by
  obtain ⟨a, b⟩ := m
  unfold legalN legalB
  rw [List.mem_filter, moves_mem, Bool.and_eq_true, bne_iff_ne]
  constructor
  · rintro ⟨⟨h1, h2, h3, h4⟩, h5, h6⟩
    exact ⟨h1, h2, h3, h4, h5, h6⟩
  · rintro ⟨h1, h2, h3, h4, h5, h6⟩
    exact ⟨⟨h1, h2, h3, h4⟩, h5, h6⟩
/-- Behind a move that takes no general a position is right just if the board is safe. -/
theorem well_behind {s : ByteArray} {side clock full : Int} (h : (checkN s side clock full : Int) = 0) {a b : Nat} (ha : a < 90) (hb : b < 90) (hcan : canB s a b = true) (hk : kindN (bAt s b) ≠ 75) : (wellN (behindS s (a, b)) (1 - side) (clockA s clock b) (fullA side full) = 0) ↔ safeB (behindS s (a, b)) side = true := by
  have h1 : (checkN (behindS s (a, b)) (1 - side) (clockA s clock b) (fullA side full) : Int) = 0 := check_moved h ha hb hcan hk
  unfold wellN safeB
  rw [if_pos h1, show (1 : Int) - (1 - side) = side by omega]
  cases facingB (behindS s (a, b)) <;> cases inB (behindS s (a, b)) side <;> simp
theorem behind_turn {s : ByteArray} (hs : isB s = true) {a b : Nat} (ha : a < 90) (hb : b < 90) : behindS (turnB s) (89 - a, 89 - b) = turnB (behindS s (a, b)) := by
  unfold behindS movedS
  have h1 := put_turn hs ha (c := 46) (by decide) (by decide)
  have h2 := put_turn (put_is_board hs a 46 (by decide) (by decide)) hb (bAt_lt s a) (isB_fill hs a ha)
  rw [h2, h1]
  show putS (putS (turnB s) (89 - a) 46) (89 - b) (bAt (turnB s) (89 - a)) = _
  rw [turn_bAt hs ha]
  rfl
theorem behind_facts {s : ByteArray} (hs : isB s = true) (hc : countsB s 90 = true) {a b : Nat} (ha : a < 90) (hb : b < 90) (hne : a ≠ b) (hk : kindN (bAt s b) ≠ 75) : isB (behindS s (a, b)) = true ∧ cntN (behindS s (a, b)) 90 75 = 1 ∧ cntN (behindS s (a, b)) 90 107 = 1 := by
  obtain ⟨_, h1, h2⟩ := counts_parts (counts_moved (isB_size hs) hc ha hb hne hk)
  exact ⟨moved_board hs (bAt_lt s a) (isB_fill hs a ha), h1, h2⟩
theorem safe_turn {s : ByteArray} (hs : isB s = true) (h1 : cntN s 90 75 = 1) (h2 : cntN s 90 107 = 1) {side : Int} (hsd : side = 0 ∨ side = 1) : safeB (turnB s) (1 - side) = safeB s side := by
  unfold safeB
  rw [facing_turn hs h1 h2, in_turn hs h1 h2 hsd]
/-- Seen from the other side the same moves may be made, the last one first. -/
theorem legal_turn {s : ByteArray} (hs : isB s = true) (hc : countsB s 90 = true) {side : Int} (hsd : side = 0 ∨ side = 1) : legalN (turnB s) (1 - side) = ((legalN s side).map turnM).reverse := by
  unfold legalN
  rw [moves_turn hs hsd, List.filter_reverse, List.filter_map]
  congr 2
  refine List.filter_congr fun m hm => ?_
  obtain ⟨a, b⟩ := m
  obtain ⟨ha, hb, _, hcan⟩ := moves_mem.1 hm
  show legalB (turnB s) (1 - side) (89 - a, 89 - b) = legalB s side (a, b)
  unfold legalB
  show ((kindN (bAt (turnB s) (89 - b)) != 75) && safeB (behindS (turnB s) (89 - a, 89 - b)) (1 - side)) = ((kindN (bAt s b) != 75) && safeB (behindS s (a, b)) side)
  rw [turn_bAt hs hb, swap_kind, behind_turn hs ha hb]
  by_cases hk : kindN (bAt s b) = 75
  · rw [hk]
    rfl
  · obtain ⟨f1, f2, f3⟩ := behind_facts hs hc ha hb (can_self hcan) hk
    rw [safe_turn f1 f2 f3 hsd]
end Go.Proofs.YtbdgbihdhbjljaaGreatDoor

namespace Go.Proofs.YtbdgbihdhbjljaaGreatDoor
open Go.RowKit

/-- Is what is behind a move right? -/
def leavesI (s : ByteArray) (side clock full a b : Int) : Bool := isM s side a b && (kindN (bAt s b.toNat) != 75) && (wellN (movedS s a.toNat b.toNat (bAt s a.toNat)) (1 - side) (clockA s clock b.toNat) (fullA side full) == 0)
def leavesB (s : ByteArray) (side clock full : Int) (m : Nat × Nat) : Bool := leavesI s side clock full m.1 m.2
def legalV (s : ByteArray) (side clock full : Int) : List (Nat × Nat) := if wellN s side clock full = 0 then (movesV s side clock full).filter (leavesB s side clock full) else []
def legalC (s : ByteArray) (side clock full : Int) : List (Nat × Nat) := (legalV s side clock full).filter fun m => bAt s m.2 != 46
def hasV (s : ByteArray) (side clock full : Int) : Bool := (movesV s side clock full).any (leavesB s side clock full)
def endV (s : ByteArray) (side clock full : Int) : Int := if wellN s side clock full = 0 then (if hasV s side clock full then 0 else if inB s side then 1 else 2) else 0
def noneV (k : Int) : Value := .tuple #[.agg #[.string ⟨#[]⟩, .int .i64 0, .int .i64 0, .int .i64 0], .int .u8 0, .int .i64 k]
def makeV (s : ByteArray) (side clock full a b : Int) : Value := if wellN s side clock full = 0 then (if leavesI s side clock full a b then applyV s side clock full a b else noneV 7) else noneV (wellN s side clock full)
def isV (s : ByteArray) (side clock full a b : Int) : Bool := (wellN s side clock full == 0) && leavesI s side clock full a b
theorem well_check {s : ByteArray} {side clock full : Int} (h : wellN s side clock full = 0) : checkN s side clock full = 0 := by
  have := (well_zero h).1
  omega
theorem isM_two {s : ByteArray} {side : Int} (hB : isB s = true) {a b : Nat} (ha : a < 90) (hb : b < 90) : isM s side (a : Int) (b : Int) = (canB s a b && (sideN (bAt s a) == side)) := by
  unfold isM canI
  rw [hB, sqI_true (n := (a : Int)) (by omega), sqI_true (n := (b : Int)) (by omega), Int.toNat_natCast, Int.toNat_natCast]
  rfl
theorem leaves_legal {s : ByteArray} {side clock full : Int} (hc : (checkN s side clock full : Int) = 0) {m : Nat × Nat} (h : m ∈ movesN s side) : leavesB s side clock full m = legalB s side m := by
  obtain ⟨a, b⟩ := m
  obtain ⟨ha, hb, hs, hcan⟩ := moves_mem.1 h
  have hbd := parts_board (check_zero hc).1
  unfold leavesB leavesI legalB
  rw [isM_two hbd ha hb, hcan, hs, Int.toNat_natCast, Int.toNat_natCast]
  simp only [beq_self_eq_true, Bool.and_true, Bool.true_and]
  by_cases hk : kindN (bAt s b) = 75
  · rw [hk]
    rfl
  · have := well_behind hc ha hb hcan hk
    have e : (wellN (movedS s a b (bAt s a)) (1 - side) (clockA s clock b) (fullA side full) == 0) = safeB (behindS s (a, b)) side := by
      rw [Bool.eq_iff_iff, beq_iff_eq]
      exact this
    rw [e]
theorem legal_same (s : ByteArray) (side clock full : Int) : legalV s side clock full = if wellN s side clock full = 0 then legalN s side else [] := by
  unfold legalV
  split
  · rename_i h
    have hc := well_check h
    have hc' : (checkN s side clock full : Int) = 0 := by omega
    rw [movesV, if_pos hc]
    unfold legalN
    exact List.filter_congr fun m hm => leaves_legal hc' hm
  · rfl
theorem caps_legal (s : ByteArray) (side clock full : Int) (h : wellN s side clock full = 0) : (capsV s side clock full).filter (leavesB s side clock full) = legalC s side clock full := by
  unfold capsV legalC legalV
  rw [if_pos h, List.filter_filter, List.filter_filter]
  refine List.filter_congr fun m _ => ?_
  rw [Bool.and_comm]
theorem has_legal (s : ByteArray) (side clock full : Int) (h : wellN s side clock full = 0) : hasV s side clock full = ((legalV s side clock full).length != 0) := by
  unfold hasV legalV
  rw [if_pos h, Bool.eq_iff_iff, List.any_eq_true, bne_iff_ne, ne_eq, List.length_eq_zero_iff, List.filter_eq_nil_iff]
  constructor
  · rintro ⟨m, h1, h2⟩ h3
    exact h3 m h1 h2
  · intro h3
    rcases Classical.em (∃ m, m ∈ movesV s side clock full ∧ leavesB s side clock full m = true) with h4 | h4
    · exact h4
    · exact absurd (fun m hm hl => h4 ⟨m, hm, hl⟩) h3
theorem legalV_len (s : ByteArray) (side clock full : Int) : (legalV s side clock full).length ≤ 8100 := by
  unfold legalV
  split
  · exact Nat.le_trans (List.length_filter_le _ _) (movesV_len s side clock full)
  · simp
end Go.Proofs.YtbdgbihdhbjljaaGreatDoor

namespace Go.Proofs.YtbdgbihdhbjljaaGreatDoor
open Go.RowKit Go.Shelf
open M (S)

abbrev encM : Nat × Nat → List Value := fun m => [iv m.1, iv m.2]
abbrev aggM (m : Nat × Nat) : Value := .agg #[.int .i64 (m.1 : Int), .int .i64 (m.2 : Int)]
theorem encM_len (m : Nat × Nat) : (encM m).length = 2 := rfl
theorem encM_flat (l : List (Nat × Nat)) : l.flatMap encM = mvs l := rfl
theorem clear_two {P : Program} (w : World) (t e ty : TypeId) (z : Value) (x y : Value) (ht : P.underlying t = some (.slice e)) (hv : ∀ w, (zeroValue e).run P w = .ok z w) (hz : z.cells = #[x, y]) (hx : x.oneCell' = true) (hy : y.oneCell' = true) (b o n c : Nat) (hn : 0 < n)
    (hc : ∀ j, j < n * 2 → (w.cell? ⟨b, o + j, none⟩).isSome = true) (hf : ∀ j, j < n * 2 → w.frozen? ⟨b, o + j, none⟩ = false) :
    ∃ us : List Value, us.length = n * 2 ∧ (Builtin.clear_ #[t] ty #[.slice (some ⟨b, o, none⟩) n c]).run P w = .ok (.tuple #[]) (w.setCells b o us) := by
  obtain ⟨us, hus⟩ : ∃ us, (Builtin.zeroCells z.cells n).toList = us := ⟨_, rfl⟩
  have hl : us.length = n * 2 := by rw [← hus, hz]; simp [Builtin.zeroCells]
  refine ⟨us, hl, ?_⟩
  have hone : ∀ v ∈ us, v.oneCell' = true := by
    intro v hv'
    rw [← hus, hz] at hv'
    simp only [Builtin.zeroCells, Array.toList_map, List.mem_map, Array.toList_range] at hv'
    obtain ⟨i, _, rfl⟩ := hv'
    have : i % #[x, y].size = 0 ∨ i % #[x, y].size = 1 := by
      simp
      omega
    rcases this with h | h
    · rw [h]; exact hx
    · rw [h]; exact hy
  have hst := run_storeCells_cells (P := P) b o us 0 w (by simpa [hl] using hc) (by simpa [hl] using hf) hone
  simp only [Nat.add_zero] at hst
  obtain ⟨m, rfl⟩ : ∃ m, n = m + 1 := ⟨n - 1, by omega⟩
  simp [Builtin.clear_, run_underlying ht, hv, hus, hst]
set_option maxHeartbeats 2000000 in
theorem idx_moves (l : List (Nat × Nat)) (p : Nat × Nat → Bool) (fn : Nat) (lb : Array Value) (eg : ∀ args w, (callFunc fn args).run Tryz.prog w = .ok (.enter fn args) w) (g n cap : Nat) (Wb W : World) (hp : PredOn fn lb aggM p l Wb) (hr : RowAt W Wb.heap.size 48 2 g n cap (mvs l)) (hn : l.length = n) (hm : n ≤ 1000000) (hb : Below Wb.heap.size Wb W) :
    Calls Tryz.prog 89 #[.slice (some ⟨g, 0, none⟩) n cap, .func (.func fn) #[] lb] W fun e w' => FirstAt p l e ∧ Below W.heap.size W w' := by
  have HN := Lib.hid hn
  have HP := Lib.hid hp
  clear hn hp
  go_enter Tryz.func89, Tryz.ntmps89
  go_wp2
  go_loopg [5, 8] n (fun gg _ s8 wr => ∃ kk : Nat, kk ≤ n ∧ n - kk ≤ gg ∧ s8 = .int .i64 kk ∧ Below W.heap.size W wr ∧ Hid (∀ j (hj : j < l.length), j < kk → p l[j] = false))
  case atStart => exact ⟨0, Nat.zero_le _, by omega, rfl, Below.refl _ _, fun j _ hj => absurd hj (Nat.not_lt_zero _)⟩
  case round =>
    obtain ⟨kk, hkk, hg, rfl, BW, NO⟩ := hrel
    by_cases hlt : kk < n
    · have hltz : (kk : Int) < (n : Int) := by omega
      have hkl : kk < l.length := by rw [HN.out]; exact hlt
      have hR := hr.next BW
      obtain ⟨m0, m1⟩ := mvs_at l kk hkl
      have hc0 : wr.cell? ⟨g, kk * 2, none⟩ = some (.int .i64 (l[kk].1 : Int)) := by rw [hR.cell (by omega), Nat.mul_comm]; exact m0
      have hc1 : wr.cell? ⟨g, kk * 2 + 1, none⟩ = some (.int .i64 (l[kk].2 : Int)) := by rw [hR.cell (by omega), Nat.mul_comm]; exact m1
      have hcall := HP.out wr l[kk] (List.getElem_mem hkl) (hb.trans (BW.mono hb.size))
      obtain ⟨⟨u, v⟩, hy⟩ : ∃ y, l[kk] = y := ⟨_, rfl⟩
      have HY := Lib.hid hy
      rw [hy] at hc0 hc1 hcall
      clear hy hR m0 m1
      cases hq : p (u, v)
      · rw [hq] at hcall
        have HQ := Lib.hid hq
        clear hq
        go_wp2_with fail
        go_at_fn fn
        refine hcall.mono ?_
        rintro e w' ⟨rfl, hb'⟩
        go_wp2_with fail
        go_roundg (n - (kk + 1))
        case measure => omega
        case rel =>
          refine ⟨kk + 1, by omega, by omega, by go_num, BW.trans (hb'.mono BW.size), ?_⟩
          show ∀ j (hj : j < l.length), j < kk + 1 → _
          intro j hj hjk
          by_cases e : j = kk
          · subst e
            rw [HY.out]
            exact HQ.out
          · exact NO.out j hj (by omega)
      · rw [hq] at hcall
        have HQ := Lib.hid hq
        clear hq
        go_wp2_with fail
        go_at_fn fn
        refine hcall.mono ?_
        rintro e w' ⟨rfl, hb'⟩
        go_wp2_with fail
        go_ret
        exact ⟨.inr ⟨kk, hkl, rfl, by rw [HY.out]; exact HQ.out, fun t ht => NO.out t (by omega) ht⟩, BW.trans (hb'.mono BW.size)⟩
    · have hltz : ¬ (kk : Int) < (n : Int) := by omega
      obtain rfl : kk = n := by omega
      go_wp2
      go_ret
      refine ⟨.inl ⟨rfl, fun x hx => ?_⟩, BW⟩
      obtain ⟨j, hj, rfl⟩ := List.mem_iff_getElem.1 hx
      exact NO.out j hj (by rw [← HN.out]; exact hj)
theorem idx_none (fv : Value) (w : World) : Calls Tryz.prog 89 #[.slice none 0 0, fv] w fun e w' => e = .returned (.int .i64 (-1)) ∧ w = w' := by
  go_enter Tryz.func89, Tryz.ntmps89
  go_wp2
  go_loopg [5, 8] 0 (fun gg _ s8 wr => s8 = .int .i64 0 ∧ w = wr)
  case atStart => exact ⟨rfl, rfl⟩
  case round =>
    obtain ⟨rfl, rfl⟩ := hrel
    go_wp2
    go_ret
    exact ⟨rfl, rfl⟩
theorem idx_own (l : List (Nat × Nat)) (p : Nat × Nat → Bool) (fn : Nat) (lb : Array Value) (eg : ∀ args w, (callFunc fn args).run Tryz.prog w = .ok (.enter fn args) w) (v : Value) (n : Nat) (Wb W : World) (hp : PredOn fn lb aggM p l Wb) (ho : W.ownsRow Wb.heap.size 48 2 v n (mvs l)) (hn : l.length = n) (hm : n ≤ 1000000) (hb : Below Wb.heap.size Wb W) :
    Calls Tryz.prog 89 #[v, .func (.func fn) #[] lb] W fun e w' => FirstAt p l e ∧ Below W.heap.size W w' := by
  rcases row_of_own ho with ⟨rfl, rfl⟩ | ⟨g, cap, rfl, hrow⟩
  · have hl : l = [] := List.eq_nil_of_length_eq_zero hn
    subst hl
    exact (idx_none _ W).mono fun e w' ⟨he, hw⟩ => ⟨.inl ⟨he, fun x hx => by simp at hx⟩, hw ▸ Below.refl _ _⟩
  · exact idx_moves l p fn lb eg g n cap Wb W hp hrow hn hm hb
theorem contains_own (l : List (Nat × Nat)) (p : Nat × Nat → Bool) (fn : Nat) (lb : Array Value) (eg : ∀ args w, (callFunc fn args).run Tryz.prog w = .ok (.enter fn args) w) (v : Value) (n : Nat) (Wb W : World) (hp : PredOn fn lb aggM p l Wb) (ho : W.ownsRow Wb.heap.size 48 2 v n (mvs l)) (hn : l.length = n) (hm : n ≤ 1000000) (hb : Below Wb.heap.size Wb W) :
    Calls Tryz.prog 49 #[v, .func (.func fn) #[] lb] W (Gives W (.bool (l.any p))) := by
  unfold Gives
  have hidx := Lib.hid (idx_own l p fn lb eg v n Wb W hp ho hn hm hb)
  obtain ⟨A, c, rfl⟩ := owns_slice ho
  clear hp ho hn hm hb
  go_enter Tryz.func49, Tryz.ntmps49
  go_wp2_with fail
  refine hidx.out.mono ?_
  rintro e w1 ⟨hres, hb1⟩
  rcases hres with ⟨rfl, hall⟩ | ⟨i, hi, rfl, ht, _⟩
  · have K : Hid (l.any p = false) := by
      show _ = _
      rw [List.any_eq_false]
      intro x hx
      rw [hall x hx]
      simp
    clear hall
    go_wp2
    go_ret
    exact ⟨by rw [K.out]; rfl, hb1⟩
  · have K : Hid (l.any p = true) := by
      show _ = _
      rw [List.any_eq_true]
      exact ⟨_, List.getElem_mem hi, ht⟩
    have h0 : (0 : Int) ≤ (i : Int) := by omega
    clear ht
    go_wp2
    go_ret
    exact ⟨by rw [K.out]; rfl, hb1⟩
set_option maxRecDepth 100000 in
set_option maxHeartbeats 4000000 in
theorem del_moves (l : List (Nat × Nat)) (p : Nat × Nat → Bool) (fn : Nat) (lb : Array Value) (eg : ∀ args w, (callFunc fn args).run Tryz.prog w = .ok (.enter fn args) w) (v : Value) (n : Nat) (Wb W : World) (hp : PredOn fn lb aggM p l Wb) (hown : W.ownsRow Wb.heap.size 48 2 v n (mvs l)) (hn : l.length = n) (hm : n ≤ 1000000) (hb : Below Wb.heap.size Wb W) :
    Calls Tryz.prog 52 #[v, .func (.func fn) #[] lb] W fun e w' => ∃ v', e = .returned v' ∧ w'.ownsRow Wb.heap.size 48 2 v' (l.filter fun x => !p x).length (mvs (l.filter fun x => !p x)) ∧ Below Wb.heap.size Wb w' := by
  have hidx := Lib.hid (idx_own l p fn lb eg v n Wb W hp hown hn hm hb)
  rcases row_of_own hown with ⟨rfl, rfl⟩ | ⟨g, cap, rfl, hrow⟩
  · have hl : l = [] := List.eq_nil_of_length_eq_zero hn
    subst hl
    clear hown hn hidx hp
    go_enter Tryz.func52, Tryz.ntmps52
    go_wp2_with fail
    refine (idx_none _ _).mono ?_
    rintro e w1 ⟨rfl, rfl⟩
    go_wp2
    go_ret
    exact ⟨_, rfl, by simpa [mvs] using World.ownsRow_nil _ _ 48 2, hb⟩
  · have HP := Lib.hid hp
    have HN := Lib.hid hn
    have hcap : n ≤ cap := hrow.2.2.1
    have hmax : cap ≤ maxLen := hrow.2.2.2.1
    clear hown hp hn
    go_enter Tryz.func52, Tryz.ntmps52
    go_wp2_with fail
    refine hidx.out.mono ?_
    rintro e w1 ⟨hres, hb1⟩
    have hrow1 := hrow.next hb1
    have hB1 := hb.trans (hb1.mono hb.size)
    rcases hres with ⟨rfl, hall⟩ | ⟨i0, hi0, rfl, ht, hne⟩
    · have hf : (l.filter fun x => !p x) = l := by
        rw [List.filter_eq_self]
        intro a ha
        rw [hall a ha]
        rfl
      have HF := Lib.hid hf
      clear hall hf
      go_wp2
      go_ret
      exact ⟨_, rfl, by rw [HF.out, HN.out]; exact hrow1.own, hB1⟩
    · have hi0n : i0 < n := by rw [← HN.out]; exact hi0
      have hmid := Lib.hid (Mid.start (enc := encM) (k := 2) encM_len hi0 ht hne)
      rw [encM_flat] at hmid
      have hne1 : ((i0 : Int) == -1) = false := by rw [beq_eq_false_iff_ne]; omega
      clear ht hne hi0
      go_wp2_with fail
      go_loopg [5, 6, 7] n (fun gg s5 s6 _ wr => ∃ (i j : Nat) (xs : List Value), s5 = .int .i64 i ∧ s6 = .int .i64 j ∧ j ≤ n ∧ n - j ≤ gg ∧ i < j ∧ RowAt wr Wb.heap.size 48 2 g n cap xs ∧ Hid (Mid encM 2 p l i j xs) ∧ Below Wb.heap.size Wb wr)
      case atStart => exact ⟨i0, i0 + 1, _, rfl, by go_num, by omega, by omega, by omega, hrow1, hmid, hB1⟩
      case round =>
        obtain ⟨i, j, xs, rfl, rfl, hjn, hgg, hij, hR, HM, hB⟩ := hrel
        by_cases hlt : j < n
        · have hltz : (j : Int) < (n : Int) := by omega
          have hjl : j < l.length := by rw [HN.out]; exact hlt
          obtain ⟨⟨a, b⟩, hy⟩ : ∃ y, l[j] = y := ⟨_, rfl⟩
          have hcj : wr.cell? ⟨g, j * 2, none⟩ = some (.int .i64 (a : Int)) := by
            rw [hR.cell (by omega)]
            have := HM.out.at_ encM_len hjl (o := 0) (by omega)
            rw [Nat.add_zero] at this
            rw [this, hy]
            rfl
          have hcj1 : wr.cell? ⟨g, j * 2 + 1, none⟩ = some (.int .i64 (b : Int)) := by
            rw [hR.cell (by omega)]
            have := HM.out.at_ encM_len hjl (o := 1) (by omega)
            rw [this, hy]
            rfl
          obtain ⟨W2, hW2⟩ : ∃ W2, wr.alloc (.cells #[.int .i64 (a : Int), .int .i64 (b : Int)] 48) = W2 := ⟨_, rfl⟩
          have hb2 : Below wr.heap.size wr W2 := by rw [← hW2]; exact (by repeat (first | exact Below.refl _ _ | (refine Below.setCell ?_ (by first | omega | (simp; done) | (simp; omega) | (simp at *; omega)) _) | (refine Below.alloc ?_ (by first | omega | (simp; done) | (simp; omega) | (simp at *; omega)) _) | refine Below.drew ?_ | (refine below_drewN ?_ _) | (refine Below.trans ?_ (Below.mono (by assumption) (by first | omega | (simp; done) | (simp; omega) | (simp at *; omega))))))
          have bV : Blk W2 wr.heap.size 48 #[.int .i64 (a : Int), .int .i64 (b : Int)] := by rw [← hW2]; exact Blk.new _ _ _ rfl
          have hR2 := hR.next hb2
          have hB2 := hB.trans (hb2.mono hB.size)
          have v0 : W2.cell? ⟨wr.heap.size, 0, none⟩ = some (.int .i64 (a : Int)) := bV.cell 0
          have v1 : W2.cell? ⟨wr.heap.size, 1, none⟩ = some (.int .i64 (b : Int)) := bV.cell 1
          have hcall := HP.out W2 l[j] (List.getElem_mem hjl) hB2
          rw [hy] at hcall
          have HY := Lib.hid hy
          clear hy hb2
          cases hq : p (a, b)
          · rw [hq] at hcall
            have hk2 := Lib.hid (HM.out.keep encM_len hij hjl (by rw [HY.out]; exact hq))
            rw [HY.out] at hk2
            clear hq
            go_wp2_with fail
            go_at_fn fn
            refine hcall.mono ?_
            rintro e w' ⟨rfl, hb'⟩
            have hR' := hR2.next hb'
            have hB' := hB2.trans (hb'.mono hB2.size)
            have bV' := bV.next hb'
            have v0' : w'.cell? ⟨wr.heap.size, 0, none⟩ = some (.int .i64 (a : Int)) := bV'.cell 0
            have v1' : w'.cell? ⟨wr.heap.size, 1, none⟩ = some (.int .i64 (b : Int)) := bV'.cell 1
            obtain ⟨old, hold⟩ : ∃ old, w'.cell? ⟨g, i * 2, none⟩ = some old := by
              rw [hR'.cell (by omega)]
              exact ⟨_, List.getElem?_eq_getElem (by rw [hR'.1]; omega)⟩
            obtain ⟨old1, hold1⟩ : ∃ old, w'.cell? ⟨g, i * 2 + 1, none⟩ = some old := by
              rw [hR'.cell (by omega)]
              exact ⟨_, List.getElem?_eq_getElem (by rw [hR'.1]; omega)⟩
            have hfz := hR'.frozen (i * 2)
            have hfz1 := hR'.frozen (i * 2 + 1)
            have hi0' : (0 : Int) ≤ (i : Int) := by omega
            have hin' : (i : Int) < (n : Int) := by omega
            clear v0 v1 hcj hcj1
            go_wp2_with fail
            go_roundg (n - (j + 1))
            case measure => omega
            case rel =>
              refine ⟨i + 1, j + 1, _, by go_num, by go_num, by omega, Nat.le_refl _, by omega, (hR'.set (i * 2) (.int .i64 (a : Int))).set (i * 2 + 1) (.int .i64 (b : Int)), ?_, (hR'.set (i * 2) _).below (hR'.below hB' (i * 2) _) (i * 2 + 1) _⟩
              exact hk2.out
          · rw [hq] at hcall
            have hk2 := Lib.hid (HM.out.skip encM_len hjl (by rw [HY.out]; exact hq))
            clear hq
            go_wp2_with fail
            go_at_fn fn
            refine hcall.mono ?_
            rintro e w' ⟨rfl, hb'⟩
            go_wp2_with fail
            go_roundg (n - (j + 1))
            case measure => omega
            case rel => exact ⟨i, j + 1, xs, rfl, by go_num, by omega, Nat.le_refl _, by omega, hR2.next hb', hk2, hB2.trans (hb'.mono hB2.size)⟩
        · obtain rfl : j = n := by omega
          have hltz : ¬ (j : Int) < (j : Int) := by omega
          have hdone := HM.out
          rw [show j = l.length from HN.out.symm] at hdone
          obtain ⟨hi1, hi2⟩ := hdone.done encM_len
          rw [encM_flat] at hi2
          have HI1 := Lib.hid hi1
          have HI2 := Lib.hid hi2
          have hex : ∃ us : List Value, us.length = (j - i) * 2 ∧ ∀ ty, (Builtin.clear_ #[24] ty #[.slice (some ⟨g, i * 2, none⟩) (j - i) (cap - i)]).run Tryz.prog wr = .ok (.tuple #[]) (wr.setCells g (i * 2) us) := by
            have h1 := fun ty => clear_two (P := Tryz.prog) wr _ _ ty _ _ _ Tryz.underlying24 Tryz.zeroValue48 rfl rfl rfl g (i * 2) (j - i) (cap - i) (by omega) (fun t ht => by rw [hR.cell (by omega), List.getElem?_eq_getElem (by rw [hR.1]; omega)]; rfl) (fun t _ => hR.frozen _)
            obtain ⟨us, hl, h2⟩ := h1 0
            exact ⟨us, hl, fun ty => h2⟩
          obtain ⟨us, _, hcl⟩ := hex
          obtain ⟨ys, hR2, hy2, hB2⟩ := RowAt.sets us (i * 2) wr xs hR hB
          have HR2 := Lib.hid hR2
          have HB2 := Lib.hid hB2
          have hi0' : (0 : Int) ≤ (i : Int) := by omega
          have hin' : (i : Int) ≤ (j : Int) := by omega
          clear hdone hi1 hi2 hR2 hB2
          go_wp2
          go_ret
          refine ⟨_, rfl, ?_, HB2.out⟩
          have hcut := HR2.out.cut (i := i) (by omega)
          rw [hy2, HI2.out] at hcut
          have := hcut.own
          rw [← HI1.out]
          exact this
end Go.Proofs.YtbdgbihdhbjljaaGreatDoor

namespace Go.Proofs.YtbdgbihdhbjljaaGreatDoor
open Go.RowKit Go.Shelf
open M (S)

theorem apply_bad_value {s : ByteArray} {side clock full a b : Int} (hc : checkN s side clock full = 0) (h : ¬ (isM s side a b = true ∧ kindN (bAt s b.toNat) ≠ 75)) : applyV s side clock full a b = noneV 7 := by
  unfold applyV noneV
  rw [if_neg (fun e => e hc), if_neg h]
theorem apply_good_value {s : ByteArray} {side clock full a b : Int} (hc : checkN s side clock full = 0) (h : isM s side a b = true ∧ kindN (bAt s b.toNat) ≠ 75) : applyV s side clock full a b = .tuple #[.agg #[.string (movedS s a.toNat b.toNat (bAt s a.toNat)), .int .i64 (1 - side), .int .i64 (clockA s clock b.toNat), .int .i64 (fullA side full)], .int .u8 (takenN s b.toNat : Nat), .int .i64 0] := by
  unfold applyV
  rw [if_neg (fun e => e hc), if_pos h]
theorem leaves_good {s : ByteArray} {side clock full a b : Int} (h : isM s side a b = true ∧ kindN (bAt s b.toNat) ≠ 75) : leavesI s side clock full a b = (wellN (movedS s a.toNat b.toNat (bAt s a.toNat)) (1 - side) (clockA s clock b.toNat) (fullA side full) == 0) := by
  unfold leavesI
  rw [h.1, show (kindN (bAt s b.toNat) != 75) = true by rw [bne_iff_ne]; exact h.2]
  rfl
theorem leaves_bad {s : ByteArray} {side clock full a b : Int} (h : ¬ (isM s side a b = true ∧ kindN (bAt s b.toNat) ≠ 75)) : leavesI s side clock full a b = false := by
  rw [Bool.eq_false_iff]
  intro h2
  unfold leavesI at h2
  simp only [Bool.and_eq_true, bne_iff_ne] at h2
  exact h h2.1
/-- The world at the start: a position, a move. -/
theorem pm_start {w W1 : World} {x y z u m n : Value} (h : (w.alloc (.cells #[x, y, z, u] 23)).alloc (.cells #[m, n] 48) = W1) :
    Below w.heap.size w W1 ∧ Blk W1 w.heap.size 23 #[x, y, z, u] ∧ Blk W1 (w.heap.size + 1) 48 #[m, n] := by
  subst h
  exact ⟨(by repeat (first | exact Below.refl _ _ | (refine Below.setCell ?_ (by first | omega | (simp; done) | (simp; omega) | (simp at *; omega)) _) | (refine Below.alloc ?_ (by first | omega | (simp; done) | (simp; omega) | (simp at *; omega)) _) | refine Below.drew ?_ | (refine below_drewN ?_ _) | (refine Below.trans ?_ (Below.mono (by assumption) (by first | omega | (simp; done) | (simp; omega) | (simp at *; omega)))))), (Blk.new _ _ _ rfl).alloc _, Blk.new _ _ _ (by simp)⟩
set_option maxRecDepth 100000 in
set_option maxHeartbeats 4000000 in
theorem leaves_any (s : ByteArray) (side clock full a b : Int) (w : World) (hT : Tab w) (hc : checkN s side clock full = 0) :
    Calls Tryz.prog 158 #[.agg #[.string s, .int .i64 side, .int .i64 clock, .int .i64 full], .agg #[.int .i64 a, .int .i64 b]] w (Gives w (.bool (leavesI s side clock full a b))) := by
  unfold Gives
  obtain ⟨W1, hW1⟩ : ∃ W1, (w.alloc (.cells #[.string s, .int .i64 side, .int .i64 clock, .int .i64 full] 23)).alloc (.cells #[.int .i64 a, .int .i64 b] 48) = W1 := ⟨_, rfl⟩
  obtain ⟨hB, bP, bM⟩ := pm_start hW1
  obtain ⟨p0, p1, p2, p3⟩ := ppos_cells bP
  have m0 : W1.cell? ⟨w.heap.size + 1, 0, none⟩ = some (.int .i64 a) := bM.cell 0
  have m1 : W1.cell? ⟨w.heap.size + 1, 1, none⟩ = some (.int .i64 b) := bM.cell 1
  replace hT := hT.next hB
  by_cases h : isM s side a b = true ∧ kindN (bAt s b.toNat) ≠ 75
  · obtain ⟨q, hq⟩ : ∃ q, movedS s a.toNat b.toNat (bAt s a.toNat) = q := ⟨_, rfl⟩
    obtain ⟨y, hy⟩ : ∃ y : Int, 1 - side = y := ⟨_, rfl⟩
    obtain ⟨z, hz⟩ : ∃ z, clockA s clock b.toNat = z := ⟨_, rfl⟩
    obtain ⟨u, hu⟩ : ∃ u, fullA side full = u := ⟨_, rfl⟩
    obtain ⟨t, ht⟩ : ∃ t : Int, (takenN s b.toNat : Nat) = t := ⟨_, rfl⟩
    obtain ⟨k, hk⟩ : ∃ k, wellN q y z u = k := ⟨_, rfl⟩
    have hV := apply_good_value hc h
    have K : Hid (leavesI s side clock full a b = (k == 0)) := by show _ = _; rw [leaves_good h, hq, hy, hz, hu, hk]
    rw [hq, hy, hz, hu, ht] at hV
    have HV := Lib.hid hV
    have HK := Lib.hid hk
    clear hV hk hq hy hz hu ht h hc
    go_enter Tryz.func158, Tryz.ntmps158
    go_wp2_with fail
    refine (apply_is s side clock full a b _ _ HV.out).mono ?_
    rintro e w2 ⟨rfl, hb⟩
    replace hT := hT.next hb
    replace hB := hB.trans (hb.mono hB.size)
    clear hb p0 p1 p2 p3 m0 m1 bP bM hW1
    obtain ⟨W3, hW3⟩ : ∃ W3, w2.alloc (.cells #[.string q, .int .i64 y, .int .i64 z, .int .i64 u] 23) = W3 := ⟨_, rfl⟩
    have hb3 : Below w2.heap.size w2 W3 := by rw [← hW3]; exact (by repeat (first | exact Below.refl _ _ | (refine Below.setCell ?_ (by first | omega | (simp; done) | (simp; omega) | (simp at *; omega)) _) | (refine Below.alloc ?_ (by first | omega | (simp; done) | (simp; omega) | (simp at *; omega)) _) | refine Below.drew ?_ | (refine below_drewN ?_ _) | (refine Below.trans ?_ (Below.mono (by assumption) (by first | omega | (simp; done) | (simp; omega) | (simp at *; omega))))))
    have bQ : Blk W3 w2.heap.size 23 #[.string q, .int .i64 y, .int .i64 z, .int .i64 u] := by rw [← hW3]; exact Blk.new _ _ _ rfl
    replace hT := hT.next hb3
    replace hB := hB.trans (hb3.mono hB.size)
    obtain ⟨q0, q1, q2, q3⟩ := ppos_cells bQ
    clear hb3 bQ
    go_wp2_with fail
    refine (well_is q y z u k _ hT HK.out).mono ?_
    rintro e w4 ⟨rfl, hb⟩
    go_wp2
    go_ret
    exact ⟨by rw [K.out]; rfl, hB.trans (hb.mono hB.size)⟩
  · have hV := apply_bad_value hc h
    have K : Hid (leavesI s side clock full a b = false) := leaves_bad h
    unfold noneV at hV
    have HV := Lib.hid hV
    clear hV h hc
    go_enter Tryz.func158, Tryz.ntmps158
    go_wp2_with fail
    refine (apply_is s side clock full a b _ _ HV.out).mono ?_
    rintro e w2 ⟨rfl, hb⟩
    replace hB := hB.trans (hb.mono hB.size)
    clear hb p0 p1 p2 p3 m0 m1 bP bM hW1 hT
    obtain ⟨W3, hW3⟩ : ∃ W3, w2.alloc (.cells #[.string ⟨#[]⟩, .int .i64 0, .int .i64 0, .int .i64 0] 23) = W3 := ⟨_, rfl⟩
    have hb3 : Below w2.heap.size w2 W3 := by rw [← hW3]; exact (by repeat (first | exact Below.refl _ _ | (refine Below.setCell ?_ (by first | omega | (simp; done) | (simp; omega) | (simp at *; omega)) _) | (refine Below.alloc ?_ (by first | omega | (simp; done) | (simp; omega) | (simp at *; omega)) _) | refine Below.drew ?_ | (refine below_drewN ?_ _) | (refine Below.trans ?_ (Below.mono (by assumption) (by first | omega | (simp; done) | (simp; omega) | (simp at *; omega))))))
    have bQ : Blk W3 w2.heap.size 23 #[.string ⟨#[]⟩, .int .i64 0, .int .i64 0, .int .i64 0] := by rw [← hW3]; exact Blk.new _ _ _ rfl
    obtain ⟨q0, q1, q2, q3⟩ := ppos_cells bQ
    obtain ⟨f0, f1, f2, f3⟩ := ppos_frozen bQ
    have hBs := hB.size
    replace hB := hB.trans (hb3.mono hB.size)
    have hBg : Below w.heap.size w ((((W3.setCell ⟨w2.heap.size, 0, none⟩ (.string ⟨#[]⟩)).setCell ⟨w2.heap.size, 1, none⟩ (.int .i64 0)).setCell ⟨w2.heap.size, 2, none⟩ (.int .i64 0)).setCell ⟨w2.heap.size, 3, none⟩ (.int .i64 0)) := (((hB.setCell (p := ⟨w2.heap.size, 0, none⟩) hBs _).setCell (p := ⟨w2.heap.size, 1, none⟩) hBs _).setCell (p := ⟨w2.heap.size, 2, none⟩) hBs _).setCell (p := ⟨w2.heap.size, 3, none⟩) hBs _
    clear hb3 bQ
    go_wp2_with fail
    go_ret
    exact ⟨by rw [K.out]; rfl, by first | exact hB | exact hBg⟩
set_option maxHeartbeats 2000000 in
theorem allowed1_any (s : ByteArray) (side clock full : Int) (m : Nat × Nat) (g : Nat) (W : World) (hT : Tab W) (hc : checkN s side clock full = 0) (bP : Blk W g 23 #[.string s, .int .i64 side, .int .i64 clock, .int .i64 full]) :
    Calls Tryz.prog 180 #[aggM m, .pointer (some ⟨g, 0, none⟩)] W fun e w' => e = .returned (.bool (!leavesB s side clock full m)) ∧ Below W.heap.size W w' := by
  obtain ⟨u, v⟩ := m
  obtain ⟨r, hr⟩ : ∃ r, leavesI s side clock full u v = r := ⟨_, rfl⟩
  have HL := Lib.hid fun w hT => (leaves_any s side clock full u v w hT hc)
  have e0 : leavesB s side clock full (u, v) = r := hr
  rw [e0]
  rw [hr] at HL
  obtain ⟨W1, hW1⟩ : ∃ W1, W.alloc (.cells #[.int .i64 (u : Int), .int .i64 (v : Int)] 48) = W1 := ⟨_, rfl⟩
  have hB : Below W.heap.size W W1 := by rw [← hW1]; exact (by repeat (first | exact Below.refl _ _ | (refine Below.setCell ?_ (by first | omega | (simp; done) | (simp; omega) | (simp at *; omega)) _) | (refine Below.alloc ?_ (by first | omega | (simp; done) | (simp; omega) | (simp at *; omega)) _) | refine Below.drew ?_ | (refine below_drewN ?_ _) | (refine Below.trans ?_ (Below.mono (by assumption) (by first | omega | (simp; done) | (simp; omega) | (simp at *; omega))))))
  have bM : Blk W1 W.heap.size 48 #[.int .i64 (u : Int), .int .i64 (v : Int)] := by rw [← hW1]; exact Blk.new _ _ _ rfl
  obtain ⟨p0, p1, p2, p3⟩ := ppos_cells (bP.next hB)
  have m0 : W1.cell? ⟨W.heap.size, 0, none⟩ = some (.int .i64 (u : Int)) := bM.cell 0
  have m1 : W1.cell? ⟨W.heap.size, 1, none⟩ = some (.int .i64 (v : Int)) := bM.cell 1
  have hT1 := hT.next hB
  clear hr e0 hc bP bM
  go_enter Tryz.func180, Tryz.ntmps180
  go_wp2_with fail
  refine (HL.out _ hT1).mono ?_
  rintro e w2 ⟨rfl, hb⟩
  go_wp2
  go_ret
  exact ⟨rfl, hB.trans (hb.mono hB.size)⟩
set_option maxRecDepth 100000 in
set_option maxHeartbeats 4000000 in
theorem allowed_yes (s : ByteArray) (side clock full : Int) (l : List (Nat × Nat)) (n fm : Nat) (w : World) (hT : Tab w) (egm : ∀ args w, (callFunc fm args).run Tryz.prog w = .ok (.enter fm args) w)
    (hfm : ∀ W, Tab W → Calls Tryz.prog fm #[.agg #[.string s, .int .i64 side, .int .i64 clock, .int .i64 full]] W (OwnM W l n)) (hn : l.length = n) (hm : n ≤ 1000000) (hk : wellN s side clock full = 0) :
    Calls Tryz.prog 138 #[.agg #[.string s, .int .i64 side, .int .i64 clock, .int .i64 full], .func (.func fm) #[] #[]] w (OwnM w (l.filter (leavesB s side clock full)) (l.filter (leavesB s side clock full)).length) := by
  have hc := well_check hk
  have K := Lib.hid hk
  have FM := Lib.hid hfm
  have hff : (l.filter fun x => !(!leavesB s side clock full x)) = l.filter (leavesB s side clock full) := by simp only [Bool.not_not]
  have HF := Lib.hid hff
  obtain ⟨W1, hW1⟩ : ∃ W1, w.alloc (.cells #[.string s, .int .i64 side, .int .i64 clock, .int .i64 full] 23) = W1 := ⟨_, rfl⟩
  have hB : Below w.heap.size w W1 := by rw [← hW1]; exact (by repeat (first | exact Below.refl _ _ | (refine Below.setCell ?_ (by first | omega | (simp; done) | (simp; omega) | (simp at *; omega)) _) | (refine Below.alloc ?_ (by first | omega | (simp; done) | (simp; omega) | (simp at *; omega)) _) | refine Below.drew ?_ | (refine below_drewN ?_ _) | (refine Below.trans ?_ (Below.mono (by assumption) (by first | omega | (simp; done) | (simp; omega) | (simp at *; omega))))))
  have bP : Blk W1 w.heap.size 23 #[.string s, .int .i64 side, .int .i64 clock, .int .i64 full] := by rw [← hW1]; exact Blk.new _ _ _ rfl
  replace hT := hT.next hB
  obtain ⟨p0, p1, p2, p3⟩ := ppos_cells bP
  clear hk hfm hff
  go_enter Tryz.func138, Tryz.ntmps138
  go_wp2_with fail
  refine (well_is s side clock full 0 _ hT K.out).mono ?_
  rintro e w2 ⟨rfl, hb⟩
  replace hT := hT.next hb
  replace bP := bP.next hb
  replace hB := hB.trans (hb.mono hB.size)
  clear hb p0 p1 p2 p3 hW1
  obtain ⟨p0, p1, p2, p3⟩ := ppos_cells bP
  go_wp2_with fail
  go_at_fn fm
  refine (FM.out _ hT).mono ?_
  rintro e w3 ⟨v, rfl, ho, hb⟩
  have hcl : PredOn 180 #[.pointer (some ⟨w.heap.size, 0, none⟩)] aggM (fun x => !leavesB s side clock full x) l w2 := fun W x _ hbx => allowed1_any s side clock full x _ W (hT.next hbx) hc (bP.next hbx)
  have eg : ∀ args w, (callFunc 180 args).run Tryz.prog w = .ok (.enter 180 args) w := enters_of Tryz.func180 (by kernel_rfl) rfl
  have hdel := Lib.hid (del_moves l (fun x => !leavesB s side clock full x) 180 _ eg v n w2 w3 hcl ho hn hm hb)
  obtain ⟨A', c', rfl⟩ := owns_slice ho
  clear hcl ho p0 p1 p2 p3 hc
  go_wp2_with fail
  refine hdel.out.mono ?_
  rintro e w5 ⟨v5, rfl, ho5, hb5⟩
  rw [HF.out] at ho5
  go_wp2
  go_ret
  exact ⟨_, rfl, own_mono ho5 hB.size, hB.trans (hb5.mono hB.size)⟩
set_option maxHeartbeats 2000000 in
theorem allowed_no (s : ByteArray) (side clock full k : Int) (fv : Value) (w : World) (hT : Tab w) (hk : wellN s side clock full = k) (h0 : (k != 0) = true) :
    Calls Tryz.prog 138 #[.agg #[.string s, .int .i64 side, .int .i64 clock, .int .i64 full], fv] w (OwnM w [] 0) := by
  have K := Lib.hid hk
  obtain ⟨W1, hW1⟩ : ∃ W1, w.alloc (.cells #[.string s, .int .i64 side, .int .i64 clock, .int .i64 full] 23) = W1 := ⟨_, rfl⟩
  have hB : Below w.heap.size w W1 := by rw [← hW1]; exact (by repeat (first | exact Below.refl _ _ | (refine Below.setCell ?_ (by first | omega | (simp; done) | (simp; omega) | (simp at *; omega)) _) | (refine Below.alloc ?_ (by first | omega | (simp; done) | (simp; omega) | (simp at *; omega)) _) | refine Below.drew ?_ | (refine below_drewN ?_ _) | (refine Below.trans ?_ (Below.mono (by assumption) (by first | omega | (simp; done) | (simp; omega) | (simp at *; omega))))))
  have bP : Blk W1 w.heap.size 23 #[.string s, .int .i64 side, .int .i64 clock, .int .i64 full] := by rw [← hW1]; exact Blk.new _ _ _ rfl
  replace hT := hT.next hB
  obtain ⟨p0, p1, p2, p3⟩ := ppos_cells bP
  clear hk
  go_enter Tryz.func138, Tryz.ntmps138
  go_wp2_with fail
  refine (well_is s side clock full k _ hT K.out).mono ?_
  rintro e w2 ⟨rfl, hb⟩
  go_wp2
  go_ret
  exact ⟨_, rfl, by simpa [mvs] using World.ownsRow_nil _ w.heap.size 48 2, hB.trans (hb.mono hB.size)⟩
/-- What legal.Moves answers; Captures. -/
theorem lmoves_own (s : ByteArray) (side clock full : Int) (l : List (Nat × Nat)) (n : Nat) (w : World) (hT : Tab w) (h : legalV s side clock full = l) (hn : l.length = n) :
    Calls Tryz.prog 91 #[.agg #[.string s, .int .i64 side, .int .i64 clock, .int .i64 full]] w (OwnM w l n) := by
  have hex : Hid (∀ W, Tab W → Calls Tryz.prog 138 #[.agg #[.string s, .int .i64 side, .int .i64 clock, .int .i64 full], .func (.func 139) #[] #[]] W (OwnM W l n)) := by
    show ∀ W, _
    intro W hT
    subst hn
    by_cases hk : wellN s side clock full = 0
    · have e : (movesV s side clock full).filter (leavesB s side clock full) = l := by rw [← h, legalV, if_pos hk]
      have := allowed_yes s side clock full (movesV s side clock full) _ 139 W hT (enters_of Tryz.func139 (by kernel_rfl) rfl) (fun W hT => moves_own s side clock full _ _ W hT rfl rfl) rfl (by have := movesV_len s side clock full; omega) hk
      rw [e] at this
      exact this
    · have e : l = [] := by rw [← h, legalV, if_neg hk]
      subst e
      exact allowed_no s side clock full _ _ W hT rfl (by rw [bne_iff_ne]; exact hk)
  obtain ⟨W1, hW1⟩ : ∃ W1, w.alloc (.cells #[.string s, .int .i64 side, .int .i64 clock, .int .i64 full] 23) = W1 := ⟨_, rfl⟩
  have hB : Below w.heap.size w W1 := by rw [← hW1]; exact (by repeat (first | exact Below.refl _ _ | (refine Below.setCell ?_ (by first | omega | (simp; done) | (simp; omega) | (simp at *; omega)) _) | (refine Below.alloc ?_ (by first | omega | (simp; done) | (simp; omega) | (simp at *; omega)) _) | refine Below.drew ?_ | (refine below_drewN ?_ _) | (refine Below.trans ?_ (Below.mono (by assumption) (by first | omega | (simp; done) | (simp; omega) | (simp at *; omega))))))
  have bP : Blk W1 w.heap.size 23 #[.string s, .int .i64 side, .int .i64 clock, .int .i64 full] := by rw [← hW1]; exact Blk.new _ _ _ rfl
  replace hT := hT.next hB
  obtain ⟨p0, p1, p2, p3⟩ := ppos_cells bP
  clear h hn
  go_enter Tryz.func91, Tryz.ntmps91
  go_wp2_with fail
  refine (hex.out _ hT).mono ?_
  rintro e w2 ⟨v, rfl, ho, hb⟩
  go_wp2
  go_ret
  exact ⟨_, rfl, own_mono ho hB.size, hB.trans (hb.mono hB.size)⟩
theorem lcaps_own (s : ByteArray) (side clock full : Int) (l : List (Nat × Nat)) (n : Nat) (w : World) (hT : Tab w) (h : legalC s side clock full = l) (hn : l.length = n) :
    Calls Tryz.prog 145 #[.agg #[.string s, .int .i64 side, .int .i64 clock, .int .i64 full]] w (OwnM w l n) := by
  have hex : Hid (∀ W, Tab W → Calls Tryz.prog 138 #[.agg #[.string s, .int .i64 side, .int .i64 clock, .int .i64 full], .func (.func 188) #[] #[]] W (OwnM W l n)) := by
    show ∀ W, _
    intro W hT
    subst hn
    by_cases hk : wellN s side clock full = 0
    · have e : (capsV s side clock full).filter (leavesB s side clock full) = l := by rw [← h]; exact caps_legal s side clock full hk
      have hcl : (capsV s side clock full).length ≤ 8100 := Nat.le_trans (List.length_filter_le _ _) (movesV_len s side clock full)
      have := allowed_yes s side clock full (capsV s side clock full) _ 188 W hT (enters_of Tryz.func188 (by kernel_rfl) rfl) (fun W hT => caps_own s side clock full _ _ W hT rfl rfl) rfl (by omega) hk
      rw [e] at this
      exact this
    · have e : l = [] := by rw [← h, legalC, legalV, if_neg hk]; rfl
      subst e
      exact allowed_no s side clock full _ _ W hT rfl (by rw [bne_iff_ne]; exact hk)
  obtain ⟨W1, hW1⟩ : ∃ W1, w.alloc (.cells #[.string s, .int .i64 side, .int .i64 clock, .int .i64 full] 23) = W1 := ⟨_, rfl⟩
  have hB : Below w.heap.size w W1 := by rw [← hW1]; exact (by repeat (first | exact Below.refl _ _ | (refine Below.setCell ?_ (by first | omega | (simp; done) | (simp; omega) | (simp at *; omega)) _) | (refine Below.alloc ?_ (by first | omega | (simp; done) | (simp; omega) | (simp at *; omega)) _) | refine Below.drew ?_ | (refine below_drewN ?_ _) | (refine Below.trans ?_ (Below.mono (by assumption) (by first | omega | (simp; done) | (simp; omega) | (simp at *; omega))))))
  have bP : Blk W1 w.heap.size 23 #[.string s, .int .i64 side, .int .i64 clock, .int .i64 full] := by rw [← hW1]; exact Blk.new _ _ _ rfl
  replace hT := hT.next hB
  obtain ⟨p0, p1, p2, p3⟩ := ppos_cells bP
  clear h hn
  go_enter Tryz.func145, Tryz.ntmps145
  go_wp2_with fail
  refine (hex.out _ hT).mono ?_
  rintro e w2 ⟨v, rfl, ho, hb⟩
  go_wp2
  go_ret
  exact ⟨_, rfl, own_mono ho hB.size, hB.trans (hb.mono hB.size)⟩
end Go.Proofs.YtbdgbihdhbjljaaGreatDoor

namespace Go.Proofs.YtbdgbihdhbjljaaGreatDoor
open Go.RowKit Go.Shelf
open M (S)

set_option maxHeartbeats 2000000 in
theorem has1_any (s : ByteArray) (side clock full : Int) (m : Nat × Nat) (g : Nat) (W : World) (hT : Tab W) (hc : checkN s side clock full = 0) (bP : Blk W g 23 #[.string s, .int .i64 side, .int .i64 clock, .int .i64 full]) :
    Calls Tryz.prog 157 #[aggM m, .pointer (some ⟨g, 0, none⟩)] W fun e w' => e = .returned (.bool (leavesB s side clock full m)) ∧ Below W.heap.size W w' := by
  obtain ⟨u, v⟩ := m
  obtain ⟨r, hr⟩ : ∃ r, leavesI s side clock full u v = r := ⟨_, rfl⟩
  have HL := Lib.hid fun w hT => (leaves_any s side clock full u v w hT hc)
  have e0 : leavesB s side clock full (u, v) = r := hr
  rw [e0]
  rw [hr] at HL
  obtain ⟨W1, hW1⟩ : ∃ W1, W.alloc (.cells #[.int .i64 (u : Int), .int .i64 (v : Int)] 48) = W1 := ⟨_, rfl⟩
  have hB : Below W.heap.size W W1 := by rw [← hW1]; exact (by repeat (first | exact Below.refl _ _ | (refine Below.setCell ?_ (by first | omega | (simp; done) | (simp; omega) | (simp at *; omega)) _) | (refine Below.alloc ?_ (by first | omega | (simp; done) | (simp; omega) | (simp at *; omega)) _) | refine Below.drew ?_ | (refine below_drewN ?_ _) | (refine Below.trans ?_ (Below.mono (by assumption) (by first | omega | (simp; done) | (simp; omega) | (simp at *; omega))))))
  have bM : Blk W1 W.heap.size 48 #[.int .i64 (u : Int), .int .i64 (v : Int)] := by rw [← hW1]; exact Blk.new _ _ _ rfl
  obtain ⟨p0, p1, p2, p3⟩ := ppos_cells (bP.next hB)
  have m0 : W1.cell? ⟨W.heap.size, 0, none⟩ = some (.int .i64 (u : Int)) := bM.cell 0
  have m1 : W1.cell? ⟨W.heap.size, 1, none⟩ = some (.int .i64 (v : Int)) := bM.cell 1
  have hT1 := hT.next hB
  clear hr e0 hc bP bM
  go_enter Tryz.func157, Tryz.ntmps157
  go_wp2_with fail
  refine (HL.out _ hT1).mono ?_
  rintro e w2 ⟨rfl, hb⟩
  go_wp2
  go_ret
  exact ⟨rfl, hB.trans (hb.mono hB.size)⟩
set_option maxRecDepth 100000 in
set_option maxHeartbeats 4000000 in
theorem has_move (s : ByteArray) (side clock full : Int) (r : Bool) (w : World) (hT : Tab w) (hc : checkN s side clock full = 0) (h : hasV s side clock full = r) :
    Calls Tryz.prog 116 #[.agg #[.string s, .int .i64 side, .int .i64 clock, .int .i64 full]] w (Gives w (.bool r)) := by
  unfold Gives
  obtain ⟨l, hl⟩ : ∃ l, movesV s side clock full = l := ⟨_, rfl⟩
  obtain ⟨n, hn⟩ : ∃ n, l.length = n := ⟨_, rfl⟩
  have hm : n ≤ 1000000 := by have := movesV_len s side clock full; rw [hl, hn] at this; omega
  have hany : l.any (leavesB s side clock full) = r := by rw [← h, ← hl]; rfl
  have HA := Lib.hid hany
  have HL := Lib.hid hl
  have HN := Lib.hid hn
  obtain ⟨W1, hW1⟩ : ∃ W1, w.alloc (.cells #[.string s, .int .i64 side, .int .i64 clock, .int .i64 full] 23) = W1 := ⟨_, rfl⟩
  have hB : Below w.heap.size w W1 := by rw [← hW1]; exact (by repeat (first | exact Below.refl _ _ | (refine Below.setCell ?_ (by first | omega | (simp; done) | (simp; omega) | (simp at *; omega)) _) | (refine Below.alloc ?_ (by first | omega | (simp; done) | (simp; omega) | (simp at *; omega)) _) | refine Below.drew ?_ | (refine below_drewN ?_ _) | (refine Below.trans ?_ (Below.mono (by assumption) (by first | omega | (simp; done) | (simp; omega) | (simp at *; omega))))))
  have bP : Blk W1 w.heap.size 23 #[.string s, .int .i64 side, .int .i64 clock, .int .i64 full] := by rw [← hW1]; exact Blk.new _ _ _ rfl
  replace hT := hT.next hB
  obtain ⟨p0, p1, p2, p3⟩ := ppos_cells bP
  clear hl hn hany h
  go_enter Tryz.func116, Tryz.ntmps116
  go_wp2_with fail
  refine (moves_own s side clock full l n _ hT HL.out HN.out).mono ?_
  rintro e w3 ⟨v, rfl, ho, hb⟩
  have hcl : PredOn 157 #[.pointer (some ⟨w.heap.size, 0, none⟩)] aggM (leavesB s side clock full) l W1 := fun W x _ hbx => has1_any s side clock full x _ W (hT.next hbx) hc (bP.next hbx)
  have eg : ∀ args w, (callFunc 157 args).run Tryz.prog w = .ok (.enter 157 args) w := enters_of Tryz.func157 (by kernel_rfl) rfl
  have hcon := Lib.hid (contains_own l (leavesB s side clock full) 157 _ eg v n W1 w3 hcl ho HN.out hm hb)
  obtain ⟨A', c', rfl⟩ := owns_slice ho
  replace hB := hB.trans (hb.mono hB.size)
  clear hcl ho p0 p1 p2 p3 hc hb hW1
  go_wp2_with fail
  refine hcon.out.mono ?_
  rintro e w5 ⟨rfl, hb⟩
  rw [HA.out]
  go_wp2
  go_ret
  exact ⟨rfl, hB.trans (hb.mono hB.size)⟩
set_option maxRecDepth 100000 in
set_option maxHeartbeats 4000000 in
theorem end_any (s : ByteArray) (side clock full : Int) (w : World) (hT : Tab w) :
    Calls Tryz.prog 74 #[.agg #[.string s, .int .i64 side, .int .i64 clock, .int .i64 full]] w (Gives w (.int .i64 (endV s side clock full))) := by
  unfold Gives
  obtain ⟨k, hk⟩ : ∃ k, wellN s side clock full = k := ⟨_, rfl⟩
  have HK := Lib.hid hk
  obtain ⟨W1, hW1⟩ : ∃ W1, w.alloc (.cells #[.string s, .int .i64 side, .int .i64 clock, .int .i64 full] 23) = W1 := ⟨_, rfl⟩
  have hB : Below w.heap.size w W1 := by rw [← hW1]; exact (by repeat (first | exact Below.refl _ _ | (refine Below.setCell ?_ (by first | omega | (simp; done) | (simp; omega) | (simp at *; omega)) _) | (refine Below.alloc ?_ (by first | omega | (simp; done) | (simp; omega) | (simp at *; omega)) _) | refine Below.drew ?_ | (refine below_drewN ?_ _) | (refine Below.trans ?_ (Below.mono (by assumption) (by first | omega | (simp; done) | (simp; omega) | (simp at *; omega))))))
  have bP : Blk W1 w.heap.size 23 #[.string s, .int .i64 side, .int .i64 clock, .int .i64 full] := by rw [← hW1]; exact Blk.new _ _ _ rfl
  replace hT := hT.next hB
  obtain ⟨p0, p1, p2, p3⟩ := ppos_cells bP
  by_cases h0 : k = 0
  · subst h0
    have hc := well_check hk
    obtain ⟨r, hr⟩ : ∃ r, hasV s side clock full = r := ⟨_, rfl⟩
    have HC := Lib.hid hc
    have HR := Lib.hid hr
    cases r
    · obtain ⟨i, hi⟩ : ∃ i, inB s side = i := ⟨_, rfl⟩
      have HI := Lib.hid hi
      have K : Hid (endV s side clock full = if i then 1 else 2) := by show _ = _; unfold endV; rw [if_pos hk, hr, hi]; rfl
      clear hk hc hr hi
      go_enter Tryz.func74, Tryz.ntmps74
      go_wp2_with fail
      refine (well_is s side clock full 0 _ hT HK.out).mono ?_
      rintro e w2 ⟨rfl, hb⟩
      replace hT := hT.next hb
      replace bP := bP.next hb
      replace hB := hB.trans (hb.mono hB.size)
      clear hb p0 p1 p2 p3 hW1
      obtain ⟨p0, p1, p2, p3⟩ := ppos_cells bP
      go_wp2_with fail
      refine (has_move s side clock full false _ hT HC.out HR.out).mono ?_
      rintro e w3 ⟨rfl, hb⟩
      replace hT := hT.next hb
      replace bP := bP.next hb
      replace hB := hB.trans (hb.mono hB.size)
      clear hb p0 p1 p2 p3
      obtain ⟨p0, p1, p2, p3⟩ := ppos_cells bP
      go_wp2_with fail
      refine (in_is s side i _ hT HI.out).mono ?_
      rintro e w4 ⟨rfl, hb⟩
      replace hB := hB.trans (hb.mono hB.size)
      clear hb p0 p1 p2 p3
      cases i
      · go_wp2
        go_ret
        exact ⟨by rw [K.out]; rfl, hB⟩
      · go_wp2
        go_ret
        exact ⟨by rw [K.out]; rfl, hB⟩
    · have K : Hid (endV s side clock full = 0) := by show _ = _; unfold endV; rw [if_pos hk, hr]; rfl
      clear hk hc hr
      go_enter Tryz.func74, Tryz.ntmps74
      go_wp2_with fail
      refine (well_is s side clock full 0 _ hT HK.out).mono ?_
      rintro e w2 ⟨rfl, hb⟩
      replace hT := hT.next hb
      replace bP := bP.next hb
      replace hB := hB.trans (hb.mono hB.size)
      clear hb p0 p1 p2 p3 hW1
      obtain ⟨p0, p1, p2, p3⟩ := ppos_cells bP
      go_wp2_with fail
      refine (has_move s side clock full true _ hT HC.out HR.out).mono ?_
      rintro e w3 ⟨rfl, hb⟩
      go_wp2
      go_ret
      exact ⟨by rw [K.out]; rfl, hB.trans (hb.mono hB.size)⟩
  · have K : Hid (endV s side clock full = 0) := by show _ = _; unfold endV; rw [if_neg (by rw [hk]; exact h0)]
    have e1 : (k != 0) = true := by rw [bne_iff_ne]; exact h0
    clear hk h0
    go_enter Tryz.func74, Tryz.ntmps74
    go_wp2_with fail
    refine (well_is s side clock full k _ hT HK.out).mono ?_
    rintro e w2 ⟨rfl, hb⟩
    go_wp2
    go_ret
    exact ⟨by rw [K.out]; rfl, hB.trans (hb.mono hB.size)⟩
theorem end_is (s : ByteArray) (side clock full k : Int) (w : World) (hT : Tab w) (h : endV s side clock full = k) : Calls Tryz.prog 74 #[.agg #[.string s, .int .i64 side, .int .i64 clock, .int .i64 full]] w (Gives w (.int .i64 k)) := by subst h; exact end_any s side clock full w hT
set_option maxRecDepth 100000 in
set_option maxHeartbeats 4000000 in
theorem make_bad (s : ByteArray) (side clock full a b k : Int) (w : World) (hT : Tab w) (hk : wellN s side clock full = k) (h0 : (k != 0) = true) :
    Calls Tryz.prog 43 #[.agg #[.string s, .int .i64 side, .int .i64 clock, .int .i64 full], .agg #[.int .i64 a, .int .i64 b]] w (Gives w (noneV k)) := by
  unfold Gives noneV
  obtain ⟨W1, hW1⟩ : ∃ W1, ((w.alloc (.cells #[.string s, .int .i64 side, .int .i64 clock, .int .i64 full] 23)).alloc (.cells #[.int .i64 a, .int .i64 b] 48)).alloc (.cells #[.string ⟨#[]⟩, .int .i64 0, .int .i64 0, .int .i64 0] 23) = W1 := ⟨_, rfl⟩
  obtain ⟨hB, bP, bM, bR⟩ := ap_start hW1
  obtain ⟨p0, p1, p2, p3⟩ := ppos_cells bP
  replace hT := hT.next hB
  have HC := Lib.hid hk
  have HW := Lib.hid hW1
  clear hk hW1
  go_enter Tryz.func43, Tryz.ntmps43
  go_wp2_with fail
  rw [HW.out]
  have f0 := ppos_frozen bR
  go_wp2_with fail
  refine (well_is s side clock full k _ hT HC.out).mono ?_
  rintro e w1 ⟨rfl, hb⟩
  have bR1 := bR.next hb
  obtain ⟨g0, g1, g2, g3⟩ := ppos_cells bR1
  obtain ⟨f0, f1, f2, f3⟩ := ppos_frozen bR1
  go_wp2_with fail
  refine bodyPost_ret (res_pos3 rfl _ _ rfl (mvEnd (bR1) (by omega) (hB.trans (hb.mono hB.size))).1) rfl ⟨rfl, (mvEnd (bR1) (by omega) (hB.trans (hb.mono hB.size))).2⟩
set_option maxRecDepth 100000 in
set_option maxHeartbeats 1500000 in
theorem make_none (s : ByteArray) (side clock full a b : Int) (w : World) (hT : Tab w) (hk : wellN s side clock full = 0) (h : ¬ (isM s side a b = true ∧ kindN (bAt s b.toNat) ≠ 75)) :
    Calls Tryz.prog 43 #[.agg #[.string s, .int .i64 side, .int .i64 clock, .int .i64 full], .agg #[.int .i64 a, .int .i64 b]] w (Gives w (noneV 7)) := by
  have hV := apply_bad_value (well_check hk) h
  unfold noneV at hV
  unfold Gives noneV
  obtain ⟨W1, hW1⟩ : ∃ W1, ((w.alloc (.cells #[.string s, .int .i64 side, .int .i64 clock, .int .i64 full] 23)).alloc (.cells #[.int .i64 a, .int .i64 b] 48)).alloc (.cells #[.string ⟨#[]⟩, .int .i64 0, .int .i64 0, .int .i64 0] 23) = W1 := ⟨_, rfl⟩
  obtain ⟨hB, bP, bM, bR⟩ := ap_start hW1
  obtain ⟨p0, p1, p2, p3⟩ := ppos_cells bP
  replace hT := hT.next hB
  have HC := Lib.hid hk
  have HV := Lib.hid hV
  have HW := Lib.hid hW1
  clear hk hW1 h hV
  go_enter Tryz.func43, Tryz.ntmps43
  go_wp2_with fail
  rw [HW.out]
  have f0 := ppos_frozen bR
  go_wp2_with fail
  refine (well_is s side clock full 0 _ hT HC.out).mono ?_
  rintro e w1 ⟨rfl, hb⟩
  have hB1 := hB.trans (hb.mono hB.size)
  have bR1 := bR.next hb
  have bM1 := bM.next hb
  obtain ⟨q0, q1, q2, q3⟩ := ppos_cells (bP.next hb)
  have m0 : w1.cell? ⟨w.heap.size + 1, 0, none⟩ = some (.int .i64 a) := bM1.cell 0
  have m1 : w1.cell? ⟨w.heap.size + 1, 1, none⟩ = some (.int .i64 b) := bM1.cell 1
  clear hb bP bM p0 p1 p2 p3
  go_wp2_with fail
  refine (apply_is s side clock full a b _ _ HV.out).mono ?_
  rintro e w2 ⟨rfl, hb⟩
  have hB2 := hB1.trans (hb.mono hB1.size)
  have bR2 := bR1.next hb
  clear hb q0 q1 q2 q3 m0 m1 bR1 bM1 f0
  obtain ⟨W3, hW3⟩ : ∃ W3, w2.alloc (.cells #[.string ⟨#[]⟩, .int .i64 0, .int .i64 0, .int .i64 0] 23) = W3 := ⟨_, rfl⟩
  have hb3 : Below w2.heap.size w2 W3 := by rw [← hW3]; exact (by repeat (first | exact Below.refl _ _ | (refine Below.setCell ?_ (by first | omega | (simp; done) | (simp; omega) | (simp at *; omega)) _) | (refine Below.alloc ?_ (by first | omega | (simp; done) | (simp; omega) | (simp at *; omega)) _) | refine Below.drew ?_ | (refine below_drewN ?_ _) | (refine Below.trans ?_ (Below.mono (by assumption) (by first | omega | (simp; done) | (simp; omega) | (simp at *; omega))))))
  have bQ : Blk W3 w2.heap.size 23 #[.string ⟨#[]⟩, .int .i64 0, .int .i64 0, .int .i64 0] := by rw [← hW3]; exact Blk.new _ _ _ rfl
  have bR3 := bR2.next hb3
  have hB3 := hB2.trans (hb3.mono hB2.size)
  have hlt := bR2.lt
  have hBs := hB2.size
  have nq : w.heap.size + 2 ≠ w2.heap.size := by omega
  have nq1 : w.heap.size + 1 + 1 ≠ w2.heap.size := by omega
  have nq2 : w2.heap.size ≠ w.heap.size + 1 + 1 := by omega
  obtain ⟨q0, q1, q2, q3⟩ := ppos_cells bQ
  obtain ⟨z0, z1, z2, z3⟩ := ppos_frozen bQ
  obtain ⟨g0, g1, g2, g3⟩ := ppos_cells bR3
  obtain ⟨f0, f1, f2, f3⟩ := ppos_frozen bR3
  obtain ⟨W4, hW4⟩ : ∃ W4, (((W3.setCell ⟨w2.heap.size, 0, none⟩ (.string ⟨#[]⟩)).setCell ⟨w2.heap.size, 1, none⟩ (.int .i64 0)).setCell ⟨w2.heap.size, 2, none⟩ (.int .i64 0)).setCell ⟨w2.heap.size, 3, none⟩ (.int .i64 0) = W4 := ⟨_, rfl⟩
  have bR4 : Blk W4 (w.heap.size + 2) 23 #[.string ⟨#[]⟩, .int .i64 0, .int .i64 0, .int .i64 0] := by rw [← hW4]; exact (((bR3.far (p := ⟨w2.heap.size, 0, none⟩) nq _).far (p := ⟨w2.heap.size, 1, none⟩) nq _).far (p := ⟨w2.heap.size, 2, none⟩) nq _).far (p := ⟨w2.heap.size, 3, none⟩) nq _
  have hB4 : Below w.heap.size w W4 := by rw [← hW4]; exact (((hB3.setCell (p := ⟨w2.heap.size, 0, none⟩) hBs _).setCell (p := ⟨w2.heap.size, 1, none⟩) hBs _).setCell (p := ⟨w2.heap.size, 2, none⟩) hBs _).setCell (p := ⟨w2.heap.size, 3, none⟩) hBs _
  obtain ⟨j0, j1, j2, j3⟩ := ppos_cells bR4
  obtain ⟨k0, k1, k2, k3⟩ := ppos_frozen bR4
  have HR3 := Lib.hid bR3
  have HB3 := Lib.hid hB3
  have HR4 := Lib.hid bR4
  have HB4 := Lib.hid hB4
  clear hb3 bQ bR3 hB3 bR4 hB4 bR2
  go_wp2_with fail
  subst hW4
  refine bodyPost_ret (res_pos3 rfl _ _ rfl (mvEnd (HR4.out) (by omega) (HB4.out)).1) rfl ⟨rfl, (mvEnd (HR4.out) (by omega) (HB4.out)).2⟩
set_option maxRecDepth 100000 in
set_option maxHeartbeats 4000000 in
theorem make_good (s : ByteArray) (side clock full a b : Int) (q : ByteArray) (y z u t k : Int) (w : World) (hT : Tab w) (hk : wellN s side clock full = 0) (hV : applyV s side clock full a b = .tuple #[.agg #[.string q, .int .i64 y, .int .i64 z, .int .i64 u], .int .u8 t, .int .i64 0]) (hq : wellN q y z u = k) (V : Value) (hR : V = if k = 0 then .tuple #[.agg #[.string q, .int .i64 y, .int .i64 z, .int .i64 u], .int .u8 t, .int .i64 0] else noneV 7) :
    Calls Tryz.prog 43 #[.agg #[.string s, .int .i64 side, .int .i64 clock, .int .i64 full], .agg #[.int .i64 a, .int .i64 b]] w (Gives w V) := by
  unfold Gives
  have HRV := Lib.hid hR
  clear hR
  obtain ⟨W1, hW1⟩ : ∃ W1, ((w.alloc (.cells #[.string s, .int .i64 side, .int .i64 clock, .int .i64 full] 23)).alloc (.cells #[.int .i64 a, .int .i64 b] 48)).alloc (.cells #[.string ⟨#[]⟩, .int .i64 0, .int .i64 0, .int .i64 0] 23) = W1 := ⟨_, rfl⟩
  obtain ⟨hB, bP, bM, bR⟩ := ap_start hW1
  obtain ⟨p0, p1, p2, p3⟩ := ppos_cells bP
  replace hT := hT.next hB
  have HC := Lib.hid hk
  have HV := Lib.hid hV
  have HQ := Lib.hid hq
  have HW := Lib.hid hW1
  clear hk hW1 hV hq
  go_enter Tryz.func43, Tryz.ntmps43
  go_wp2_with fail
  rw [HW.out]
  have f0 := ppos_frozen bR
  go_wp2_with fail
  refine (well_is s side clock full 0 _ hT HC.out).mono ?_
  rintro e w1 ⟨rfl, hb⟩
  have hB1 := hB.trans (hb.mono hB.size)
  have bR1 := bR.next hb
  have bM1 := bM.next hb
  replace hT := hT.next hb
  obtain ⟨q0, q1, q2, q3⟩ := ppos_cells (bP.next hb)
  have m0 : w1.cell? ⟨w.heap.size + 1, 0, none⟩ = some (.int .i64 a) := bM1.cell 0
  have m1 : w1.cell? ⟨w.heap.size + 1, 1, none⟩ = some (.int .i64 b) := bM1.cell 1
  clear hb bP bM p0 p1 p2 p3
  go_wp2_with fail
  refine (apply_is s side clock full a b _ _ HV.out).mono ?_
  rintro e w2 ⟨rfl, hb⟩
  have hB2 := hB1.trans (hb.mono hB1.size)
  have bR2 := bR1.next hb
  replace hT := hT.next hb
  clear hb q0 q1 q2 q3 m0 m1 bR1 bM1 f0
  obtain ⟨W3, hW3⟩ : ∃ W3, w2.alloc (.cells #[.string q, .int .i64 y, .int .i64 z, .int .i64 u] 23) = W3 := ⟨_, rfl⟩
  have hb3 : Below w2.heap.size w2 W3 := by rw [← hW3]; exact (by repeat (first | exact Below.refl _ _ | (refine Below.setCell ?_ (by first | omega | (simp; done) | (simp; omega) | (simp at *; omega)) _) | (refine Below.alloc ?_ (by first | omega | (simp; done) | (simp; omega) | (simp at *; omega)) _) | refine Below.drew ?_ | (refine below_drewN ?_ _) | (refine Below.trans ?_ (Below.mono (by assumption) (by first | omega | (simp; done) | (simp; omega) | (simp at *; omega))))))
  have bQ : Blk W3 w2.heap.size 23 #[.string q, .int .i64 y, .int .i64 z, .int .i64 u] := by rw [← hW3]; exact Blk.new _ _ _ rfl
  have bR3 := bR2.next hb3
  have hB3 := hB2.trans (hb3.mono hB2.size)
  replace hT := hT.next hb3
  have hlt := bR2.lt
  have nq1 : w.heap.size + 1 + 1 ≠ w2.heap.size := by omega
  have nq2 : w2.heap.size ≠ w.heap.size + 1 + 1 := by omega
  obtain ⟨q0, q1, q2, q3⟩ := ppos_cells bQ
  clear hb3 bR2
  go_wp2_with fail
  refine (well_is q y z u k _ hT HQ.out).mono ?_
  rintro e w4 ⟨rfl, hb⟩
  have bR4 := bR3.next hb
  have bQ4 := bQ.next hb
  have hB4 := hB3.trans (hb.mono hB3.size)
  clear hb q0 q1 q2 q3 bQ bR3 hB3 hW3 hT
  obtain ⟨q0, q1, q2, q3⟩ := ppos_cells bQ4
  obtain ⟨g0, g1, g2, g3⟩ := ppos_cells bR4
  obtain ⟨f0, f1, f2, f3⟩ := ppos_frozen bR4
  by_cases h0 : k = 0
  · have HRP : Hid (V = .tuple #[.agg #[.string q, .int .i64 y, .int .i64 z, .int .i64 u], .int .u8 t, .int .i64 0]) := by
      show _ = _
      rw [HRV.out]
      exact if_pos h0
    subst h0
    go_wp2_with fail
    refine bodyPost_ret (res_pos3 rfl _ _ rfl (mvEnd bR4 (by omega) hB4).1) rfl ⟨by rw [HRP.out]; rfl, (mvEnd bR4 (by omega) hB4).2⟩
  · have e1 : (k != 0) = true := by rw [bne_iff_ne]; exact h0
    have HRN : Hid (V = noneV 7) := by show _ = _; rw [HRV.out, if_neg h0]
    clear h0
    go_wp2_with fail
    refine bodyPost_ret (res_pos3 rfl _ _ rfl (mvEnd bR4 (by omega) hB4).1) rfl ⟨by rw [HRN.out]; rfl, (mvEnd bR4 (by omega) hB4).2⟩
theorem make_any (s : ByteArray) (side clock full a b : Int) (w : World) (hT : Tab w) :
    Calls Tryz.prog 43 #[.agg #[.string s, .int .i64 side, .int .i64 clock, .int .i64 full], .agg #[.int .i64 a, .int .i64 b]] w (Gives w (makeV s side clock full a b)) := by
  unfold makeV
  by_cases hk : wellN s side clock full = 0
  · rw [if_pos hk]
    by_cases h : isM s side a b = true ∧ kindN (bAt s b.toNat) ≠ 75
    · have := make_good s side clock full a b _ _ _ _ _ _ w hT hk (apply_good_value (well_check hk) h) rfl _ rfl
      rw [leaves_good h, apply_good_value (well_check hk) h]
      simp only [beq_iff_eq]
      exact this
    · rw [leaves_bad h, if_neg (by simp)]
      exact make_none s side clock full a b w hT hk h
  · rw [if_neg hk]
    exact make_bad s side clock full a b _ w hT rfl (by rw [bne_iff_ne]; exact hk)
theorem make_is (s : ByteArray) (side clock full a b : Int) (v : Value) (w : World) (hT : Tab w) (h : makeV s side clock full a b = v) : Calls Tryz.prog 43 #[.agg #[.string s, .int .i64 side, .int .i64 clock, .int .i64 full], .agg #[.int .i64 a, .int .i64 b]] w (Gives w v) := by subst h; exact make_any s side clock full a b w hT
end Go.Proofs.YtbdgbihdhbjljaaGreatDoor

namespace Go.Proofs.YtbdgbihdhbjljaaGreatDoor
open Go.RowKit Go.Shelf
open M (S)

theorem makeV_parts (s : ByteArray) (side clock full a b : Int) : ∃ (q : ByteArray) (y z u : Int) (t : Nat) (k : Int), makeV s side clock full a b = .tuple #[.agg #[.string q, .int .i64 y, .int .i64 z, .int .i64 u], .int .u8 t, .int .i64 k] ∧ (k == 0) = isV s side clock full a b := by
  unfold makeV isV
  by_cases hk : wellN s side clock full = 0
  · rw [if_pos hk]
    by_cases h : isM s side a b = true ∧ kindN (bAt s b.toNat) ≠ 75
    · cases hl : leavesI s side clock full a b
      · rw [if_neg (by simp)]
        exact ⟨_, _, _, _, 0, _, rfl, by rw [hk]; rfl⟩
      · rw [if_pos rfl, apply_good_value (well_check hk) h]
        exact ⟨_, _, _, _, _, _, rfl, by rw [hk]; rfl⟩
    · rw [leaves_bad h, if_neg (by simp)]
      exact ⟨_, _, _, _, 0, _, rfl, by rw [hk]; rfl⟩
  · rw [if_neg hk]
    refine ⟨_, _, _, _, 0, _, rfl, ?_⟩
    have : (wellN s side clock full == 0) = false := by rw [beq_eq_false_iff_ne]; exact hk
    rw [this]
    rfl
set_option maxRecDepth 100000 in
set_option maxHeartbeats 4000000 in
theorem lis_is (s : ByteArray) (side clock full a b : Int) (r : Bool) (w : World) (hT : Tab w) (h : isV s side clock full a b = r) :
    Calls Tryz.prog 90 #[.agg #[.string s, .int .i64 side, .int .i64 clock, .int .i64 full], .agg #[.int .i64 a, .int .i64 b]] w (Gives w (.bool r)) := by
  unfold Gives
  obtain ⟨q, y, z, u, t, k, hv, he⟩ := makeV_parts s side clock full a b
  rw [h] at he
  have HE := Lib.hid he
  have HV := Lib.hid hv
  clear he hv h
  obtain ⟨W1, hW1⟩ : ∃ W1, (w.alloc (.cells #[.string s, .int .i64 side, .int .i64 clock, .int .i64 full] 23)).alloc (.cells #[.int .i64 a, .int .i64 b] 48) = W1 := ⟨_, rfl⟩
  have hB : Below w.heap.size w W1 := by rw [← hW1]; exact (by repeat (first | exact Below.refl _ _ | (refine Below.setCell ?_ (by first | omega | (simp; done) | (simp; omega) | (simp at *; omega)) _) | (refine Below.alloc ?_ (by first | omega | (simp; done) | (simp; omega) | (simp at *; omega)) _) | refine Below.drew ?_ | (refine below_drewN ?_ _) | (refine Below.trans ?_ (Below.mono (by assumption) (by first | omega | (simp; done) | (simp; omega) | (simp at *; omega))))))
  replace hT := hT.next hB
  have bP : Blk W1 w.heap.size 23 #[.string s, .int .i64 side, .int .i64 clock, .int .i64 full] := by rw [← hW1]; exact (Blk.new _ _ _ rfl).alloc _
  have bM : Blk W1 (w.heap.size + 1) 48 #[.int .i64 a, .int .i64 b] := by rw [← hW1]; exact Blk.new _ _ _ (by simp)
  obtain ⟨p0, p1, p2, p3⟩ := ppos_cells bP
  have m0 : W1.cell? ⟨w.heap.size + 1, 0, none⟩ = some (.int .i64 a) := bM.cell 0
  have m1 : W1.cell? ⟨w.heap.size + 1, 1, none⟩ = some (.int .i64 b) := bM.cell 1
  clear bP bM
  go_enter Tryz.func90, Tryz.ntmps90
  go_wp2_with fail
  refine (make_is s side clock full a b _ _ hT HV.out).mono ?_
  rintro e w1 ⟨rfl, hb⟩
  go_wp2_with fail
  go_ret
  have hB2 := hB.trans (hb.mono hB.size)
  exact ⟨by rw [← HE.out]; rfl, hB2.alloc hB2.size _⟩
end Go.Proofs.YtbdgbihdhbjljaaGreatDoor
