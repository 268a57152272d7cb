/- What positions are worth when all captures are done, plainly; bounds that are met on the right side. No program in it. -/
import Derived.Test.YtbdgbihdhbjljaaGreatDoorValueB
import Derived.Test.YtbdgbihdhbjljaaGreatDoorLegalM
namespace Go.Proofs.YtbdgbihdhbjljaaGreatDoor

/-- The greatest one of a number and some. -/
def maxL (v : Int) (l : List Int) : Int := l.foldl max v
theorem maxL_nil (v : Int) : maxL v [] = v := rfl
theorem maxL_snoc (v : Int) (l : List Int) (x : Int) : maxL v (l ++ [x]) = max (maxL v l) x := by
  unfold maxL
  rw [List.foldl_append]
  rfl
theorem maxL_cons (v x : Int) (l : List Int) : maxL v (x :: l) = maxL (max v x) l := rfl
theorem maxL_ge (l : List Int) : ∀ v, v ≤ maxL v l := by
  induction l with
  | nil => exact fun v => Int.le_refl v
  | cons x l ih => exact fun v => Int.le_trans (Int.le_max_left v x) (ih _)
theorem maxL_app (v : Int) (a b : List Int) : maxL v (a ++ b) = maxL (maxL v a) b := by
  unfold maxL
  rw [List.foldl_append]
theorem maxL_perm {a b : List Int} (h : a.Perm b) : ∀ v, maxL v a = maxL v b := by
  induction h with
  | nil => exact fun _ => rfl
  | cons x _ ih => exact fun v => ih _
  | swap x y l => exact fun v => by rw [maxL_cons, maxL_cons, maxL_cons, maxL_cons]; congr 1; omega
  | trans _ _ h1 h2 => exact fun v => (h1 v).trans (h2 v)
theorem maxL_bd {lo hi : Int} (l : List Int) (h : ∀ x ∈ l, lo ≤ x ∧ x ≤ hi) : ∀ v, lo ≤ v ∧ v ≤ hi → lo ≤ maxL v l ∧ maxL v l ≤ hi := by
  induction l with
  | nil => exact fun v hv => hv
  | cons x l ih =>
    intro v hv
    have hx := h x (List.mem_cons_self ..)
    exact ih (fun y hy => h y (List.mem_cons_of_mem _ hy)) _ (by omega)
/-- The captures that may be made. -/
def capsN (s : ByteArray) (side : Int) : List (Nat × Nat) := (legalN s side).filter fun m => bAt s m.2 != 46
theorem caps_mem {s : ByteArray} {side : Int} {m : Nat × Nat} : m ∈ capsN s side ↔ m ∈ legalN s side ∧ bAt s m.2 ≠ 46 := by
  unfold capsN
  rw [List.mem_filter, bne_iff_ne]
theorem caps_same {s : ByteArray} {side clock full : Int} (h : wellN s side clock full = 0) : legalC s side clock full = capsN s side := by
  unfold legalC capsN
  rw [legal_same, if_pos h]
/-- What a position is worth when so many captures are done. -/
def quietF : Nat → ByteArray → Int → Int
  | 0, s, side => if (legalN s side).isEmpty then -10000 else ofV s side
  | n + 1, s, side => if (legalN s side).isEmpty then -10000 else maxL (ofV s side) ((capsN s side).map fun m => -(quietF n (behindS s m) (1 - side)))
theorem quiet_zero (s : ByteArray) (side : Int) : quietF 0 s side = if (legalN s side).isEmpty then -10000 else ofV s side := by rw [quietF]
theorem quiet_succ (n : Nat) (s : ByteArray) (side : Int) : quietF (n + 1) s side = if (legalN s side).isEmpty then -10000 else maxL (ofV s side) ((capsN s side).map fun m => -(quietF n (behindS s m) (1 - side))) := by rw [quietF]
/-- How many pieces there are. -/
def oneP (s : ByteArray) (k : Nat) : Int := if bAt s k = 46 then 0 else 1
def cntP (s : ByteArray) : Int := vsum (oneP s) 90
theorem oneP_bd (s : ByteArray) (k : Nat) : 0 ≤ oneP s k ∧ oneP s k ≤ 1 := by unfold oneP; split <;> omega
theorem vsum_le {f g : Nat → Int} : ∀ n, (∀ k, k < n → f k ≤ g k) → vsum f n ≤ vsum g n
  | 0, _ => Int.le_refl _
  | n + 1, h => by
    have := vsum_le n fun k hk => h k (by omega)
    have := h n (by omega)
    rw [vsum, vsum]
    omega
theorem vsum_ge0 {f : Nat → Int} : ∀ n, (∀ k, k < n → 0 ≤ f k) → 0 ≤ vsum f n
  | 0, _ => Int.le_refl _
  | n + 1, h => by
    have := vsum_ge0 n fun k hk => h k (by omega)
    have := h n (by omega)
    rw [vsum]
    omega
theorem cntP_ge (s : ByteArray) : 0 ≤ cntP s := vsum_ge0 90 fun k _ => (oneP_bd s k).1
theorem vsum_member {f : Nat → Int} {b : Nat} (h0 : ∀ k, 0 ≤ f k) : ∀ n, b < n → f b ≤ vsum f n
  | 0, h => absurd h (Nat.not_lt_zero _)
  | n + 1, h => by
    rw [vsum]
    by_cases e : b = n
    · subst e
      have := vsum_ge0 b fun k _ => h0 k
      omega
    · have := vsum_member h0 n (b := b) (by omega)
      have := h0 n
      omega
theorem cntP_behind {s : ByteArray} (hs : isB s = true) {a b : Nat} (ha : a < 90) (hb : b < 90) (hne : a ≠ b) (h1 : bAt s a ≠ 46) (h2 : bAt s b ≠ 46) : cntP (behindS s (a, b)) = cntP s - 1 := by
  have hlt := bAt_lt s a
  have hz : s.size = 90 := isB_size hs
  have hz2 : (putS s a 46).size = 90 := by rw [put_size]; exact hz
  have e1 : vsum (oneP (putS s a 46)) 90 = vsum (oneP s) 90 - oneP s a + oneP (putS s a 46) a := vsum_one 90 ha fun k hk hn => by
    unfold oneP
    rw [put_at s a 46 k (by decide) (by omega), if_neg hn]
  have e2 : vsum (oneP (putS (putS s a 46) b (bAt s a))) 90 = vsum (oneP (putS s a 46)) 90 - oneP (putS s a 46) b + oneP (putS (putS s a 46) b (bAt s a)) b := vsum_one 90 hb fun k hk hn => by
    unfold oneP
    rw [put_at (putS s a 46) b (bAt s a) k hlt (by omega), if_neg hn]
  have f1 : oneP s a = 1 := by unfold oneP; rw [if_neg h1]
  have f2 : oneP (putS s a 46) a = 0 := by unfold oneP; rw [put_at s a 46 a (by decide) (by omega), if_pos rfl, if_pos rfl]
  have e3 : bAt (putS s a 46) b = bAt s b := by rw [put_at s a 46 b (by decide) (by omega), if_neg (fun e => hne e.symm)]
  have f3 : oneP (putS s a 46) b = 1 := by unfold oneP; rw [e3, if_neg h2]
  have f4 : oneP (putS (putS s a 46) b (bAt s a)) b = 1 := by unfold oneP; rw [put_at (putS s a 46) b (bAt s a) b hlt (by omega), if_pos rfl, if_neg h1]
  unfold cntP behindS movedS
  show vsum (oneP (putS (putS s a 46) b (bAt s a))) 90 = _
  omega
theorem side_ne46 {c : Nat} (h : 0 ≤ sideN c) : c ≠ 46 := fun e => by subst e; exact absurd h (by decide)
/-- What is known behind a move that may be made. -/
theorem cap_facts {s : ByteArray} {side clock full : Int} (hw : wellN s side clock full = 0) {m : Nat × Nat} (hm : m ∈ legalN s side) : m.1 < 90 ∧ m.2 < 90 ∧ m.1 ≠ m.2 ∧ sideN (bAt s m.1) = side ∧ sideN (bAt s m.2) ≠ side ∧ bAt s m.1 ≠ 46 ∧ wellN (behindS s m) (1 - side) (clockA s clock m.2) (fullA side full) = 0 := by
  obtain ⟨a, b⟩ := m
  obtain ⟨ha, hb, hsd, hcan, hk, hsafe⟩ := legal_mem.1 hm
  have hc := (well_zero hw).1
  have h2 := (can_parts hcan)
  simp only at ha hb hsd hcan hk hsafe ⊢
  refine ⟨ha, hb, can_self hcan, hsd, ?_, side_ne46 h2.1, (well_behind hc ha hb hcan hk).2 hsafe⟩
  rw [← hsd]
  exact h2.2.1
theorem well_side {s : ByteArray} {side clock full : Int} (hw : wellN s side clock full = 0) : isB s = true ∧ (side = 0 ∨ side = 1) :=
  ⟨parts_board (check_zero (well_zero hw).1).1, (check_other (well_zero hw).1).1⟩
theorem cap_count {s : ByteArray} {side clock full : Int} (hw : wellN s side clock full = 0) {m : Nat × Nat} (hm : m ∈ capsN s side) : cntP (behindS s m) = cntP s - 1 := by
  obtain ⟨h1, h2⟩ := caps_mem.1 hm
  obtain ⟨ha, hb, hne, _, _, h46, _⟩ := cap_facts hw h1
  exact cntP_behind (well_side hw).1 ha hb hne h46 h2
theorem caps_none {s : ByteArray} {side clock full : Int} (hw : wellN s side clock full = 0) (h : cntP s ≤ 0) : capsN s side = [] := by
  cases hc : capsN s side with
  | nil => rfl
  | cons m l =>
    have hm : m ∈ capsN s side := by rw [hc]; exact List.mem_cons_self ..
    have h1 := cap_count hw hm
    have h2 := cntP_ge (behindS s m)
    omega
/-- More captures than pieces change nothing. -/
theorem quiet_more (n : Nat) : ∀ {s : ByteArray} {side clock full : Int}, wellN s side clock full = 0 → cntP s ≤ n → quietF (n + 1) s side = quietF n s side := by
  induction n with
  | zero =>
    intro s side clock full hw h
    rw [quiet_succ, quiet_zero, caps_none hw h, List.map_nil, maxL_nil]
  | succ n ih =>
    intro s side clock full hw h
    rw [quiet_succ (n + 1), quiet_succ n]
    have e : ((capsN s side).map fun m => -(quietF (n + 1) (behindS s m) (1 - side))) = (capsN s side).map fun m => -(quietF n (behindS s m) (1 - side)) := List.map_congr_left fun m hm => by
      have hf := cap_facts hw (caps_mem.1 hm).1
      have hc := cap_count hw hm
      rw [ih hf.2.2.2.2.2.2 (by omega)]
    rw [e]
theorem quiet_low (n : Nat) {s : ByteArray} {y : Int} (h : (legalN s y).isEmpty = true) : quietF n s y = -10000 := by
  cases n with
  | zero => rw [quiet_zero, h, if_pos rfl]
  | succ n => rw [quiet_succ, h, if_pos rfl]
theorem quiet_ge (n : Nat) {s : ByteArray} {y : Int} (h : (legalN s y).isEmpty = false) : ofV s y ≤ quietF n s y := by
  cases n with
  | zero => rw [quiet_zero, h, if_neg (by simp)]; exact Int.le_refl _
  | succ n => rw [quiet_succ, h, if_neg (by simp)]; exact maxL_ge _ _
theorem quiet_still (n : Nat) {s : ByteArray} {y : Int} (h : (legalN s y).isEmpty = false) (hc : capsN s y = []) : quietF n s y = ofV s y := by
  cases n with
  | zero => rw [quiet_zero, h, if_neg (by simp)]
  | succ n => rw [quiet_succ, h, if_neg (by simp), hc]; rfl
/-- How much pieces are worth. -/
theorem pcs_cnt {s : ByteArray} (side : Int) (hsd : side = 0 ∨ side = 1) : ((pcsN s side).length : Int) = vsum (fun k => if sideN (bAt s k) = side then 1 else 0) 90 := by
  unfold pcsN
  have h : ∀ n, (((List.range n).filter fun k => ofSide (bAt s k) side).length : Int) = vsum (fun k => if sideN (bAt s k) = side then 1 else 0) n := by
    intro n
    induction n with
    | zero => rfl
    | succ n ih =>
      rw [List.range_succ, List.filter_append, List.length_append, vsum, Int.natCast_add, ih]
      congr 1
      have e : ofSide (bAt s n) side = (sideN (bAt s n) == side) := of_side (by omega)
      by_cases hh : sideN (bAt s n) = side
      · simp [e, hh]
      · simp [e, hh]
  exact h 90
theorem of_few {s : ByteArray} (side : Int) {n : Int} (h : cntP s ≤ n) : -(250 * n) ≤ ofV s side ∧ ofV s side ≤ 250 * n := by
  have h0 := cntP_ge s
  cases hs : isB s
  · unfold ofV; rw [hs]; simp only [Bool.false_eq_true, if_false]; omega
  · rw [of_lead hs]
    have h1 := sumP_bd s (pcsN s 0)
    have h2 := sumP_bd s (pcsN s 1)
    have h3 := pcs_cnt (s := s) 0 (.inl rfl)
    have h4 := pcs_cnt (s := s) 1 (.inr rfl)
    have h5 : vsum (fun k => if sideN (bAt s k) = 0 then (1 : Int) else 0) 90 ≤ cntP s := vsum_le 90 fun k _ => by
      unfold oneP
      by_cases e : bAt s k = 46
      · rw [e]; decide
      · rw [if_neg e]; split <;> omega
    have h6 : vsum (fun k => if sideN (bAt s k) = 1 then (1 : Int) else 0) 90 ≤ cntP s := vsum_le 90 fun k _ => by
      unfold oneP
      by_cases e : bAt s k = 46
      · rw [e]; decide
      · rw [if_neg e]; split <;> omega
    split <;> omega
theorem quiet_bd (n : Nat) : ∀ {s : ByteArray} {side clock full : Int}, wellN s side clock full = 0 → cntP s ≤ 9 → -10000 ≤ quietF n s side ∧ quietF n s side ≤ 10000 := by
  induction n with
  | zero =>
    intro s side clock full _ h
    have := of_few side h
    rw [quiet_zero]
    split <;> omega
  | succ n ih =>
    intro s side clock full hw h
    have hv := of_few side h
    rw [quiet_succ]
    split
    · omega
    · refine maxL_bd _ (fun x hx => ?_) _ (by omega)
      obtain ⟨m, hm, rfl⟩ := List.mem_map.1 hx
      have hf := cap_facts hw (caps_mem.1 hm).1
      have hc := cap_count hw hm
      have := ih hf.2.2.2.2.2.2 (by omega)
      omega
/-- A number that is told between two bounds, and beyond them on the right side. -/
def Sound (T low high r : Int) : Prop := (r ≤ low → T ≤ r) ∧ (low < r → r < high → r = T) ∧ (high ≤ r → r ≤ T)
theorem sound_self (T low high : Int) : Sound T low high T := ⟨fun _ => Int.le_refl _, fun _ _ => rfl, fun _ => Int.le_refl _⟩
theorem sound_step {T low high best t r : Int} (h : Sound T low high best) (hb : best < high) (hl : low < high) (k : Sound t (-high) (-(max low best)) r) : Sound (max T (-t)) low high (max best (-r)) := by
  obtain ⟨h1, h2, h3⟩ := h
  obtain ⟨k1, k2, k3⟩ := k
  refine ⟨fun a => ?_, fun a b => ?_, fun a => ?_⟩
  all_goals
    by_cases c1 : best ≤ low
    · have := h1 c1
      by_cases c2 : r ≤ -high
      · have := k1 c2; omega
      · by_cases c3 : r < -(max low best)
        · have := k2 (by omega) c3; omega
        · have := k3 (by omega); omega
    · have := h2 (by omega) hb
      by_cases c2 : r ≤ -high
      · have := k1 c2; omega
      · by_cases c3 : r < -(max low best)
        · have := k2 (by omega) c3; omega
        · have := k3 (by omega); omega
theorem sound_more {T T' low high r : Int} (h : Sound T low high r) (hr : high ≤ r) (hl : low < high) (hT : T ≤ T') : Sound T' low high r :=
  ⟨fun a => by omega, fun _ b => by omega, fun a => by have := h.2.2 a; omega⟩
theorem sound_between {T low high r : Int} (h : Sound T low high r) (hl : low < high) : min (max r low) high = min (max T low) high := by
  obtain ⟨h1, h2, h3⟩ := h
  by_cases c1 : r ≤ low
  · have := h1 c1; omega
  · by_cases c2 : r < high
    · have := h2 (by omega) c2; omega
    · have := h3 (by omega); omega
end Go.Proofs.YtbdgbihdhbjljaaGreatDoor
