/- Plain arithmetic: how the parallel sums of adjacent bits count the bits of a word of 64 bits. No program in it. -/
namespace Go.Proofs.YtpogpjebhnoncabGreatDoor.M

/-- The number with the digits d 0, d 1, .. d (n-1) in base 2^r. -/
def dg (r : Nat) : Nat → (Nat → Nat) → Nat
  | 0, _ => 0
  | n + 1, d => d 0 + 2 ^ r * dg r n (fun i => d (i + 1))
def mk (r : Nat) : Nat → Nat
  | 0 => 0
  | n + 1 => (2 ^ r - 1) + 2 ^ (2 * r) * mk r n

theorem dg_add (r : Nat) : ∀ (n : Nat) (d e : Nat → Nat), dg r n d + dg r n e = dg r n fun i => d i + e i
  | 0, _, _ => rfl
  | n + 1, d, e => by
    simp only [dg]
    rw [← dg_add r n (fun i => d (i + 1)) (fun i => e (i + 1)), Nat.mul_add]
    omega
theorem dg_more (r : Nat) : ∀ (n : Nat) (d : Nat → Nat), d n = 0 → dg r (n + 1) d = dg r n d
  | 0, d, h => by simp [dg, h]
  | n + 1, d, h => by
    rw [dg, dg_more r n (fun i => d (i + 1)) h]
    rfl
theorem dg_div (r n : Nat) (d : Nat → Nat) (h : d 0 < 2 ^ r) : dg r (n + 1) d / 2 ^ r = dg r n fun i => d (i + 1) := by
  simp only [dg]
  rw [Nat.add_comm, Nat.mul_add_div (Nat.two_pow_pos r), Nat.div_eq_of_lt h, Nat.add_zero]
theorem dg_div' (r n : Nat) (d : Nat → Nat) (h : d 0 < 2 ^ r) (hz : d (n + 1) = 0) : dg r (n + 1) d / 2 ^ r = dg r (n + 1) fun i => d (i + 1) := by
  rw [dg_div r n d h, dg_more r n (fun i => d (i + 1)) hz]
theorem and_split (m a b c e : Nat) (ha : a < 2 ^ m) (hc : c < 2 ^ m) : (a + 2 ^ m * b) &&& (c + 2 ^ m * e) = (a &&& c) + 2 ^ m * (b &&& e) := by
  apply Nat.eq_of_testBit_eq
  intro i
  have hac : a &&& c < 2 ^ m := Nat.and_lt_two_pow _ hc
  rw [Nat.testBit_and, Nat.add_comm a, Nat.add_comm c, Nat.add_comm (a &&& c), Nat.testBit_two_pow_mul_add _ ha, Nat.testBit_two_pow_mul_add _ hc, Nat.testBit_two_pow_mul_add _ hac]
  split <;> simp
theorem dg_even (r : Nat) : ∀ (k : Nat) (d : Nat → Nat), (∀ i, d i < 2 ^ r) → dg r (2 * k) d &&& mk r k = dg (2 * r) k fun i => d (2 * i)
  | 0, _, _ => by simp [dg]
  | k + 1, d, h => by
    have e2 : 2 * (k + 1) = 2 * k + 1 + 1 := by omega
    rw [e2]
    simp only [dg, mk]
    have ih := dg_even r k (fun i => d (i + 2)) (fun i => h _)
    have e3 : ∀ i : Nat, i + 1 + 1 = i + 2 := fun i => rfl
    simp only [e3]
    have e4 : d 0 + 2 ^ r * (d (0 + 1) + 2 ^ r * dg r (2 * k) fun i => d (i + 2)) = (d 0 + 2 ^ r * d 1) + 2 ^ (2 * r) * dg r (2 * k) fun i => d (i + 2) := by
      rw [Nat.mul_add, ← Nat.mul_assoc, ← Nat.pow_add, show r + r = 2 * r by omega, Nat.add_assoc]
    have hlt : d 0 + 2 ^ r * d 1 < 2 ^ (2 * r) := by
      have h0 := h 0
      have h1 := h 1
      have : 2 ^ (2 * r) = 2 ^ r * 2 ^ r := by rw [← Nat.pow_add]; congr 1; omega
      rw [this]
      calc d 0 + 2 ^ r * d 1 < 2 ^ r + 2 ^ r * d 1 := by omega
        _ = 2 ^ r * (d 1 + 1) := by rw [Nat.mul_add, Nat.mul_one, Nat.add_comm]
        _ ≤ 2 ^ r * 2 ^ r := Nat.mul_le_mul_left _ h1
    have hm : 2 ^ r - 1 < 2 ^ (2 * r) := Nat.lt_of_lt_of_le (Nat.sub_lt (Nat.two_pow_pos r) (by decide)) (Nat.pow_le_pow_right (by decide) (by omega))
    rw [e4, and_split (2 * r) _ _ _ _ hlt hm, ih]
    have e5 : (d 0 + 2 ^ r * d 1) &&& (2 ^ r - 1) = d 0 := by
      rw [Nat.and_two_pow_sub_one_eq_mod, Nat.add_mul_mod_self_left, Nat.mod_eq_of_lt (h 0)]
    rw [e5]
    rfl

/-- How many of the numbers below k are true. -/
def cnt (k : Nat) (p : Nat → Bool) : Nat := (List.range k).countP p
theorem cnt_succ (k : Nat) (p : Nat → Bool) : cnt (k + 1) p = cnt k p + (p k).toNat := by
  unfold cnt
  rw [List.range_succ, List.countP_append]
  cases h : p k <;> simp [h]
theorem cnt_cons : ∀ (k : Nat) (p : Nat → Bool), cnt (k + 1) p = (p 0).toNat + cnt k fun i => p (i + 1)
  | 0, p => by cases h : p 0 <;> simp [cnt, h]
  | k + 1, p => by rw [cnt_succ, cnt_cons k p, cnt_succ]; omega
theorem cnt_congr {p q : Nat → Bool} : ∀ {k : Nat}, (∀ i, i < k → p i = q i) → cnt k p = cnt k q
  | 0, _ => rfl
  | k + 1, h => by rw [cnt_succ, cnt_succ, cnt_congr (k := k) fun i hi => h i (by omega), h k (by omega)]
theorem cnt_plus (a : Nat) (p : Nat → Bool) : ∀ b : Nat, cnt (a + b) p = cnt a p + cnt b fun i => p (a + i)
  | 0 => rfl
  | b + 1 => by rw [← Nat.add_assoc, cnt_succ, cnt_plus a p b, cnt_succ, Nat.add_assoc]
theorem cnt_none (k : Nat) : cnt k (fun _ => false) = 0 := by unfold cnt; simp
theorem cnt_le : ∀ (k : Nat) (p : Nat → Bool), cnt k p ≤ k
  | 0, _ => Nat.le_refl _
  | k + 1, p => by rw [cnt_succ]; have := cnt_le k p; cases p k <;> simp <;> omega
theorem cnt_not : ∀ (k : Nat) (p : Nat → Bool), cnt k p + cnt k (fun i => !p i) = k
  | 0, _ => rfl
  | k + 1, p => by rw [cnt_succ, cnt_succ]; have := cnt_not k p; cases p k <;> simp <;> omega
theorem cnt_or_and : ∀ (k : Nat) (p q : Nat → Bool), cnt k (fun i => p i || q i) + cnt k (fun i => p i && q i) = cnt k p + cnt k q
  | 0, _, _ => rfl
  | k + 1, p, q => by simp only [cnt_succ]; have := cnt_or_and k p q; cases p k <;> cases q k <;> simp <;> omega
/-- The sum of the digits. -/
def sm : Nat → (Nat → Nat) → Nat
  | 0, _ => 0
  | n + 1, d => d 0 + sm n fun i => d (i + 1)
theorem sm_pairs : ∀ (k : Nat) (d : Nat → Nat), sm (2 * k) d = sm k fun i => d (2 * i) + d (2 * i + 1)
  | 0, _ => rfl
  | k + 1, d => by
    have e2 : 2 * (k + 1) = 2 * k + 1 + 1 := by omega
    rw [e2]
    simp only [sm]
    have := sm_pairs k fun i => d (i + 2)
    have e3 : ∀ i : Nat, i + 1 + 1 = i + 2 := fun i => rfl
    simp only [e3]
    rw [this]
    have e4 : ∀ i : Nat, 2 * (i + 1) = 2 * i + 2 := fun i => by omega
    simp only [e4, Nat.mul_zero, Nat.zero_add]
    have e5 : ∀ i : Nat, 2 * i + 1 + 2 = 2 * i + 2 + 1 := fun i => by omega
    simp only [e5]
    omega

/-- A word's bits as digits. -/
def bt (x i : Nat) : Nat := (x.testBit i).toNat
theorem bt_zero (x : Nat) : bt x 0 = x % 2 := by
  unfold bt
  rw [Nat.testBit_zero]
  rcases Nat.mod_two_eq_zero_or_one x with h | h <;> simp [h]
theorem bt_succ (x i : Nat) : bt x (i + 1) = bt (x / 2) i := by unfold bt; rw [Nat.testBit_succ]
theorem bt_lt (x i : Nat) : bt x i < 2 ^ 1 := by unfold bt; cases x.testBit i <;> decide
theorem dg_bt : ∀ (n x : Nat), x < 2 ^ n → dg 1 n (bt x) = x
  | 0, x, h => by simp at h; simp [dg, h]
  | n + 1, x, h => by
    simp only [dg, bt_zero]
    have e : (fun i => bt x (i + 1)) = bt (x / 2) := by funext i; exact bt_succ x i
    rw [e, dg_bt n (x / 2) (by rw [Nat.pow_succ] at h; omega)]
    omega
theorem sm_bt : ∀ (n x : Nat), sm n (bt x) = cnt n x.testBit
  | 0, _ => rfl
  | n + 1, x => by
    rw [cnt_cons, sm]
    have e : (fun i => bt x (i + 1)) = bt (x / 2) := by funext i; exact bt_succ x i
    have e' : (fun i => x.testBit (i + 1)) = (x / 2).testBit := by funext i; exact Nat.testBit_succ x i
    rw [e, e', sm_bt n (x / 2)]
    rfl

/-- The first three sums: adjacent digits. -/
def pr (d : Nat → Nat) (i : Nat) : Nat := d (2 * i) + d (2 * i + 1)

/-- One step of the sums: both halves masked. -/
theorem step (r k : Nat) (d : Nat → Nat) (h : ∀ i, d i < 2 ^ r) (hz : ∀ i, 2 * k ≤ i → d i = 0) :
    (dg r (2 * k) d / 2 ^ r &&& mk r k) + (dg r (2 * k) d &&& mk r k) = dg (2 * r) k (pr d) := by
  cases k with
  | zero => simp [dg]
  | succ k =>
    have e2 : 2 * (k + 1) = 2 * k + 1 + 1 := by omega
    have hd : dg r (2 * (k + 1)) d / 2 ^ r = dg r (2 * (k + 1)) fun i => d (i + 1) := by
      rw [e2]
      exact dg_div' r (2 * k + 1) d (h 0) (hz _ (by omega))
    rw [hd, dg_even r (k + 1) d h, dg_even r (k + 1) (fun i => d (i + 1)) (fun i => h _), dg_add]
    congr 1
    funext i
    unfold pr
    omega
/-- The third step: the sum masked. -/
theorem step' (r k : Nat) (d : Nat → Nat) (h : ∀ i, d i + d (i + 1) < 2 ^ r) (hz : ∀ i, 2 * k ≤ i → d i = 0) :
    (dg r (2 * k) d / 2 ^ r + dg r (2 * k) d) &&& mk r k = dg (2 * r) k (pr d) := by
  cases k with
  | zero => simp [dg]
  | succ k =>
    have e2 : 2 * (k + 1) = 2 * k + 1 + 1 := by omega
    have hd : dg r (2 * (k + 1)) d / 2 ^ r = dg r (2 * (k + 1)) fun i => d (i + 1) := by
      rw [e2]
      exact dg_div' r (2 * k + 1) d (by have := h 0; omega) (hz _ (by omega))
    rw [hd, dg_add, dg_even r (k + 1) (fun i => d (i + 1) + d i) (fun i => by have := h i; omega)]
    congr 1
    funext i
    unfold pr
    omega

theorem pr_zero (k : Nat) (d : Nat → Nat) (hz : ∀ i, 2 * k ≤ i → d i = 0) : ∀ i, k ≤ i → pr d i = 0 := fun i hi => by
  unfold pr
  rw [hz _ (by omega), hz _ (by omega)]
theorem mk1 : mk 1 32 = 6148914691236517205 := by decide +kernel
theorem mk2 : mk 2 16 = 3689348814741910323 := by decide +kernel
theorem mk4 : mk 4 8 = 1085102592571150095 := by decide +kernel

/-- **What the three masked sums come to: eight digits of a byte, each at most 8, whose sum is the number of bits.** -/
theorem three (x : Nat) (hx : x < 18446744073709551616) : ∃ x1 x2 : Nat, ∃ c : Nat → Nat, (∀ i, c i ≤ 8) ∧
    (x / 2 &&& 6148914691236517205) + (x &&& 6148914691236517205) = x1 ∧ x1 < 18446744073709551616 ∧
    (x1 / 4 &&& 3689348814741910323) + (x1 &&& 3689348814741910323) = x2 ∧ x2 / 16 + x2 < 18446744073709551616 ∧
    (x2 / 16 + x2) &&& 1085102592571150095 = dg 8 8 c ∧ sm 8 c = cnt 64 x.testBit := by
  have hx' : dg 1 (2 * 32) (bt x) = x := dg_bt 64 x hx
  have z0 : ∀ i, 2 * 32 ≤ i → bt x i = 0 := fun i hi => by
    have : x.testBit i = false := Nat.testBit_lt_two_pow (Nat.lt_of_lt_of_le hx (show (2 : Nat) ^ 64 ≤ 2 ^ i from Nat.pow_le_pow_right (by decide) (by omega)))
    simp [bt, this]
  have b0 : ∀ i, bt x i < 2 ^ 1 := bt_lt x
  have s1 := step 1 32 (bt x) b0 z0
  rw [hx', mk1] at s1
  have s1 : (x / 2 &&& 6148914691236517205) + (x &&& 6148914691236517205) = dg (2 * 1) 32 (pr (bt x)) := s1
  have b1 : ∀ i, pr (bt x) i ≤ 2 := fun i => by have h1 := b0 (2 * i); have h2 := b0 (2 * i + 1); unfold pr; omega
  have z1 : ∀ i, 32 ≤ i → pr (bt x) i = 0 := pr_zero 32 _ z0
  have s2 := step 2 16 (pr (bt x)) (fun i => by have := b1 i; omega) z1
  rw [mk2] at s2
  have b2 : ∀ i, pr (pr (bt x)) i ≤ 4 := fun i => by have h1 := b1 (2 * i); have h2 := b1 (2 * i + 1); unfold pr at h1 h2 ⊢; omega
  have z2 : ∀ i, 16 ≤ i → pr (pr (bt x)) i = 0 := pr_zero 16 _ z1
  have s3 := step' 4 8 (pr (pr (bt x))) (fun i => by have h1 := b2 i; have h2 := b2 (i + 1); omega) z2
  rw [mk4] at s3
  refine ⟨_, _, pr (pr (pr (bt x))), fun i => by have h1 := b2 (2 * i); have h2 := b2 (2 * i + 1); unfold pr at h1 h2 ⊢; omega, s1, ?_, s2, ?_, s3, ?_⟩
  · rw [← s1]
    have h1 : x / 2 &&& 6148914691236517205 ≤ 6148914691236517205 := Nat.and_le_right
    have h2 : x &&& 6148914691236517205 ≤ 6148914691236517205 := Nat.and_le_right
    omega
  · rw [← s2]
    have h1 : dg 2 (2 * 16) (pr (bt x)) / 2 ^ 2 &&& 3689348814741910323 ≤ 3689348814741910323 := Nat.and_le_right
    have h2 : dg 2 (2 * 16) (pr (bt x)) &&& 3689348814741910323 ≤ 3689348814741910323 := Nat.and_le_right
    omega
  · rw [← sm_bt 64 x, show (64 : Nat) = 2 * 32 by rfl, sm_pairs, show (32 : Nat) = 2 * 16 by rfl, sm_pairs, show (16 : Nat) = 2 * 8 by rfl, sm_pairs]
    rfl

/-- The last three sums. -/
theorem fold8 (c : Nat → Nat) (hc : ∀ i, c i ≤ 8) : ∃ x3 x4 x5 x6 : Nat, dg 8 8 c = x3 ∧ x3 + x3 / 256 = x4 ∧ x4 + x4 / 65536 = x5 ∧ x5 + x5 / 4294967296 = x6 ∧ x6 < 18446744073709551616 ∧ x6 < 9223372036854775808 ∧ x6 % 128 = sm 8 c := by
  have h0 := hc 0; have h1 := hc (0 + 1); have h2 := hc (0 + 1 + 1); have h3 := hc (0 + 1 + 1 + 1)
  have h4 := hc (0 + 1 + 1 + 1 + 1); have h5 := hc (0 + 1 + 1 + 1 + 1 + 1); have h6 := hc (0 + 1 + 1 + 1 + 1 + 1 + 1); have h7 := hc (0 + 1 + 1 + 1 + 1 + 1 + 1 + 1)
  simp only [dg, sm, Nat.mul_zero, Nat.add_zero, Nat.reducePow]
  generalize c 0 = c0 at *; generalize c (0 + 1) = c1 at *; generalize c (0 + 1 + 1) = c2 at *; generalize c (0 + 1 + 1 + 1) = c3 at *
  generalize c (0 + 1 + 1 + 1 + 1) = c4 at *; generalize c (0 + 1 + 1 + 1 + 1 + 1) = c5 at *; generalize c (0 + 1 + 1 + 1 + 1 + 1 + 1) = c6 at *; generalize c (0 + 1 + 1 + 1 + 1 + 1 + 1 + 1) = c7 at *
  obtain ⟨t6, e6⟩ : ∃ t, c6 + 256 * c7 = t := ⟨_, rfl⟩
  obtain ⟨t5, e5⟩ : ∃ t, c5 + 256 * t6 = t := ⟨_, rfl⟩
  obtain ⟨t4, e4⟩ : ∃ t, c4 + 256 * t5 = t := ⟨_, rfl⟩
  obtain ⟨t3, e3⟩ : ∃ t, c3 + 256 * t4 = t := ⟨_, rfl⟩
  obtain ⟨t2, e2⟩ : ∃ t, c2 + 256 * t3 = t := ⟨_, rfl⟩
  obtain ⟨t1, e1⟩ : ∃ t, c1 + 256 * t2 = t := ⟨_, rfl⟩
  obtain ⟨t0, e0⟩ : ∃ t, c0 + 256 * t1 = t := ⟨_, rfl⟩
  rw [e6, e5, e4, e3, e2, e1, e0]
  have d1 : t0 / 256 = t1 := by omega
  have d2 : (t0 + t1) / 65536 = t2 + t3 := by omega
  have d3 : (t0 + t1 + (t2 + t3)) / 4294967296 = t4 + t5 + t6 + c7 := by omega
  exact ⟨t0, t0 + t1, t0 + t1 + (t2 + t3), t0 + t1 + (t2 + t3) + (t4 + t5 + t6 + c7), rfl, by rw [d1], by rw [d2], by rw [d3], by omega, by omega, by omega⟩
end Go.Proofs.YtpogpjebhnoncabGreatDoor.M
