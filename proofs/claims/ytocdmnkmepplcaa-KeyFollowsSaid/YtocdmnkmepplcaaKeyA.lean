/- Numbers of positions, plainly; and what follows. No program in it. -/
import Derived.Test.YtocdmnkmepplcaaBoardM
namespace Go.Proofs.Ytocdmnkmepplcaa

/-- The row of numbers. -/
def nextK (x : Nat) : Nat :=
  let a := (x ^^^ (x <<< 13)) % 18446744073709551616
  let b := a ^^^ (a >>> 7)
  (b ^^^ (b <<< 17)) % 18446744073709551616
def rowK : Nat → Nat
  | 0 => 7640891576956012809
  | i + 1 => nextK (rowK i)
def rowsL : Nat → Nat → List Nat
  | 0, _ => []
  | n + 1, x => x :: rowsL n (nextK x)
def placeK (c : Nat) : Option Nat := [75, 65, 66, 78, 82, 67, 80, 107, 97, 98, 110, 114, 99, 112].findIdx? (· == c)
def cellK (c : Nat) (n : Int) : Nat := if 0 ≤ n ∧ n < 90 then (match placeK c with | some i => rowK (1 + 90 * i + n.toNat) | none => 0) else 0
def turnK : Nat := rowK 1261
/-- All of them, xored. -/
def xsum (f : Nat → Nat) : Nat → Nat
  | 0 => 0
  | n + 1 => xsum f n ^^^ f n
def keyB (s : ByteArray) (side : Int) : Nat := if isB s then xsum (fun k => cellK (bAt s k) (k : Int)) 90 ^^^ (if side = 1 then turnK else 0) else 0
def movedK (k c : Nat) (a b : Int) (taken : Nat) : Nat := k ^^^ cellK c a ^^^ cellK c b ^^^ cellK taken b ^^^ turnK

theorem xsum_same {f g : Nat → Nat} : ∀ n, (∀ k, k < n → g k = f k) → xsum g n = xsum f n
  | 0, _ => rfl
  | n + 1, h => by rw [xsum, xsum, xsum_same n fun k hk => h k (by omega), h n (by omega)]
theorem xsum_one {f g : Nat → Nat} {a : Nat} : ∀ n, a < n → (∀ k, k < n → k ≠ a → g k = f k) → xsum g n = xsum f n ^^^ (f a ^^^ g a)
  | 0, h, _ => absurd h (Nat.not_lt_zero _)
  | n + 1, h, hs => by
    rw [xsum, xsum]
    by_cases e : a = n
    · subst e
      rw [xsum_same (f := f) (g := g) a fun k hk => hs k (by omega) (by omega), Nat.xor_assoc, ← Nat.xor_assoc (f a) (f a) (g a), Nat.xor_self, Nat.zero_xor]
    · rw [xsum_one n (by omega) fun k hk hne => hs k (by omega) hne, hs n (by omega) (fun e' => e e'.symm)]
      rw [Nat.xor_assoc (xsum f n) (f a ^^^ g a) (f n), Nat.xor_comm (f a ^^^ g a) (f n), ← Nat.xor_assoc]
theorem cell_empty (n : Int) : cellK 46 n = 0 := by
  unfold cellK
  rw [show placeK 46 = none by decide]
  split <;> rfl
theorem cell_none (n : Int) : cellK 0 n = 0 := by
  unfold cellK
  rw [show placeK 0 = none by decide]
  split <;> rfl
theorem xor4 (x p q r : Nat) : ((x ^^^ p) ^^^ q) ^^^ r = x ^^^ (p ^^^ (q ^^^ r)) := by rw [Nat.xor_assoc, Nat.xor_assoc]
/-- A piece that is put on a square: the key is turned by what stood there, and by it. -/
theorem key_put {s : ByteArray} (hs : isB s = true) {n c : Nat} (hn : n < 90) (hc : c < 256) : xsum (fun k => cellK (bAt (putS s n c) k) (k : Int)) 90 = xsum (fun k => cellK (bAt s k) (k : Int)) 90 ^^^ (cellK (bAt s n) (n : Int) ^^^ cellK c (n : Int)) := by
  have hz := isB_size hs
  have h := xsum_one (f := fun k => cellK (bAt s k) (k : Int)) (g := fun k => cellK (bAt (putS s n c) k) (k : Int)) (a := n) 90 hn fun k hk hne => by
    show cellK (bAt (putS s n c) k) (k : Int) = _
    rw [put_at s n c k hc (by omega), if_neg hne]
  have e : bAt (putS s n c) n = c := by rw [put_at s n c n hc (by omega), if_pos rfl]
  rw [h]
  show _ ^^^ (_ ^^^ cellK (bAt (putS s n c) n) (n : Int)) = _
  rw [e]
/-- Moved twice it is what it was. -/
theorem moved_twice (k c : Nat) (a b : Int) (taken : Nat) : movedK (movedK k c a b taken) c a b taken = k := by
  unfold movedK
  generalize cellK c a = p
  generalize cellK c b = q
  generalize cellK taken b = r
  generalize turnK = t
  have swap : ∀ u v w : Nat, (u ^^^ v) ^^^ w = (u ^^^ w) ^^^ v := fun u v w => by rw [Nat.xor_assoc, Nat.xor_comm v w, ← Nat.xor_assoc]
  have dup : ∀ u v : Nat, (u ^^^ v) ^^^ v = u := fun u v => by rw [Nat.xor_assoc, Nat.xor_self, Nat.xor_zero]
  rw [swap (k ^^^ p ^^^ q ^^^ r) t p, swap (k ^^^ p ^^^ q ^^^ r ^^^ p) t q, swap (k ^^^ p ^^^ q ^^^ r ^^^ p ^^^ q) t r, dup]
  rw [swap (k ^^^ p ^^^ q) r p, swap (k ^^^ p ^^^ q ^^^ p) r q, dup, swap (k ^^^ p) q p, dup, dup]
theorem next_lt (x : Nat) : nextK x < 18446744073709551616 := Nat.mod_lt _ (by decide)
theorem row_lt (i : Nat) : rowK i < 18446744073709551616 := by
  cases i with
  | zero => decide
  | succ i => exact next_lt _
theorem rows_at_ : ∀ (n i k : Nat), k < n → (rowsL n (rowK i))[k]? = some (rowK (i + k))
  | 0, _, _, h => absurd h (Nat.not_lt_zero _)
  | n + 1, i, 0, _ => rfl
  | n + 1, i, k + 1, h => by
    rw [rowsL, List.getElem?_cons_succ]
    have := rows_at_ n (i + 1) k (by omega)
    rw [show i + 1 + k = i + (k + 1) by omega] at this
    exact this
end Go.Proofs.Ytocdmnkmepplcaa
