/- Behind a move that may be made the key that was moved is that of the position. No program in it. -/
import Derived.Test.YtocdmnkmepplcaaKeyA
import Derived.Test.YtocdmnkmepplcaaLegalM
namespace Go.Proofs.Ytocdmnkmepplcaa

theorem cell_taken (s : ByteArray) (b : Nat) (n : Int) : cellK (takenN s b) n = cellK (bAt s b) n := by
  unfold takenN
  split
  · rename_i h
    rw [h, cell_empty, cell_none]
  · rfl
/-- Behind a move the key that was moved is the key of what is behind it. -/
theorem key_follows {s : ByteArray} (hs : isB s = true) {a b : Nat} (ha : a < 90) (hb : b < 90) (hne : a ≠ b) {side : Int} (hsd : side = 0 ∨ side = 1) : movedK (keyB s side) (bAt s a) (a : Int) (b : Int) (takenN s b) = keyB (behindS s (a, b)) (1 - side) := by
  have hlt := bAt_lt s a
  have hfill := isB_fill hs a ha
  have h1 := put_is_board hs a 46 (by decide) (by decide)
  have h2 : isB (behindS s (a, b)) = true := moved_board hs hlt hfill
  unfold keyB
  rw [hs, h2, if_pos rfl, if_pos rfl]
  have k1 := key_put hs ha (c := 46) (by decide)
  have k2 := key_put h1 hb hlt
  have e1 : bAt (putS s a 46) b = bAt s b := by rw [put_at s a 46 b (by decide) (by rw [isB_size hs]; omega), if_neg (fun e => hne e.symm)]
  rw [e1, k1, cell_empty, Nat.xor_zero] at k2
  unfold movedK
  rw [cell_taken]
  show _ = xsum (fun k => cellK (bAt (putS (putS s a 46) b (bAt s a)) k) (k : Int)) 90 ^^^ _
  rw [k2]
  generalize xsum (fun k => cellK (bAt s k) (k : Int)) 90 = x
  generalize cellK (bAt s a) (a : Int) = p
  generalize cellK (bAt s a) (b : Int) = q
  generalize cellK (bAt s b) (b : Int) = r
  generalize turnK = t
  have swap : ∀ u v w : Nat, (u ^^^ v) ^^^ w = (u ^^^ w) ^^^ v := fun u v w => by rw [Nat.xor_assoc, Nat.xor_comm v w, ← Nat.xor_assoc]
  rcases hsd with rfl | rfl
  · rw [if_neg (by decide), if_pos (by decide), Nat.xor_zero, ← Nat.xor_assoc (x ^^^ p) r q, swap (x ^^^ p) q r]
  · rw [if_pos rfl, if_neg (by decide), Nat.xor_zero, ← Nat.xor_assoc (x ^^^ p) r q, swap (x ^^^ p) r q]
    rw [swap x t p, swap (x ^^^ p) t q, swap ((x ^^^ p) ^^^ q) t r, Nat.xor_assoc _ t t, Nat.xor_self, Nat.xor_zero]
end Go.Proofs.Ytocdmnkmepplcaa
