/- The row's numbers are not the same, and none is nought: reckoned by the kernel (some 80 seconds). No program in it. -/
import Derived.Test.YtocdmnkmepplcaaKeyA
namespace Go.Proofs.Ytocdmnkmepplcaa

def freshB : List Nat → Bool
  | [] => true
  | x :: r => (r.all fun y => !Nat.beq x y) && freshB r
set_option maxRecDepth 100000 in
theorem row_fresh : freshB (rowsL 1262 7640891576956012809) = true := by decide +kernel
set_option maxRecDepth 100000 in
theorem row_none : ((rowsL 1262 7640891576956012809).all fun x => !Nat.beq x 0) = true := by decide +kernel
theorem fresh_at : ∀ {l : List Nat}, freshB l = true → ∀ {i j : Nat} {x : Nat}, l[i]? = some x → l[j]? = some x → i = j
  | [], _, i, _, _, h, _ => by simp at h
  | y :: r, h, 0, 0, _, _, _ => rfl
  | y :: r, h, 0, j + 1, x, h1, h2 => by
    simp only [freshB, Bool.and_eq_true] at h
    simp only [List.getElem?_cons_zero, Option.some.injEq, List.getElem?_cons_succ] at h1 h2
    subst h1
    have := List.all_eq_true.1 h.1 _ (List.mem_of_getElem? h2)
    simp at this
  | y :: r, h, i + 1, 0, x, h1, h2 => by
    simp only [freshB, Bool.and_eq_true] at h
    simp only [List.getElem?_cons_zero, Option.some.injEq, List.getElem?_cons_succ] at h1 h2
    subst h2
    have := List.all_eq_true.1 h.1 _ (List.mem_of_getElem? h1)
    simp at this
  | y :: r, h, i + 1, j + 1, x, h1, h2 => by
    simp only [freshB, Bool.and_eq_true] at h
    simp only [List.getElem?_cons_succ] at h1 h2
    rw [fresh_at h.2 h1 h2]
theorem row_inj {i j : Nat} (hi : i < 1262) (hj : j < 1262) (h : rowK i = rowK j) : i = j := by
  have h1 := rows_at_ 1262 0 i hi
  have h2 := rows_at_ 1262 0 j hj
  rw [Nat.zero_add] at h1 h2
  rw [← h] at h2
  exact fresh_at row_fresh h1 h2
theorem row_pos {i : Nat} (hi : i < 1262) : rowK i ≠ 0 := fun e => by
  have h1 := rows_at_ 1262 0 i hi
  rw [Nat.zero_add, e] at h1
  have := List.all_eq_true.1 row_none _ (List.mem_of_getElem? h1)
  simp at this
end Go.Proofs.Ytocdmnkmepplcaa
