/- slices.IndexFunc, slices.DeleteFunc at numbers, whatever predicate, which may lay blocks of its own; the first place of a byte. -/
import Derived.Test.YtkejhebicibjlaaDoorRowA
import Derived.Test.YtkejhebicibjlaaDoorBoardO
import Derived.Test.YtkejhebicibjlaaDoorShelf
import Derived.Lib.Bytealg
namespace Go.Proofs.YtkejhebicibjlaaDoor
open Go.RowKit Go.Shelf
open M (S)

abbrev encI : Int → List Value := fun x => [iv x]
theorem encI_len (x : Int) : (encI x).length = 1 := rfl
theorem encI_flat (l : List Int) : l.flatMap encI = l.map iv := by
  induction l with
  | nil => rfl
  | cons x l ih => rw [List.flatMap_cons, ih]; rfl
/-- What is asked of a predicate: at the list's own members, in every world in which what lay below the row lies unturned. -/
def PredOn {α : Type} (fn : Nat) (lb : Array Value) (enc : α → Value) (p : α → Bool) (l : List α) (Wb : World) : Prop :=
  ∀ (W : World) (x : α), x ∈ l → Below Wb.heap.size Wb W → Calls Tryd.prog fn (#[enc x] ++ lb) W fun e w' => e = .returned (.bool (p x)) ∧ Below W.heap.size W w'
/-- The first place at which a predicate holds, or none. -/
def FirstAt {α : Type} (p : α → Bool) (l : List α) (e : Ending) : Prop :=
  (e = .returned (.int .i64 (-1)) ∧ ∀ x ∈ l, p x = false) ∨ ∃ (i : Nat) (hi : i < l.length), e = .returned (.int .i64 (i : Int)) ∧ p l[i] = true ∧ ∀ t (ht : t < i), p l[t] = false
set_option maxHeartbeats 1000000 in
set_option maxRecDepth 100000 in
theorem lite_index (s : ByteArray) (c : Int) (w : World) : Calls Tryd.prog 45 #[.string s, .int .u8 c] w (fun e w' => e = .returned (.int .i64 (Lib.indexByte s.data.toList c.toNat.toUInt8)) ∧ w = w') := by
  go_enter Tryd.func45, Tryd.ntmps45
  go_wp2
  rw [run_callFunc_extern Tryd.func58 (by kernel_rfl) (by kernel_rfl) (by kernel_rfl) (e := Extern.BytealgIndexByte.indexByte) (by kernel_rfl), Lib.run_indexByteString]
  simp only [Result.andThen]
  rw [Oper.upon_value]
  go_wp2
  go_ret
  exact ⟨rfl, rfl⟩
theorem byte_index (s : ByteArray) (c : Int) (w : World) : Calls Tryd.prog 26 #[.string s, .int .u8 c] w (fun e w' => e = .returned (.int .i64 (Lib.indexByte s.data.toList c.toNat.toUInt8)) ∧ w = w') := by
  go_enter Tryd.func26, Tryd.ntmps26
  go_wp2_with fail
  refine (lite_index s c _).mono ?_
  rintro e w1 ⟨rfl, rfl⟩
  go_wp2
  go_ret
  exact ⟨rfl, rfl⟩
end Go.Proofs.YtkejhebicibjlaaDoor
