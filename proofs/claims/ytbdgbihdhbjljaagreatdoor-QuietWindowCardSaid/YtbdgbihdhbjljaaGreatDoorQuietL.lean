/- Three positions: a chariot that takes a horse, a mate, two generals: what the document says of them. No program in it. -/
import Derived.Test.YtbdgbihdhbjljaaGreatDoorQuietA
import Derived.Test.YtbdgbihdhbjljaaGreatDoorQuietE
import Derived.Test.YtbdgbihdhbjljaaGreatDoorFenN
namespace Go.Proofs.YtbdgbihdhbjljaaGreatDoor
open Go.RowKit Go.Shelf

def takS : ByteArray := ⟨#[46, 46, 46, 75, 46, 46, 46, 46, 46, 46, 46, 46, 46, 46, 46, 46, 46, 46, 46, 46, 46, 46, 46, 46, 46, 46, 46, 46, 46, 46, 46, 46, 46, 46, 46, 46, 110, 46, 46, 46, 46, 46, 46, 46, 82, 46, 46, 46, 46, 46, 46, 46, 46, 46, 46, 46, 46, 46, 46, 46, 46, 46, 46, 46, 46, 46, 46, 46, 46, 46, 46, 46, 46, 46, 46, 46, 46, 46, 46, 46, 46, 46, 46, 46, 46, 107, 46, 46, 46, 46]⟩
def takT : List UInt8 := [52, 107, 52, 47, 57, 47, 57, 47, 57, 47, 57, 47, 110, 55, 82, 47, 57, 47, 57, 47, 57, 47, 51, 75, 53, 32, 119]
theorem takF : F.formL takT = some ⟨takS.data.toList, 0, 0, 1⟩ := by kernel_rfl
theorem takC : (checkN (bs takS.data.toList) 0 0 1 : Int) = 0 := by rw [bs_back]; decide +kernel
def matS : ByteArray := ⟨#[114, 46, 46, 46, 75, 46, 46, 46, 46, 46, 46, 46, 114, 46, 46, 46, 46, 46, 46, 46, 46, 46, 46, 46, 46, 46, 46, 46, 46, 46, 46, 46, 46, 46, 46, 46, 46, 46, 46, 46, 46, 46, 46, 46, 46, 46, 46, 46, 46, 46, 46, 46, 46, 46, 46, 46, 46, 46, 46, 46, 46, 46, 46, 46, 46, 46, 46, 46, 46, 46, 46, 46, 46, 46, 46, 46, 46, 46, 46, 46, 46, 46, 46, 46, 107, 46, 46, 46, 46, 46]⟩
def matT : List UInt8 := [51, 107, 53, 47, 57, 47, 57, 47, 57, 47, 57, 47, 57, 47, 57, 47, 57, 47, 51, 114, 53, 47, 114, 51, 75, 52, 32, 119]
theorem matF : F.formL matT = some ⟨matS.data.toList, 0, 0, 1⟩ := by kernel_rfl
theorem matC : (checkN (bs matS.data.toList) 0 0 1 : Int) = 0 := by rw [bs_back]; decide +kernel
def twoS : ByteArray := ⟨#[46, 46, 46, 75, 46, 46, 46, 46, 46, 46, 46, 46, 46, 46, 46, 46, 46, 46, 46, 46, 46, 46, 46, 46, 46, 46, 46, 46, 46, 46, 46, 46, 46, 46, 46, 46, 46, 46, 46, 46, 46, 46, 46, 46, 46, 46, 46, 46, 46, 46, 46, 46, 46, 46, 46, 46, 46, 46, 46, 46, 46, 46, 46, 46, 46, 46, 46, 46, 46, 46, 46, 46, 46, 46, 46, 46, 46, 46, 46, 46, 46, 46, 46, 46, 46, 107, 46, 46, 46, 46]⟩
def twoT : List UInt8 := [52, 107, 52, 47, 57, 47, 57, 47, 57, 47, 57, 47, 57, 47, 57, 47, 57, 47, 57, 47, 51, 75, 53, 32, 119]
theorem twoF : F.formL twoT = some ⟨twoS.data.toList, 0, 0, 1⟩ := by kernel_rfl
theorem twoC : (checkN (bs twoS.data.toList) 0 0 1 : Int) = 0 := by rw [bs_back]; decide +kernel
/-- Captures first, then those that may be made. -/
theorem caps_swap (s : ByteArray) (y : Int) : capsN s y = ((movesN s y).filter fun m => bAt s m.2 != 46).filter (legalB s y) := by
  unfold capsN legalN
  rw [List.filter_filter, List.filter_filter]
  exact List.filter_congr fun m _ => Bool.and_comm _ _
theorem legal_some {s : ByteArray} {y : Int} (m : Nat × Nat) (h : movesN s y |>.contains m) (h2 : legalB s y m = true) : (legalN s y).isEmpty = false := by
  have hm : m ∈ legalN s y := by
    unfold legalN
    rw [List.mem_filter]
    exact ⟨by simpa using h, h2⟩
  cases hl : legalN s y with
  | nil => rw [hl] at hm; cases hm
  | cons x l => rfl
theorem tak_well : wellN takS 0 0 1 = 0 := by decide +kernel
theorem tak_caps0 : (movesN takS 0).filter (fun m => bAt takS m.2 != 46) = [(44, 36)] := by decide +kernel
theorem tak_can : legalB takS 0 (44, 36) = true := by decide +kernel
theorem tak_caps : capsN takS 0 = [(44, 36)] := by rw [caps_swap, tak_caps0, List.filter_cons, tak_can]; rfl
theorem tak_some : (legalN takS 0).isEmpty = false := by
  have h : (44, 36) ∈ legalN takS 0 := (caps_mem.1 (by rw [tak_caps]; exact List.mem_singleton.2 rfl)).1
  cases hl : legalN takS 0 with
  | nil => rw [hl] at h; cases h
  | cons x l => rfl
def takS1 : ByteArray := behindS takS (44, 36)
theorem tak1_caps0 : (movesN takS1 1).filter (fun m => bAt takS1 m.2 != 46) = [] := by decide +kernel
theorem tak1_caps : capsN takS1 1 = [] := by rw [caps_swap, tak1_caps0]; rfl
theorem tak1_move : (movesN takS1 1).contains (85, 76) = true := by decide +kernel
theorem tak1_can : legalB takS1 1 (85, 76) = true := by decide +kernel
theorem tak1_some : (legalN takS1 1).isEmpty = false := legal_some (85, 76) tak1_move tak1_can
theorem tak_of : ofV takS 0 = 109 := by decide +kernel
theorem tak1_of : ofV takS1 1 = -204 := by decide +kernel
theorem tak_piece : pieceV 110 36 = 95 := by decide +kernel
theorem tak_quiet : quietV takS 0 0 1 = 204 := by
  unfold quietV
  rw [if_pos tak_well, quiet_succ 8, tak_some, if_neg (by simp), tak_caps]
  show maxL (ofV takS 0) [-(quietF 8 takS1 (1 - 0))] = 204
  rw [show (1 : Int) - 0 = 1 from rfl, quiet_still 8 tak1_some tak1_caps, tak_of, tak1_of]
  rfl
theorem mat_well : wellN matS 0 0 1 = 0 := by decide +kernel
theorem mat_none : (legalN matS 0).isEmpty = true := by decide +kernel
theorem mat_quiet : quietV matS 0 0 1 = -10000 := by
  unfold quietV
  rw [if_pos mat_well, quiet_low 9 mat_none]
theorem twos_well : wellN twoS 0 0 1 = 0 := by decide +kernel
theorem twos_caps0 : (movesN twoS 0).filter (fun m => bAt twoS m.2 != 46) = [] := by decide +kernel
theorem twos_caps : capsN twoS 0 = [] := by rw [caps_swap, twos_caps0]; rfl
theorem twos_move : (movesN twoS 0).contains (3, 12) = true := by decide +kernel
theorem twos_can : legalB twoS 0 (3, 12) = true := by decide +kernel
theorem twos_some : (legalN twoS 0).isEmpty = false := legal_some (3, 12) twos_move twos_can
theorem twos_of : ofV twoS 0 = 0 := by decide +kernel
theorem twos_quiet : quietV twoS 0 0 1 = 0 := by
  unfold quietV
  rw [if_pos twos_well, quiet_still 9 twos_some twos_caps, twos_of]
theorem tak_few : cntP takS ≤ 9 := by decide +kernel
theorem mat_few : cntP matS ≤ 9 := by decide +kernel
theorem twos_few : cntP twoS ≤ 9 := by decide +kernel
theorem nil_quiet : wellN ⟨#[]⟩ 0 0 0 ≠ 0 := by decide +kernel
end Go.Proofs.YtbdgbihdhbjljaaGreatDoor
