/- The moves of the start, for the document's own examples of layer 11. No program in it. -/
import Derived.Test.YtbdgbihdhbjljaaGreatDoorLegalM
import Derived.Test.YtbdgbihdhbjljaaGreatDoorLive3
import Derived.Test.YtbdgbihdhbjljaaGreatDoorPerftA
namespace Go.Proofs.YtbdgbihdhbjljaaGreatDoor

def sm0 : List (Nat × Nat) := [(0, 9), (0, 18), (1, 18), (1, 20)]
theorem sl0 : sm0.all (legalB startS 0) = true := by decide +kernel
def sm1 : List (Nat × Nat) := [(2, 18), (2, 22), (3, 13), (4, 13)]
theorem sl1 : sm1.all (legalB startS 0) = true := by decide +kernel
def sm2 : List (Nat × Nat) := [(5, 13), (6, 22), (6, 26), (7, 24)]
theorem sl2 : sm2.all (legalB startS 0) = true := by decide +kernel
def sm3 : List (Nat × Nat) := [(7, 26), (8, 17), (8, 26), (19, 10)]
theorem sl3 : sm3.all (legalB startS 0) = true := by decide +kernel
def sm4 : List (Nat × Nat) := [(19, 18), (19, 20), (19, 21), (19, 22)]
theorem sl4 : sm4.all (legalB startS 0) = true := by decide +kernel
def sm5 : List (Nat × Nat) := [(19, 23), (19, 24), (19, 28), (19, 37)]
theorem sl5 : sm5.all (legalB startS 0) = true := by decide +kernel
def sm6 : List (Nat × Nat) := [(19, 46), (19, 55), (19, 82), (25, 16)]
theorem sl6 : sm6.all (legalB startS 0) = true := by decide +kernel
def sm7 : List (Nat × Nat) := [(25, 20), (25, 21), (25, 22), (25, 23)]
theorem sl7 : sm7.all (legalB startS 0) = true := by decide +kernel
def sm8 : List (Nat × Nat) := [(25, 24), (25, 26), (25, 34), (25, 43)]
theorem sl8 : sm8.all (legalB startS 0) = true := by decide +kernel
def sm9 : List (Nat × Nat) := [(25, 52), (25, 61), (25, 88), (27, 36)]
theorem sl9 : sm9.all (legalB startS 0) = true := by decide +kernel
def sm10 : List (Nat × Nat) := [(29, 38), (31, 40), (33, 42), (35, 44)]
theorem sl10 : sm10.all (legalB startS 0) = true := by decide +kernel
def startM : List (Nat × Nat) := sm0 ++ sm1 ++ sm2 ++ sm3 ++ sm4 ++ sm5 ++ sm6 ++ sm7 ++ sm8 ++ sm9 ++ sm10
theorem start_moves : movesN startS 0 = startM := by decide +kernel
theorem start_all : startM.all (legalB startS 0) = true := by simp only [startM, List.all_append, sl0, sl1, sl2, sl3, sl4, sl5, sl6, sl7, sl8, sl9, sl10, Bool.and_self]
theorem start_well : wellN startS 0 0 1 = 0 := by decide +kernel
theorem start_legal : legalV startS 0 0 1 = startM := by
  rw [legal_same, if_pos start_well, legalN, start_moves, List.filter_eq_self]
  exact List.all_eq_true.1 start_all
theorem start_lines : linesN 1 startS 0 = 44 := by
  have h := start_legal
  rw [legal_same, if_pos start_well] at h
  rw [linesN_one, h]
  rfl
end Go.Proofs.YtbdgbihdhbjljaaGreatDoor
