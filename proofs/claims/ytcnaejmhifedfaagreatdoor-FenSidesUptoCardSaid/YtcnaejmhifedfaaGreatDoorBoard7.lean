/- What more of the document's plain answers of layer 2 come to: a board with something put; a board from the other side. -/
import Derived.Test.YtcnaejmhifedfaaGreatDoorBoard6
namespace Go.Proofs.YtcnaejmhifedfaaGreatDoor
open Go.RowKit Go.Shelf
open M (S)

/-- A text of one byte. -/
def one (c : Nat) : ByteArray := ⟨[UInt8.ofNat c].toArray⟩
theorem one_of (W : World) (g C c : Nat) (hc : c < 256) (h : W.cell? ⟨g, 0, none⟩ = some (.int .u8 (c : Int))) :
    (convert 70 9 (.slice (some ⟨g, 0, none⟩) 1 C)).run Tryz.prog W = .ok (.string (one c)) W :=
  run_convert_bytes_back (P := Tryz.prog) W 70 9 5 ⟨g, 0, none⟩ C [UInt8.ofNat c] Tryz.underlying70 Tryz.underlying5 Tryz.underlying9 (fun j hj => by
    obtain rfl : j = 0 := by simpa using hj
    rw [show (Addr.add ⟨g, 0, none⟩ 0) = ⟨g, 0, none⟩ by simp [Addr.add], h]
    simp only [List.getElem_cons_zero]
    rw [UInt8.toNat_ofNat_of_lt' (by omega)])
theorem put_cut (s : ByteArray) (n c : Nat) (h : n < s.size) : putS s n c = (s.extract 0 n ++ one c) ++ s.extract (n + 1) s.size := by
  obtain ⟨⟨l⟩⟩ := s
  have hl : n < l.length := h
  unfold putS one
  rw [ByteArray.extract_mk, ByteArray.extract_mk, ByteArray.mk_append_mk, ByteArray.mk_append_mk]
  congr 1
  rw [List.set_eq_take_append_cons_drop, if_pos hl]
  rw [size_mk, List.take_of_length_le (l := List.drop (n + 1) l) (by simp)]
  simp

theorem swap_facts (c : Nat) (h : 0 ≤ sideN c) : (sideN c = 0 ∧ kindN c = c ∧ swapN c = c + 32 ∧ 65 ≤ c ∧ c ≤ 122) ∨ (sideN c = 1 ∧ swapN c = kindN c) := by
  rcases byte_cases c with ⟨kb, kr, _⟩ | rfl | rfl | rfl | rfl | rfl | rfl | rfl | rfl | rfl | rfl | rfl | rfl | rfl | rfl
  · have : sideN c = -1 := by simp [sideN, kb, kr]
    omega
  all_goals decide
theorem swap_none {c : Nat} (h : ¬ 0 ≤ sideN c) : swapN c = c := by
  rcases byte_cases c with ⟨kb, kr, _⟩ | rfl | rfl | rfl | rfl | rfl | rfl | rfl | rfl | rfl | rfl | rfl | rfl | rfl | rfl
  · simp [swapN, kb, kr]
  all_goals exact absurd (by decide) h
theorem turnL_succ (s : ByteArray) (k : Nat) : turnL s (k + 1) = turnL s k ++ [UInt8.ofNat (swapN (bAt s (89 - k)))] := by
  unfold turnL
  rw [List.range_succ, List.map_append]
  rfl
theorem turnL_len (s : ByteArray) (k : Nat) : (turnL s k).length = k := by simp [turnL]

end Go.Proofs.YtcnaejmhifedfaaGreatDoor
