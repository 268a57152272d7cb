/- Texts of squares and moves, as plain functions: what is written, what is read; what is written is read. -/
import Derived.Test.YtpogpjebhnoncabGreatDoorBoardM
namespace Go.Proofs.YtpogpjebhnoncabGreatDoor
open Go.RowKit Go.Shelf
open M (S)

/-- A letter's file; -1: it is that of none. -/
def letF (c : Nat) : Int := if 97 ≤ c ∧ c ≤ 105 then (c : Int) - 97 else if 65 ≤ c ∧ c ≤ 73 then (c : Int) - 65 else -1
/-- Two bytes' square; -1: none. -/
def sqT (c d : Nat) : Int := squareI (letF c) ((d : Int) - 48)
/-- Four bytes' move. -/
def twoT (a b c d : Nat) : Option (Int × Int) := if 0 ≤ sqT a b ∧ 0 ≤ sqT c d then some (sqT a b, sqT c d) else none
/-- A text's move. -/
def readT (s : ByteArray) : Option (Int × Int) :=
  if s.size = 5 ∧ bAt s 2 = 45 then twoT (bAt s 0) (bAt s 1) (bAt s 3) (bAt s 4)
  else if s.size = 4 then twoT (bAt s 0) (bAt s 1) (bAt s 2) (bAt s 3) else none
/-- A square's text. -/
def sqTxt (n : Nat) : ByteArray := ⟨#[UInt8.ofNat (97 + n % 9), UInt8.ofNat (48 + n / 9)]⟩
def sqTxtI (n : Int) : ByteArray := if sqI n then sqTxt n.toNat else ⟨#[]⟩
/-- A move's text. -/
def printT (a b : Int) : ByteArray := if sqI a && sqI b then sqTxt a.toNat ++ sqTxt b.toNat else ⟨#[]⟩

theorem sqI_iff {n : Int} : sqI n = true ↔ 0 ≤ n ∧ n < 90 := by
  unfold sqI
  simp
theorem letF_lt (c : Nat) : letF c < 9 := by
  unfold letF
  split
  · omega
  · split <;> omega
theorem letF_of {f : Nat} (h : f < 9) : letF (97 + f) = f := by
  unfold letF
  rw [if_pos (by omega)]
  omega
theorem sqT_lt (c d : Nat) : sqT c d < 90 := by
  unfold sqT squareI
  split <;> omega
theorem sqT_of {n : Nat} (h : n < 90) : sqT (97 + n % 9) (48 + n / 9) = n := by
  unfold sqT
  rw [letF_of (Nat.mod_lt _ (by decide))]
  unfold squareI
  rw [if_pos (by omega)]
  omega
theorem readT_sq {s : ByteArray} {a b : Int} (h : readT s = some (a, b)) : sqI a = true ∧ sqI b = true := by
  have key : ∀ p q r t, twoT p q r t = some (a, b) → sqI a = true ∧ sqI b = true := fun p q r t e => by
    unfold twoT at e
    split at e
    · rename_i h0
      simp only [Option.some.injEq, Prod.mk.injEq] at e
      obtain ⟨rfl, rfl⟩ := e
      exact ⟨sqI_iff.2 ⟨h0.1, sqT_lt _ _⟩, sqI_iff.2 ⟨h0.2, sqT_lt _ _⟩⟩
    · cases e
  unfold readT at h
  split at h
  · exact key _ _ _ _ h
  · split at h
    · exact key _ _ _ _ h
    · cases h
theorem four_at (a b c d : UInt8) : (⟨#[a, b]⟩ : ByteArray) ++ ⟨#[c, d]⟩ = ⟨#[a, b, c, d]⟩ := by
  rw [ByteArray.mk_append_mk]
  rfl
theorem byte_of {n : Nat} (h : n < 256) : (UInt8.ofNat n).toNat = n := by
  rw [UInt8.toNat_ofNat']
  exact Nat.mod_eq_of_lt h
/-- What is written is read. -/
theorem read_print {a b : Int} (ha : sqI a = true) (hb : sqI b = true) : readT (printT a b) = some (a, b) := by
  obtain ⟨a0, a1⟩ := sqI_iff.1 ha
  obtain ⟨b0, b1⟩ := sqI_iff.1 hb
  obtain ⟨m, rfl⟩ : ∃ m : Nat, a = m := ⟨a.toNat, by omega⟩
  obtain ⟨n, rfl⟩ : ∃ n : Nat, b = n := ⟨b.toNat, by omega⟩
  have hm : m < 90 := by omega
  have hn : n < 90 := by omega
  unfold printT
  rw [ha, hb]
  simp only [Bool.and_self, if_true, Int.toNat_natCast]
  unfold sqTxt
  rw [four_at]
  unfold readT
  have e4 : (⟨#[UInt8.ofNat (97 + m % 9), UInt8.ofNat (48 + m / 9), UInt8.ofNat (97 + n % 9), UInt8.ofNat (48 + n / 9)]⟩ : ByteArray).size = 4 := rfl
  rw [e4]
  simp only [if_true, show ¬ ((4 : Nat) = 5 ∧ _) from fun e => absurd e.1 (by decide), if_false]
  have b0 : bAt ⟨#[UInt8.ofNat (97 + m % 9), UInt8.ofNat (48 + m / 9), UInt8.ofNat (97 + n % 9), UInt8.ofNat (48 + n / 9)]⟩ 0 = 97 + m % 9 := byte_of (by omega)
  have b1 : bAt ⟨#[UInt8.ofNat (97 + m % 9), UInt8.ofNat (48 + m / 9), UInt8.ofNat (97 + n % 9), UInt8.ofNat (48 + n / 9)]⟩ 1 = 48 + m / 9 := byte_of (by omega)
  have b2 : bAt ⟨#[UInt8.ofNat (97 + m % 9), UInt8.ofNat (48 + m / 9), UInt8.ofNat (97 + n % 9), UInt8.ofNat (48 + n / 9)]⟩ 2 = 97 + n % 9 := byte_of (by omega)
  have b3 : bAt ⟨#[UInt8.ofNat (97 + m % 9), UInt8.ofNat (48 + m / 9), UInt8.ofNat (97 + n % 9), UInt8.ofNat (48 + n / 9)]⟩ 3 = 48 + n / 9 := byte_of (by omega)
  rw [b0, b1, b2, b3]
  unfold twoT
  rw [sqT_of hm, sqT_of hn, if_pos ⟨by omega, by omega⟩]
theorem print_size {a b : Int} (ha : sqI a = true) (hb : sqI b = true) : (printT a b).size = 4 := by
  unfold printT
  rw [ha, hb]
  rfl
theorem print_none {a b : Int} (h : (sqI a && sqI b) = false) : printT a b = ⟨#[]⟩ := by
  unfold printT
  rw [h]
  rfl
theorem print_some {a b : Int} (h : (sqI a && sqI b) = true) : printT a b ≠ ⟨#[]⟩ := fun e => by
  obtain ⟨ha, hb⟩ := Bool.and_eq_true_iff.1 h
  have := print_size ha hb
  rw [e] at this
  cases this
/-- No two moves have one text. -/
theorem print_one {a b c d : Int} (h : (sqI a && sqI b) = true) (k : (sqI c && sqI d) = true) : printT a b = printT c d ↔ a = c ∧ b = d := by
  obtain ⟨ha, hb⟩ := Bool.and_eq_true_iff.1 h
  obtain ⟨hc, hd⟩ := Bool.and_eq_true_iff.1 k
  constructor
  · intro e
    have := read_print ha hb
    rw [e, read_print hc hd] at this
    simp only [Option.some.injEq, Prod.mk.injEq] at this
    exact ⟨this.1.symm, this.2.symm⟩
  · rintro ⟨rfl, rfl⟩
    rfl
/-- A blank stands in no move's text. -/
theorem print_blank {a b : Int} (ha : sqI a = true) (hb : sqI b = true) : (32 : UInt8) ∉ (printT a b).data.toList := by
  obtain ⟨a0, a1⟩ := sqI_iff.1 ha
  obtain ⟨b0, b1⟩ := sqI_iff.1 hb
  obtain ⟨m, rfl⟩ : ∃ m : Nat, a = m := ⟨a.toNat, by omega⟩
  obtain ⟨n, rfl⟩ : ∃ n : Nat, b = n := ⟨b.toNat, by omega⟩
  unfold printT
  rw [ha, hb]
  simp only [Bool.and_self, if_true, Int.toNat_natCast]
  unfold sqTxt
  rw [four_at]
  intro h
  have h' : (32 : UInt8) ∈ [UInt8.ofNat (97 + m % 9), UInt8.ofNat (48 + m / 9), UInt8.ofNat (97 + n % 9), UInt8.ofNat (48 + n / 9)] := h
  simp only [List.mem_cons, List.not_mem_nil, or_false] at h'
  have no : ∀ k : Nat, k < 256 → k ≠ 32 → (32 : UInt8) ≠ UInt8.ofNat k := fun k hk hne e => hne (by
    have := congrArg UInt8.toNat e
    rw [byte_of hk] at this
    exact this.symm)
  rcases h' with e | e | e | e
  · exact no _ (by omega) (by omega) e
  · exact no _ (by omega) (by omega) e
  · exact no _ (by omega) (by omega) e
  · exact no _ (by omega) (by omega) e
end Go.Proofs.YtpogpjebhnoncabGreatDoor
