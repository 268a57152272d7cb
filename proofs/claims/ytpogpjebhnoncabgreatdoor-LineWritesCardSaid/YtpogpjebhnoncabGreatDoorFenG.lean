/- Plain facts on positions that are right: their texts, and back. -/
import Derived.Test.YtpogpjebhnoncabGreatDoorFenN
import Derived.Test.YtpogpjebhnoncabGreatDoorFenR2
namespace Go.Proofs.YtpogpjebhnoncabGreatDoor
open Go.RowKit Go.Shelf
open M (S)

theorem sq_of {b : UInt8} (h : fillB b.toNat = true) : F.sqB b := by
  have hk := fill_kind h
  by_cases e : b.toNat = 46
  · left
    have : UInt8.ofNat b.toNat = UInt8.ofNat 46 := by rw [e]
    simpa using this
  · right
    intro h0
    rw [h0] at hk
    have h1 : (b.toNat == 46) = true := by rw [← hk]; rfl
    exact e (by simpa using h1)
theorem good_of {s : ByteArray} {side clock full : Int} (h : (checkN s side clock full : Int) = 0) : F.Good (posP s side clock full) := by
  obtain ⟨hp, _, _⟩ := check_zeroF h
  have hb := parts_boardF hp
  obtain ⟨h1, h2, h3, h4, h5⟩ := parts_nums hp
  have hz := isB_size hb
  have hlen : s.data.toList.length = 90 := by simpa using hz
  refine ⟨hlen, fun b hm => ?_, h1, ⟨h2, by show clock ≤ 9999; omega⟩, ⟨by show 0 ≤ full; omega, h5⟩⟩
  obtain ⟨k, hk, rfl⟩ := List.getElem_of_mem (show b ∈ s.data.toList from hm)
  have hf := isB_fill hb k (by omega)
  rw [← bAt_list s k hk] at hf
  exact sq_of hf
theorem check_posP (s : ByteArray) (side clock full : Int) : checkP (posP s side clock full) = checkN s side clock full := by
  unfold checkP posP
  rw [bs_back]
theorem goodV {s : ByteArray} {side clock full : Int} (h : (checkN s side clock full : Int) = 0) : parseV (F.printL (posP s side clock full)) = .tuple #[.agg #[.string s, .int .i64 side, .int .i64 clock, .int .i64 full], .int .i64 0] := by
  rw [parse_yes (F.form_back (good_of h)) (by rw [check_posP]; exact h), posVP]
  simp only [posP, bs_back]
theorem posP_bs (p : F.P) : posP (bs p.cells) p.side p.clock p.full = p := by
  unfold posP
  rw [bs_data]
theorem print_len (s : ByteArray) (side clock full : Int) (h : (checkN s side clock full : Int) = 0) : (F.printL (posP s side clock full)).length ≤ 1000 := by
  have hg := good_of h
  rw [← print_eq s side clock full _ rfl]
  have h1 := ranksT_len s 10 (by omega) (by omega)
  have h2 : (Lib.decDigits clock.toNat).length ≤ 20 := by
    rw [Lib.decDigits_length]
    exact Lib.nDigits_le20 _ (by have := hg.clock; have : (posP s side clock full).clock = clock := rfl; omega)
  have h3 : (Lib.decDigits full.toNat).length ≤ 20 := by
    rw [Lib.decDigits_length]
    exact Lib.nDigits_le20 _ (by have := hg.full; have : (posP s side clock full).full = full := rfl; omega)
  simp only [List.length_append, List.length_cons, List.length_nil]
  omega
theorem pos_inj {s t : ByteArray} {a b c x y z : Int} (h : posP s a b c = posP t x y z) : s = t ∧ a = x ∧ b = y ∧ c = z := by
  unfold posP at h
  injection h with h1 h2 h3 h4
  refine ⟨?_, h2, h3, h4⟩
  rw [← bs_back s, ← bs_back t, h1]
theorem print_same {s t : ByteArray} {a b c x y z : Int} (hp : (checkN s a b c : Int) = 0) (hq : (checkN t x y z : Int) = 0) (h : F.printL (posP s a b c) = F.printL (posP t x y z)) : s = t ∧ a = x ∧ b = y ∧ c = z :=
  pos_inj (F.print_inj (good_of hp) (good_of hq) h)
end Go.Proofs.YtpogpjebhnoncabGreatDoor
