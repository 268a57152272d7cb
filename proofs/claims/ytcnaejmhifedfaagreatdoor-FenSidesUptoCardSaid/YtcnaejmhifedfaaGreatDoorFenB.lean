/- Plain facts on ranks, boards, numbers and positions as texts. No program in it. -/
import Derived.Test.YtcnaejmhifedfaaGreatDoorFenA
import Derived.Test.YtcnaejmhifedfaaGreatDoorPlace6
import Derived.Lib.Atoi
namespace Go.Proofs.YtcnaejmhifedfaaGreatDoor.F

/-- The squares that one byte of a rank stands for; none: it stands for none. -/
def expand1 (b : UInt8) : Option (List UInt8) :=
  if b = 69 then some [66] else if b = 101 then some [98] else if b = 72 then some [78] else if b = 104 then some [110]
  else if 49 ≤ b.toNat ∧ b.toNat ≤ 57 then some (List.replicate (b.toNat - 48) 46)
  else if kindN b.toNat = 0 then none else some [b]
def expand : List UInt8 → Option (List UInt8)
  | [] => some []
  | b :: r => match expand1 b, expand r with
    | some x, some y => some (x ++ y)
    | _, _ => none
/-- A rank's nine squares. -/
def rankL (s : List UInt8) : Option (List UInt8) := match expand s with
  | some l => if l.length = 9 then some l else none
  | none => none
/-- The squares of ranks that are told from the last to the first. -/
def ranksL : List (List UInt8) → Option (List UInt8)
  | [] => some []
  | t :: r => match rankL t, ranksL r with
    | some x, some y => some (y ++ x)
    | _, _ => none
def boardL (s : List UInt8) : Option (List UInt8) := if (cutL 47 s).length = 10 then ranksL (cutL 47 s) else none
def sideL (s : List UInt8) : Option Int := if s = [119] ∨ s = [114] then some 0 else if s = [98] then some 1 else none
/-- A number of digits. -/
def numL (s : List UInt8) : Option Nat := if s = [] ∨ 4 < s.length ∨ (s.head? = some 48 ∧ 1 < s.length) then none else Lib.decFrom 0 s
/-- A position, as its text tells it. -/
structure P where
  cells : List UInt8
  side : Int
  clock : Int
  full : Int
def formL (s : List UInt8) : Option P := match cutL 32 s with
  | [b, sd] => match boardL b, sideL sd with
    | some x, some y => some ⟨x, y, 0, 1⟩
    | _, _ => none
  | [b, sd, d1, d2, ck, fl] => if d1 = [45] ∧ d2 = [45] then (match boardL b, sideL sd, numL ck, numL fl with
    | some x, some y, some u, some v => some ⟨x, y, (u : Int), (v : Int)⟩
    | _, _, _, _ => none) else none
  | _ => none
/-- A row of empty squares, and what follows it, as a rank's text. -/
def rle : Nat → List UInt8 → List UInt8
  | 0, [] => []
  | e + 1, [] => [UInt8.ofNat (48 + (e + 1))]
  | e, b :: r => if b = 46 then rle (e + 1) r else (if e = 0 then [] else [UInt8.ofNat (48 + e)]) ++ b :: rle 0 r
/-- The text of ranks, from the first square's rank on: each, the last one first. -/
def rows (cells : List UInt8) : List (List UInt8) := (List.range 10).map fun i => rle 0 ((cells.drop (9 * (9 - i))).take 9)
def boardT (cells : List UInt8) : List UInt8 := Lib.join (rows cells) [47]
def fields (p : P) : List (List UInt8) := [boardT p.cells, [if p.side = 1 then 98 else 119], [45], [45], Lib.decDigits p.clock.toNat, Lib.decDigits p.full.toNat]
def printL (p : P) : List UInt8 := Lib.join (fields p) [32]

-- what is printed is read: ranks
theorem expand_app : ∀ a b : List UInt8, expand (a ++ b) = match expand a, expand b with | some x, some y => some (x ++ y) | _, _ => none
  | [], b => by
    rw [List.nil_append, expand]
    cases expand b <;> rfl
  | c :: a, b => by
    rw [List.cons_append, expand, expand, expand_app a b]
    cases expand1 c <;> cases expand a <;> cases expand b <;> simp
theorem expand_digit (e : Nat) (h1 : 1 ≤ e) (h9 : e ≤ 9) : expand1 (UInt8.ofNat (48 + e)) = some (List.replicate e 46) := by
  have h : e = 1 ∨ e = 2 ∨ e = 3 ∨ e = 4 ∨ e = 5 ∨ e = 6 ∨ e = 7 ∨ e = 8 ∨ e = 9 := by omega
  rcases h with rfl | rfl | rfl | rfl | rfl | rfl | rfl | rfl | rfl <;> rfl
theorem expand_piece {b : UInt8} (h : kindN b.toNat ≠ 0) : expand1 b = some [b] := by
  obtain ⟨n, hn⟩ : ∃ n, b.toNat = n := ⟨_, rfl⟩
  have hb : b = UInt8.ofNat n := by rw [← hn]; simp
  rw [hn] at h
  rcases byte_cases n with ⟨kb, kr, _⟩ | rfl | rfl | rfl | rfl | rfl | rfl | rfl | rfl | rfl | rfl | rfl | rfl | rfl | rfl
  · exact absurd (by simp [kindN, kb, kr]) h
  all_goals
    subst hb
    rfl
/-- A byte of a board. -/
def sqB (b : UInt8) : Prop := b = 46 ∨ kindN b.toNat ≠ 0
theorem rle_expand : ∀ (l : List UInt8) (e : Nat), e + l.length ≤ 9 → (∀ b ∈ l, sqB b) → expand (rle e l) = some (List.replicate e 46 ++ l)
  | [], 0, _, _ => rfl
  | [], e + 1, h, _ => by
    rw [rle, expand, expand_digit (e + 1) (by omega) (by simpa using h)]
    simp [expand]
  | b :: r, e, h, hb => by
    rw [List.length_cons] at h
    have hr : ∀ x ∈ r, sqB x := fun x hx => hb x (List.mem_cons_of_mem _ hx)
    by_cases e46 : b = 46
    · have e1 : rle e (b :: r) = rle (e + 1) r := by
        cases e <;> rw [rle, if_pos e46]
      rw [e1, rle_expand r (e + 1) (by omega) hr, e46, List.replicate_succ']
      simp
    · have hk : kindN b.toNat ≠ 0 := by
        rcases hb b (by simp) with h' | h'
        · exact absurd h' e46
        · exact h'
      have ih := rle_expand r 0 (by omega) hr
      have e1 : rle e (b :: r) = (if e = 0 then [] else [UInt8.ofNat (48 + e)]) ++ b :: rle 0 r := by
        cases e <;> rw [rle, if_neg e46]
      rw [e1, expand_app, expand, expand_piece hk, ih]
      by_cases e0 : e = 0
      · subst e0
        simp [expand]
      · rw [if_neg e0, expand, expand_digit e (by omega) (by omega)]
        simp [expand]
theorem rle_no (c : UInt8) (hc : c.toNat < 48 ∨ 57 < c.toNat) : ∀ (l : List UInt8) (e : Nat), e + l.length ≤ 9 → c ∉ l → c ∉ rle e l
  | [], 0, _, _ => by simp [rle]
  | [], e + 1, h, _ => by
    rw [rle, List.mem_singleton]
    intro e1
    have h1 : e + 1 ≤ 9 := by simpa using h
    have : c.toNat = 48 + (e + 1) := by rw [e1, UInt8.toNat_ofNat_of_lt' (by have : UInt8.size = 256 := rfl; omega)]
    omega
  | b :: r, e, h, hn => by
    rw [List.length_cons] at h
    rw [List.mem_cons, not_or] at hn
    by_cases e46 : b = 46
    · have e1 : rle e (b :: r) = rle (e + 1) r := by
        cases e <;> rw [rle, if_pos e46]
      rw [e1]
      exact rle_no c hc r (e + 1) (by omega) hn.2
    · have ih := rle_no c hc r 0 (by omega) hn.2
      have e1 : rle e (b :: r) = (if e = 0 then [] else [UInt8.ofNat (48 + e)]) ++ b :: rle 0 r := by
        cases e <;> rw [rle, if_neg e46]
      rw [e1]
      by_cases e0 : e = 0
      · rw [if_pos e0, List.nil_append, List.mem_cons, not_or]
        exact ⟨hn.1, ih⟩
      · rw [if_neg e0, List.singleton_append, List.mem_cons, List.mem_cons, not_or, not_or]
        refine ⟨fun e2 => ?_, hn.1, ih⟩
        have : c.toNat = 48 + e := by rw [e2, UInt8.toNat_ofNat_of_lt' (by have : UInt8.size = 256 := rfl; omega)]
        omega
theorem rankL_rle {l : List UInt8} (hl : l.length = 9) (hb : ∀ b ∈ l, sqB b) : rankL (rle 0 l) = some l := by
  rw [rankL, rle_expand l 0 (by omega) hb]
  simp [hl]
end Go.Proofs.YtcnaejmhifedfaaGreatDoor.F
