/- Lines of moves, read word by word and made one behind the other, as a plain function; what is written is read as the same; a line and one more are one line. -/
import Derived.Test.YtmmomgaijgpmmaaGreatDoorIccsA
import Derived.Test.YtmmomgaijgpmmaaGreatDoorLegalM
import Derived.Test.YtmmomgaijgpmmaaGreatDoorFenM
namespace Go.Proofs.YtmmomgaijgpmmaaGreatDoor.I
open Go.RowKit Go.Shelf Go.Proofs.YtmmomgaijgpmmaaGreatDoor.F
open M (S)

/-- A position. -/
structure Pz where
  s : ByteArray
  y : Int
  z : Int
  u : Int
def Pz.v (p : Pz) : Value := .agg #[.string p.s, .int .i64 p.y, .int .i64 p.z, .int .i64 p.u]
/-- The position behind a move that may be made. -/
def behindP (p : Pz) (m : Int × Int) : Pz := ⟨movedS p.s m.1.toNat m.2.toNat (bAt p.s m.1.toNat), 1 - p.y, clockA p.s p.z m.2.toNat, fullA p.y p.u⟩
def mayP (p : Pz) (m : Int × Int) : Bool := isV p.s p.y p.z p.u m.1 m.2
theorem make_good {p : Pz} {a b : Int} (h : mayP p (a, b) = true) : ∃ t : Nat, makeV p.s p.y p.z p.u a b = .tuple #[(behindP p (a, b)).v, .int .u8 t, .int .i64 0] := by
  unfold mayP isV at h
  obtain ⟨h1, h2⟩ := Bool.and_eq_true_iff.1 h
  have hk : wellN p.s p.y p.z p.u = 0 := by simpa using h1
  unfold makeV
  rw [if_pos hk, if_pos h2]
  have h3 := h2
  unfold leavesI at h3
  simp only [Bool.and_eq_true, bne_iff_ne] at h3
  exact ⟨_, apply_good_value (well_check hk) ⟨h3.1.1, h3.1.2⟩⟩
theorem make_bad {p : Pz} {a b : Int} (h : mayP p (a, b) = false) : ∃ (v : Value) (k : Int), makeV p.s p.y p.z p.u a b = .tuple #[.agg #[.string ⟨#[]⟩, .int .i64 0, .int .i64 0, .int .i64 0], v, .int .i64 k] ∧ k ≠ 0 := by
  unfold makeV
  by_cases hk : wellN p.s p.y p.z p.u = 0
  · rw [if_pos hk]
    have h2 : leavesI p.s p.y p.z p.u a b = false := by
      unfold mayP isV at h
      rw [hk] at h
      simpa using h
    rw [h2, if_neg (by simp)]
    exact ⟨_, 7, rfl, by decide⟩
  · rw [if_neg hk]
    exact ⟨_, _, rfl, hk⟩
/-- Behind a right position's move lies a right position. -/
theorem may_well {p : Pz} {m : Int × Int} (h : mayP p m = true) : wellN (behindP p m).s (behindP p m).y (behindP p m).z (behindP p m).u = 0 := by
  unfold mayP isV leavesI at h
  simp only [Bool.and_eq_true, beq_iff_eq] at h
  exact h.2.2
theorem may_sq {p : Pz} {a b : Int} (h : mayP p (a, b) = true) : sqI a = true ∧ sqI b = true := by
  unfold mayP isV leavesI at h
  simp only [Bool.and_eq_true, beq_iff_eq] at h
  obtain ⟨_, ha, hb, _⟩ := isM_parts h.2.1.1
  exact ⟨sqI_iff.2 ha, sqI_iff.2 hb⟩

/-- What a line's reading ends in: an error's number, or moves and the position behind them. -/
inductive Got where
  | no (e : Int)
  | got (l : List (Int × Int)) (q : Pz)
def Got.put (m : List (Int × Int)) : Got → Got
  | .no e => .no e
  | .got l q => .got (m ++ l) q
theorem Got.put_nil (g : Got) : Got.put [] g = g := by cases g <;> rfl
theorem Got.put_put (a b : List (Int × Int)) (g : Got) : Got.put a (Got.put b g) = Got.put (a ++ b) g := by
  cases g with
  | no e => rfl
  | got l q => simp [Got.put, List.append_assoc]
/-- The words of a line, behind k moves. -/
def lineF : Nat → Pz → List (List UInt8) → Got
  | _, p, [] => .got [] p
  | k, p, w :: ws => match readT (bs w) with
    | none => .no 6
    | some m => if k = 1024 then .no 8 else if mayP p m then (lineF (k + 1) (behindP p m) ws).put [m] else .no 7
theorem line_form {k : Nat} {p : Pz} {w : List UInt8} {ws : List (List UInt8)} (h : readT (bs w) = none) : lineF k p (w :: ws) = .no 6 := by
  rw [lineF, h]
theorem line_full {p : Pz} {w : List UInt8} {ws : List (List UInt8)} {m : Int × Int} (h : readT (bs w) = some m) : lineF 1024 p (w :: ws) = .no 8 := by
  rw [lineF, h]
  rfl
theorem line_move {k : Nat} {p : Pz} {w : List UInt8} {ws : List (List UInt8)} {m : Int × Int} (h : readT (bs w) = some m) (hk : k ≠ 1024) (hm : mayP p m = false) : lineF k p (w :: ws) = .no 7 := by
  rw [lineF, h]
  simp only [if_neg hk, hm, Bool.false_eq_true, if_false]
theorem line_on {k : Nat} {p : Pz} {w : List UInt8} {ws : List (List UInt8)} {m : Int × Int} (h : readT (bs w) = some m) (hk : k ≠ 1024) (hm : mayP p m = true) : lineF k p (w :: ws) = (lineF (k + 1) (behindP p m) ws).put [m] := by
  rw [lineF, h]
  simp only [if_neg hk, hm, if_true]
/-- A text's words. -/
def wordsT (s : ByteArray) : List (List UInt8) := if s.size = 0 then [] else cutL 32 s.data.toList
/-- A line of any text. -/
def lineT (p : Pz) (s : ByteArray) : Got := if wellN p.s p.y p.z p.u = 0 then lineF 0 p (wordsT s) else .no (wellN p.s p.y p.z p.u)
/-- What Text and Print write, joined. -/
def textT (l : List (Int × Int)) : ByteArray := if l.all (fun m => sqI m.1 && sqI m.2) then bs (Lib.join (l.map fun m => (printT m.1 m.2).data.toList) [32]) else ⟨#[]⟩

theorem line_split : ∀ (k : Nat) (p : Pz) (a b : List (List UInt8)), lineF k p (a ++ b) = match lineF k p a with
    | .no e => .no e
    | .got l q => (lineF (k + a.length) q b).put l
  | k, p, [], b => by
    show lineF k p b = _
    rw [lineF]
    show _ = (lineF (k + 0) p b).put []
    rw [Got.put_nil, Nat.add_zero]
  | k, p, w :: a, b => by
    show lineF k p (w :: (a ++ b)) = _
    cases h : readT (bs w) with
    | none => rw [line_form h, line_form h]
    | some m =>
      by_cases hk : k = 1024
      · subst hk
        rw [line_full h, line_full h]
      · cases hm : mayP p m
        · rw [line_move h hk hm, line_move h hk hm]
        · rw [line_on h hk hm, line_on h hk hm, line_split (k + 1) (behindP p m) a b]
          cases lineF (k + 1) (behindP p m) a with
          | no e => rfl
          | got l q =>
            show Got.put [m] (Got.put l _) = Got.put ([m] ++ l) _
            rw [Got.put_put, List.length_cons, show k + 1 + a.length = k + (a.length + 1) by omega]
/-- How many moves are read. -/
theorem line_len : ∀ (k : Nat) (p : Pz) (a : List (List UInt8)) (l : List (Int × Int)) (q : Pz), lineF k p a = .got l q → l.length = a.length
  | k, p, [], l, q, h => by
    rw [lineF] at h
    injection h with h1 h2
    subst h1
    rfl
  | k, p, w :: a, l, q, h => by
    cases hr : readT (bs w) with
    | none => rw [line_form hr] at h; cases h
    | some m =>
      by_cases hk : k = 1024
      · subst hk; rw [line_full hr] at h; cases h
      · cases hm : mayP p m
        · rw [line_move hr hk hm] at h; cases h
        · rw [line_on hr hk hm] at h
          cases e : lineF (k + 1) (behindP p m) a with
          | no e => rw [e] at h; cases h
          | got l' q' =>
            rw [e] at h
            injection h with h1 h2
            rw [← h1, List.length_append, line_len _ _ _ _ _ e]
            simp only [List.length_cons, List.length_nil]
            omega
/-- Far below the end of a line's room, where it begins tells nothing. -/
theorem line_room : ∀ (k j : Nat) (p : Pz) (a : List (List UInt8)), k + a.length ≤ 1024 → j + a.length ≤ 1024 → lineF k p a = lineF j p a
  | k, j, p, [], _, _ => by rw [lineF, lineF]
  | k, j, p, w :: a, hk, hj => by
    rw [List.length_cons] at hk hj
    cases hr : readT (bs w) with
    | none => rw [line_form hr, line_form hr]
    | some m =>
      cases hm : mayP p m
      · rw [line_move hr (by omega) hm, line_move hr (by omega) hm]
      · rw [line_on hr (by omega) hm, line_on hr (by omega) hm, line_room (k + 1) (j + 1) _ a (by omega) (by omega)]
/-- Moves that were read may be made one behind the other, and are squares'. -/
theorem line_all : ∀ (k : Nat) (p : Pz) (a : List (List UInt8)) (l : List (Int × Int)) (q : Pz), lineF k p a = .got l q → (∀ m ∈ l, sqI m.1 = true ∧ sqI m.2 = true) ∧ lineF k p (l.map fun m => (printT m.1 m.2).data.toList) = .got l q
  | k, p, [], l, q, h => by
    rw [lineF] at h
    injection h with h1 h2
    subst h1 h2
    exact ⟨fun m hm => by simp at hm, by rw [List.map_nil, lineF]⟩
  | k, p, w :: a, l, q, h => by
    cases hr : readT (bs w) with
    | none => rw [line_form hr] at h; cases h
    | some m =>
      by_cases hk : k = 1024
      · subst hk; rw [line_full hr] at h; cases h
      · cases hm : mayP p m
        · rw [line_move hr hk hm] at h; cases h
        · rw [line_on hr hk hm] at h
          cases e : lineF (k + 1) (behindP p m) a with
          | no e => rw [e] at h; cases h
          | got l' q' =>
            rw [e] at h
            injection h with h1 h2
            subst h1 h2
            obtain ⟨i1, i2⟩ := line_all _ _ _ _ _ e
            have hs := readT_sq (a := m.1) (b := m.2) hr
            refine ⟨fun x hx => ?_, ?_⟩
            · rw [List.mem_append, List.mem_singleton] at hx
              rcases hx with rfl | hx
              · exact hs
              · exact i1 x hx
            · rw [List.map_append, List.map_cons, List.map_nil, List.singleton_append]
              rw [line_on (m := m) (by rw [bs_back]; exact read_print hs.1 hs.2) hk hm, i2]
              rfl
theorem words_of {s : ByteArray} (h : s.size ≠ 0) : wordsT s = cutL 32 s.data.toList := by unfold wordsT; rw [if_neg h]
theorem words_nil : wordsT ⟨#[]⟩ = [] := rfl
theorem text_of {l : List (Int × Int)} (h : ∀ m ∈ l, sqI m.1 = true ∧ sqI m.2 = true) : textT l = bs (Lib.join (l.map fun m => (printT m.1 m.2).data.toList) [32]) := by
  unfold textT
  rw [if_pos]
  rw [List.all_eq_true]
  intro m hm
  rw [(h m hm).1, (h m hm).2]
  rfl
/-- What is written of moves has their texts for its words. -/
theorem words_text {l : List (Int × Int)} (h : ∀ m ∈ l, sqI m.1 = true ∧ sqI m.2 = true) : wordsT (textT l) = l.map fun m => (printT m.1 m.2).data.toList := by
  rw [text_of h]
  cases l with
  | nil => rfl
  | cons m l =>
    obtain ⟨ha, hb⟩ := h m (by simp)
    have h4 : (printT m.1 m.2).data.toList.length = 4 := by have := print_size ha hb; simpa using this
    have hj : (Lib.join ((m :: l).map fun m => (printT m.1 m.2).data.toList) [32]).length ≠ 0 := by
      rw [List.map_cons]
      intro h0
      have hc := cut_join 32 (printT m.1 m.2).data.toList (l.map fun m => (printT m.1 m.2).data.toList) (by
        intro p hp
        rw [List.mem_cons, List.mem_map] at hp
        rcases hp with rfl | ⟨x, hx, rfl⟩
        · exact print_blank ha hb
        · exact print_blank (h x (by simp [hx])).1 (h x (by simp [hx])).2)
      rw [List.eq_nil_of_length_eq_zero h0] at hc
      simp only [cutL] at hc
      injection hc with h1 h2
      rw [← h1] at h4
      cases h4
    rw [words_of (by rw [bs_size]; exact hj), bs_data, List.map_cons]
    refine cut_join 32 _ _ ?_
    intro p hp
    rw [List.mem_cons, List.mem_map] at hp
    rcases hp with rfl | ⟨x, hx, rfl⟩
    · exact print_blank ha hb
    · exact print_blank (h x (by simp [hx])).1 (h x (by simp [hx])).2
/-- Moves that are read, and written, are read as the same. -/
theorem line_again {p : Pz} {s : ByteArray} {l : List (Int × Int)} {q : Pz} (h : lineT p s = .got l q) : lineT p (textT l) = .got l q := by
  unfold lineT at h ⊢
  split at h
  · rename_i hw
    rw [if_pos hw]
    obtain ⟨h1, h2⟩ := line_all _ _ _ _ _ h
    rw [words_text h1]
    exact h2
  · cases h
theorem cut_len (c : UInt8) (s : List UInt8) : (cutL c s).length ≤ s.length + 1 := by
  induction s with
  | nil => simp [cutL]
  | cons b r ih =>
    by_cases e : b = c
    · rw [cutL, if_pos e, List.length_cons, List.length_cons]
      omega
    · obtain ⟨x, t, h1, h2⟩ := cutL_cons_ne e r
      rw [h2]
      rw [h1] at ih
      simp only [List.length_cons] at ih ⊢
      omega
theorem cut_both (c : UInt8) (a b : List UInt8) : cutL c (a ++ c :: b) = cutL c a ++ cutL c b := by
  induction a with
  | nil =>
    show cutL c (c :: b) = [] :: cutL c b
    rw [cutL, if_pos rfl]
  | cons d r ih =>
    rw [List.cons_append]
    by_cases e : d = c
    · rw [cutL, if_pos e, cutL, if_pos e, ih]
      rfl
    · obtain ⟨x, t, h1, h2⟩ := cutL_cons_ne e r
      obtain ⟨x', t', h1', h2'⟩ := cutL_cons_ne e (r ++ c :: b)
      rw [h2, h2']
      rw [ih, h1, List.cons_append] at h1'
      injection h1' with e1 e2
      rw [← e1, ← e2]
      rfl
/-- A line, and one more from where it ends, are one line. -/
theorem line_both {p : Pz} {s t : ByteArray} {l : List (Int × Int)} {q : Pz} (hs : s.size ≠ 0) (ht : t.size ≠ 0) (hs2 : s.size ≤ 200) (ht2 : t.size ≤ 200) (h : lineT p s = .got l q) :
    lineT p (s ++ ⟨#[32]⟩ ++ t) = (match lineT q t with | .no e => .no e | .got k r => .got (l ++ k) r) ∧ wellN q.s q.y q.z q.u = 0 := by
  unfold lineT at h
  split at h
  · rename_i hw
    have ls : (wordsT s).length ≤ 201 := by rw [words_of hs]; have := cut_len 32 s.data.toList; have e : s.data.toList.length = s.size := (by simp); omega
    have lt : (wordsT t).length ≤ 201 := by rw [words_of ht]; have := cut_len 32 t.data.toList; have e : t.data.toList.length = t.size := (by simp); omega
    have hq : wellN q.s q.y q.z q.u = 0 := by
      have key : ∀ (a : List (List UInt8)) (k : Nat) (p : Pz) (l : List (Int × Int)), wellN p.s p.y p.z p.u = 0 → lineF k p a = .got l q → wellN q.s q.y q.z q.u = 0 := by
        intro a
        induction a with
        | nil =>
          intro k p l hp h
          rw [lineF] at h
          injection h with _ h2
          rw [← h2]
          exact hp
        | cons w a ih =>
          intro k p l hp h
          cases hr : readT (bs w) with
          | none => rw [line_form hr] at h; cases h
          | some m =>
            by_cases hk : k = 1024
            · subst hk; rw [line_full hr] at h; cases h
            · cases hm : mayP p m
              · rw [line_move hr hk hm] at h; cases h
              · rw [line_on hr hk hm] at h
                cases e : lineF (k + 1) (behindP p m) a with
                | no e => rw [e] at h; cases h
                | got l' q' =>
                  rw [e] at h
                  injection h with _ h2
                  subst h2
                  exact ih _ _ _ (may_well hm) e
      exact key _ _ _ _ hw h
    refine ⟨?_, hq⟩
    unfold lineT
    rw [if_pos hw, if_pos hq]
    have hw2 : wordsT (s ++ ⟨#[32]⟩ ++ t) = wordsT s ++ wordsT t := by
      rw [words_of hs, words_of ht, words_of (by rw [ByteArray.size_append, ByteArray.size_append]; omega), ← cut_both]
      congr 1
      simp
    rw [hw2, line_split, h]
    show (lineF (0 + (wordsT s).length) q (wordsT t)).put l = _
    rw [line_room (0 + (wordsT s).length) 0 q (wordsT t) (by omega) (by omega)]
    cases lineF 0 q (wordsT t) <;> rfl
  · cases h
end Go.Proofs.YtmmomgaijgpmmaaGreatDoor.I
