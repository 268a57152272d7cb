/- Commands as lines, as plain functions of their bytes: words, what is read, what is printed; what is printed is read. -/
import Derived.Test.YtpogpjebhnoncabGreatDoorFenG
import Derived.Test.YtpogpjebhnoncabGreatDoorFenN
import Derived.Test.YtpogpjebhnoncabGreatDoorIccsA
namespace Go.Proofs.YtpogpjebhnoncabGreatDoor.Ln
open Go.RowKit Go.Shelf Go.Proofs.YtpogpjebhnoncabGreatDoor.F
open M (S)

/-- A tab is a blank. -/
def tb (b : UInt8) : UInt8 := if b = 9 then 32 else b
def full (x : List UInt8) : Bool := !x.isEmpty
def wordsB (s : List UInt8) : List (List UInt8) := (cutL 32 (s.map tb)).filter full
/-- A word: it is one of bytes behind the blank's. -/
def IsW (x : List UInt8) : Prop := x ≠ [] ∧ ∀ b ∈ x, b ≠ 32 ∧ b ≠ 9
theorem tb_not (b : UInt8) : tb b ≠ 9 := by
  unfold tb
  split
  · decide
  · assumption
theorem tb_id {b : UInt8} (h : b ≠ 9) : tb b = b := if_neg h
theorem full_iff {x : List UInt8} : full x = true ↔ x ≠ [] := by cases x <;> simp [full]
theorem piece_mem (c : UInt8) : ∀ s : List UInt8, ∀ p ∈ cutL c s, ∀ b ∈ p, b ∈ s
  | [], p, h, b, hb => by
    rw [cutL, List.mem_singleton] at h
    subst h
    cases hb
  | x :: r, p, h, b, hb => by
    by_cases e : x = c
    · rw [cutL, if_pos e, List.mem_cons] at h
      rcases h with rfl | h
      · cases hb
      · exact List.mem_cons_of_mem _ (piece_mem c r p h b hb)
    · obtain ⟨y, t, h1, h2⟩ := cutL_cons_ne e r
      rw [h2, List.mem_cons] at h
      rcases h with rfl | h
      · rw [List.mem_cons] at hb
        rcases hb with rfl | hb
        · exact List.mem_cons_self
        · exact List.mem_cons_of_mem _ (piece_mem c r y (by rw [h1]; exact List.mem_cons_self) b hb)
      · exact List.mem_cons_of_mem _ (piece_mem c r p (by rw [h1]; exact List.mem_cons_of_mem _ h) b hb)
theorem words_is {s x : List UInt8} (h : x ∈ wordsB s) : IsW x := by
  unfold wordsB at h
  rw [List.mem_filter] at h
  refine ⟨full_iff.1 h.2, fun b hb => ⟨fun e => cut_pieces 32 _ x h.1 (e ▸ hb), fun e => ?_⟩⟩
  obtain ⟨y, _, hy⟩ := List.mem_map.1 (piece_mem 32 _ x h.1 b hb)
  exact tb_not y (hy.trans e)
theorem words_nil : wordsB [] = [] := rfl
theorem words_skip {c : UInt8} (h : tb c = 32) (r : List UInt8) : wordsB (c :: r) = wordsB r := by
  unfold wordsB
  rw [List.map_cons, h, cutL, if_pos rfl]
  rfl
theorem map_tb {x : List UInt8} (h : ∀ b ∈ x, b ≠ 9) : x.map tb = x := by
  conv => rhs; rw [← List.map_id x]
  exact List.map_congr_left fun b hb => tb_id (h b hb)
theorem words_on {x : List UInt8} (hx : IsW x) {c : UInt8} (h : tb c = 32) (r : List UInt8) : wordsB (x ++ c :: r) = x :: wordsB r := by
  unfold wordsB
  rw [List.map_append, List.map_cons, h, map_tb fun b hb => (hx.2 b hb).2, cutL_app (fun e => (hx.2 32 e).1 rfl), List.filter_cons, if_pos (full_iff.2 hx.1)]
theorem words_last {x : List UInt8} (hx : IsW x) : wordsB x = [x] := by
  unfold wordsB
  rw [map_tb fun b hb => (hx.2 b hb).2, cutL_no (fun e => (hx.2 32 e).1 rfl), List.filter_cons, if_pos (full_iff.2 hx.1)]
  rfl
theorem words_join : ∀ ws : List (List UInt8), (∀ x ∈ ws, IsW x) → wordsB (Lib.join ws [32]) = ws
  | [], _ => by rw [Lib.join_nil]; rfl
  | [x], h => by rw [Lib.join_one]; exact words_last (h x (by simp))
  | x :: y :: r, h => by
    have e2 : Lib.join (x :: y :: r) [32] = x ++ 32 :: Lib.join (y :: r) [32] := by
      rw [Lib.join_cons, Lib.join_cons]
      simp [Lib.joinTail]
    rw [e2, words_on (h x (by simp)) rfl, words_join (y :: r) fun p hp => h p (List.mem_cons_of_mem _ hp)]
/-- Each word, and a blank behind it. -/
theorem words_behind : ∀ ws : List (List UInt8), (∀ x ∈ ws, IsW x) → wordsB (ws.flatMap fun x => x ++ [32]) = ws
  | [], _ => rfl
  | x :: r, h => by
    rw [List.flatMap_cons, List.append_assoc, List.singleton_append, words_on (h x (by simp)) rfl, words_behind r fun p hp => h p (List.mem_cons_of_mem _ hp)]
/-- A tab and a blank ahead of each word. -/
theorem words_ahead : ∀ ws : List (List UInt8), (∀ x ∈ ws, IsW x) → wordsB ((ws.flatMap fun x => [9, 32] ++ x) ++ [32]) = ws
  | [], _ => rfl
  | x :: r, h => by
    have ih := words_ahead r fun p hp => h p (List.mem_cons_of_mem _ hp)
    rw [List.flatMap_cons, List.append_assoc]
    show wordsB (9 :: 32 :: (x ++ _)) = _
    rw [words_skip rfl, words_skip rfl]
    cases r with
    | nil =>
      show wordsB (x ++ 32 :: []) = _
      rw [words_on (h x (by simp)) rfl, words_nil]
    | cons y t =>
      rw [List.flatMap_cons, List.append_assoc] at ih ⊢
      show wordsB (x ++ 9 :: (32 :: (y ++ _))) = _
      rw [words_on (h x (by simp)) rfl]
      rw [show ([9, 32] ++ y : List UInt8) = 9 :: 32 :: y from rfl, List.cons_append, words_skip rfl] at ih
      exact congrArg (x :: ·) ih

-- the words of commands
def goW : List UInt8 := [103, 111]
def depthW : List UInt8 := [100, 101, 112, 116, 104]
def banW : List UInt8 := [98, 97, 110, 109, 111, 118, 101, 115]
def posW : List UInt8 := [112, 111, 115, 105, 116, 105, 111, 110]
def startW : List UInt8 := [115, 116, 97, 114, 116, 112, 111, 115]
def fenW : List UInt8 := [102, 101, 110]
def movesW : List UInt8 := [109, 111, 118, 101, 115]
def ucciW : List UInt8 := [117, 99, 99, 105]
def readyW : List UInt8 := [105, 115, 114, 101, 97, 100, 121]
def probeW : List UInt8 := [112, 114, 111, 98, 101]
def stopW : List UInt8 := [115, 116, 111, 112]
def quitW : List UInt8 := [113, 117, 105, 116]
def bareT (k : Int) : List UInt8 := if k = 1 then ucciW else if k = 2 then readyW else if k = 6 then probeW else if k = 7 then stopW else if k = 8 then quitW else []
def bareK (w : List UInt8) : Int := if w = ucciW then 1 else if w = readyW then 2 else if w = probeW then 6 else if w = stopW then 7 else if w = quitW then 8 else 0

/-- A command. -/
structure Cmd where
  k : Int
  p : P
  l : List (Int × Int)
  d : Int
def zeroP : P := ⟨[], 0, 0, 0⟩
def startL : List UInt8 := [82, 78, 66, 65, 75, 65, 66, 78, 82, 46, 46, 46, 46, 46, 46, 46, 46, 46, 46, 67, 46, 46, 46, 46, 46, 67, 46, 80, 46, 80, 46, 80, 46, 80, 46, 80, 46, 46, 46, 46, 46, 46, 46, 46, 46, 46, 46, 46, 46, 46, 46, 46, 46, 46, 112, 46, 112, 46, 112, 46, 112, 46, 112, 46, 99, 46, 46, 46, 46, 46, 99, 46, 46, 46, 46, 46, 46, 46, 46, 46, 46, 114, 110, 98, 97, 107, 97, 98, 110, 114]
def startP : P := ⟨startL, 0, 0, 1⟩
def mvR : List (List UInt8) → Option (List (Int × Int))
  | [] => some []
  | w :: r => match readT (bs w), mvR r with
    | some m, some l => some (m :: l)
    | _, _ => none
def movesR (ws : List (List UInt8)) : Except Int (List (Int × Int)) := match mvR ws with
  | none => .error 6
  | some l => if 1024 < l.length then .error 8 else .ok l
def depthR (w : List UInt8) : Option Nat := match numL w with
  | some n => if 1 ≤ n ∧ n ≤ 64 then some n else none
  | none => none
def endsN (ws : List (List UInt8)) (n : Nat) : Bool := ws.length == n || ws[n]? == some movesW
def placeN : List (List UInt8) → Nat
  | [] => 0
  | w :: r => if w = startW then (if endsN (w :: r) 1 then 1 else 0) else if w = fenW then (if endsN (w :: r) 3 then 3 else if endsN (w :: r) 7 then 7 else 0) else 0
def posR (t : List UInt8) : Except Int P := match formL t with
  | none => .error 6
  | some p => if (checkP p : Int) = 0 then .ok p else .error (checkP p : Nat)
def placeR (ws : List (List UInt8)) (n : Nat) : Except Int P := if ws.head? = some startW then .ok startP else posR (Lib.join ((ws.take n).drop 1) [32])
def setR (ws : List (List UInt8)) : Except Int Cmd :=
  if placeN ws = 0 then .error 9 else match placeR ws (placeN ws) with
    | .error e => .error e
    | .ok p => if ws.length ≤ placeN ws then .ok ⟨3, p, [], 0⟩ else match movesR (ws.drop (placeN ws + 1)) with
      | .error e => .error e
      | .ok l => .ok ⟨3, p, l, 0⟩
def goR : List (List UInt8) → Except Int Cmd
  | [a, b] => if a = depthW then (match depthR b with
    | some n => .ok ⟨5, zeroP, [], (n : Nat)⟩
    | none => .error 9) else .error 9
  | _ => .error 9
def banR (ws : List (List UInt8)) : Except Int Cmd := match movesR ws with
  | .error e => .error e
  | .ok l => .ok ⟨4, zeroP, l, 0⟩
def parseW : List (List UInt8) → Except Int Cmd
  | [] => .error 9
  | w :: r => if w = goW then goR r else if w = banW then banR r else if w = posW then setR r else if bareK w = 0 ∨ r ≠ [] then .error 9 else .ok ⟨bareK w, zeroP, [], 0⟩
/-- Is there a line's end in it? -/
def endB (s : List UInt8) : Bool := s.any fun b => b == 10 || b == 13
def parseL (s : List UInt8) : Except Int Cmd := if 4096 < s.length then .error 9 else if endB s then .error 9 else parseW (wordsB s)

-- what is printed
def allSq (l : List (Int × Int)) : Bool := l.all fun m => sqI m.1 && sqI m.2
def mvT (m : Int × Int) : List UInt8 := (printT m.1 m.2).data.toList
open Classical in
noncomputable def placeW (p : P) : List (List UInt8) := if p = startP then [startW] else fenW :: fields p
def tailW (l : List (Int × Int)) : List (List UInt8) := if l = [] then [] else movesW :: l.map mvT
noncomputable def printW (c : Cmd) : List (List UInt8) :=
  if c.k = 5 then (if 1 ≤ c.d ∧ c.d ≤ 64 then [goW, depthW, Lib.decDigits c.d.toNat] else [])
  else if c.k = 4 then (if allSq c.l then banW :: c.l.map mvT else [])
  else if c.k = 3 then (if (checkP c.p : Int) = 0 ∧ allSq c.l = true then posW :: (placeW c.p ++ tailW c.l) else [])
  else if bareT c.k = [] then [] else [bareT c.k]
noncomputable def printC (c : Cmd) : List UInt8 := Lib.join (printW c) [32]
def namedC (c : Cmd) : Cmd := if c.k = 3 then ⟨3, c.p, c.l, 0⟩ else if c.k = 4 then ⟨4, zeroP, c.l, 0⟩ else if c.k = 5 then ⟨5, zeroP, [], c.d⟩ else ⟨c.k, zeroP, [], 0⟩

theorem bareT_K {k : Int} (h : bareT k ≠ []) : bareK (bareT k) = k ∧ bareT k ≠ goW ∧ bareT k ≠ banW ∧ bareT k ≠ posW ∧ k ≠ 0 ∧ k ≠ 3 ∧ k ≠ 4 ∧ k ≠ 5 := by
  unfold bareT at *
  split at h
  · subst_vars; decide
  · split at h
    · subst_vars; decide
    · split at h
      · subst_vars; decide
      · split at h
        · subst_vars; decide
        · split at h
          · subst_vars; decide
          · exact absurd rfl h
theorem bareK_T {w : List UInt8} (h : bareK w ≠ 0) : bareT (bareK w) = w ∧ bareT (bareK w) ≠ [] := by
  unfold bareK at *
  split at h
  · subst_vars; decide
  · split at h
    · subst_vars; decide
    · split at h
      · subst_vars; decide
      · split at h
        · subst_vars; decide
        · split at h
          · subst_vars; decide
          · exact absurd rfl h
theorem mvT_bs (m : Int × Int) : bs (mvT m) = printT m.1 m.2 := bs_back _
theorem mvR_back : ∀ {l : List (Int × Int)}, allSq l = true → mvR (l.map mvT) = some l
  | [], _ => rfl
  | (a, b) :: r, h => by
    unfold allSq at h
    rw [List.all_cons, Bool.and_eq_true, Bool.and_eq_true] at h
    rw [List.map_cons, mvR, mvT_bs, read_print h.1.1 h.1.2, mvR_back (l := r) h.2]
theorem mvR_sq : ∀ {ws : List (List UInt8)} {l : List (Int × Int)}, mvR ws = some l → allSq l = true ∧ l.length = ws.length
  | [], l, h => by
    rw [mvR] at h
    injection h with h
    subst h
    exact ⟨rfl, rfl⟩
  | w :: r, l, h => by
    rw [mvR] at h
    split at h
    · rename_i m k h1 h2
      injection h with h
      subst h
      obtain ⟨a, b⟩ := m
      have i := mvR_sq h2
      have s := readT_sq h1
      refine ⟨?_, by rw [List.length_cons, List.length_cons, i.2]⟩
      unfold allSq
      rw [List.all_cons, Bool.and_eq_true, Bool.and_eq_true]
      exact ⟨s, i.1⟩
    · cases h
theorem movesR_back {l : List (Int × Int)} (h : allSq l = true) (hl : l.length ≤ 1024) : movesR (l.map mvT) = .ok l := by
  unfold movesR
  rw [mvR_back h]
  exact if_neg (by omega)
theorem movesR_ok {ws : List (List UInt8)} {l : List (Int × Int)} (h : movesR ws = .ok l) : allSq l = true ∧ l.length ≤ 1024 ∧ l.length = ws.length := by
  unfold movesR at h
  split at h
  · cases h
  · rename_i k hk
    split at h
    · cases h
    · injection h with h
      subst h
      exact ⟨(mvR_sq hk).1, by omega, (mvR_sq hk).2⟩
theorem start_good : (checkP startP : Int) = 0 := by
  unfold checkP
  decide +kernel
theorem goodP {p : P} (h : (checkP p : Int) = 0) : F.Good p := by
  have e := good_of (s := bs p.cells) (side := p.side) (clock := p.clock) (full := p.full) h
  rw [posP_bs] at e
  exact e
theorem posR_back {p : P} (h : (checkP p : Int) = 0) : posR (printL p) = .ok p := by
  unfold posR
  rw [form_back (goodP h)]
  exact if_pos h
theorem posR_ok {t : List UInt8} {p : P} (h : posR t = .ok p) : (checkP p : Int) = 0 := by
  unfold posR at h
  split at h
  · cases h
  · split at h
    · injection h with h
      subst h
      assumption
    · cases h
theorem fields_form (p : P) : ∃ a b c d, fields p = [a, b, [45], [45], c, d] := ⟨_, _, _, _, rfl⟩
theorem place_start (t : List (List UInt8)) (h : t = [] ∨ t.head? = some movesW) : placeN (startW :: t) = 1 := by
  have he : endsN (startW :: t) 1 = true := by
    unfold endsN
    rcases h with rfl | h
    · rfl
    · cases t with
      | nil => cases h
      | cons x r =>
        rw [List.head?_cons] at h
        injection h with h
        subst h
        simp
  rw [placeN, if_pos rfl, he]
  rfl
theorem place_fen (p : P) (t : List (List UInt8)) (h : t = [] ∨ t.head? = some movesW) : placeN (fenW :: (fields p ++ t)) = 7 := by
  obtain ⟨a, b, c, d, hf⟩ := fields_form p
  rw [hf]
  have h3 : endsN (fenW :: ([a, b, [45], [45], c, d] ++ t)) 3 = false := by
    unfold endsN
    rw [Bool.or_eq_false_iff]
    refine ⟨?_, ?_⟩
    · rw [beq_eq_false_iff_ne]
      simp only [List.cons_append, List.nil_append, List.length_cons]
      omega
    · show (some ([45] : List UInt8) == some movesW) = false
      decide
  have h7 : endsN (fenW :: ([a, b, [45], [45], c, d] ++ t)) 7 = true := by
    unfold endsN
    rcases h with rfl | h
    · rfl
    · cases t with
      | nil => cases h
      | cons x r =>
        rw [List.head?_cons] at h
        injection h with h
        subst h
        simp
  rw [placeN, if_neg (by decide), if_pos rfl, h3, h7]
  rfl
theorem tail_head (l : List (Int × Int)) : tailW l = [] ∨ (tailW l).head? = some movesW := by
  unfold tailW
  split
  · exact .inl rfl
  · exact .inr rfl
theorem tail_moves {l : List (Int × Int)} (n : Nat) (x : List (List UInt8)) (hx : x.length = n) (p : P) (hs : allSq l = true) (hl : l.length ≤ 1024) : (if (x ++ tailW l).length ≤ n then .ok ⟨3, p, [], 0⟩ else match movesR ((x ++ tailW l).drop (n + 1)) with | .error e => .error e | .ok k => .ok ⟨3, p, k, 0⟩ : Except Int Cmd) = .ok ⟨3, p, l, 0⟩ := by
  unfold tailW
  by_cases h : l = []
  · subst h
    rw [if_pos rfl, if_pos (by simp [hx])]
  · rw [if_neg h, if_neg (by simp [hx]), List.drop_append, List.drop_of_length_le (by omega), hx, List.nil_append, show n + 1 - n = 1 by omega, List.drop_one, List.tail_cons, movesR_back hs hl]
theorem setR_back {p : P} {l : List (Int × Int)} (hp : (checkP p : Int) = 0) (hs : allSq l = true) (hl : l.length ≤ 1024) : setR (placeW p ++ tailW l) = .ok ⟨3, p, l, 0⟩ := by
  unfold placeW
  by_cases h : p = startP
  · subst h
    rw [if_pos rfl]
    have hn := place_start (tailW l) (tail_head l)
    have e : [startW] ++ tailW l = startW :: tailW l := rfl
    rw [e]
    unfold setR
    rw [hn, if_neg (by decide)]
    have hr : placeR (startW :: tailW l) 1 = .ok startP := if_pos rfl
    rw [hr]
    exact tail_moves 1 [startW] rfl startP hs hl
  · rw [if_neg h]
    have hn := place_fen p (tailW l) (tail_head l)
    have e : (fenW :: fields p) ++ tailW l = fenW :: (fields p ++ tailW l) := rfl
    rw [e]
    unfold setR
    rw [hn, if_neg (by decide)]
    have hlen : (fields p).length = 6 := rfl
    have hr : placeR (fenW :: (fields p ++ tailW l)) 7 = .ok p := by
      unfold placeR
      rw [List.head?_cons, if_neg (show ¬ (some fenW = some startW) by decide), List.take_succ_cons, List.drop_one, List.tail_cons, List.take_append, List.take_of_length_le (by omega), hlen, Nat.sub_self, List.take_zero, List.append_nil]
      exact posR_back hp
    rw [hr]
    exact tail_moves 7 (fenW :: fields p) rfl p hs hl
theorem depthR_back {d : Int} (h : 1 ≤ d ∧ d ≤ 64) : depthR (Lib.decDigits d.toNat) = some d.toNat := by
  unfold depthR
  rw [num_digits (by omega)]
  exact if_pos (by omega)
theorem depthR_ok {w : List UInt8} {n : Nat} (h : depthR w = some n) : (1 ≤ n ∧ n ≤ 64) ∧ w = Lib.decDigits n := by
  unfold depthR at h
  split at h
  · rename_i k hk
    split at h
    · rename_i hb
      injection h with h
      subst h
      exact ⟨hb, (num_back hk).1⟩
    · cases h
  · cases h
/-- What is printed is read, but for what its kind does not name. -/
theorem back {c : Cmd} (h : printW c ≠ []) (hl : c.l.length ≤ 1024) : parseW (printW c) = .ok (namedC c) := by
  unfold printW at *
  unfold namedC
  by_cases h5 : c.k = 5
  · rw [if_pos h5] at h ⊢
    by_cases hd : 1 ≤ c.d ∧ c.d ≤ 64
    · rw [if_pos hd, parseW, if_pos rfl, goR, if_pos rfl, depthR_back hd, if_neg (by omega), if_neg (by omega), if_pos h5]
      show Except.ok _ = _
      rw [Int.toNat_of_nonneg (by omega)]
    · rw [if_neg hd] at h
      exact absurd rfl h
  · rw [if_neg h5] at h ⊢
    by_cases h4 : c.k = 4
    · rw [if_pos h4] at h ⊢
      by_cases hs : allSq c.l = true
      · rw [if_pos hs, parseW, if_neg (by decide), if_pos rfl, banR, movesR_back hs hl, if_neg (by omega), if_pos h4]
      · rw [if_neg hs] at h
        exact absurd rfl h
    · rw [if_neg h4] at h ⊢
      by_cases h3 : c.k = 3
      · rw [if_pos h3] at h ⊢
        by_cases hs : (checkP c.p : Int) = 0 ∧ allSq c.l = true
        · rw [if_pos hs, parseW, if_neg (by decide), if_neg (by decide), if_pos rfl, setR_back hs.1 hs.2 hl, if_pos h3]
        · rw [if_neg hs] at h
          exact absurd rfl h
      · rw [if_neg h3] at h ⊢
        by_cases hb : bareT c.k = []
        · rw [if_pos hb] at h
          exact absurd rfl h
        · obtain ⟨b1, b2, b3, b4, b5, b6, b7, b8⟩ := bareT_K hb
          rw [if_neg hb, parseW, if_neg b2, if_neg b3, if_neg b4, b1, if_neg (by simp [b5]), if_neg h3, if_neg h4, if_neg h5]
/-- What is read is named, and can be printed. -/
theorem ahead {ws : List (List UInt8)} {c : Cmd} (h : parseW ws = .ok c) : namedC c = c ∧ printW c ≠ [] ∧ c.l.length ≤ 1024 ∧ c.l.length ≤ ws.length := by
  cases ws with
  | nil => cases h
  | cons w r =>
    rw [parseW] at h
    split at h
    · -- go
      unfold goR at h
      split at h
      · split at h
        · split at h
          · rename_i n hn
            injection h with h
            subst h
            have := (depthR_ok hn).1
            refine ⟨rfl, ?_, by simp, by simp⟩
            unfold printW
            rw [if_pos rfl, if_pos (by simp only; omega)]
            simp
          · cases h
        · cases h
      · cases h
    · split at h
      · unfold banR at h
        split at h
        · cases h
        · rename_i l hm
          injection h with h
          subst h
          obtain ⟨m1, m2, m3⟩ := movesR_ok hm
          refine ⟨rfl, ?_, m2, by simp only [List.length_cons]; omega⟩
          unfold printW
          rw [if_neg (by simp only; decide), if_pos rfl, if_pos m1]
          simp
      · split at h
        · unfold setR at h
          split at h
          · cases h
          · split at h
            · cases h
            · rename_i p hp
              have hc : (checkP p : Int) = 0 := by
                unfold placeR at hp
                split at hp
                · injection hp with hp
                  subst hp
                  exact start_good
                · exact posR_ok hp
              split at h
              · injection h with h
                subst h
                refine ⟨rfl, ?_, by simp, by simp⟩
                unfold printW
                rw [if_neg (by simp only; decide), if_neg (by simp only; decide), if_pos rfl, if_pos ⟨hc, rfl⟩]
                simp
              · split at h
                · cases h
                · rename_i l hm
                  injection h with h
                  subst h
                  obtain ⟨m1, m2, m3⟩ := movesR_ok hm
                  refine ⟨rfl, ?_, m2, ?_⟩
                  · unfold printW
                    rw [if_neg (by simp only; decide), if_neg (by simp only; decide), if_pos rfl, if_pos ⟨hc, m1⟩]
                    simp
                  · simp only [List.length_cons]
                    rw [m3, List.length_drop]
                    omega
        · split at h
          · cases h
          · rename_i h1 h2 h3 h4
            injection h with h
            subst h
            rw [not_or, Decidable.not_not] at h4
            have hb := bareK_T h4.1
            have k := bareT_K hb.2
            obtain ⟨_, _, _, _, _, k3, k4, k5⟩ := k
            refine ⟨?_, ?_, by simp, by simp⟩
            · unfold namedC
              simp only
              rw [if_neg k3, if_neg k4, if_neg k5]
            · unfold printW
              simp only
              rw [if_neg k5, if_neg k4, if_neg k3, if_neg hb.2]
              simp
-- what is printed has words alone
/-- A word of a line's own bytes. -/
def LW (x : List UInt8) : Prop := x ≠ [] ∧ ∀ b ∈ x, 32 < b.toNat
theorem LW.isW {x : List UInt8} (h : LW x) : IsW x := ⟨h.1, fun b hb => ⟨fun e => by have := h.2 b hb; subst e; exact absurd this (by decide), fun e => by have := h.2 b hb; subst e; exact absurd this (by decide)⟩⟩
theorem kind_low : ∀ n, n ≤ 32 → kindN n = 0 := by decide +kernel
theorem sq_low {b : UInt8} (h : sqB b) : 32 < b.toNat := by
  rcases h with rfl | h
  · decide
  · by_cases hb : b.toNat ≤ 32
    · exact absurd (kind_low _ hb) h
    · omega
theorem field_words {p : P} (h : F.Good p) : ∀ f ∈ fields p, LW f := by
  have hrow : ∀ c : UInt8, c.toNat ≤ 32 → ∀ r ∈ rows p.cells, c ∉ r := fun c hc r hr => by
    unfold rows at hr
    obtain ⟨i, _, rfl⟩ := List.mem_map.1 hr
    refine rle_no c (.inl (by omega)) _ 0 (by simp; omega) (fun e => ?_)
    have := sq_low (h.sq c (mem_slice e))
    omega
  have hb : ∀ c : UInt8, c.toNat ≤ 32 → c ∉ boardT p.cells := fun c hc => join_no c 47 (fun e => by subst e; exact absurd hc (by decide)) _ (hrow c hc)
  have hd : ∀ u, LW (Lib.decDigits u) := fun u => ⟨digits_ne u, fun b hm => by have := digits_all u b hm; omega⟩
  intro f hf
  simp only [fields, List.mem_cons, List.not_mem_nil, or_false] at hf
  rcases hf with rfl | rfl | rfl | rfl | rfl | rfl
  · refine ⟨fun e => ?_, fun b hm => ?_⟩
    · have hk := board_back h.len h.sq
      rw [e] at hk
      unfold boardL at hk
      rw [if_neg (by decide)] at hk
      cases hk
    · by_cases hc : b.toNat ≤ 32
      · exact absurd hm (hb b hc)
      · omega
  · split
    · exact ⟨by simp, by decide⟩
    · exact ⟨by simp, by decide⟩
  · exact ⟨by simp, by decide⟩
  · exact ⟨by simp, by decide⟩
  · exact hd _
  · exact hd _
theorem move_words {l : List (Int × Int)} (h : allSq l = true) : ∀ x ∈ l.map mvT, LW x ∧ x.length = 4 := by
  intro x hx
  obtain ⟨⟨a, b⟩, hm, rfl⟩ := List.mem_map.1 hx
  unfold allSq at h
  rw [List.all_eq_true] at h
  have hs := h _ hm
  have hs' := hs
  simp only [Bool.and_eq_true] at hs'
  have h4 : (mvT (a, b)).length = 4 := by
    show (printT a b).data.toList.length = 4
    have := print_size hs'.1 hs'.2
    simpa using this
  refine ⟨⟨fun e => (by rw [e] at h4; cases h4), fun c hc => ?_⟩, h4⟩
  unfold mvT printT at hc
  simp only [hs, if_true] at hc
  unfold sqTxt at hc
  rw [four_at] at hc
  obtain ⟨a0, a1⟩ := sqI_iff.1 hs'.1
  obtain ⟨b0, b1⟩ := sqI_iff.1 hs'.2
  simp only [List.mem_cons, List.not_mem_nil, or_false] at hc
  rcases hc with rfl | rfl | rfl | rfl
  · rw [byte_of (by omega)]; omega
  · rw [byte_of (by omega)]; omega
  · rw [byte_of (by omega)]; omega
  · rw [byte_of (by omega)]; omega
theorem bare_word {k : Int} (h : bareT k ≠ []) : LW (bareT k) := by
  refine ⟨h, ?_⟩
  unfold bareT
  split
  · decide
  · split
    · decide
    · split
      · decide
      · split
        · decide
        · split
          · decide
          · decide
theorem tail_words {l : List (Int × Int)} (h : allSq l = true) : ∀ x ∈ tailW l, LW x := by
  intro x hx
  unfold tailW at hx
  split at hx
  · cases hx
  · rw [List.mem_cons] at hx
    rcases hx with rfl | hx
    · exact ⟨by decide, by decide⟩
    · exact (move_words h x hx).1
theorem place_words {p : P} (h : (checkP p : Int) = 0) : ∀ x ∈ placeW p, LW x := by
  intro x hx
  unfold placeW at hx
  split at hx
  · rw [List.mem_singleton] at hx
    subst hx
    exact ⟨by decide, by decide⟩
  · rw [List.mem_cons] at hx
    rcases hx with rfl | hx
    · exact ⟨by decide, by decide⟩
    · exact field_words (goodP h) x hx
theorem print_words (c : Cmd) : ∀ x ∈ printW c, LW x := by
  intro x hx
  unfold printW at hx
  split at hx
  · split at hx
    · simp only [List.mem_cons, List.not_mem_nil, or_false] at hx
      rcases hx with rfl | rfl | rfl
      · exact ⟨by decide, by decide⟩
      · exact ⟨by decide, by decide⟩
      · exact ⟨digits_ne _, fun b hm => by have := digits_all _ b hm; omega⟩
    · cases hx
  · split at hx
    · split at hx
      · rename_i hs
        rw [List.mem_cons] at hx
        rcases hx with rfl | hx
        · exact ⟨by decide, by decide⟩
        · exact (move_words hs x hx).1
      · cases hx
    · split at hx
      · split at hx
        · rename_i hs
          rw [List.mem_cons, List.mem_append] at hx
          rcases hx with rfl | hx | hx
          · exact ⟨by decide, by decide⟩
          · exact place_words hs.1 x hx
          · exact tail_words hs.2 x hx
        · cases hx
      · split at hx
        · cases hx
        · rename_i hb
          rw [List.mem_singleton] at hx
          subst hx
          exact bare_word hb
theorem join_mem {ws : List (List UInt8)} {b : UInt8} (h : b ∈ Lib.join ws [32]) : b = 32 ∨ ∃ x ∈ ws, b ∈ x := by
  by_cases e : b = 32
  · exact .inl e
  · right
    by_cases hx : ∃ x ∈ ws, b ∈ x
    · exact hx
    · exact absurd h (join_no b 32 e ws fun p hp hb => hx ⟨p, hp, hb⟩)
theorem join_end {ws : List (List UInt8)} (h : ∀ x ∈ ws, LW x) : endB (Lib.join ws [32]) = false := by
  unfold endB
  rw [List.any_eq_false]
  intro b hb
  rcases join_mem hb with rfl | ⟨x, hx, hm⟩
  · decide
  · have := (h x hx).2 b hm
    simp only [Bool.or_eq_true, beq_iff_eq, not_or]
    exact ⟨fun e => by subst e; exact absurd this (by decide), fun e => by subst e; exact absurd this (by decide)⟩
def sumL : List (List UInt8) → Nat
  | [] => 0
  | x :: r => x.length + 1 + sumL r
theorem sum_app : ∀ a b : List (List UInt8), sumL (a ++ b) = sumL a + sumL b
  | [], b => by simp [sumL]
  | x :: r, b => by
    show x.length + 1 + sumL (r ++ b) = x.length + 1 + sumL r + sumL b
    rw [sum_app r b]
    omega
theorem join_sum : ∀ ws : List (List UInt8), ws ≠ [] → (Lib.join ws [32]).length + 1 = sumL ws
  | [], h => absurd rfl h
  | [x], _ => by rw [Lib.join_one]; rfl
  | x :: y :: r, _ => by
    have e2 : Lib.join (x :: y :: r) [32] = x ++ 32 :: Lib.join (y :: r) [32] := by
      rw [Lib.join_cons, Lib.join_cons]
      simp [Lib.joinTail]
    rw [e2, List.length_append, List.length_cons]
    have := join_sum (y :: r) (by simp)
    show _ = x.length + 1 + sumL (y :: r)
    omega
theorem sum_const (n : Nat) : ∀ ws : List (List UInt8), (∀ x ∈ ws, x.length = n) → sumL ws = (n + 1) * ws.length
  | [], _ => rfl
  | x :: r, h => by
    show x.length + 1 + sumL r = _
    rw [sum_const n r fun y hy => h y (List.mem_cons_of_mem _ hy), h x List.mem_cons_self, List.length_cons, Nat.mul_add]
    omega
theorem fields_sum {p : P} (h : (checkP p : Int) = 0) : sumL (fields p) ≤ 1001 := by
  have e := print_len (bs p.cells) p.side p.clock p.full h
  rw [posP_bs] at e
  have := join_sum (fields p) (by unfold fields; simp)
  unfold printL at e
  omega
theorem print_size {c : Cmd} (hl : c.l.length ≤ 600) : (printC c).length ≤ 4096 := by
  unfold printC
  by_cases hn : printW c = []
  · rw [hn, Lib.join_nil]
    simp
  have hj := join_sum _ hn
  have hm : ∀ l : List (Int × Int), allSq l = true → sumL (l.map mvT) = 5 * l.length := fun l h => by
    rw [sum_const 4 _ fun x hx => (move_words h x hx).2, List.length_map]
  have hs : sumL (printW c) ≤ 4097 := by
    unfold printW at hn ⊢
    split at hn
    · split at hn
      · rename_i hd
        rw [if_pos (by assumption), if_pos hd]
        show 2 + 1 + (5 + 1 + ((Lib.decDigits c.d.toNat).length + 1 + 0)) ≤ _
        have := digits_len c.d.toNat (by omega)
        omega
      · exact absurd rfl hn
    · split at hn
      · split at hn
        · rename_i hk5 hk4 hsq
          rw [if_neg hk5, if_pos hk4, if_pos hsq]
          show 8 + 1 + sumL _ ≤ _
          rw [hm _ hsq]
          omega
        · exact absurd rfl hn
      · split at hn
        · split at hn
          · rename_i hk5 hk4 hk3 hsq
            rw [if_neg hk5, if_neg hk4, if_pos hk3, if_pos hsq]
            show 8 + 1 + sumL _ ≤ _
            rw [sum_app]
            have h1 : sumL (placeW c.p) ≤ 1005 := by
              unfold placeW
              split
              · decide
              · show 3 + 1 + sumL _ ≤ _
                have := fields_sum hsq.1
                omega
            have h2 : sumL (tailW c.l) ≤ 6 + 5 * c.l.length := by
              unfold tailW
              split
              · exact Nat.zero_le _
              · show 5 + 1 + sumL _ ≤ _
                rw [hm _ hsq.2]
                omega
            omega
          · exact absurd rfl hn
        · split at hn
          · exact absurd rfl hn
          · rename_i hk5 hk4 hk3 hb
            rw [if_neg hk5, if_neg hk4, if_neg hk3, if_neg hb]
            show (bareT c.k).length + 1 + 0 ≤ _
            have : (bareT c.k).length ≤ 8 := by
              unfold bareT
              split
              · decide
              · split
                · decide
                · split
                  · decide
                  · split
                    · decide
                    · split
                      · decide
                      · decide
            omega
  omega
theorem read_back {c : Cmd} (h : printW c ≠ []) (hl : c.l.length ≤ 600) : parseL (printC c) = .ok (namedC c) := by
  unfold parseL
  rw [if_neg (by have := print_size hl; omega)]
  unfold printC
  rw [join_end (print_words c), words_join _ fun x hx => (print_words c x hx).isW]
  exact back h (by omega)
theorem join_ne {ws : List (List UInt8)} (hw : ∀ x ∈ ws, LW x) (h : ws ≠ []) : Lib.join ws [32] ≠ [] := fun e => by
  have := words_join ws fun x hx => (hw x hx).isW
  rw [e, words_nil] at this
  exact h this.symm
theorem print_ne {c : Cmd} : printC c = [] ↔ printW c = [] :=
  ⟨fun e => Classical.byContradiction fun h => join_ne (print_words c) h e, fun e => by unfold printC; rw [e, Lib.join_nil]⟩
theorem words_len (s : List UInt8) : (wordsB s).length ≤ s.length + 1 := by
  unfold wordsB
  refine Nat.le_trans (List.length_filter_le _ _) ?_
  have key : ∀ s : List UInt8, (cutL 32 s).length ≤ s.length + 1 := fun s => by
    induction s with
    | nil => simp [cutL]
    | cons b r ih =>
      by_cases e : b = 32
      · rw [cutL, if_pos e, List.length_cons, List.length_cons]
        omega
      · obtain ⟨x, t, h1, h2⟩ := cutL_cons_ne e r
        rw [h2, List.length_cons, List.length_cons]
        rw [h1, List.length_cons] at ih
        omega
  have := key (s.map tb)
  rw [List.length_map] at this
  exact this
/-- What is read, and printed, is read as the same, and printed as the same. -/
theorem again {s : List UInt8} {c : Cmd} (h : parseL s = .ok c) (hs : s.length ≤ 599) : printC c ≠ [] ∧ parseL (printC c) = .ok c := by
  unfold parseL at h
  rw [if_neg (by omega)] at h
  split at h
  · cases h
  · obtain ⟨h1, h2, h3, h4⟩ := ahead h
    have := words_len s
    refine ⟨fun e => h2 (print_ne.1 e), ?_⟩
    have e := read_back h2 (by omega)
    rw [h1] at e
    exact e
end Go.Proofs.YtpogpjebhnoncabGreatDoor.Ln
