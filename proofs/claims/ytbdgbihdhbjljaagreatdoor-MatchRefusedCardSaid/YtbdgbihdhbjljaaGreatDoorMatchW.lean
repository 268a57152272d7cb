/- Matches as the statements use them: what is left, what Set leads to, two rows of moves that are the same. -/
import Derived.Test.YtbdgbihdhbjljaaGreatDoorMatchG
import Derived.Test.YtbdgbihdhbjljaaGreatDoorMatchL
namespace Go.Proofs.YtbdgbihdhbjljaaGreatDoor
open Go.RowKit Go.Shelf
open M (S)

/-- The moves of a match. -/
def movesM (p : Ps) (k : Int) (bs : List (Int × Int)) : List (Int × Int) := if k = 0 then leftL p bs else []
theorem leftL_len (p : Ps) (bs : List (Int × Int)) : (leftL p bs).length ≤ 8100 := Nat.le_trans (List.length_filter_le _ _) (allI_len p)
theorem movesM_len (p : Ps) (k : Int) (bs : List (Int × Int)) : (movesM p k bs).length ≤ 8100 := by
  unfold movesM
  split
  · exact leftL_len p bs
  · exact Nat.zero_le _
theorem banL_len (p : Ps) (xs : List (Int × Int)) : (banL p xs).length ≤ 8100 := Nat.le_trans (List.length_filter_le _ _) (allI_len p)
theorem allI_may {p : Ps} {x : Int × Int} (h : x ∈ allI p) : isV p.s p.y p.z p.u x.1 x.2 = true := by
  unfold allI at h
  obtain ⟨m, hm, rfl⟩ := List.mem_map.1 h
  unfold legalV at hm
  unfold isV
  by_cases hw : wellN p.s p.y p.z p.u = 0
  · rw [if_pos hw] at hm
    rw [hw]
    exact (List.mem_filter.1 hm).2
  · rw [if_neg hw] at hm
    cases hm
theorem movesM_may {p : Ps} {k : Int} {bs : List (Int × Int)} {x : Int × Int} (h : x ∈ movesM p k bs) : x ∈ allI p := by
  unfold movesM at h
  split at h
  · exact (List.mem_filter.1 h).1
  · cases h
theorem any_may {p : Ps} {xs : List (Int × Int)} (h : ∀ x ∈ xs, x ∈ allI p) : xs.any (fun x => !isV p.s p.y p.z p.u x.1 x.2) = false := by
  rw [List.any_eq_false]
  intro x hx
  rw [allI_may (h x hx)]
  simp
theorem inI_mem {xs : List (Int × Int)} {x : Int × Int} : inI xs x = true ↔ x ∈ xs := by
  unfold inI
  rw [List.any_eq_true]
  constructor
  · rintro ⟨y, hy, h⟩
    rw [Bool.and_eq_true, beq_iff_eq, beq_iff_eq] at h
    have : y = x := Prod.ext h.1 h.2
    rw [← this]
    exact hy
  · intro h
    exact ⟨x, h, by simp⟩
theorem ban_none (p : Ps) : banL p [] = [] := by
  unfold banL
  rw [List.filter_eq_nil_iff]
  intro x _
  simp [inI]
theorem ban_all (p : Ps) : banL p (allI p) = allI p := by
  unfold banL
  rw [List.filter_eq_self]
  intro x hx
  exact inI_mem.2 hx
theorem left_all (p : Ps) : leftL p (allI p) = [] := by
  unfold leftL
  rw [List.filter_eq_nil_iff]
  intro x hx
  rw [inI_mem.2 hx]
  simp
/-- All moves of a match are banned. -/
theorem ban_moves (p : Ps) (k : Int) : banL p (movesM p k []) = movesM p k [] := by
  unfold movesM
  split
  · rw [left_none, ban_all]
  · exact ban_none p
theorem moves_banned (p : Ps) (k : Int) : movesM p k (movesM p k []) = [] := by
  unfold movesM
  by_cases h : k = 0
  · rw [if_pos h, if_pos h, left_none, left_all]
  · rw [if_neg h]
theorem MAt.lt {W : World} {mb : Nat} {p : Ps} {k r : Int} {n : Nat} {A : Option Addr} {c : Nat} {bs : List (Int × Int)} (h : MAt W mb p k r n A c bs) : mb < W.heap.size := h.blk.lt
/-- What other blocks have stays. -/
theorem Far.rd {mb : Nat} {W W' : World} (hf : Far (· = mb) W W') {B : Nat} {e : TypeId} {size n : Nat} {v : Value} {xs : List Value} (ho : W.ownsRow B e size v n xs) (hB : mb < B) : W'.ownsRow B e size v n xs := own_far hf ho fun g hg e => by have e : g = mb := e; omega
theorem mmoves_all {W : World} {mb : Nat} {p : Ps} {k r : Int} {n : Nat} {A : Option Addr} {c : Nat} {bs : List (Int × Int)} (h : MAt W mb p k r n A c bs) (hT : Tab W) (h9 : bs.length ≤ 1000000) (l : List (Int × Int)) (hl : movesM p k bs = l) (m : Nat) (hm : l.length = m) : Calls Tryz.prog 24 #[.pointer (some ⟨mb, 0, none⟩)] W fun e w' => ∃ A' c', e = .returned (.slice A' m c') ∧ w'.ownsRow W.heap.size 48 2 (.slice A' m c') m (mzL l) ∧ Below W.heap.size W w' := by
  subst hm
  by_cases hk : k = 0
  · subst hk
    have e : leftL p bs = l := by rw [← hl]; unfold movesM; rw [if_pos rfl]
    refine (mmoves_any h hT h9).mono ?_
    rintro e' w' ⟨v', rfl, ho, hb⟩
    rw [e] at ho
    obtain ⟨A', c', rfl, _, _⟩ := own_any ho
    exact ⟨A', c', rfl, ho, hb⟩
  · have e : l = [] := by rw [← hl]; unfold movesM; rw [if_neg hk]
    subst e
    refine (mmoves_end h hk).mono ?_
    rintro e' w' ⟨rfl, hb⟩
    exact ⟨none, 0, rfl, World.ownsRow_nil _ _ _ _, hb⟩
/-- What Set of a match at the start leads to. -/
structure SetTo (p0 : Ps) (l : List (Int × Int)) (er : Int) (q : Ps) (k r : Int) (n : Nat) : Prop where
  err : playE p0 l = er
  bad : er ≠ 0 → q = froP0 ∧ k = 0 ∧ r = 0 ∧ n = 0
  good : er = 0 → playV p0 l = (k, r) ∧ (playL p0 l)[l.length]? = some q ∧ n = l.length
theorem SetTo.same {p0 : Ps} {l : List (Int × Int)} {er fr : Int} {q q' : Ps} {k k' r r' : Int} {n n' : Nat} (h : SetTo p0 l er q k r n) (h' : SetTo p0 l fr q' k' r' n') : er = fr ∧ q = q' ∧ k = k' ∧ r = r' ∧ n = n' := by
  have e : er = fr := h.err.symm.trans h'.err
  subst e
  by_cases h0 : er = 0
  · obtain ⟨h1, h2, h3⟩ := h.good h0
    obtain ⟨h4, h5, h6⟩ := h'.good h0
    rw [h1] at h4
    rw [h2] at h5
    injection h4 with h7 h8
    injection h5 with h9
    exact ⟨rfl, h9, h7, h8, h3.trans h6.symm⟩
  · obtain ⟨rfl, rfl, rfl, rfl⟩ := h.bad h0
    obtain ⟨rfl, rfl, rfl, rfl⟩ := h'.bad h0
    exact ⟨rfl, rfl, rfl, rfl, rfl⟩
theorem play_has {p : Ps} {l : List (Int × Int)} (h : playE p l = 0) : ∃ q, (playL p l)[l.length]? = some q := by
  obtain ⟨hw, h9, hr⟩ := playE_zero h
  have hl : (playL p l).length = l.length + 1 := by
    unfold playL
    rw [if_pos h]
    have := (run_chain (p := p) (ms := l) (Nat.le_refl _) hr).len
    rw [this, List.take_length]
  exact ⟨_, List.getElem?_eq_getElem (by omega)⟩
/-- Set of any match: it is as it was, or at the new place with nothing banned. -/
theorem mset_any {W : World} {mb : Nat} {p : Ps} {k r : Int} {n : Nat} {A : Option Addr} {c : Nat} {bs : List (Int × Int)} (h : MAt W mb p k r n A c bs) (p0 : Ps) (C : Option Addr) (l : List (Int × Int)) (a d : Nat) (hT : Tab W) (hm : Rd W C (mzL l)) (ha : l.length = a) (had : a ≤ d) : Calls Tryz.prog 20 #[.pointer (some ⟨mb, 0, none⟩), .agg #[.string p0.s, .int .i64 p0.y, .int .i64 p0.z, .int .i64 p0.u], .slice C a d] W fun e w' => e = .returned (.int .i64 (playE p0 l)) ∧ ((playE p0 l ≠ 0 ∧ MAt w' mb p k r n A c bs ∧ Far (· = mb) W w') ∨ (playE p0 l = 0 ∧ ∃ q k' r', playV p0 l = (k', r') ∧ (playL p0 l)[l.length]? = some q ∧ MAt w' mb q k' r' a none 0 [] ∧ Far (· = mb) W w')) := by
  by_cases h0 : playE p0 l = 0
  · obtain ⟨q, hq⟩ := play_has h0
    obtain ⟨⟨k', r'⟩, hv⟩ : ∃ v, playV p0 l = v := ⟨_, rfl⟩
    refine (mset_good mb _ _ _ _ _ _ _ _ p0 C l a d W h.blk hT hm ha had k' r' q h0 hv (by rw [← ha]; exact hq)).mono ?_
    rintro e w' ⟨rfl, h1, h2, _⟩
    exact ⟨by rw [h0], .inr ⟨h0, q, k', r', hv, hq, h1, h2⟩⟩
  · refine (mset_bad mb p0 C l a d W hT hm ha had _ rfl h0).mono ?_
    rintro e w' ⟨rfl, hb⟩
    exact ⟨rfl, .inl ⟨h0, h.next hb, Far.of hb⟩⟩
/-- Set of a match at the start. -/
theorem mset_new {W : World} {mb : Nat} (h : MAt W mb froP0 0 0 0 none 0 []) (p0 : Ps) (C : Option Addr) (l : List (Int × Int)) (a d : Nat) (hT : Tab W) (hm : Rd W C (mzL l)) (ha : l.length = a) (had : a ≤ d) : Calls Tryz.prog 20 #[.pointer (some ⟨mb, 0, none⟩), .agg #[.string p0.s, .int .i64 p0.y, .int .i64 p0.z, .int .i64 p0.u], .slice C a d] W fun e w' => ∃ er q k r n, e = .returned (.int .i64 er) ∧ SetTo p0 l er q k r n ∧ MAt w' mb q k r n none 0 [] ∧ Far (· = mb) W w' := by
  refine (mset_any h p0 C l a d hT hm ha had).mono ?_
  rintro e w' ⟨rfl, hh⟩
  rcases hh with ⟨h0, h1, h2⟩ | ⟨h0, q, k', r', hv, hq, h1, h2⟩
  · exact ⟨_, froP0, 0, 0, 0, rfl, ⟨rfl, fun _ => ⟨rfl, rfl, rfl, rfl⟩, fun e => absurd e h0⟩, h1, h2⟩
  · exact ⟨_, q, k', r', a, rfl, ⟨rfl, fun e => absurd h0 e, fun _ => ⟨hv, hq, ha.symm⟩⟩, h1, h2⟩
/-- Ban of moves that may all be made. -/
theorem mban_good {W : World} {mb : Nat} {p : Ps} {k r : Int} {n : Nat} {A : Option Addr} {c : Nat} {bs : List (Int × Int)} (h : MAt W mb p k r n A c bs) (hT : Tab W) (C : Option Addr) (xs : List (Int × Int)) (m d : Nat) (hr : Rd W C (mzL xs)) (hm : xs.length = m) (h9 : m ≤ 1000000) (hx : ∀ x ∈ xs, x ∈ allI p) : Calls Tryz.prog 22 #[.pointer (some ⟨mb, 0, none⟩), .slice C m d] W fun e w' => e = .returned (.int .i64 0) ∧ ∃ A' c', MAt w' mb p k r n A' c' (banL p xs) ∧ Far (· = mb) W w' := by
  refine (mban_any h hT C xs m d hr hm h9 false (any_may hx)).mono ?_
  rintro e w' ⟨rfl, hh⟩
  rcases hh with ⟨h0, _⟩ | ⟨_, A', c', h1, h2⟩
  · cases h0
  · exact ⟨rfl, A', c', h1, h2⟩
theorem far_tab {w W W' : World} {mb : Nat} (hB : Below w.heap.size w W) (hm : w.heap.size ≤ mb) (hf : Far (· = mb) W W') : Below w.heap.size w W' := hB.trans (hf.below (fun k hk => by rw [hk]; exact hm) hB.size)
theorem op_cells {W : World} {g : Nat} {t : TypeId} {v0 v1 v2 v3 v4 v5 : Value} (h : Blk W g t #[v0, v1, v2, v3, v4, v5]) : W.cell? ⟨g, 0, none⟩ = some v0 ∧ W.cell? ⟨g, 1, none⟩ = some v1 ∧ W.cell? ⟨g, 2, none⟩ = some v2 ∧ W.cell? ⟨g, 3, none⟩ = some v3 ∧ W.cell? ⟨g, 4, none⟩ = some v4 ∧ W.cell? ⟨g, 5, none⟩ = some v5 := ⟨h.cell 0, h.cell 1, h.cell 2, h.cell 3, h.cell 4, h.cell 5⟩
theorem MAt.apart {W W' : World} {mb kb : Nat} {p : Ps} {k r : Int} {n : Nat} (h : MAt W kb p k r n none 0 []) (hf : Far (· = mb) W W') (hne : kb ≠ mb) : MAt W' kb p k r n none 0 [] := ⟨hf.blk h.blk fun e => hne e, rd_nil _ _⟩
set_option maxRecDepth 100000 in
set_option maxHeartbeats 2000000 in
/-- Two rows that hold the same moves. -/
theorem msame_is (A B : Option Addr) (l : List (Int × Int)) (n c d : Nat) (w : World) (hx : Rd w A (mzL l)) (hy : Rd w B (mzL l)) (hn : l.length = n) (hm : n ≤ 1000000) :
    Calls Tryz.prog 31 #[.slice A n c, .slice B n d] w (Gives w (.bool true)) := by
  unfold Gives
  have HN := Lib.hid hn
  clear hn
  go_enter Tryz.func31, Tryz.ntmps31
  go_wp2
  go_loopw [5] (fun i wr => ∃ k : Nat, k ≤ n ∧ i = .int .i64 k ∧ Below w.heap.size w wr) (fun i _ => n - (intOf i).toNat)
  case atStart => exact ⟨0, Nat.zero_le _, rfl, Below.refl _ _⟩
  case round =>
    obtain ⟨k, hk, rfl, hB⟩ := hrel
    by_cases hlt : k < n
    · have hkl : k < l.length := by rw [HN.out]; exact hlt
      obtain ⟨g1, o1, rfl, c0, c1⟩ := hx.mz hkl
      obtain ⟨g2, o2, rfl, d0, d1⟩ := hy.mz hkl
      obtain ⟨u, hu⟩ : ∃ u, l[k].1 = u := ⟨_, rfl⟩
      obtain ⟨v, hv⟩ : ∃ v, l[k].2 = v := ⟨_, rfl⟩
      rw [hu] at c0 d0
      rw [hv] at c1 d1
      have hc0 := (hB.cell (p := ⟨g1, o1 + k * 2, none⟩) (cell_lt c0)).trans c0
      have hc1 := (hB.cell (p := ⟨g1, o1 + k * 2 + 1, none⟩) (cell_lt c1)).trans c1
      have hd0 := (hB.cell (p := ⟨g2, o2 + k * 2, none⟩) (cell_lt d0)).trans d0
      have hd1 := (hB.cell (p := ⟨g2, o2 + k * 2 + 1, none⟩) (cell_lt d1)).trans d1
      have b1 : (k : Int) < (n : Int) := by omega
      have hne := neq_move
      clear c0 c1 d0 d1 hu hv
      go_wp2_with fail
      go_quiet (fail)
      go_wp2_with fail
      go_roundw
      case rel => exact ⟨k + 1, by omega, by go_num, below_drewN hB _⟩
      case measure => simp [intOf]; omega
    · obtain rfl : k = n := by omega
      go_wp2
      go_ret
      exact ⟨rfl, hB⟩
end Go.Proofs.YtbdgbihdhbjljaaGreatDoor
