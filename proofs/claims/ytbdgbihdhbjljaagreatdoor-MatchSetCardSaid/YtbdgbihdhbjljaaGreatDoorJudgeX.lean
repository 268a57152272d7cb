/- A game and one move more. -/
import Derived.Test.YtbdgbihdhbjljaaGreatDoorJudgeV
import Derived.Deep.AppendLies
namespace Go.Proofs.YtbdgbihdhbjljaaGreatDoor
open Go.RowKit Go.Shelf
open M (S)

/-- A game that is played, and one move more. -/
theorem play_ends {p : Ps} {l : List (Int × Int)} (m : Int × Int) (h : playE p l = 0) (hl : l.length ≤ 1000) : (playL p l).length = l.length + 1 ∧ ∃ c, (playL p l)[l.length]? = some c ∧ ((playV p l).1 ≠ 0 → playE p (l ++ [m]) = 10) ∧ ((playV p l).1 = 0 → (playV p l).2 = 0 ∧ ((playE p (l ++ [m]) = 0 ∧ stepP c m ≠ none) ∨ (playE p (l ++ [m]) = 7 ∧ stepP c m = none))) := by
  obtain ⟨hw, h9, hr⟩ := playE_zero h
  have hc := run_chain (p := p) (ms := l) (j := l.length) (Nat.le_refl _) hr
  have hL : playL p l = (runJ p l l.length).2 := by unfold playL; rw [if_pos h]
  have hV : playV p l = lastI (runJ p l l.length).2 l := by unfold playV; rw [if_pos h]
  have htk : (l ++ [m]).take l.length = l := by rw [List.take_left]
  have hsame : runJ p (l ++ [m]) l.length = runJ p l l.length := run_same (by rw [htk, List.take_length])
  have hlen : (l ++ [m]).length = l.length + 1 := by rw [List.length_append]; rfl
  have hE : playE p (l ++ [m]) = (runJ p (l ++ [m]) (l.length + 1)).1 := by rw [playE_run hw (by omega), hlen]
  have hr2 : (runJ p (l ++ [m]) l.length).1 = 0 := by rw [hsame]; exact hr
  obtain ⟨c, hcc⟩ := hc.get (j := l.length) (by rw [List.take_length]; exact Nat.le_refl _)
  refine ⟨by rw [hL, hc.len, List.take_length], c, by rw [hL]; exact hcc, ?_, ?_⟩
  · intro hk
    rw [hE, run_end hr2 (by rw [hsame, htk, ← hV]; exact hk)]
  · intro hk
    refine ⟨?_, ?_⟩
    · rw [hV] at hk ⊢
      rw [lastI_goes hk]
    · have hm : (l ++ [m])[l.length]? = some m := by simp
      have hg := run_go (p := p) (ms := l ++ [m]) (j := l.length) (c := c) (m := m) hr2 (by rw [hsame, htk, ← hV]; exact hk) (by rw [hsame]; exact hcc) hm
      rw [hE, hg]
      cases stepP c m with
      | none => exact .inr ⟨rfl, rfl⟩
      | some q => exact .inl ⟨rfl, by simp⟩
/-- What is appended to nil, wherever it lies. -/
theorem run_append_row (B : Nat) (C : Option Addr) (l : List (Int × Int)) (a d : Nat) (i1 : TypeInfo) (hj1 : Tryz.prog.info? 48 = some i1) (hy0 : i1.zero = some (.agg #[.int .i64 0, .int .i64 0])) (hy1 : i1.size = 2) (hy2 : i1.bytes = 16) (w : World) (hr : Rd w C (mzL l)) (ha : l.length = a) (h9 : a ≤ 1000) (hB : B ≤ w.heap.size) :
    ∃ v' w', (Builtin.append_ #[24, 24] 24 #[.slice none 0 0, .slice C a d]).run Tryz.prog w = .ok v' w' ∧ w'.ownsRow B 48 2 v' a (mzL l) ∧ Below w.heap.size w w' := by
  cases C with
  | none =>
    have h0 : l = [] := by
      cases l with
      | nil => rfl
      | cons x l =>
        obtain ⟨ad, hA, _⟩ := hr 0 (iv x.1) rfl
        cases hA
    subst h0
    obtain rfl : a = 0 := ha.symm
    refine ⟨.slice none 0 0, w, ?_, World.ownsRow_nil _ _ _ _, Below.refl _ _⟩
    simp [Builtin.append_, run_underlying Tryz.underlying24, sizeOf, typeInfo, hj1, Builtin.lenOf, Builtin.firstCells]
  | some ad =>
    have hone : ∀ u ∈ mzL l, u.oneCell' = true := by
      intro u hu
      unfold mzL at hu
      rw [List.mem_flatMap] at hu
      obtain ⟨x, _, hx⟩ := hu
      simp only [List.mem_cons, List.not_mem_nil, or_false] at hx
      rcases hx with rfl | rfl <;> rfl
    obtain ⟨v', w', h1, h2, h3, _, _⟩ := run_append_own_at (P := Tryz.prog) w B 24 24 48 i1 _ 2 16 Tryz.underlying24 hj1 hy0 hy1 hy2 rfl (by decide) (.slice none 0 0) 0 [] (World.ownsRow_nil _ _ _ _) ad a d (mzL l) (by rw [mzL_len, ha]) (fun j u hu => by
      obtain ⟨ad', hA, hc⟩ := hr j u hu
      cases hA
      exact hc) hone (by unfold maxLen; omega) (by omega) hB
    rw [Nat.zero_add, List.nil_append] at h2
    exact ⟨v', w', h1, h2, ⟨h3.os, h3.tape, h3.output, h3.size, fun k hk => h3.block k hk (by simp [Value.ownBlock])⟩⟩
theorem wpList_append_row {ops : Array Oper} {rest : List Oper} {o : Oper} {a : Act} {Q : Exit → Act → World → Prop} (hgd : o.guard = none) (s x : Operand)
    (ho : o.op = .call { callee := .builtin .append, args := #[s, x], argTypes := #[24, 24] }) (hty : o.type = 24)
    (B : Nat) (C : Option Addr) (l : List (Int × Int)) (n d : Nat) (i1 : TypeInfo) (hj1 : Tryz.prog.info? 48 = some i1) (hy0 : i1.zero = some (.agg #[.int .i64 0, .int .i64 0])) (hy1 : i1.size = 2) (hy2 : i1.bytes = 16) (w : World) (hs : a.eval s = .slice none 0 0) (hx : a.eval x = .slice C n d) (hr : Rd w C (mzL l)) (ha : l.length = n) (h9 : n ≤ 1000) (hB : B ≤ w.heap.size)
    (h : ∀ v' w', w'.ownsRow B 48 2 v' n (mzL l) → Below w.heap.size w w' → wpList Tryz.prog ops Q rest (a.put o.dst v') w') : wpList Tryz.prog ops Q (o :: rest) a w := by
  refine wpList_plain hgd fun _ hK => ?_
  obtain ⟨v', w', hrun, h2, h3⟩ := run_append_row B C l n d i1 hj1 hy0 hy1 hy2 w hr ha h9 hB
  unfold Oper.wp execOp
  simp only [ho, hty, resolve, invoke, builtin, Sem.run_bind, Sem.run_pure, Result.andThen_ok, List.map_toArray, List.map_cons, List.map_nil, hs, hx, hrun]
  exact hK _ _ (h v' w' h2 h3)
end Go.Proofs.YtbdgbihdhbjljaaGreatDoor
