/- What the code reads of a text: a board. -/
import Derived.Test.YtpogpjebhnoncabGreatDoorFenQ2
namespace Go.Proofs.YtpogpjebhnoncabGreatDoor
open Go.RowKit Go.Shelf
open M (S)

theorem cut_len (c : UInt8) : ∀ s : List UInt8, (F.cutL c s).length ≤ s.length + 1
  | [] => by simp [F.cutL]
  | b :: r => by
    have := cut_len c r
    by_cases e : b = c
    · rw [F.cutL, if_pos e]
      simp
      omega
    · obtain ⟨x, t, h1, h2⟩ := F.cutL_cons_ne e r
      rw [h1] at this
      rw [h2]
      simp at this ⊢
      omega
theorem splitK_le (sep : List UInt8) (a : Nat) : ∀ (k : Nat) (s : List UInt8), (Lib.splitK sep a k s).length ≤ k + 1
  | 0, s => by simp [Lib.splitK]
  | k + 1, s => by
    rw [Lib.splitK]
    split
    · simp
    · have := splitK_le sep a k (s.drop ((Lib.index s sep).toNat + sep.length))
      simp only [List.length_cons]
      omega
/-- What strings.SplitN cuts a text into. -/
theorem split_cells (xs : List ByteArray) (N : Nat) (ys : List (List UInt8)) (h : xs.map (·.data.toList) = ys) (j : Nat) (u : Value) (hu : (ys.map sv)[j]? = some u) : (Lib.cellsOf xs N)[j]? = some u := by
  subst h
  rw [List.map_map] at hu
  have e : xs.map (sv ∘ fun x => x.data.toList) = xs.map Value.string := List.map_congr_left fun x _ => by
    show Value.string (bs x.data.toList) = _
    rw [bs_back]
  rw [e] at hu
  unfold Lib.cellsOf
  rw [List.getElem?_toArray, List.getElem?_append_left (List.getElem?_eq_some_iff.1 hu).1]
  exact hu
theorem split_at (t : List UInt8) (c N : Nat) (w : World) (hE : Env w) (hN : 1 ≤ N) (hN2 : N ≤ 1000) (ht : t.length < 4294967281) (ys : List (List UInt8)) (hy : Lib.splitK [UInt8.ofNat c] 0 (min N (t.length + 1) - 1) t = ys) (n : Nat) (hn : ys.length = n) : Calls Tryz.prog 124 #[.string (bs t), .string ⟨#[UInt8.ofNat c]⟩, .int .i64 (N : Int)] w (GivesA w ys n) := by
  obtain ⟨m, hm⟩ := hE.max
  subst hn
  refine (Tryz.strings_SplitN (bs t) ⟨#[UInt8.ofNat c]⟩ N m w (by rw [bs_size]; exact ht) hm (Nat.le_refl 1) hN (by omega)).mono ?_
  rintro e w' ⟨rfl, rfl⟩
  have hd := Lib.splitB_data ⟨#[UInt8.ofNat c]⟩ 0 (min N ((bs t).size + 1) - 1) (bs t)
  rw [bs_data, bs_size] at hd
  rw [bs_size]
  replace hd : _ = Lib.splitK [UInt8.ofNat c] 0 (min N (t.length + 1) - 1) t := hd
  rw [hy] at hd
  have hlen : (Lib.splitB ⟨#[UInt8.ofNat c]⟩ 0 (min N (t.length + 1) - 1) (bs t)).length = ys.length := by rw [← hd, List.length_map]
  have hle : ys.length ≤ min N (t.length + 1) := by
    rw [← hy]
    have := splitK_le [UInt8.ofNat c] 0 (min N (t.length + 1) - 1) t
    omega
  refine ⟨w.heap.size, _, by rw [hlen], ⟨hle, Nat.le_refl _⟩, fun j u hu => ⟨⟨w.heap.size, 0, none⟩, rfl, ?_⟩, (by repeat (first | exact Below.refl _ _ | (refine Below.setCell ?_ (by first | omega | (simp; done) | (simp; omega) | (simp at *; omega)) _) | (refine Below.alloc ?_ (by first | omega | (simp; done) | (simp; omega) | (simp at *; omega)) _) | refine Below.drew ?_ | (refine below_drewN ?_ _) | (refine Below.trans ?_ (Below.mono (by assumption) (by first | omega | (simp; done) | (simp; omega) | (simp at *; omega))))))⟩
  have hk := split_cells _ (min N (t.length + 1)) ys hd j u hu
  have hb := (Blk.new w 9 (Lib.cellsOf (Lib.splitB ⟨#[UInt8.ofNat c]⟩ 0 (min N (t.length + 1) - 1) (bs t)) (min N (t.length + 1))) rfl).cell j
  rw [hk] at hb
  rw [show (⟨w.heap.size, 0, none⟩ : Addr).add j = ⟨w.heap.size, j, none⟩ by simp [Addr.add]; exact Eq.symm]
  exact hb
theorem split_any (t : List UInt8) (c N : Nat) (w : World) (hE : Env w) (hN : 1 ≤ N) (hN2 : N ≤ 1000) (ht : t.length < 4294967281) (ys : List (List UInt8)) (hy : Lib.splitK [UInt8.ofNat c] 0 (min N (t.length + 1) - 1) t = ys) (n : Nat) (hn : ys.length = n) : Calls Tryz.prog 124 #[.string (bs t), .string ⟨#[UInt8.ofNat c]⟩, .int .i64 (N : Int)] w (GivesT w ys n) :=
  (split_at t c N w hE hN hN2 ht ys hy n hn).mono fun _ _ ⟨_, k, he, _, hr, hb⟩ => ⟨_, k, he, hr, hb⟩
theorem split_few (t : List UInt8) (c N : Nat) (l : List (List UInt8)) (n : Nat) (w : World) (hE : Env w) (hN : 1 ≤ N) (hN2 : N ≤ 1000) (ht : t.length < 4294967281) (hl : F.cutL (UInt8.ofNat c) t = l) (hn : l.length = n) (h : n ≤ N) : Calls Tryz.prog 124 #[.string (bs t), .string ⟨#[UInt8.ofNat c]⟩, .int .i64 (N : Int)] w (GivesT w l n) := by
  refine split_any t c N w hE hN hN2 ht l ?_ n hn
  have h1 := cut_len (UInt8.ofNat c) t
  rw [(F.splitK_cut (UInt8.ofNat c) _ t).1 (by rw [hl, hn]; rw [hl, hn] at h1; omega), hl]
theorem split_fewA (t : List UInt8) (c N : Nat) (l : List (List UInt8)) (n : Nat) (w : World) (hE : Env w) (hN : 1 ≤ N) (hN2 : N ≤ 1000) (ht : t.length < 4294967281) (hl : F.cutL (UInt8.ofNat c) t = l) (hn : l.length = n) (h : n ≤ N) : Calls Tryz.prog 124 #[.string (bs t), .string ⟨#[UInt8.ofNat c]⟩, .int .i64 (N : Int)] w (GivesA w l n) := by
  refine split_at t c N w hE hN hN2 ht l ?_ n hn
  have h1 := cut_len (UInt8.ofNat c) t
  rw [(F.splitK_cut (UInt8.ofNat c) _ t).1 (by rw [hl, hn]; rw [hl, hn] at h1; omega), hl]
theorem split_manyA (t : List UInt8) (c N : Nat) (hN : 1 ≤ N) (hN2 : N ≤ 1000) (ht : t.length < 4294967281) (h : N < (F.cutL (UInt8.ofNat c) t).length) : ∃ l, ∀ w, Env w → Calls Tryz.prog 124 #[.string (bs t), .string ⟨#[UInt8.ofNat c]⟩, .int .i64 (N : Int)] w (GivesA w l N) := by
  have h1 := cut_len (UInt8.ofNat c) t
  exact ⟨_, fun w hE => split_at t c N w hE hN hN2 ht _ rfl N (by
    rw [(F.splitK_cut (UInt8.ofNat c) _ t).2 (by omega)]
    omega)⟩
theorem split_many (t : List UInt8) (c N : Nat) (w : World) (hE : Env w) (hN : 1 ≤ N) (hN2 : N ≤ 1000) (ht : t.length < 4294967281) (h : N < (F.cutL (UInt8.ofNat c) t).length) : ∃ l, Calls Tryz.prog 124 #[.string (bs t), .string ⟨#[UInt8.ofNat c]⟩, .int .i64 (N : Int)] w (GivesT w l N) := by
  have h1 := cut_len (UInt8.ofNat c) t
  exact ⟨_, split_any t c N w hE hN hN2 ht _ rfl N (by
    rw [(F.splitK_cut (UInt8.ofNat c) _ t).2 (by omega)]
    omega)⟩
theorem ranks_snoc : ∀ (a : List (List UInt8)) (p : List UInt8), F.ranksL (a ++ [p]) = match F.ranksL a, F.rankL p with | some x, some y => some (y ++ x) | _, _ => none
  | [], p => by
    rw [List.nil_append, ranks_cons]
    cases F.rankL p <;> simp [F.ranksL]
  | q :: a, p => by
    rw [List.cons_append, ranks_cons, ranks_cons, ranks_snoc a p]
    cases F.rankL q <;> cases F.ranksL a <;> cases F.rankL p <;> simp
theorem ranks_bad {a b : List (List UInt8)} {p : List UInt8} (h : F.rankL p = none) : F.ranksL (a ++ p :: b) = none := by
  apply ranks_none
  rw [ranks_cons, h]
/-- An error that is told by the number k, wrapped n times at most. -/
def Err (k : Int) : Nat → Value → Prop
  | 0, v => v = refV k
  | n + 1, v => Err k n v ∨ ∃ (p : ByteArray) (u : Value), v = .iface 147 (.agg #[.string p, u]) ∧ Err k n u
/-- What readBoard answers. -/
def BoardR (t : List UInt8) (v : Value) : Prop := match F.boardL t with
  | some l => v = .tuple #[.string (bs l), .nilIface]
  | none => ∃ u, v = .tuple #[.string ⟨#[]⟩, u] ∧ Err 6 1 u
def GivesB (w : World) (t : List UInt8) : Ending → World → Prop := fun e w' => ∃ v, e = .returned v ∧ BoardR t v ∧ Below w.heap.size w w'
theorem rankR_yes {p x : List UInt8} (h : F.rankL p = some x) : rankR p = .tuple #[.string (bs x), .nilIface] := by rw [rankR, h]
theorem rankR_no {p : List UInt8} (h : F.rankL p = none) : rankR p = .tuple #[.string ⟨#[]⟩, refV 6] := by rw [rankR, h]
theorem readRank_is (p : List UInt8) (v : Value) (w : World) (hp : p.length ≤ 4611686018427387904) (h : rankR p = v) : Calls Tryz.prog 149 #[.string (bs p)] w (Gives w v) := by subst h; exact readRank_any p w hp
set_option maxHeartbeats 1000000 in
theorem readBoard_far (t : List UInt8) (n : Nat) (w : World) (h10 : n ≠ 10) (l : List (List UInt8)) (hs : Hid (Calls Tryz.prog 124 #[.string (bs t), .string ⟨#[47]⟩, .int .i64 11] w (GivesT w l n))) : Calls Tryz.prog 126 #[.string (bs t)] w (Gives w (.tuple #[.string ⟨#[]⟩, refV 6])) := by
  unfold Gives
  have e0 : ((n : Int) != 10) = true := by rw [bne_iff_ne]; omega
  have e1 : ((n : Int) == 10) = false := by rw [beq_eq_false_iff_ne]; omega
  clear h10
  go_enter Tryz.func126, Tryz.ntmps126
  go_wp2_with fail
  refine hs.out.mono ?_
  rintro e w1 ⟨A, c, rfl, hr, hb⟩
  clear hr
  go_wp2_with fail
  refine (malformed_any _).mono ?_
  rintro e w2 ⟨rfl, hb2⟩
  go_wp2
  go_ret2
  exact ⟨rfl, hb.trans (hb2.mono hb.size)⟩
set_option maxRecDepth 100000 in
set_option maxHeartbeats 4000000 in
theorem readBoard_ten (t : List UInt8) (w : World) (hE : Env w) (ht : t.length < 4294967281) (l : List (List UInt8)) (hl : F.cutL 47 t = l) (hn : l.length = 10) (HV : Hid (F.boardL t = F.ranksL l)) : Calls Tryz.prog 126 #[.string (bs t)] w (GivesB w t) := by
  unfold GivesB
  have hple : ∀ p ∈ l, p.length ≤ 4611686018427387904 := fun p hp => by
    rw [← hl] at hp
    have := piece_le 47 t p hp
    omega
  have HP := Lib.hid hple
  have HL := Lib.hid hl
  have HN := Lib.hid hn
  clear hl hn hple
  go_enter Tryz.func126, Tryz.ntmps126
  go_wp2_with fail
  refine (split_few t 47 11 l 10 _ hE (by decide) (by decide) ht HL.out HN.out (by decide)).mono ?_
  rintro e w1 ⟨A, c, rfl, hr, hb⟩
  replace hE := hE.next hb
  go_wp2_with fail
  go_loopw [5, 6, 7, 8, 9, 19] (fun o _ _ _ _ i wr => ∃ (q : Nat) (x : List UInt8), q ≤ 10 ∧ x.length ≤ 9 * q ∧ i = .int .i64 q ∧ o = .string (bs x) ∧ F.ranksL (l.take q) = some x ∧ Rd wr A (l.map sv) ∧ Env wr ∧ Below w.heap.size w wr) (fun _ _ _ _ _ i _ => 10 - (intOf i).toNat)
  case atStart => exact ⟨0, [], by omega, by simp, rfl, rfl, by rw [List.take_zero]; rfl, hr, hE, hb⟩
  case round =>
    obtain ⟨q, x, hq, hxl, rfl, rfl, hx, hr, hE, hB⟩ := hrel
    have HX := Lib.hid hx
    clear hx
    by_cases hlt : q < 10
    · have hml : q < l.length := by rw [HN.out]; omega
      obtain ⟨p, hp⟩ : ∃ p, l[q] = p := ⟨_, rfl⟩
      have htake : l.take (q + 1) = l.take q ++ [p] := by rw [List.take_succ_eq_append_getElem hml, hp]
      have hsplit : l = l.take q ++ p :: l.drop (q + 1) := by
        conv => lhs; rw [← List.take_append_drop q l, List.drop_eq_getElem_cons hml, hp]
      obtain ⟨ad, rfl, hc⟩ := hr q (sv p) (by rw [List.getElem?_map, List.getElem?_eq_getElem hml, hp]; rfl)
      have hpl := HP.out p (by rw [← hp]; exact List.getElem_mem hml)
      have hrk := ranks_snoc (l.take q) p
      rw [← htake, HX.out] at hrk
      have HR := Lib.hid hrk
      have HS := Lib.hid hsplit
      have hq10 : (q : Int) < 10 := by omega
      clear hrk htake hsplit hp hml
      cases hk : F.rankL p with
      | none =>
        have hy := rankR_no hk
        have HY := Lib.hid hy
        have K : Hid (F.boardL t = none) := by
          show _ = _
          rw [HV.out, HS.out, ranks_bad hk]
        obtain ⟨d, hd⟩ : ∃ d, Lib.decDigits ((9 : Int) - q).toNat = d := ⟨_, rfl⟩
        have hdl : d.length ≤ 20 := by
          rw [← hd, Lib.decDigits_length]
          exact Lib.nDigits_le20 _ (by omega)
        have Hd := Lib.hid hd
        have hadd : ∀ W : World, (Op.stringOp .add ⟨#[114, 97, 110, 107, 32]⟩ (bs d)).run Tryz.prog W = .ok (.string (bs ([114, 97, 110, 107, 32] ++ d))) W := add_run (a := [114, 97, 110, 107, 32]) rfl (by simp; omega)
        have i1 : IntKind.i64.wrap (9 - (q : Int)) = 9 - (q : Int) := IntWalk.i64_in _ (by omega)
        clear hk hy hd
        go_wp2_with fail
        refine (readRank_is p _ _ hpl HY.out).mono ?_
        rintro e w2 ⟨rfl, hb2⟩
        replace hE := hE.next hb2
        replace hB := hB.trans (hb2.mono hB.size)
        unfold refV
        go_wp2_with fail
        refine (itoa_any _ _ hE (by omega)).mono ?_
        rintro e w3 ⟨rfl, hb3⟩
        replace hB := hB.trans (hb3.mono hB.size)
        rw [Hd.out]
        go_wp2
        go_ret2
        refine ⟨_, rfl, ?_, hB⟩
        unfold BoardR
        rw [K.out]
        exact ⟨_, rfl, .inr ⟨_, _, rfl, rfl⟩⟩
      | some z =>
        have hy := rankR_yes hk
        have HY := Lib.hid hy
        have hzl := rank_len hk
        have hadd := add_run (a := z) (b := x) rfl (by omega)
        have HS2 : Hid (F.ranksL (l.take (q + 1)) = some (z ++ x)) := by
          show _ = _
          rw [HR.out, hk]
        have hxz : (z ++ x).length ≤ 9 * (q + 1) := by rw [List.length_append]; omega
        clear hk hy hzl
        go_wp2_with fail
        refine (readRank_is p _ _ hpl HY.out).mono ?_
        rintro e w2 ⟨rfl, hb2⟩
        go_wp2
        go_roundw
        case rel => exact ⟨q + 1, z ++ x, by omega, hxz, by go_num, rfl, HS2.out, hr.next hb2, hE.next hb2, hB.trans (hb2.mono hB.size)⟩
        case measure => simp [intOf]; omega
    · obtain rfl : q = 10 := by omega
      have K : Hid (F.boardL t = some x) := by
        show _ = _
        have h1 := HX.out
        rw [List.take_of_length_le (by rw [HN.out]; exact Nat.le_refl _)] at h1
        rw [HV.out, h1]
      go_wp2
      go_ret2
      refine ⟨_, rfl, ?_, hB⟩
      unfold BoardR
      rw [K.out]
      rfl
theorem readBoard_any (t : List UInt8) (w : World) (hE : Env w) (ht : t.length < 4294967281) : Calls Tryz.prog 126 #[.string (bs t)] w (GivesB w t) := by
  by_cases h : (F.cutL 47 t).length = 10
  · exact readBoard_ten t w hE ht _ rfl h (by show _ = _; rw [F.boardL, if_pos h])
  · have hno : F.boardL t = none := by rw [F.boardL, if_neg h]
    have fin : ∀ (n : Nat) (l : List (List UInt8)), n ≠ 10 → Calls Tryz.prog 124 #[.string (bs t), .string ⟨#[47]⟩, .int .i64 11] w (GivesT w l n) → Calls Tryz.prog 126 #[.string (bs t)] w (GivesB w t) := fun n l h1 hs =>
      (readBoard_far t n w h1 l hs).mono fun e w' ⟨he, hb⟩ => ⟨_, he, by unfold BoardR; rw [hno]; exact ⟨_, rfl, .inl rfl⟩, hb⟩
    by_cases h2 : (F.cutL 47 t).length ≤ 11
    · exact fin _ _ h (split_few t 47 11 _ _ w hE (by decide) (by decide) ht rfl rfl h2)
    · obtain ⟨l, hs⟩ := split_many t 47 11 w hE (by decide) (by decide) ht (Nat.lt_of_not_le h2)
      exact fin 11 l (by decide) hs
end Go.Proofs.YtpogpjebhnoncabGreatDoor
