/- What the document's plain answers of layer 4 come to: a board's squares; a number. -/
import Derived.Test.YtcnaejmhifedfaaGreatDoorFenR4
namespace Go.Proofs.YtcnaejmhifedfaaGreatDoor
open Go.RowKit Go.Shelf
open M (S)

theorem rank_yes {p x : List UInt8} (h : F.rankL p = some x) : rankV p = .tuple #[.string (bs x), .bool true] := by
  unfold F.rankL at h
  unfold rankV
  split at h
  · rename_i l hl
    split at h
    · rename_i h9
      injection h with h
      rw [hl, ← h]
      show Value.tuple #[.string (bs l), .bool (l.length == 9)] = _
      rw [h9]
      rfl
    · cases h
  · cases h
theorem rank_no {p : List UInt8} (h : F.rankL p = none) : ∃ y, rankV p = .tuple #[.string y, .bool false] := by
  unfold F.rankL at h
  unfold rankV
  split at h
  · rename_i l hl
    split at h
    · cases h
    · rename_i h9
      rw [hl]
      refine ⟨bs l, ?_⟩
      show Value.tuple #[.string (bs l), .bool (l.length == 9)] = _
      rw [show (l.length == 9) = false by rw [beq_eq_false_iff_ne]; exact h9]
  · rename_i hl
    rw [hl]
    exact ⟨_, rfl⟩
theorem ranks_cons (p : List UInt8) (r : List (List UInt8)) : F.ranksL (p :: r) = match F.rankL p, F.ranksL r with | some x, some y => some (y ++ x) | _, _ => none := rfl
theorem ranks_none : ∀ {a b : List (List UInt8)}, F.ranksL b = none → F.ranksL (a ++ b) = none
  | [], _, h => h
  | p :: a, b, h => by
    rw [List.cons_append, ranks_cons, ranks_none (a := a) h]
    cases F.rankL p <;> rfl
theorem piece_le (c : UInt8) : ∀ (s : List UInt8), ∀ p ∈ F.cutL c s, p.length ≤ s.length
  | [], p, h => by
    simp only [F.cutL, List.mem_singleton] at h
    subst h
    simp
  | b :: r, p, h => by
    by_cases e : b = c
    · rw [F.cutL, if_pos e, List.mem_cons] at h
      rcases h with rfl | h
      · simp
      · have := piece_le c r p h
        simp
        omega
    · obtain ⟨x, t, h1, h2⟩ := F.cutL_cons_ne e r
      rw [h2, List.mem_cons] at h
      rcases h with rfl | h
      · have := piece_le c r x (by rw [h1]; simp)
        simp
        omega
      · have := piece_le c r p (by rw [h1]; exact List.mem_cons_of_mem _ h)
        simp
        omega
theorem rank_len {p x : List UInt8} (h : F.rankL p = some x) : x.length = 9 := by
  unfold F.rankL at h
  split at h
  · split at h
    · rename_i h9
      injection h with h
      rw [← h]
      exact h9
    · cases h
  · cases h
/-- What cells answers. -/
def boardV (t : List UInt8) : Value := match F.boardL t with
  | some l => .tuple #[.string (bs l), .bool true]
  | none => .tuple #[.string ⟨#[]⟩, .bool false]
theorem rcut_is (t : List UInt8) (c n : Nat) (l : List (List UInt8)) (w : World) (hc : c < 256) (hs : t.length ≤ 1048576) (hl : F.cutL (UInt8.ofNat c) t = l) (hn : l.length = n) : Calls Tryz.prog 16 #[.string (bs t), .int .u8 (c : Int)] w (GivesT w l n) := by
  subst hn hl
  have h := rcut_any (bs t) c w hc (by rw [bs_size]; exact hs)
  rw [bs_data] at h
  exact h
theorem rrank4_is (p : List UInt8) (v : Value) (w : World) (hp : p.length ≤ 1000) (h : rankV p = v) : Calls Tryz.prog 38 #[.string (bs p)] w (Gives w v) := by subst h; exact rrank4_any p w hp
set_option maxHeartbeats 1000000 in
theorem rcells_far (t : List UInt8) (n : Nat) (w : World) (ht : t.length ≤ 1000) (l : List (List UInt8)) (hl : F.cutL 47 t = l) (hn : l.length = n) (h10 : n ≠ 10) : Calls Tryz.prog 19 #[.string (bs t)] w (Gives w (.tuple #[.string ⟨#[]⟩, .bool false])) := by
  unfold Gives
  have e0 : ((n : Int) != 10) = true := by rw [bne_iff_ne]; omega
  have HL := Lib.hid hl
  have HN := Lib.hid hn
  clear hl hn h10
  go_enter Tryz.func19, Tryz.ntmps19
  go_wp2_with fail
  refine (rcut_is t 47 n l _ (by decide) (by omega) HL.out HN.out).mono ?_
  rintro e w1 ⟨A, c, rfl, hr, hb⟩
  clear hr
  go_wp2
  go_ret2
  exact ⟨rfl, hb⟩
set_option maxRecDepth 100000 in
set_option maxHeartbeats 4000000 in
theorem rcells_ten (t : List UInt8) (w : World) (ht : t.length ≤ 1000) (l : List (List UInt8)) (hl : F.cutL 47 t = l) (hn : l.length = 10) (v : Value) (HV : Hid (v = match F.ranksL l with | some x => .tuple #[.string (bs x), .bool true] | none => .tuple #[.string ⟨#[]⟩, .bool false])) : Calls Tryz.prog 19 #[.string (bs t)] w (Gives w v) := by
  unfold Gives
  have hple : ∀ p ∈ l, p.length ≤ 1000 := fun p hp => by
    rw [← hl] at hp
    have := piece_le 47 t p hp
    omega
  have HP := Lib.hid hple
  have HL := Lib.hid hl
  have HN := Lib.hid hn
  clear hl hn hple
  go_enter Tryz.func19, Tryz.ntmps19
  go_wp2_with fail
  refine (rcut_is t 47 10 l _ (by decide) (by omega) HL.out HN.out).mono ?_
  rintro e w1 ⟨A, c, rfl, hr, hb⟩
  go_wp2_with fail
  rw [show (⟨#[]⟩ : ByteArray) = bs [] from rfl]
  go_loopw [5, 6, 7, 8] (fun o i _ _ wr => ∃ (q : Nat) (x : List UInt8), q ≤ 10 ∧ x.length ≤ 9 * (10 - q) ∧ i = .int .i64 ((q : Int) - 1) ∧ o = .string (bs x) ∧ F.ranksL (l.drop q) = some x ∧ Rd wr A (l.map sv) ∧ Below w.heap.size w wr) (fun _ i _ _ _ => (intOf i + 1).toNat)
  case atStart => exact ⟨10, [], by omega, by simp, rfl, rfl, by rw [List.drop_eq_nil_of_le (by rw [HN.out]; exact Nat.le_refl _)]; rfl, hr, hb⟩
  case round =>
    obtain ⟨q, x, hq, hxl, rfl, rfl, hx, hr, hB⟩ := hrel
    have HX := Lib.hid hx
    clear hx
    by_cases hlt : 0 < q
    · obtain ⟨m, rfl⟩ : ∃ m, q = m + 1 := ⟨q - 1, by omega⟩
      rw [show ((m + 1 : Nat) : Int) - 1 = (m : Int) by omega]
      have hml : m < l.length := by rw [HN.out]; omega
      obtain ⟨p, hp⟩ : ∃ p, l[m] = p := ⟨_, rfl⟩
      have hdrop : l.drop m = p :: l.drop (m + 1) := by rw [List.drop_eq_getElem_cons hml, hp]
      obtain ⟨ad, rfl, hc⟩ := hr m (sv p) (by rw [List.getElem?_map, List.getElem?_eq_getElem hml, hp]; rfl)
      have hpl := HP.out p (by rw [← hp]; exact List.getElem_mem hml)
      have hrk := ranks_cons p (l.drop (m + 1))
      rw [← hdrop, HX.out] at hrk
      have HR := Lib.hid hrk
      have hm10 : (m : Int) < 10 := by omega
      have i1 : IntKind.i64.wrap ((m : Int) - 1) = (m : Int) - 1 := IntWalk.i64_in _ (by omega)
      clear hrk hdrop hp hml
      cases hk : F.rankL p with
      | none =>
        obtain ⟨y, hy⟩ := rank_no hk
        have HY := Lib.hid hy
        have K : Hid (v = .tuple #[.string ⟨#[]⟩, .bool false]) := by
          show _ = _
          have h1 := HR.out
          rw [hk] at h1
          have h2 : F.ranksL l = none := by
            conv => lhs; rw [← List.take_append_drop m l]
            exact ranks_none h1
          rw [HV.out, h2]
        clear hk hy
        go_wp2_with fail
        refine (rrank4_is p _ _ hpl HY.out).mono ?_
        rintro e w2 ⟨rfl, hb2⟩
        go_wp2
        go_ret2
        exact ⟨by rw [K.out]; rfl, hB.trans (hb2.mono hB.size)⟩
      | some z =>
        have hy := rank_yes hk
        have HY := Lib.hid hy
        have hzl := rank_len hk
        have hadd := add_run (a := x) (b := z) rfl (by omega)
        have HS : Hid (F.ranksL (l.drop m) = some (x ++ z)) := by
          show _ = _
          rw [HR.out, hk]
        have hxz : (x ++ z).length ≤ 9 * (10 - m) := by rw [List.length_append]; omega
        clear hk hy hzl
        go_wp2_with fail
        refine (rrank4_is p _ _ hpl HY.out).mono ?_
        rintro e w2 ⟨rfl, hb2⟩
        go_wp2
        go_roundw
        case rel => exact ⟨m, x ++ z, by omega, hxz, rfl, rfl, HS.out, hr.next hb2, hB.trans (hb2.mono hB.size)⟩
        case measure => simp [intOf]
    · obtain rfl : q = 0 := by omega
      have K : Hid (v = .tuple #[.string (bs x), .bool true]) := by
        show _ = _
        have h1 := HX.out
        rw [List.drop_zero] at h1
        rw [HV.out, h1]
      go_wp2
      go_ret2
      exact ⟨by rw [K.out]; rfl, hB⟩
theorem rcells_any (t : List UInt8) (w : World) (ht : t.length ≤ 1000) : Calls Tryz.prog 19 #[.string (bs t)] w (Gives w (boardV t)) := by
  unfold boardV F.boardL
  by_cases h : (F.cutL 47 t).length = 10
  · rw [if_pos h]
    exact rcells_ten t w ht _ rfl h _ rfl
  · rw [if_neg h]
    exact rcells_far t _ w ht _ rfl rfl h
end Go.Proofs.YtcnaejmhifedfaaGreatDoor
