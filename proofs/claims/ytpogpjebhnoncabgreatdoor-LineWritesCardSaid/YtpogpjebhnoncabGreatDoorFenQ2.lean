/- What the code reads of a text: a rank. -/
import Derived.Test.YtpogpjebhnoncabGreatDoorFenQ1
namespace Go.Proofs.YtpogpjebhnoncabGreatDoor
open Go.RowKit Go.Shelf
open M (S)

theorem expand1_ne {b : UInt8} {y : List UInt8} (h : F.expand1 b = some y) : y ≠ [] ∧ y.length ≤ 9 := by
  unfold F.expand1 at h
  repeat' split at h
  all_goals first | (cases h; done) | skip
  all_goals
    cases h
    constructor
    · intro e
      have := congrArg List.length e
      simp at this
      try omega
    · simp
      try omega
theorem rank_long {t a r l y : List UInt8} {b : UInt8} (ht : t = (a ++ [b]) ++ r) (ha : F.expand a = some l) (hb : F.expand1 b = some y) (h : 9 < l.length + y.length) : F.rankL t = none := by
  unfold F.rankL
  rw [ht, F.expand_app, expand_snoc, ha, hb]
  cases F.expand r with
  | none => rfl
  | some z =>
    show (if ((l ++ y) ++ z).length = 9 then _ else _) = _
    rw [if_neg]
    simp
    omega
theorem rank_bad {t a r l : List UInt8} {b : UInt8} (ht : t = (a ++ [b]) ++ r) (ha : F.expand a = some l) (hb : F.expand1 b = none) : F.rankL t = none := by
  unfold F.rankL
  rw [ht, F.expand_app, expand_snoc, ha, hb]
/-- What readRank answers. -/
def rankR (t : List UInt8) : Value := match F.rankL t with
  | some l => .tuple #[.string (bs l), .nilIface]
  | none => .tuple #[.string ⟨#[]⟩, refV 6]
set_option maxRecDepth 100000 in
set_option maxHeartbeats 4000000 in
theorem readRank_any (t : List UInt8) (w : World) (ht : t.length ≤ 4611686018427387904) : Calls Tryz.prog 149 #[.string (bs t)] w (Gives w (rankR t)) := by
  unfold Gives
  have hsz := bs_size t
  have hs : (bs t).size ≤ 4611686018427387904 := by omega
  have HZ := Lib.hid hsz
  have hbyte : ∀ k, k < (bs t).size → ∃ x, bAt (bs t) k = x ∧ x < 256 ∧ t.take (k + 1) = t.take k ++ [UInt8.ofNat x] ∧ ∃ r, t = (t.take k ++ [UInt8.ofNat x]) ++ r := fun k hk => by
    have h := byte_at (bs t) k hk
    rw [bs_data] at h
    have h2 := take_step (l := t) (a := 0) (Nat.zero_le k) h
    have h3 : t.take (k + 1) = t.take k ++ [UInt8.ofNat (bAt (bs t) k)] := by simpa using h2
    refine ⟨_, rfl, bAt_lt _ _, h3, t.drop (k + 1), ?_⟩
    rw [← h3]
    exact (List.take_append_drop _ _).symm
  have HB := Lib.hid hbyte
  clear hsz hbyte ht
  generalize hS : bs t = S at hs HZ HB
  clear hS
  go_enter Tryz.func149, Tryz.ntmps149
  go_wp2_with fail
  go_loopw [4, 5, 6, 9] (fun o _ _ i wr => ∃ (k : Nat) (l : List UInt8), k ≤ S.size ∧ l.length ≤ 9 ∧ i = .int .i64 k ∧ o = .string (bs l) ∧ F.expand (t.take k) = some l ∧ Below w.heap.size w wr) (fun _ _ _ i _ => S.size - (intOf i).toNat)
  case atStart => exact ⟨0, [], by omega, by simp, rfl, rfl, by rw [List.take_zero]; rfl, Below.refl _ _⟩
  case round =>
    obtain ⟨k, l, hk, hl, rfl, rfl, hex, hB⟩ := hrel
    have HEX := Lib.hid hex
    clear hex
    by_cases hlt : k < S.size
    · obtain ⟨x, hx, hx256, hstep, r, hr⟩ := HB.out k hlt
      have hbk : S[k].toNat = x := (bAt_eq S k hlt).trans hx
      have HST := Lib.hid hstep
      have HR := Lib.hid hr
      have hlt' : decide (k < S.size) = true := by simp; omega
      clear hx hstep hr
      cases he : F.expand1 (UInt8.ofNat x) with
      | none =>
        have K : Hid (rankR t = .tuple #[.string ⟨#[]⟩, refV 6]) := by
          show _ = _
          rw [rankR, rank_bad HR.out HEX.out he]
        have Hg : Hid ((F.expand1 (UInt8.ofNat x)).getD [] = []) := by show _ = _; rw [he]; rfl
        have hye : (bs []).toList.isEmpty = true := by rw [ByteArray.toList_eq, bs_data]; rfl
        clear he
        go_wp2_with fail
        refine (readCells_is x [] _ hx256 Hg.out).mono ?_
        rintro e w1 ⟨rfl, hb⟩
        replace hB := hB.trans (hb.mono hB.size)
        go_wp2_with fail
        refine (malformed_any _).mono ?_
        rintro e w2 ⟨rfl, hb2⟩
        replace hB := hB.trans (hb2.mono hB.size)
        go_wp2
        go_ret2
        exact ⟨by rw [K.out]; rfl, hB⟩
      | some y =>
        obtain ⟨hy0, hy9⟩ := expand1_ne he
        have Hg : Hid ((F.expand1 (UInt8.ofNat x)).getD [] = y) := by show _ = _; rw [he]; rfl
        have hye : (bs y).toList.isEmpty = false := by
          rw [ByteArray.toList_eq, bs_data]
          simpa using hy0
        have hsl := bs_size l
        have hsy := bs_size y
        by_cases hov : 9 < l.length + y.length
        · have K : Hid (rankR t = .tuple #[.string ⟨#[]⟩, refV 6]) := by
            show _ = _
            rw [rankR, rank_long HR.out HEX.out he hov]
          have hd : decide (9 < (((bs l).size : Nat) : Int) + (((bs y).size : Nat) : Int)) = true := by simp; omega
          have h1 : (bs l).size ≤ 9 := by omega
          have h2 : (bs y).size ≤ 9 := by omega
          have h3 : 9 < (bs l).size + (bs y).size := by omega
          clear he hy0 hsl hsy hov hl hy9
          go_wp2_with fail
          refine (readCells_is x y _ hx256 Hg.out).mono ?_
          rintro e w1 ⟨rfl, hb⟩
          replace hB := hB.trans (hb.mono hB.size)
          go_wp2_with fail
          refine (malformed_any _).mono ?_
          rintro e w2 ⟨rfl, hb2⟩
          replace hB := hB.trans (hb2.mono hB.size)
          go_wp2
          go_ret2
          exact ⟨by rw [K.out]; rfl, hB⟩
        · have HN : Hid (F.expand (t.take (k + 1)) = some (l ++ y)) := by
            show _ = _
            rw [HST.out, expand_snoc, HEX.out, he]
          have hd : decide (9 < (((bs l).size : Nat) : Int) + (((bs y).size : Nat) : Int)) = false := by simp; omega
          have h1 : (bs l).size ≤ 9 := by omega
          have h2 : (bs y).size ≤ 9 := by omega
          have h3 : (bs l).size + (bs y).size ≤ 9 := by omega
          have hadd := add_run (a := l) (b := y) rfl (by omega)
          have hln : (l ++ y).length ≤ 9 := by simp; omega
          clear he hy0 hsl hsy hov hl hy9
          go_wp2_with fail
          refine (readCells_is x y _ hx256 Hg.out).mono ?_
          rintro e w1 ⟨rfl, hb⟩
          replace hB := hB.trans (hb.mono hB.size)
          go_wp2
          go_roundw
          case rel => exact ⟨k + 1, l ++ y, by omega, hln, by go_num, rfl, HN.out, hB⟩
          case measure => simp [intOf]; omega
    · obtain rfl : k = S.size := by omega
      have hfull : F.expand t = some l := by
        have := HEX.out
        rw [HZ.out, List.take_of_length_le (Nat.le_refl _)] at this
        exact this
      have hlt' : decide (S.size < S.size) = false := by simp
      have hsl := bs_size l
      by_cases h9 : l.length = 9
      · have K : Hid (rankR t = .tuple #[.string (bs l), .nilIface]) := by
          show _ = _
          rw [rankR, F.rankL, hfull]
          simp [h9]
        have hz : (bs l).size = 9 := by omega
        clear hfull hsl h9
        go_wp2
        go_ret2
        exact ⟨by rw [K.out]; rfl, hB⟩
      · have K : Hid (rankR t = .tuple #[.string ⟨#[]⟩, refV 6]) := by
          show _ = _
          rw [rankR, F.rankL, hfull]
          simp [h9]
        have hz : ((((bs l).size : Nat) : Int) == 9) = false := by rw [beq_eq_false_iff_ne]; omega
        have h1 : (bs l).size ≤ 9 := by omega
        have h1' : (bs l).size ≠ 9 := by omega
        clear hfull hsl h9
        go_wp2_with fail
        refine (malformed_any _).mono ?_
        rintro e w2 ⟨rfl, hb2⟩
        replace hB := hB.trans (hb2.mono hB.size)
        go_wp2
        go_ret2
        exact ⟨by rw [K.out]; rfl, hB⟩
end Go.Proofs.YtpogpjebhnoncabGreatDoor
