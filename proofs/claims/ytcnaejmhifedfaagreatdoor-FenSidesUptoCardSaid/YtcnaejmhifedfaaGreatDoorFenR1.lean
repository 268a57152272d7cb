/- What the document's plain answers of layer 4 come to: a number's digits, a rank's text, a position's text. -/
import Derived.Test.YtcnaejmhifedfaaGreatDoorFenD
import Derived.Test.YtcnaejmhifedfaaGreatDoorRefP4
import Derived.Lib.ItoaLen
namespace Go.Proofs.YtcnaejmhifedfaaGreatDoor
open Go.RowKit Go.Shelf
open M (S)

/-- A text of bytes. -/
def bs (l : List UInt8) : ByteArray := ⟨l.toArray⟩
theorem bs_size (l : List UInt8) : (bs l).size = l.length := size_mk l
theorem bs_app (a b : List UInt8) : bs a ++ bs b = bs (a ++ b) := by unfold bs; rw [ByteArray.mk_append_mk]
theorem bs_data (l : List UInt8) : (bs l).data.toList = l := by simp [bs]
theorem bs_back (s : ByteArray) : bs s.data.toList = s := by
  unfold bs
  rw [Array.toArray_toList]
theorem add_run {a b : List UInt8} {c : List UInt8} (h : a ++ b = c) (hl : a.length + b.length ≤ 1000000) (W : World) : (Op.stringOp .add (bs a) (bs b)).run Tryz.prog W = .ok (.string (bs c)) W := by
  rw [← h, ← bs_app]
  exact run_string_add_sum _ _ _ (by rw [bs_size, bs_size]; omega)
theorem byte_run (c : Nat) (hc : c < 256) (W : World) (g C : Nat) (h : W.cell? ⟨g, 0, none⟩ = some (.int .u8 (c : Int))) : (convert 70 9 (.slice (some ⟨g, 0, none⟩) 1 C)).run Tryz.prog W = .ok (.string (bs [UInt8.ofNat c])) W := one_of W g C c hc h

set_option maxHeartbeats 1000000 in
theorem rdigits_any (n : Nat) : ∀ (w : World), n ≤ 1000000 → Calls Tryz.prog 26 #[.int .i64 (n : Int)] w (Gives w (.string (bs (Lib.decDigits n)))) := by
  induction n using Nat.strongRecOn with
  | ind n ih =>
    intro w hn
    unfold Gives
    obtain ⟨x, hx⟩ : ∃ x : Nat, 48 + n % 10 = x := ⟨_, rfl⟩
    have hx256 : x < 256 := by omega
    have i1 : IntKind.u8.wrap (48 + (n : Int) % 10) = (x : Int) := by rw [IntWalk.u8_in _ (by omega)]; omega
    have i2 : (48 + (n : Int) % 10) % 256 = (x : Int) := by omega
    have hcv : ∀ (W : World) (g C : Nat), W.cell? ⟨g, 0, none⟩ = some (.int .u8 (x : Int)) → (convert 70 9 (.slice (some ⟨g, 0, none⟩) 1 C)).run Tryz.prog W = .ok (.string (bs [UInt8.ofNat x])) W := fun W g C h => byte_run x hx256 W g C h
    by_cases h : n < 10
    · have K : Hid (Lib.decDigits n = [UInt8.ofNat x]) := by show _ = _; rw [Lib.decDigits_one h, ← hx, Nat.mod_eq_of_lt h]
      clear ih hx
      have h' : (n : Int) < 10 := by omega
      go_enter Tryz.func26, Tryz.ntmps26
      go_wp2
      go_ret
      exact ⟨by rw [K.out]; rfl, (by repeat (first | exact Below.refl _ _ | (refine Below.setCell ?_ (by first | omega | (simp; done) | (simp; omega) | (simp at *; omega)) _) | (refine Below.alloc ?_ (by first | omega | (simp; done) | (simp; omega) | (simp at *; omega)) _) | refine Below.drew ?_ | (refine below_drewN ?_ _) | (refine Below.trans ?_ (Below.mono (by assumption) (by first | omega | (simp; done) | (simp; omega) | (simp at *; omega))))))⟩
    · have K : Lib.decDigits n = Lib.decDigits (n / 10) ++ [UInt8.ofNat x] := by rw [F.decDigits_big h, ← hx]
      have Hih := Lib.hid (ih (n / 10) (by omega))
      have hlen : (Lib.decDigits (n / 10)).length + [UInt8.ofNat x].length ≤ 1000000 := by
        have := Lib.nDigits_le20 (n / 10) (by omega)
        rw [Lib.decDigits_length]
        simp
        omega
      have hadd := add_run K.symm hlen
      obtain ⟨k, hk⟩ : ∃ k, n / 10 = k := ⟨_, rfl⟩
      have i3 : (n : Int) / 10 = (k : Int) := by omega
      rw [hk] at Hih hadd
      have hk1 : k ≤ 1000000 := by omega
      have h' : 10 ≤ (n : Int) := by omega
      clear hlen K ih hx h hk
      go_enter Tryz.func26, Tryz.ntmps26
      go_wp2_with fail
      refine (Hih.out _ hk1).mono ?_
      rintro e w1 ⟨rfl, hb⟩
      go_wp2
      go_ret
      exact ⟨rfl, ((Below.refl _ _).alloc (Nat.le_refl _) _).trans (hb.mono (by simp))⟩
theorem rdigits_is (n : Int) (l : List UInt8) (w : World) (h0 : 0 ≤ n) (hn : n ≤ 1000000) (hl : Lib.decDigits n.toNat = l) : Calls Tryz.prog 26 #[.int .i64 n] w (Gives w (.string (bs l))) := by
  obtain ⟨k, rfl⟩ : ∃ k : Nat, n = k := ⟨n.toNat, by omega⟩
  subst hl
  exact rdigits_any k w (by omega)
theorem rle_empty {e : Nat} {b : UInt8} {r : List UInt8} (h : b = 46) : F.rle e (b :: r) = F.rle (e + 1) r := by
  cases e <;> rw [F.rle, if_pos h]
theorem rle_piece {e : Nat} {b : UInt8} {r : List UInt8} (h : b ≠ 46) : F.rle e (b :: r) = (if e = 0 then [] else [UInt8.ofNat (48 + e)]) ++ b :: F.rle 0 r := by
  cases e <;> rw [F.rle, if_neg h]
theorem rle_end {e : Nat} (h : 0 < e) : F.rle e [] = [UInt8.ofNat (48 + e)] := by
  obtain ⟨m, rfl⟩ : ∃ m, e = m + 1 := ⟨e - 1, by omega⟩
  rfl
/-- The squares of a rank. -/
def line (s : ByteArray) (r : Nat) : List UInt8 := (s.data.toList.drop (9 * r)).take 9
theorem line_len {s : ByteArray} {r : Nat} (hs : s.size = 90) (hr : r ≤ 9) : (line s r).length = 9 := by
  have : s.data.toList.length = 90 := by simpa using hs
  unfold line
  rw [List.length_take, List.length_drop, this]
  omega
theorem line_at {s : ByteArray} {r k : Nat} (hs : s.size = 90) (hr : r ≤ 9) (hk : k < 9) : (line s r).drop k = UInt8.ofNat (bAt s (9 * r + k)) :: (line s r).drop (k + 1) := by
  have hl := line_len hs hr
  rw [List.drop_eq_getElem_cons (by omega)]
  congr 1
  have h90 : s.data.toList.length = 90 := by simpa using hs
  unfold line
  rw [List.getElem_take, List.getElem_drop]
  have h2 := bAt_list s (9 * r + k) (by omega)
  rw [← h2]
  simp
set_option maxRecDepth 100000 in
set_option maxHeartbeats 4000000 in
theorem rrow_any (s : ByteArray) (r : Nat) (w : World) (hs : s.size = 90) (hr : r ≤ 9) : Calls Tryz.prog 25 #[.string s, .int .i64 (r : Int)] w (Gives w (.string (bs (F.rle 0 (line s r))))) := by
  unfold Gives
  obtain ⟨T, hTe⟩ : ∃ T, F.rle 0 (line s r) = T := ⟨_, rfl⟩
  rw [hTe]
  have HT := Lib.hid hTe
  have hnext : ∀ k, k < 9 → ∃ x, bAt s (9 * r + k) = x ∧ x < 256 ∧ (line s r).drop k = UInt8.ofNat x :: (line s r).drop (k + 1) := fun k hk => ⟨_, rfl, bAt_lt _ _, line_at hs hr hk⟩
  have HN := Lib.hid hnext
  have hend : (line s r).drop 9 = [] := List.drop_eq_nil_of_le (by rw [line_len hs hr]; exact Nat.le_refl _)
  have HE := Lib.hid hend
  have hs1 : 90 ≤ s.size := by omega
  clear hTe hnext hend hs
  go_enter Tryz.func25, Tryz.ntmps25
  go_wp2_with fail
  rw [show (⟨#[]⟩ : ByteArray) = bs [] from rfl]
  go_loopw [5, 6, 7, 8] (fun o e f _ wr => ∃ (k m : Nat) (l : List UInt8), k ≤ 9 ∧ m ≤ k ∧ l.length ≤ 2 * k ∧ f = .int .i64 k ∧ e = .int .i64 m ∧ o = .string (bs l) ∧ l ++ F.rle m ((line s r).drop k) = T ∧ Below w.heap.size w wr) (fun _ _ f _ _ => 9 - (intOf f).toNat)
  case atStart => exact ⟨0, 0, [], by omega, by omega, by simp, rfl, rfl, rfl, by rw [List.nil_append, List.drop_zero]; exact HT.out, Below.refl _ _⟩
  case round =>
    obtain ⟨k, m, l, hk, hm, hl, rfl, rfl, rfl, ht, hB⟩ := hrel
    by_cases hlt : k < 9
    · obtain ⟨x, hx, hx256, hd⟩ := HN.out k hlt
      have hks : 9 * r + k < s.size := by omega
      have hbk : s[9 * r + k].toNat = x := (bAt_eq s _ hks).trans hx
      rw [hd] at ht
      clear hx hd
      by_cases h46 : x = 46
      · have e0 : ((x : Int) == 46) = true := by rw [h46]; rfl
        have Ht : Hid (l ++ F.rle (m + 1) ((line s r).drop (k + 1)) = T) := by
          show _ = _
          rw [← ht, rle_empty (by rw [h46]; rfl)]
        clear ht h46
        go_wp2
        go_roundw
        case rel => exact ⟨k + 1, m + 1, l, by omega, by omega, by omega, by go_num, by go_num, rfl, Ht.out, hB⟩
        case measure => simp [intOf]; omega
      · have e0 : ((x : Int) == 46) = false := by rw [beq_eq_false_iff_ne]; omega
        have hx46 : UInt8.ofNat x ≠ 46 := fun h => by
          have := congrArg UInt8.toNat h
          rw [F.u8_of _ hx256] at this
          exact h46 this
        have hcv : ∀ (W : World) (g C : Nat), W.cell? ⟨g, 0, none⟩ = some (.int .u8 (x : Int)) → (convert 70 9 (.slice (some ⟨g, 0, none⟩) 1 C)).run Tryz.prog W = .ok (.string (bs [UInt8.ofNat x])) W := fun W g C h => byte_run x hx256 W g C h
        by_cases hm0 : m = 0
        · subst hm0
          have hadd := add_run (a := l) (b := [UInt8.ofNat x]) rfl (by simp; omega)
          have Ht : Hid ((l ++ [UInt8.ofNat x]) ++ F.rle 0 ((line s r).drop (k + 1)) = T) := by
            show _ = _
            rw [← ht, rle_piece hx46]
            simp
          clear ht h46 hx46
          go_wp2
          go_roundw
          case rel => exact ⟨k + 1, 0, l ++ [UInt8.ofNat x], by omega, by omega, by simp; omega, by go_num, rfl, rfl, Ht.out, hB.alloc hB.size _⟩
          case measure => simp [intOf]; omega
        · have hm1 : 0 < (m : Int) := by omega
          obtain ⟨d, hd⟩ : ∃ d, Lib.decDigits m = d := ⟨_, rfl⟩
          have hd1 : d = [UInt8.ofNat (48 + m)] := by rw [← hd, Lib.decDigits_one (by omega)]
          obtain ⟨l2, hl2⟩ : ∃ l2, l ++ d = l2 := ⟨_, rfl⟩
          have hl2n : l2.length = l.length + 1 := by rw [← hl2, hd1]; simp
          have hadd := add_run hl2 (by rw [hd1]; simp; omega)
          have hadd2 := add_run (a := l2) (b := [UInt8.ofNat x]) rfl (by simp; omega)
          have Ht : Hid ((l2 ++ [UInt8.ofNat x]) ++ F.rle 0 ((line s r).drop (k + 1)) = T) := by
            show _ = _
            rw [← ht, rle_piece hx46, if_neg hm0, ← hl2, hd1]
            simp
          have Hd := Lib.hid hd
          have hll : (l2 ++ [UInt8.ofNat x]).length ≤ 2 * (k + 1) := by simp; omega
          clear ht h46 hx46 hd hd1 hl2 hl2n
          go_wp2_with fail
          refine (rdigits_is m d _ (by omega) (by omega) Hd.out).mono ?_
          rintro e w1 ⟨rfl, hb⟩
          replace hB := hB.trans (hb.mono hB.size)
          go_wp2
          go_roundw
          case rel => exact ⟨k + 1, 0, _, by omega, by omega, hll, by go_num, rfl, rfl, Ht.out, hB.alloc hB.size _⟩
          case measure => simp [intOf]; omega
    · obtain rfl : k = 9 := by omega
      rw [HE.out] at ht
      by_cases hm0 : m = 0
      · subst hm0
        have Ht : Hid (l = T) := by
          show _ = _
          rw [← ht]
          simp [F.rle]
        clear ht
        go_wp2
        go_ret
        exact ⟨by rw [← Ht.out]; rfl, hB⟩
      · have hm1 : 0 < (m : Int) := by omega
        rw [rle_end (by omega)] at ht
        obtain ⟨d, hd⟩ : ∃ d, Lib.decDigits m = d := ⟨_, rfl⟩
        have hd1 : d = [UInt8.ofNat (48 + m)] := by rw [← hd, Lib.decDigits_one (by omega)]
        have hadd := add_run (a := l) (b := d) rfl (by rw [hd1]; simp; omega)
        have Ht : Hid (l ++ d = T) := by show _ = _; rw [← ht, hd1]
        have Hd := Lib.hid hd
        clear ht hd hd1
        go_wp2_with fail
        refine (rdigits_is m d _ (by omega) (by omega) Hd.out).mono ?_
        rintro e w1 ⟨rfl, hb⟩
        replace hB := hB.trans (hb.mono hB.size)
        go_wp2
        go_ret
        exact ⟨by rw [← Ht.out]; rfl, hB⟩
theorem rrow_is (s : ByteArray) (r : Int) (l : List UInt8) (w : World) (hs : s.size = 90) (h0 : 0 ≤ r) (hr : r ≤ 9) (hl : F.rle 0 (line s r.toNat) = l) : Calls Tryz.prog 25 #[.string s, .int .i64 r] w (Gives w (.string (bs l))) := by
  obtain ⟨k, rfl⟩ : ∃ k : Nat, r = k := ⟨r.toNat, by omega⟩
  subst hl
  exact rrow_any s k w hs (by omega)
end Go.Proofs.YtcnaejmhifedfaaGreatDoor
