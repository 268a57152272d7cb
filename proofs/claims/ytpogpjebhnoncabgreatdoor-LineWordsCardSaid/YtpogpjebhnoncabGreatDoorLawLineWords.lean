/- Words have no blanks; joined by blanks they are the same words again: the call answers true. -/
import Derived.Test.YtpogpjebhnoncabGreatDoorLineL
namespace Go.Proofs.YtpogpjebhnoncabGreatDoor.lwords
open Go.RowKit Go.Shelf Go.Proofs.YtpogpjebhnoncabGreatDoor.Ln
open M (S)

set_option maxHeartbeats 4000000 in
theorem large (s : ByteArray) {w : World} {a0 a1 a2 : Addr} (hE : Env w) (hR : Errs w a0 a1 a2) (hs : 1000 < s.size) : Calls Tryz.prog 6 #[.string s] w (Gives w (.bool true)) := by
  unfold Gives
  have hd : decide (1000 < (s.size : Int)) = true := by simp; omega
  go_enter Tryz.func6, Tryz.ntmps6
  go_wp2_with fail
  refine (live23_any hE hR).mono ?_
  rintro e w1 ⟨rfl, hb⟩
  go_wp2
  go_ret
  exact ⟨rfl, hb⟩
set_option maxRecDepth 100000 in
set_option maxHeartbeats 8000000 in
theorem small (s : List UInt8) {w : World} {a0 a1 a2 : Addr} (hE : Env w) (hR : Errs w a0 a1 a2) (hs : s.length ≤ 1000) : Calls Tryz.prog 6 #[.string (bs s)] w (Gives w (.bool true)) := by
  unfold Gives
  have hd : decide (1000 < ((bs s).size : Int)) = false := by rw [bs_size]; simp; omega
  have hw := words_any s w hE (by omega)
  have hv : wordsV s = wordsB s := if_neg (by omega)
  have hall : ∀ x ∈ wordsV s, IsW x := fun x hx => words_is (by rw [← hv]; exact hx)
  have hsum : sumL (wordsV s) ≤ 1001 := by rw [hv]; have := words_sum s; omega
  generalize wordsV s = l at hw hall hsum
  obtain ⟨n, hn⟩ : ∃ n, l.length = n := ⟨_, rfl⟩
  have hn9 : n ≤ 1001 := by rw [← hn]; have := sum_count l; omega
  rw [hn] at hw
  have HW := Lib.hid hw
  have HA := Lib.hid hall
  have HS := Lib.hid hsum
  have HN := Lib.hid hn
  have HE := Lib.hid hE
  have HR := Lib.hid hR
  clear hw hall hsum hn hE hR hv
  go_enter Tryz.func6, Tryz.ntmps6
  go_wp2_with fail
  refine HW.out.mono ?_
  rintro e w1 ⟨v, rfl, hown, hb1⟩
  obtain ⟨A, c, rfl, hrd, hnc⟩ := own_anyL hown
  clear hown
  go_wp2_with fail
  go_loopw [4, 5] (fun t i wr => ∃ k : Nat, i = .int .i64 k ∧ k ≤ n ∧ t = .string (bs ((l.take k).flatMap fun x => x ++ [32])) ∧ w1 = wr) (fun _ i _ => n - (intOf i).toNat)
  case atStart => exact ⟨0, rfl, Nat.zero_le _, rfl, rfl⟩
  case round =>
    obtain ⟨k, rfl, hk, rfl, rfl⟩ := hrel
    obtain ⟨T, hT⟩ : ∃ T, ((l.take k).flatMap fun x => x ++ [32]) = T := ⟨_, rfl⟩
    rw [hT]
    have hTl : T.length ≤ 1001 := by rw [← hT, flat_len]; have := sum_take l k; have := HS.out; omega
    have hTs : (bs T).size ≤ 1001 := by rw [bs_size]; exact hTl
    by_cases hlt : k < n
    · have bk : (k : Int) < (n : Int) := by omega
      have hkl : k < l.length := by rw [HN.out]; exact hlt
      obtain ⟨x, hx⟩ : ∃ x, l[k]? = some x := ⟨_, List.getElem?_eq_getElem hkl⟩
      have hxw := HA.out x (List.mem_of_getElem? hx)
      obtain ⟨g, b, rfl, hc⟩ := rd_form hrd (by omega)
      have e0 := hc k x hx
      obtain ⟨q, hq⟩ : ∃ q, x.length = q := ⟨_, rfl⟩
      have hq9 : q ≤ 1001 := by rw [← hq]; have := sum_mem (List.mem_of_getElem? hx); have := HS.out; omega
      have hqs : (bs x).size = q := by rw [bs_size]; exact hq
      have hne : (bs x).toList.isEmpty = false := by
        rw [ByteArray.toList_eq, bs_data]
        cases hh : x with
        | nil => exact absurd hh hxw.1
        | cons => rfl
      have htk : ((l.take (k + 1)).flatMap fun x => x ++ [32]) = T ++ (x ++ [32]) := by rw [List.take_add_one, hx, List.flatMap_append, hT]; simp
      have HTK := Lib.hid htk
      have HXW := Lib.hid hxw
      have HC := Lib.hid hc
      clear hc htk hxw hrd hx
      go_wp2_with fail
      go_loopw [6] (fun j wr => ∃ m : Nat, j = .int .i64 m ∧ m ≤ q ∧ w1 = wr) (fun j _ => q - (intOf j).toNat)
      case atStart => exact ⟨0, rfl, Nat.zero_le _, rfl⟩
      case round =>
        obtain ⟨m, rfl, hm, rfl⟩ := hrel
        by_cases hmq : m < q
        · have bm : (m : Int) < (q : Int) := by omega
          have hms : m < (bs x).size := by rw [hqs]; exact hmq
          obtain ⟨y, hy⟩ : ∃ y, (bs x)[m].toNat = y := ⟨_, rfl⟩
          have hmem : (bs x)[m] ∈ x := by
            have : (bs x)[m] = x[m]'(by omega) := rfl
            rw [this]
            exact List.getElem_mem _
          have y1 : ((y : Int) == 32) = false := by
            rw [beq_eq_false_iff_ne]
            intro e
            refine (HXW.out.2 _ hmem).1 ?_
            apply UInt8.toNat_inj.1
            rw [hy]
            show y = 32
            omega
          have y2 : ((y : Int) == 9) = false := by
            rw [beq_eq_false_iff_ne]
            intro e
            refine (HXW.out.2 _ hmem).2 ?_
            apply UInt8.toNat_inj.1
            rw [hy]
            show y = 9
            omega
          clear hmem
          go_wp2_with fail
          go_roundw
          case rel => exact ⟨m + 1, by go_num, by omega, trivial⟩
          case measure => simp [intOf]; omega
        · obtain rfl : m = q := by omega
          have bm : ¬ (m : Int) < (m : Int) := by omega
          go_wp2_with fail
          go_roundw
          case rel => exact ⟨k + 1, by go_num, by omega, by rw [HTK.out, ← bs_app, ← bs_app, ByteArray.append_assoc]; rfl, trivial⟩
          case measure => simp [intOf]; omega
    · obtain rfl : k = n := by omega
      have bk : ¬ (k : Int) < (k : Int) := by omega
      have hTT : T = l.flatMap fun x => x ++ [32] := by rw [← hT, List.take_of_length_le (by rw [HN.out]; exact Nat.le_refl _)]
      have hw2 := words_any T w1 (HE.out.next hb1) (by omega)
      have hv2 : wordsV T = l := by
        unfold wordsV
        rw [if_neg (by omega), hTT]
        exact words_behind l HA.out
      rw [hv2, HN.out] at hw2
      have HW2 := Lib.hid hw2
      have HB1 := Lib.hid hb1
      clear hw2 hv2 hTT hb1
      go_wp2_with fail
      refine HW2.out.mono ?_
      rintro e w2 ⟨v2, rfl, hown2, hb2⟩
      obtain ⟨A2, c2, rfl, hrd2, hnc2⟩ := own_anyL hown2
      have hB2 := HB1.out.trans (hb2.mono HB1.out.size)
      have hrd1 := hrd.next hb2
      clear hown2 hb2
      go_wp2_with fail
      refine (texts_is A2 A l k c2 c w2 hrd2 hrd1 HN.out (by omega)).mono ?_
      rintro e w3 ⟨rfl, hb3⟩
      have hB3 := hB2.trans (hb3.mono hB2.size)
      clear hb3 hrd1 hrd2
      go_wp2_with fail
      refine (live23_any (HE.out.next hB3) (HR.out.next hB3)).mono ?_
      rintro e w4 ⟨rfl, hb4⟩
      go_wp2
      go_ret
      exact ⟨rfl, hB3.trans (hb4.mono hB3.size)⟩
theorem walk (s : ByteArray) {w : World} {a0 a1 a2 : Addr} (hE : Env w) (hR : Errs w a0 a1 a2) : Calls Tryz.prog 6 #[.string s] w (Gives w (.bool true)) := by
  by_cases h : 1000 < s.size
  · exact large s hE hR h
  · have := small s.data.toList hE hR (by have : s.data.toList.length = s.size := rfl; omega)
    rwa [bs_back] at this
end Go.Proofs.YtpogpjebhnoncabGreatDoor.lwords
