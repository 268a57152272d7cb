/- Where the piece on any square of any board reaches, and what stands between two squares: the call answers true. -/
import Derived.Test.YtdpalfifckjhgaaLive5
namespace Go.Proofs.Ytdpalfifckjhgaa.rtells
open Go.RowKit Go.Shelf
open M (S)

set_option maxRecDepth 100000 in
set_option maxHeartbeats 4000000 in
theorem large (s : ByteArray) (a b : Int) (w : World) (hs : 200 < s.size) : Calls Try.prog 3 #[.string s, .int .i64 a, .int .i64 b] w (Gives w (.bool true)) := by
  unfold Gives
  have hd : decide (200 < (s.size : Int)) = true := by simp; omega
  clear hs
  go_enter Try.func3, Try.ntmps3
  go_wp2_with fail
  refine (live5_any _).mono ?_
  rintro e w1 ⟨rfl, hb⟩
  have hB := hb
  clear hb
  go_wp2
  go_ret
  exact ⟨rfl, hB⟩
set_option maxRecDepth 100000 in
set_option maxHeartbeats 4000000 in
theorem small (s : ByteArray) (a b : Int) (w : World) (hs : s.size ≤ 200) : Calls Try.prog 3 #[.string s, .int .i64 a, .int .i64 b] w (Gives w (.bool true)) := by
  unfold Gives
  have hd : decide (200 < (s.size : Int)) = false := by simp; omega
  clear hs
  obtain ⟨L, hL⟩ : ∃ L, allL s a = L := ⟨_, rfl⟩
  obtain ⟨n, hn⟩ : ∃ n, L.length = n := ⟨_, rfl⟩
  obtain ⟨c, hc⟩ : ∃ c, canI s a b = c := ⟨_, rfl⟩
  obtain ⟨k, hk⟩ : ∃ k, betweenV s a b = k := ⟨_, rfl⟩
  have hm : n ≤ 1000000 := by
    have : L.length ≤ 90 := by
      rw [← hL]
      unfold allL
      split
      · exact trues_le _ _
      · simp
    omega
  have HL := Lib.hid hL
  have Hn := Lib.hid hn
  have Hc := Lib.hid hc
  have Hk := Lib.hid hk
  clear hL hn hc hk
  go_enter Try.func3, Try.ntmps3
  go_wp2_with fail
  refine (all_is s a _ n _ HL.out Hn.out).mono ?_
  rintro e w1 ⟨A1, k1, rfl, hr, hb⟩
  have hB := hb
  clear hb
  have rd := hr
  clear hr
  go_wp2_with fail
  refine (rall_is s a _ n _ HL.out Hn.out).mono ?_
  rintro e w2 ⟨A2, k2, rfl, hr, hb⟩
  replace rd := rd.next hb
  replace hB := hB.trans (hb.mono hB.size)
  clear hb
  have re := hr
  clear hr
  go_wp2_with fail
  refine (ints_true _ _ L n _ _ _ rd re Hn.out hm).mono ?_
  rintro e w3 ⟨rfl, hb⟩
  replace rd := rd.next hb
  replace re := re.next hb
  replace hB := hB.trans (hb.mono hB.size)
  clear hb
  clear rd
  clear re
  go_wp2_with fail
  refine (can_is5 s a b c _ Hc.out).mono ?_
  rintro e w4 ⟨rfl, hb⟩
  replace hB := hB.trans (hb.mono hB.size)
  clear hb
  go_wp2_with fail
  refine (rCan_is s a b c _ Hc.out).mono ?_
  rintro e w5' ⟨rfl, rfl⟩
  go_wp2_with fail
  refine (between_is5 s a b k _ Hk.out).mono ?_
  rintro e w6' ⟨rfl, rfl⟩
  go_wp2_with fail
  refine (rBetween_is s a b k _ Hk.out).mono ?_
  rintro e w7' ⟨rfl, rfl⟩
  go_wp2_with fail
  refine (live5_any _).mono ?_
  rintro e w8 ⟨rfl, hb⟩
  replace hB := hB.trans (hb.mono hB.size)
  clear hb
  go_wp2
  go_ret
  exact ⟨rfl, hB⟩
theorem walk (s : ByteArray) (a b : Int) (w : World) : Calls Try.prog 3 #[.string s, .int .i64 a, .int .i64 b] w (Gives w (.bool true)) := by
  by_cases h : s.size ≤ 200
  · exact small s a b w h
  · exact large s a b w (by omega)
end Go.Proofs.Ytdpalfifckjhgaa.rtells
