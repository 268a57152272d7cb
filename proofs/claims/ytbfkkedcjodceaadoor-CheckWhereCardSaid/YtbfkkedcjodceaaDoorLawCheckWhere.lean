/- What stands on a square is of no moment to who attacks it: the call answers true. -/
import Derived.Test.YtbfkkedcjodceaaDoorLive7
namespace Go.Proofs.YtbfkkedcjodceaaDoor.cwhere
open Go.RowKit Go.Shelf
open M (S)

set_option maxRecDepth 100000 in
set_option maxHeartbeats 8000000 in
theorem large (s : ByteArray) (n : Int) (c : Nat) (w : World) (hT : Tab w) (hs : 200 < s.size) : Calls Tryd.prog 14 #[.string s, .int .i64 n, .int .u8 (c : Int)] w (Gives w (.bool true)) := by
  unfold Gives
  have hd : decide (200 < (s.size : Int)) = true := by simp; omega
  clear hs
  go_enter Tryd.func14, Tryd.ntmps14
  go_wp2_with fail
  refine (live7_any _ hT).mono ?_
  rintro e w9 ⟨rfl, hb⟩
  go_wp2
  go_ret
  exact ⟨rfl, hb⟩
set_option maxRecDepth 100000 in
set_option maxHeartbeats 8000000 in
theorem nob (s : ByteArray) (n : Int) (c : Nat) (w : World) (hT : Tab w) (hs : s.size ≤ 200) (h : isB s = false) : Calls Tryd.prog 14 #[.string s, .int .i64 n, .int .u8 (c : Int)] w (Gives w (.bool true)) := by
  unfold Gives
  have hd : decide (200 < (s.size : Int)) = false := by simp; omega
  clear hs
  have B := Lib.hid h
  clear h
  go_enter Tryd.func14, Tryd.ntmps14
  go_wp2_with fail
  refine (is_is s false _ B.out).mono ?_
  rintro e w1 ⟨rfl, rfl⟩
  go_wp2_with fail
  refine (live7_any _ hT).mono ?_
  rintro e w9 ⟨rfl, hb⟩
  go_wp2
  go_ret
  exact ⟨rfl, hb⟩
set_option maxRecDepth 100000 in
set_option maxHeartbeats 8000000 in
theorem neg (s : ByteArray) (n : Int) (c : Nat) (w : World) (hT : Tab w) (hs : s.size ≤ 200) (hb : isB s = true) (h : n < 0) : Calls Tryd.prog 14 #[.string s, .int .i64 n, .int .u8 (c : Int)] w (Gives w (.bool true)) := by
  unfold Gives
  have hd : decide (200 < (s.size : Int)) = false := by simp; omega
  clear hs
  have B := Lib.hid hb
  clear hb
  go_enter Tryd.func14, Tryd.ntmps14
  go_wp2_with fail
  refine (is_is s true _ B.out).mono ?_
  rintro e w1 ⟨rfl, rfl⟩
  go_wp2_with fail
  refine (live7_any _ hT).mono ?_
  rintro e w9 ⟨rfl, hb⟩
  go_wp2
  go_ret
  exact ⟨rfl, hb⟩
set_option maxRecDepth 100000 in
set_option maxHeartbeats 8000000 in
theorem far (s : ByteArray) (n : Int) (c : Nat) (w : World) (hT : Tab w) (hs : s.size ≤ 200) (hb : isB s = true) (h0 : 0 ≤ n) (h : 89 < n) : Calls Tryd.prog 14 #[.string s, .int .i64 n, .int .u8 (c : Int)] w (Gives w (.bool true)) := by
  unfold Gives
  have hd : decide (200 < (s.size : Int)) = false := by simp; omega
  clear hs
  have B := Lib.hid hb
  clear hb
  go_enter Tryd.func14, Tryd.ntmps14
  go_wp2_with fail
  refine (is_is s true _ B.out).mono ?_
  rintro e w1 ⟨rfl, rfl⟩
  go_wp2_with fail
  refine (live7_any _ hT).mono ?_
  rintro e w9 ⟨rfl, hb⟩
  go_wp2
  go_ret
  exact ⟨rfl, hb⟩
set_option maxRecDepth 100000 in
set_option maxHeartbeats 8000000 in
theorem noside (s : ByteArray) (n : Int) (c : Nat) (w : World) (hT : Tab w) (hs : s.size ≤ 200) (hb : isB s = true) (h0 : 0 ≤ n) (h1 : n ≤ 89) (d : Int) (hdd : sideN c = d) (h : d < 0) : Calls Tryd.prog 14 #[.string s, .int .i64 n, .int .u8 (c : Int)] w (Gives w (.bool true)) := by
  unfold Gives
  have hd : decide (200 < (s.size : Int)) = false := by simp; omega
  clear hs
  have B := Lib.hid hb
  have D := Lib.hid hdd
  clear hb hdd
  go_enter Tryd.func14, Tryd.ntmps14
  go_wp2_with fail
  refine (is_is s true _ B.out).mono ?_
  rintro e w1 ⟨rfl, rfl⟩
  go_wp2_with fail
  refine (rside_is c d _ D.out).mono ?_
  rintro e w1 ⟨rfl, rfl⟩
  go_wp2_with fail
  refine (live7_any _ hT).mono ?_
  rintro e w9 ⟨rfl, hb⟩
  go_wp2
  go_ret
  exact ⟨rfl, hb⟩
theorem where_att {s : ByteArray} (hb : isB s = true) {n : Int} (hn : 0 ≤ n ∧ n ≤ 89) {c : Nat} (hc : c < 256) (h0 : 0 ≤ sideN c) (side : Int) : attL (putB s n c) n side = attL s n side := by
  obtain ⟨m, rfl⟩ : ∃ m : Nat, n = m := ⟨n.toNat, by omega⟩
  have hf : fillB c = true := by rw [fill_side, Bool.or_eq_true, decide_eq_true_eq]; exact .inr (by first | exact h0 | simpa using h0)
  have e : putB s (m : Int) c = putS s m c := by
    unfold putB
    rw [if_pos ⟨hb, sqI_true (by omega), hf⟩, Int.toNat_natCast]
  have h2 := put_is_board hb m c hc hf
  have h3 := att_where (s := s) (n := m) hc side
  rw [e]
  unfold attL
  rw [hb, h2, Int.toNat_natCast]
  split
  · unfold attN at h3
    unfold trues
    rw [h3]
  · rfl
set_option maxRecDepth 100000 in
set_option maxHeartbeats 8000000 in
theorem good (s : ByteArray) (n : Int) (c : Nat) (w : World) (hT : Tab w) (hs : s.size ≤ 200) (hb : isB s = true) (h0 : 0 ≤ n) (h1 : n ≤ 89) (d : Int) (hdd : sideN c = d) (h : 0 ≤ d) (hc : c < 256) : Calls Tryd.prog 14 #[.string s, .int .i64 n, .int .u8 (c : Int)] w (Gives w (.bool true)) := by
  unfold Gives
  have hd : decide (200 < (s.size : Int)) = false := by simp; omega
  clear hs
  obtain ⟨t, ht⟩ : ∃ t, putB s n c = t := ⟨_, rfl⟩
  obtain ⟨l0, hl0⟩ : ∃ l, attL s n 0 = l := ⟨_, rfl⟩
  obtain ⟨l1, hl1⟩ : ∃ l, attL s n 1 = l := ⟨_, rfl⟩
  have AA0 := Lib.hid hl0
  have AA1 := Lib.hid hl1
  have B0 : Hid (attL t n 0 = l0) := by show _ = _; rw [← ht, where_att hb ⟨h0, h1⟩ hc (by omega), hl0]
  have B1 : Hid (attL t n 1 = l1) := by show _ = _; rw [← ht, where_att hb ⟨h0, h1⟩ hc (by omega), hl1]
  have m0 : l0.length ≤ 1000000 := by have := att_len s n 0; rw [hl0] at this; omega
  have m1 : l1.length ≤ 1000000 := by have := att_len s n 1; rw [hl1] at this; omega
  have B := Lib.hid hb
  have D := Lib.hid hdd
  have T := Lib.hid ht
  clear hb hdd hl0 hl1 ht
  go_enter Tryd.func14, Tryd.ntmps14
  go_wp2_with fail
  refine (is_is s true _ B.out).mono ?_
  rintro e w1 ⟨rfl, rfl⟩
  go_wp2_with fail
  refine (rside_is c d _ D.out).mono ?_
  rintro e w1 ⟨rfl, rfl⟩
  go_wp2_with fail
  refine (put_as s t n c _ hc T.out).mono ?_
  rintro e w1 ⟨rfl, hb⟩
  have hB := hb
  replace hT := hT.next hb
  clear hb
  go_wp2_with fail
  refine (att_as s n 0 l0 _ hT AA0.out).mono ?_
  rintro e w2 ⟨v, rfl, ho, hb⟩
  obtain ⟨A1, k1, rfl⟩ := own_slice ho
  have rd := Rd.own ho
  replace hT := hT.next hb
  replace hB := hB.trans (hb.mono hB.size)
  clear hb ho
  go_wp2_with fail
  refine (att_as t n 0 l0 _ hT B0.out).mono ?_
  rintro e w3 ⟨v, rfl, ho, hb⟩
  obtain ⟨A2, k2, rfl⟩ := own_slice ho
  have re := Rd.own ho
  replace rd := rd.next hb
  replace hT := hT.next hb
  replace hB := hB.trans (hb.mono hB.size)
  clear hb ho
  go_wp2_with fail
  refine (ints_true _ _ l0 _ _ _ _ rd re rfl m0).mono ?_
  rintro e w4 ⟨rfl, hb⟩
  replace hT := hT.next hb
  replace hB := hB.trans (hb.mono hB.size)
  clear hb rd re
  go_wp2_with fail
  refine (att_as s n 1 l1 _ hT AA1.out).mono ?_
  rintro e w2 ⟨v, rfl, ho, hb⟩
  obtain ⟨A1, k1, rfl⟩ := own_slice ho
  have rd := Rd.own ho
  replace hT := hT.next hb
  replace hB := hB.trans (hb.mono hB.size)
  clear hb ho
  go_wp2_with fail
  refine (att_as t n 1 l1 _ hT B1.out).mono ?_
  rintro e w3 ⟨v, rfl, ho, hb⟩
  obtain ⟨A2, k2, rfl⟩ := own_slice ho
  have re := Rd.own ho
  replace rd := rd.next hb
  replace hT := hT.next hb
  replace hB := hB.trans (hb.mono hB.size)
  clear hb ho
  go_wp2_with fail
  refine (ints_true _ _ l1 _ _ _ _ rd re rfl m1).mono ?_
  rintro e w4 ⟨rfl, hb⟩
  replace hT := hT.next hb
  replace hB := hB.trans (hb.mono hB.size)
  clear hb rd re
  go_wp2_with fail
  refine (live7_any _ hT).mono ?_
  rintro e w9 ⟨rfl, hb⟩
  go_wp2
  go_ret
  exact ⟨rfl, hB.trans (hb.mono hB.size)⟩
theorem walk (s : ByteArray) (n : Int) (c : Nat) (w : World) (hT : Tab w) (hc : c < 256) : Calls Tryd.prog 14 #[.string s, .int .i64 n, .int .u8 (c : Int)] w (Gives w (.bool true)) := by
  by_cases hs : s.size ≤ 200
  · cases hb : isB s
    · exact nob s n c w hT hs hb
    · by_cases h0 : n < 0
      · exact neg s n c w hT hs hb h0
      · by_cases h1 : 89 < n
        · exact far s n c w hT hs hb (by omega) h1
        · by_cases h2 : sideN c < 0
          · exact noside s n c w hT hs hb (by omega) (by omega) _ rfl h2
          · exact good s n c w hT hs hb (by omega) (by omega) _ rfl (by omega) hc
  · exact large s n c w hT (by omega)
end Go.Proofs.YtbfkkedcjodceaaDoor.cwhere
