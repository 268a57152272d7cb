/- What is read, and printed, is read as the same, and printed as the same: the call answers true. -/
import Derived.Test.YtcnaejmhifedfaaGreatDoorFenL
import Derived.Test.YtcnaejmhifedfaaGreatDoorFenG
namespace Go.Proofs.YtcnaejmhifedfaaGreatDoor.again
open Go.RowKit Go.Shelf
open M (S)

set_option maxHeartbeats 4000000 in
theorem large (s : ByteArray) (w : World) (hE : Env w) (hs : 500 < s.size) : Calls Tryz.prog 6 #[.string s] w (Gives w (.bool true)) := by
  unfold Gives
  have hd : decide (500 < (s.size : Int)) = true := by simp; omega
  go_enter Tryz.func6, Tryz.ntmps6
  go_wp2_with fail
  refine (live4_any _ hE).mono ?_
  rintro e w1 ⟨rfl, hb⟩
  go_wp2
  go_ret
  exact ⟨rfl, hb⟩
set_option maxRecDepth 100000 in
set_option maxHeartbeats 8000000 in
theorem bad (s : ByteArray) (k : Int) (w : World) (hE : Env w) (hs : s.size ≤ 500) (hV : parseV s.data.toList = .tuple #[posZ, .int .i64 k]) (hk : (k != 0) = true) : Calls Tryz.prog 6 #[.string s] w (Gives w (.bool true)) := by
  unfold Gives
  have hd : decide (500 < (s.size : Int)) = false := by simp; omega
  have hl : s.data.toList.length ≤ 500 := by simpa using hs
  have P1 : ∀ W, Env W → Calls Tryz.prog 11 #[.string s] W (Gives W (.tuple #[.agg #[.string ⟨#[]⟩, .int .i64 0, .int .i64 0, .int .i64 0], .int .i64 k])) := fun W hW => by
    have := parse_is s.data.toList _ W hW (by omega) hV
    rwa [bs_back] at this
  have HP := Lib.hid P1
  clear P1 hl hV
  go_enter Tryz.func6, Tryz.ntmps6
  go_wp2_with fail
  refine (HP.out _ hE).mono ?_
  rintro e w1 ⟨rfl, hb⟩
  have hA : Below w1.heap.size w1 (w1.alloc (.cells #[.string ⟨#[]⟩, .int .i64 0, .int .i64 0, .int .i64 0] 24)) := (by repeat (first | exact Below.refl _ _ | (refine Below.setCell ?_ (by first | omega | (simp; done) | (simp; omega) | (simp at *; omega)) _) | (refine Below.alloc ?_ (by first | omega | (simp; done) | (simp; omega) | (simp at *; omega)) _) | refine Below.drew ?_ | (refine below_drewN ?_ _) | (refine Below.trans ?_ (Below.mono (by assumption) (by first | omega | (simp; done) | (simp; omega) | (simp at *; omega))))))
  replace hE := (hE.next hb).next hA
  have hB := hb.trans (hA.mono hb.size)
  clear hb hA
  go_wp2_with fail
  refine (live4_any _ hE).mono ?_
  rintro e w9 ⟨rfl, hb⟩
  go_wp2
  go_ret
  exact ⟨rfl, hB.trans (hb.mono hB.size)⟩
set_option maxRecDepth 100000 in
set_option maxHeartbeats 8000000 in
theorem good (s S : ByteArray) (a b c : Int) (L : List UInt8) (w : World) (hE : Env w) (hs : s.size ≤ 500) (hV : parseV s.data.toList = .tuple #[.agg #[.string S, .int .i64 a, .int .i64 b, .int .i64 c], .int .i64 0]) (hc : (checkN S a b c : Int) = 0) (hL : F.printL (posP S a b c) = L) (hW : parseV L = .tuple #[.agg #[.string S, .int .i64 a, .int .i64 b, .int .i64 c], .int .i64 0]) (hl : L.length ≤ 1000) : Calls Tryz.prog 6 #[.string s] w (Gives w (.bool true)) := by
  unfold Gives
  have hd : decide (500 < (s.size : Int)) = false := by simp; omega
  have hl5 : s.data.toList.length ≤ 500 := by simpa using hs
  have P1 : ∀ W, Env W → Calls Tryz.prog 11 #[.string s] W (Gives W (.tuple #[.agg #[.string S, .int .i64 a, .int .i64 b, .int .i64 c], .int .i64 0])) := fun W hW => by
    have := parse_is s.data.toList _ W hW (by omega) hV
    rwa [bs_back] at this
  have HP := Lib.hid P1
  have P : Hid (printV S a b c = .tuple #[.string (bs L), .int .i64 0]) := by
    show _ = _
    rw [printV, if_pos hc, hL]
  have HW := Lib.hid hW
  have HC := Lib.hid hc
  clear P1 hl5 hV hW hL hc
  go_enter Tryz.func6, Tryz.ntmps6
  go_wp2_with fail
  refine (HP.out _ hE).mono ?_
  rintro e w1 ⟨rfl, hb⟩
  have hA : Below w1.heap.size w1 (w1.alloc (.cells #[.string S, .int .i64 a, .int .i64 b, .int .i64 c] 24)) := (by repeat (first | exact Below.refl _ _ | (refine Below.setCell ?_ (by first | omega | (simp; done) | (simp; omega) | (simp at *; omega)) _) | (refine Below.alloc ?_ (by first | omega | (simp; done) | (simp; omega) | (simp at *; omega)) _) | refine Below.drew ?_ | (refine below_drewN ?_ _) | (refine Below.trans ?_ (Below.mono (by assumption) (by first | omega | (simp; done) | (simp; omega) | (simp at *; omega))))))
  have bP := Blk.new w1 24 #[.string S, .int .i64 a, .int .i64 b, .int .i64 c] rfl
  replace hE := (hE.next hb).next hA
  have hB := hb.trans (hA.mono hb.size)
  clear hb hA
  go_wp2_with fail
  refine (print_is S a b c _ _ hE P.out).mono ?_
  rintro e w2 ⟨rfl, hb⟩
  replace bP := bP.next hb
  replace hB := hB.trans (hb.mono hB.size)
  replace hE := hE.next hb
  clear hb
  obtain ⟨p0, p1, p2, p3⟩ := pos_cells bP
  have hlt := bP.lt
  go_wp2_with fail
  refine (parse_is L _ _ hE (by omega) HW.out).mono ?_
  clear p0 p1 p2 p3 hlt
  rintro e w3 ⟨rfl, hb⟩
  replace bP := bP.next hb
  replace hB := hB.trans (hb.mono hB.size)
  replace hE := hE.next hb
  clear hb
  obtain ⟨p0, p1, p2, p3⟩ := pos_cells bP
  have hlt := bP.lt
  have hA : Below w3.heap.size w3 (w3.alloc (.cells #[.string S, .int .i64 a, .int .i64 b, .int .i64 c] 24)) := (by repeat (first | exact Below.refl _ _ | (refine Below.setCell ?_ (by first | omega | (simp; done) | (simp; omega) | (simp at *; omega)) _) | (refine Below.alloc ?_ (by first | omega | (simp; done) | (simp; omega) | (simp at *; omega)) _) | refine Below.drew ?_ | (refine below_drewN ?_ _) | (refine Below.trans ?_ (Below.mono (by assumption) (by first | omega | (simp; done) | (simp; omega) | (simp at *; omega))))))
  have bQ := Blk.new w3 24 #[.string S, .int .i64 a, .int .i64 b, .int .i64 c] rfl
  replace bP := bP.next hA
  replace hE := hE.next hA
  replace hB := hB.trans (hA.mono hB.size)
  clear hA
  go_wp2_with fail
  refine (print_is S a b c _ _ hE P.out).mono ?_
  clear p0 p1 p2 p3 hlt
  rintro e w4 ⟨rfl, hb⟩
  replace bP := bP.next hb
  replace hB := hB.trans (hb.mono hB.size)
  replace hE := hE.next hb
  replace bQ := bQ.next hb
  clear hb
  obtain ⟨p0, p1, p2, p3⟩ := pos_cells bP
  obtain ⟨q0, q1, q2, q3⟩ := pos_cells bQ
  go_wp2_with fail
  refine (rcheck_is S a b c 0 _ HC.out).mono ?_
  clear p0 p1 p2 p3 q0 q1 q2 q3
  rintro e w5 ⟨rfl, hb⟩
  replace bP := bP.next hb
  replace hB := hB.trans (hb.mono hB.size)
  replace hE := hE.next hb
  clear hb
  go_wp2_with fail
  refine (live4_any _ hE).mono ?_
  rintro e w9 ⟨rfl, hb⟩
  go_wp2
  go_ret
  exact ⟨rfl, hB.trans (hb.mono hB.size)⟩
theorem walk (s : ByteArray) (w : World) (hE : Env w) : Calls Tryz.prog 6 #[.string s] w (Gives w (.bool true)) := by
  by_cases hs : s.size ≤ 500
  · cases hf : F.formL s.data.toList with
    | none => exact bad s 6 w hE hs (parse_none hf) rfl
    | some p =>
      by_cases h : (checkP p : Int) = 0
      · have hc : (checkN (bs p.cells) p.side p.clock p.full : Int) = 0 := h
        exact good s (bs p.cells) p.side p.clock p.full _ w hE hs (parse_yes hf h) hc rfl (goodV hc) (print_len _ _ _ _ hc)
      · exact bad s _ w hE hs (parse_no hf h) (by rw [bne_iff_ne]; exact h)
  · exact large s w hE (by omega)
end Go.Proofs.YtcnaejmhifedfaaGreatDoor.again
