/- The position of any text, or why it is none: the call answers true. -/
import Derived.Test.YtcnaejmhifedfaaGreatDoorFenL
namespace Go.Proofs.YtcnaejmhifedfaaGreatDoor.reads
open Go.RowKit Go.Shelf
open M (S)

theorem parse_form (t : List UInt8) : ∃ (S : ByteArray) (a b c k : Int), parseV t = .tuple #[.agg #[.string S, .int .i64 a, .int .i64 b, .int .i64 c], .int .i64 k] := by
  cases hf : F.formL t with
  | none => exact ⟨_, _, _, _, _, parse_none hf⟩
  | some p =>
    by_cases h : (checkP p : Int) = 0
    · exact ⟨_, _, _, _, _, parse_yes hf h⟩
    · exact ⟨_, _, _, _, _, parse_no hf h⟩
set_option maxHeartbeats 4000000 in
theorem large (s : ByteArray) (w : World) (hE : Env w) (hs : 500 < s.size) : Calls Tryz.prog 3 #[.string s] w (Gives w (.bool true)) := by
  unfold Gives
  have hd : decide (500 < (s.size : Int)) = true := by simp; omega
  go_enter Tryz.func3, Tryz.ntmps3
  go_wp2_with fail
  refine (live4_any _ hE).mono ?_
  rintro e w1 ⟨rfl, hb⟩
  go_wp2
  go_ret
  exact ⟨rfl, hb⟩
set_option maxRecDepth 100000 in
set_option maxHeartbeats 8000000 in
theorem small (s : ByteArray) (S : ByteArray) (a b c k : Int) (w : World) (hE : Env w) (hs : s.size ≤ 500) (P : Hid (parseV s.data.toList = .tuple #[.agg #[.string S, .int .i64 a, .int .i64 b, .int .i64 c], .int .i64 k])) : Calls Tryz.prog 3 #[.string s] w (Gives w (.bool true)) := by
  unfold Gives
  have hd : decide (500 < (s.size : Int)) = false := by simp; omega
  have hl : s.data.toList.length ≤ 500 := by simpa using hs
  have P1 : ∀ W, Env W → Calls Tryz.prog 11 #[.string s] W (Gives W (.tuple #[.agg #[.string S, .int .i64 a, .int .i64 b, .int .i64 c], .int .i64 k])) := fun W hW => by
    have := parse_is s.data.toList _ W hW (by omega) P.out
    rwa [bs_back] at this
  have R1 : ∀ W, Calls Tryz.prog 12 #[.string s] W (Gives W (.tuple #[.agg #[.string S, .int .i64 a, .int .i64 b, .int .i64 c], .int .i64 k])) := fun W => by
    have := rparse_any s.data.toList W (by omega)
    rwa [bs_back, P.out] at this
  have HP := Lib.hid P1
  have HR := Lib.hid R1
  clear P1 R1 hl
  go_enter Tryz.func3, Tryz.ntmps3
  go_wp2_with fail
  refine (HP.out _ hE).mono ?_
  rintro e w1 ⟨rfl, hb⟩
  replace hE := hE.next hb
  have hB := hb
  clear hb
  go_wp2_with fail
  have hA : Below w1.heap.size w1 (w1.alloc (.cells #[.string S, .int .i64 a, .int .i64 b, .int .i64 c] 24)) := (by repeat (first | exact Below.refl _ _ | (refine Below.setCell ?_ (by first | omega | (simp; done) | (simp; omega) | (simp at *; omega)) _) | (refine Below.alloc ?_ (by first | omega | (simp; done) | (simp; omega) | (simp at *; omega)) _) | refine Below.drew ?_ | (refine below_drewN ?_ _) | (refine Below.trans ?_ (Below.mono (by assumption) (by first | omega | (simp; done) | (simp; omega) | (simp at *; omega))))))
  refine (HR.out _).mono ?_
  rintro e w2 ⟨rfl, hb⟩
  have bA := (Blk.new w1 24 #[.string S, .int .i64 a, .int .i64 b, .int .i64 c] rfl).next hb
  replace hE := (hE.next hA).next hb
  replace hB := (hB.trans (hA.mono hB.size)).trans (hb.mono (Nat.le_trans hB.size hA.size))
  clear hb hA
  obtain ⟨a0, a1, a2, a3⟩ := pos_cells bA
  have hlt := bA.lt
  have hA : Below w2.heap.size w2 (w2.alloc (.cells #[.string S, .int .i64 a, .int .i64 b, .int .i64 c] 24)) := (by repeat (first | exact Below.refl _ _ | (refine Below.setCell ?_ (by first | omega | (simp; done) | (simp; omega) | (simp at *; omega)) _) | (refine Below.alloc ?_ (by first | omega | (simp; done) | (simp; omega) | (simp at *; omega)) _) | refine Below.drew ?_ | (refine below_drewN ?_ _) | (refine Below.trans ?_ (Below.mono (by assumption) (by first | omega | (simp; done) | (simp; omega) | (simp at *; omega))))))
  have HA := Lib.hid hA
  clear hA bA
  go_wp2_with fail
  refine (live4_any _ (hE.next HA.out)).mono ?_
  rintro e w3 ⟨rfl, hb⟩
  go_wp2
  go_ret
  exact ⟨rfl, (hB.trans (HA.out.mono hB.size)).trans (hb.mono (Nat.le_trans hB.size HA.out.size))⟩
theorem walk (s : ByteArray) (w : World) (hE : Env w) : Calls Tryz.prog 3 #[.string s] w (Gives w (.bool true)) := by
  by_cases hs : s.size ≤ 500
  · obtain ⟨S, a, b, c, k, hp⟩ := parse_form s.data.toList
    exact small s S a b c k w hE hs hp
  · exact large s w hE (by omega)
end Go.Proofs.YtcnaejmhifedfaaGreatDoor.reads
