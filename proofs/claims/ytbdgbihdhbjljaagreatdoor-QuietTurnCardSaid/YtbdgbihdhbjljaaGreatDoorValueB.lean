/- What the calls of package value answer, for all inputs. -/
import Derived.Test.YtbdgbihdhbjljaaGreatDoorBoardM
import Derived.Test.YtbdgbihdhbjljaaGreatDoorPlaceM
import Derived.Test.YtbdgbihdhbjljaaGreatDoorValueA
import Derived.Lib.Bytealg
import Derived.Laws.EntriesVeiled
namespace Go.Proofs.YtbdgbihdhbjljaaGreatDoor
open Go.RowKit Go.Shelf
open M (S)
attribute [local go_sem] Oper.semAt_some

theorem kindN_cases (c : Nat) : kindN c = 0 ∨ kindN c = 75 ∨ kindN c = 65 ∨ kindN c = 66 ∨ kindN c = 78 ∨ kindN c = 82 ∨ kindN c = 67 ∨ kindN c = 80 := by
  rcases byte_cases c with ⟨kb, kr, _⟩ | rfl | rfl | rfl | rfl | rfl | rfl | rfl | rfl | rfl | rfl | rfl | rfl | rfl | rfl
  · left; simp [kindN, kb, kr]
  all_goals decide
theorem kindV_bd (c : Nat) : 0 ≤ kindV c ∧ kindV c ≤ 200 := by
  rcases kindN_cases c with h | h | h | h | h | h | h | h <;> (unfold kindV; rw [h]; decide)
/-- How many files from the middle one. -/
def asideI (n : Int) : Int := max (n % 9 - 4) (4 - n % 9)
theorem aside_bd (n : Int) : 0 ≤ asideI n ∧ asideI n ≤ 4 := by unfold asideI; omega
theorem seen_bd {n : Int} (h : 0 ≤ n ∧ n < 90) (side : Int) : 0 ≤ seenR n side ∧ seenR n side ≤ 9 := by unfold seenR; split <;> omega
theorem more_bd (c : Nat) {n : Int} (h : 0 ≤ n ∧ n < 90) : 0 ≤ moreV c n ∧ moreV c n ≤ 50 := by
  have h1 := seen_bd h (sideN c)
  unfold moreV
  split
  · split
    · split <;> omega
    · omega
  · split <;> omega
theorem piece_bd (c : Nat) (n : Int) : 0 ≤ pieceV c n ∧ pieceV c n ≤ 250 := by
  unfold pieceV
  split
  · omega
  · rename_i h
    have h1 := kindV_bd c
    have h2 := more_bd c (n := n) (by omega)
    omega
theorem file_mod {n : Int} (h : 0 ≤ n ∧ n < 90) : fileI n = n % 9 := by unfold fileI; rw [if_pos h]
theorem rank_div {n : Int} (h : 0 ≤ n ∧ n < 90) : rankI n = n / 9 := by unfold rankI; rw [if_pos h]
theorem file_no {n : Int} (h : ¬ (0 ≤ n ∧ n < 90)) : fileI n = -1 := by unfold fileI; rw [if_neg h]
theorem piece_off {c : Nat} {n : Int} (h : ¬ (0 ≤ n ∧ n < 90)) : pieceV c n = 0 := by unfold pieceV; rw [if_pos (by omega)]
theorem piece_on {c : Nat} {n : Int} (h : 0 ≤ n ∧ n < 90) (hs : ¬ sideN c < 0) : pieceV c n = kindV c + moreV c n := by unfold pieceV; rw [if_neg (by omega)]
theorem vindex_is (k : Nat) (i : Int) (w : World) (h : Lib.indexByte kindsS.data.toList ((k : Int)).toNat.toUInt8 = i) : Calls Tryz.prog 167 #[.string ⟨#[75, 65, 66, 78, 82, 67, 80]⟩, .int .u8 (k : Int)] w (Says w (.int .i64 i)) := by subst h; exact indexByte_any kindsS (k : Int) w
theorem kinds_0 (W : World) : (Instr.index 174 (.agg #[.int .i64 0, .int .i64 40, .int .i64 40, .int .i64 90, .int .i64 200, .int .i64 95, .int .i64 30]) (.int .i64 0)).run Tryz.prog W = .ok (.int .i64 0) W := by kernel_rfl
theorem kinds_1 (W : World) : (Instr.index 174 (.agg #[.int .i64 0, .int .i64 40, .int .i64 40, .int .i64 90, .int .i64 200, .int .i64 95, .int .i64 30]) (.int .i64 1)).run Tryz.prog W = .ok (.int .i64 40) W := by kernel_rfl
theorem kinds_2 (W : World) : (Instr.index 174 (.agg #[.int .i64 0, .int .i64 40, .int .i64 40, .int .i64 90, .int .i64 200, .int .i64 95, .int .i64 30]) (.int .i64 2)).run Tryz.prog W = .ok (.int .i64 40) W := by kernel_rfl
theorem kinds_3 (W : World) : (Instr.index 174 (.agg #[.int .i64 0, .int .i64 40, .int .i64 40, .int .i64 90, .int .i64 200, .int .i64 95, .int .i64 30]) (.int .i64 3)).run Tryz.prog W = .ok (.int .i64 90) W := by kernel_rfl
theorem kinds_4 (W : World) : (Instr.index 174 (.agg #[.int .i64 0, .int .i64 40, .int .i64 40, .int .i64 90, .int .i64 200, .int .i64 95, .int .i64 30]) (.int .i64 4)).run Tryz.prog W = .ok (.int .i64 200) W := by kernel_rfl
theorem kinds_5 (W : World) : (Instr.index 174 (.agg #[.int .i64 0, .int .i64 40, .int .i64 40, .int .i64 90, .int .i64 200, .int .i64 95, .int .i64 30]) (.int .i64 5)).run Tryz.prog W = .ok (.int .i64 95) W := by kernel_rfl
theorem kinds_6 (W : World) : (Instr.index 174 (.agg #[.int .i64 0, .int .i64 40, .int .i64 40, .int .i64 90, .int .i64 200, .int .i64 95, .int .i64 30]) (.int .i64 6)).run Tryz.prog W = .ok (.int .i64 30) W := by kernel_rfl
set_option maxHeartbeats 1000000 in
theorem vkind_any (c : Nat) (w : World) : Calls Tryz.prog 184 #[.int .u8 (c : Int)] w (Says w (.int .i64 (kindV c))) := by
  unfold Says
  rcases kindN_cases c with h | h | h | h | h | h | h | h
  · have KV : Hid (kindV c = 0) := by show _ = _; unfold kindV; rw [h]; rfl
    have H := Lib.hid h
    have hix := kinds_0
    clear h
    go_enter Tryz.func184, Tryz.ntmps184
    go_wp2_with fail
    refine (kind_is c 0 _ H.out).mono ?_
    rintro e w1 ⟨rfl, rfl⟩
    go_wp2_with fail
    refine (vindex_is 0 (-1) _ rfl).mono ?_
    rintro e w2 ⟨rfl, rfl⟩
    go_wp2
    go_ret
    exact ⟨by rw [KV.out]; rfl, rfl⟩
  · have KV : Hid (kindV c = 0) := by show _ = _; unfold kindV; rw [h]; rfl
    have H := Lib.hid h
    have hix := kinds_0
    clear h
    go_enter Tryz.func184, Tryz.ntmps184
    go_wp2_with fail
    refine (kind_is c 75 _ H.out).mono ?_
    rintro e w1 ⟨rfl, rfl⟩
    go_wp2_with fail
    refine (vindex_is 75 (0) _ rfl).mono ?_
    rintro e w2 ⟨rfl, rfl⟩
    go_wp2
    go_ret
    exact ⟨by rw [KV.out]; rfl, rfl⟩
  · have KV : Hid (kindV c = 40) := by show _ = _; unfold kindV; rw [h]; rfl
    have H := Lib.hid h
    have hix := kinds_1
    clear h
    go_enter Tryz.func184, Tryz.ntmps184
    go_wp2_with fail
    refine (kind_is c 65 _ H.out).mono ?_
    rintro e w1 ⟨rfl, rfl⟩
    go_wp2_with fail
    refine (vindex_is 65 (1) _ rfl).mono ?_
    rintro e w2 ⟨rfl, rfl⟩
    go_wp2
    go_ret
    exact ⟨by rw [KV.out]; rfl, rfl⟩
  · have KV : Hid (kindV c = 40) := by show _ = _; unfold kindV; rw [h]; rfl
    have H := Lib.hid h
    have hix := kinds_2
    clear h
    go_enter Tryz.func184, Tryz.ntmps184
    go_wp2_with fail
    refine (kind_is c 66 _ H.out).mono ?_
    rintro e w1 ⟨rfl, rfl⟩
    go_wp2_with fail
    refine (vindex_is 66 (2) _ rfl).mono ?_
    rintro e w2 ⟨rfl, rfl⟩
    go_wp2
    go_ret
    exact ⟨by rw [KV.out]; rfl, rfl⟩
  · have KV : Hid (kindV c = 90) := by show _ = _; unfold kindV; rw [h]; rfl
    have H := Lib.hid h
    have hix := kinds_3
    clear h
    go_enter Tryz.func184, Tryz.ntmps184
    go_wp2_with fail
    refine (kind_is c 78 _ H.out).mono ?_
    rintro e w1 ⟨rfl, rfl⟩
    go_wp2_with fail
    refine (vindex_is 78 (3) _ rfl).mono ?_
    rintro e w2 ⟨rfl, rfl⟩
    go_wp2
    go_ret
    exact ⟨by rw [KV.out]; rfl, rfl⟩
  · have KV : Hid (kindV c = 200) := by show _ = _; unfold kindV; rw [h]; rfl
    have H := Lib.hid h
    have hix := kinds_4
    clear h
    go_enter Tryz.func184, Tryz.ntmps184
    go_wp2_with fail
    refine (kind_is c 82 _ H.out).mono ?_
    rintro e w1 ⟨rfl, rfl⟩
    go_wp2_with fail
    refine (vindex_is 82 (4) _ rfl).mono ?_
    rintro e w2 ⟨rfl, rfl⟩
    go_wp2
    go_ret
    exact ⟨by rw [KV.out]; rfl, rfl⟩
  · have KV : Hid (kindV c = 95) := by show _ = _; unfold kindV; rw [h]; rfl
    have H := Lib.hid h
    have hix := kinds_5
    clear h
    go_enter Tryz.func184, Tryz.ntmps184
    go_wp2_with fail
    refine (kind_is c 67 _ H.out).mono ?_
    rintro e w1 ⟨rfl, rfl⟩
    go_wp2_with fail
    refine (vindex_is 67 (5) _ rfl).mono ?_
    rintro e w2 ⟨rfl, rfl⟩
    go_wp2
    go_ret
    exact ⟨by rw [KV.out]; rfl, rfl⟩
  · have KV : Hid (kindV c = 30) := by show _ = _; unfold kindV; rw [h]; rfl
    have H := Lib.hid h
    have hix := kinds_6
    clear h
    go_enter Tryz.func184, Tryz.ntmps184
    go_wp2_with fail
    refine (kind_is c 80 _ H.out).mono ?_
    rintro e w1 ⟨rfl, rfl⟩
    go_wp2_with fail
    refine (vindex_is 80 (6) _ rfl).mono ?_
    rintro e w2 ⟨rfl, rfl⟩
    go_wp2
    go_ret
    exact ⟨by rw [KV.out]; rfl, rfl⟩
theorem vkind_is (c : Nat) (v : Int) (w : World) (h : kindV c = v) : Calls Tryz.prog 184 #[.int .u8 (c : Int)] w (Says w (.int .i64 v)) := by subst h; exact vkind_any c w
set_option maxHeartbeats 1000000 in
theorem aside_is (n v : Int) (w : World) (h : 0 ≤ n ∧ n < 90) (hv : asideI n = v) : Calls Tryz.prog 187 #[.int .i64 n] w (Says w (.int .i64 v)) := by
  unfold Says
  have hf := file_mod h
  have hc : n % 9 = 0 ∨ n % 9 = 1 ∨ n % 9 = 2 ∨ n % 9 = 3 ∨ n % 9 = 4 ∨ n % 9 = 5 ∨ n % 9 = 6 ∨ n % 9 = 7 ∨ n % 9 = 8 := by omega
  rcases hc with e | e | e | e | e | e | e | e | e
  · have KV : Hid (v = 4) := by show _ = _; rw [← hv]; unfold asideI; omega
    have H : Hid (fileI n = 0) := by show _ = _; rw [hf, e]
    clear e hf hv h
    go_enter Tryz.func187, Tryz.ntmps187
    go_wp2_with fail
    refine (file_is n 0 _ H.out).mono ?_
    rintro e w1 ⟨rfl, rfl⟩
    go_wp2
    go_ret
    exact ⟨by rw [KV.out]; rfl, rfl⟩
  · have KV : Hid (v = 3) := by show _ = _; rw [← hv]; unfold asideI; omega
    have H : Hid (fileI n = 1) := by show _ = _; rw [hf, e]
    clear e hf hv h
    go_enter Tryz.func187, Tryz.ntmps187
    go_wp2_with fail
    refine (file_is n 1 _ H.out).mono ?_
    rintro e w1 ⟨rfl, rfl⟩
    go_wp2
    go_ret
    exact ⟨by rw [KV.out]; rfl, rfl⟩
  · have KV : Hid (v = 2) := by show _ = _; rw [← hv]; unfold asideI; omega
    have H : Hid (fileI n = 2) := by show _ = _; rw [hf, e]
    clear e hf hv h
    go_enter Tryz.func187, Tryz.ntmps187
    go_wp2_with fail
    refine (file_is n 2 _ H.out).mono ?_
    rintro e w1 ⟨rfl, rfl⟩
    go_wp2
    go_ret
    exact ⟨by rw [KV.out]; rfl, rfl⟩
  · have KV : Hid (v = 1) := by show _ = _; rw [← hv]; unfold asideI; omega
    have H : Hid (fileI n = 3) := by show _ = _; rw [hf, e]
    clear e hf hv h
    go_enter Tryz.func187, Tryz.ntmps187
    go_wp2_with fail
    refine (file_is n 3 _ H.out).mono ?_
    rintro e w1 ⟨rfl, rfl⟩
    go_wp2
    go_ret
    exact ⟨by rw [KV.out]; rfl, rfl⟩
  · have KV : Hid (v = 0) := by show _ = _; rw [← hv]; unfold asideI; omega
    have H : Hid (fileI n = 4) := by show _ = _; rw [hf, e]
    clear e hf hv h
    go_enter Tryz.func187, Tryz.ntmps187
    go_wp2_with fail
    refine (file_is n 4 _ H.out).mono ?_
    rintro e w1 ⟨rfl, rfl⟩
    go_wp2
    go_ret
    exact ⟨by rw [KV.out]; rfl, rfl⟩
  · have KV : Hid (v = 1) := by show _ = _; rw [← hv]; unfold asideI; omega
    have H : Hid (fileI n = 5) := by show _ = _; rw [hf, e]
    clear e hf hv h
    go_enter Tryz.func187, Tryz.ntmps187
    go_wp2_with fail
    refine (file_is n 5 _ H.out).mono ?_
    rintro e w1 ⟨rfl, rfl⟩
    go_wp2
    go_ret
    exact ⟨by rw [KV.out]; rfl, rfl⟩
  · have KV : Hid (v = 2) := by show _ = _; rw [← hv]; unfold asideI; omega
    have H : Hid (fileI n = 6) := by show _ = _; rw [hf, e]
    clear e hf hv h
    go_enter Tryz.func187, Tryz.ntmps187
    go_wp2_with fail
    refine (file_is n 6 _ H.out).mono ?_
    rintro e w1 ⟨rfl, rfl⟩
    go_wp2
    go_ret
    exact ⟨by rw [KV.out]; rfl, rfl⟩
  · have KV : Hid (v = 3) := by show _ = _; rw [← hv]; unfold asideI; omega
    have H : Hid (fileI n = 7) := by show _ = _; rw [hf, e]
    clear e hf hv h
    go_enter Tryz.func187, Tryz.ntmps187
    go_wp2_with fail
    refine (file_is n 7 _ H.out).mono ?_
    rintro e w1 ⟨rfl, rfl⟩
    go_wp2
    go_ret
    exact ⟨by rw [KV.out]; rfl, rfl⟩
  · have KV : Hid (v = 4) := by show _ = _; rw [← hv]; unfold asideI; omega
    have H : Hid (fileI n = 8) := by show _ = _; rw [hf, e]
    clear e hf hv h
    go_enter Tryz.func187, Tryz.ntmps187
    go_wp2_with fail
    refine (file_is n 8 _ H.out).mono ?_
    rintro e w1 ⟨rfl, rfl⟩
    go_wp2
    go_ret
    exact ⟨by rw [KV.out]; rfl, rfl⟩
set_option maxHeartbeats 1000000 in
theorem vrank_is (n side v : Int) (w : World) (h : 0 ≤ n ∧ n < 90) (hs : side = 0 ∨ side = 1) (hv : seenR n side = v) : Calls Tryz.prog 186 #[.int .i64 n, .int .i64 side] w (Says w (.int .i64 v)) := by
  unfold Says
  have hf := rank_div h
  rcases hs with rfl | rfl
  · have H : Hid (rankI n = v) := by show _ = _; rw [hf, ← hv]; rfl
    clear hf hv h
    go_enter Tryz.func186, Tryz.ntmps186
    go_wp2_with fail
    refine (rank_is n v _ H.out).mono ?_
    rintro e w1 ⟨rfl, rfl⟩
    go_wp2
    go_ret
    exact ⟨rfl, rfl⟩
  · obtain ⟨r, hr⟩ : ∃ r, rankI n = r := ⟨_, rfl⟩
    have K9 : Hid (9 - r = v) := by show _ = _; rw [← hr, hf, ← hv]; rfl
    have b0 : 0 ≤ r := by rw [← hr, hf]; omega
    have b1 : r ≤ 9 := by rw [← hr, hf]; omega
    have H := Lib.hid hr
    clear hf hv h hr
    go_enter Tryz.func186, Tryz.ntmps186
    go_wp2_with fail
    refine (rank_is n r _ H.out).mono ?_
    rintro e w1 ⟨rfl, rfl⟩
    go_wp2
    go_ret
    exact ⟨by rw [← K9.out]; try rfl, rfl⟩
/-- What a pawn is worth more. -/
def pawnV (n side : Int) : Int := if overB n side then (if 3 ≤ n % 9 ∧ n % 9 ≤ 5 then 50 else 40) else 0
theorem pawnV_bd (n side : Int) : 0 ≤ pawnV n side ∧ pawnV n side ≤ 50 := by unfold pawnV; split <;> (try split) <;> omega
set_option maxHeartbeats 1000000 in
theorem pawn_is (n side v : Int) (w : World) (h : 0 ≤ n ∧ n < 90) (hv : pawnV n side = v) : Calls Tryz.prog 185 #[.int .i64 n, .int .i64 side] w (Gives w (.int .i64 v)) := by
  unfold Gives
  cases ho : overB n side
  · have KV : Hid (v = 0) := by show _ = _; rw [← hv, pawnV, ho]; rfl
    have H := Lib.hid ho
    clear ho hv
    go_enter Tryz.func185, Tryz.ntmps185
    go_wp2_with fail
    refine (over_is n side false _ H.out).mono ?_
    rintro e w1 ⟨rfl, hb⟩
    go_wp2_with fail
    go_ret
    exact ⟨by rw [KV.out]; rfl, hb⟩
  · obtain ⟨a, ha⟩ : ∃ a, asideI n = a := ⟨_, rfl⟩
    have H := Lib.hid ho
    have HA := Lib.hid ha
    have h' := Lib.hid h
    by_cases hc : 1 < a
    · have KV : Hid (v = 40) := by
        show _ = _
        rw [← hv, pawnV, ho, if_pos rfl, if_neg]
        unfold asideI at ha
        omega
      have hd : decide (1 < a) = true := by simpa using hc
      clear ho hv ha h
      go_enter Tryz.func185, Tryz.ntmps185
      go_wp2_with fail
      refine (over_is n side true _ H.out).mono ?_
      rintro e w1 ⟨rfl, hb⟩
      go_wp2_with fail
      refine (aside_is n a _ h'.out HA.out).mono ?_
      rintro e w2 ⟨rfl, rfl⟩
      go_wp2_with fail
      go_ret
      exact ⟨by rw [KV.out]; rfl, hb⟩
    · have KV : Hid (v = 50) := by
        show _ = _
        rw [← hv, pawnV, ho, if_pos rfl, if_pos]
        unfold asideI at ha
        omega
      have hd : decide (1 < a) = false := by simpa using hc
      clear ho hv ha h
      go_enter Tryz.func185, Tryz.ntmps185
      go_wp2_with fail
      refine (over_is n side true _ H.out).mono ?_
      rintro e w1 ⟨rfl, hb⟩
      go_wp2_with fail
      refine (aside_is n a _ h'.out HA.out).mono ?_
      rintro e w2 ⟨rfl, rfl⟩
      go_wp2_with fail
      go_ret
      exact ⟨by rw [KV.out]; rfl, hb⟩
/-- The sum over squares. -/
def sumP (s : ByteArray) : List Nat → Int
  | [] => 0
  | k :: l => pieceV (bAt s k) (k : Int) + sumP s l
theorem sumP_app (s : ByteArray) : ∀ a b, sumP s (a ++ b) = sumP s a + sumP s b
  | [], b => by simp [sumP]
  | k :: a, b => by rw [List.cons_append, sumP, sumP, sumP_app s a b]; omega
theorem sumP_bd (s : ByteArray) : ∀ l : List Nat, 0 ≤ sumP s l ∧ sumP s l ≤ 250 * (l.length : Int)
  | [] => by simp [sumP]
  | k :: l => by
    have h1 := sumP_bd s l
    have h2 := piece_bd (bAt s k) (k : Int)
    rw [sumP, List.length_cons]
    omega
/-- The squares of a side's pieces. -/
def pcsN (s : ByteArray) (side : Int) : List Nat := (List.range 90).filter fun k => ofSide (bAt s k) side
theorem pcsN_len (s : ByteArray) (side : Int) : (pcsN s side).length ≤ 90 := Nat.le_trans (List.length_filter_le _ _) (by simp)
theorem pcsN_list {s : ByteArray} {side : Int} (h : isB s = true) : piecesL s side = (pcsN s side).map fun k : Nat => (k : Int) := by unfold piecesL; rw [if_pos h]; rfl
theorem pcsN_lt {s : ByteArray} {side : Int} {t : Nat} (h : t < (pcsN s side).length) : (pcsN s side)[t] < 90 := List.mem_range.1 (List.mem_filter.1 (List.getElem_mem h)).1
theorem sumP_take (s : ByteArray) (l : List Nat) {t : Nat} (h : t < l.length) : sumP s (l.take (t + 1)) = sumP s (l.take t) + pieceV (bAt s l[t]) (l[t] : Int) := by
  rw [List.take_succ_eq_append_getElem h, sumP_app]
  simp [sumP]
theorem sumP_filter (s : ByteArray) (p : Nat → Bool) : ∀ n, sumP s ((List.range n).filter p) = vsum (fun k => if p k then pieceV (bAt s k) (k : Int) else 0) n
  | 0 => rfl
  | n + 1 => by
    rw [List.range_succ, List.filter_append, sumP_app, sumP_filter s p n, vsum]
    cases hp : p n <;> simp [hp, sumP]
theorem vsum_sub {f g h : Nat → Int} : ∀ n, (∀ k, k < n → h k = f k - g k) → vsum h n = vsum f n - vsum g n
  | 0, _ => rfl
  | n + 1, e => by rw [vsum, vsum, vsum, vsum_sub n fun k hk => e k (by omega), e n (by omega)]; omega
theorem red_black {s : ByteArray} (_ : isB s = true) : vsum (termV s 0) 90 = sumP s (pcsN s 0) - sumP s (pcsN s 1) := by
  unfold pcsN
  rw [sumP_filter, sumP_filter]
  refine vsum_sub 90 fun k _ => ?_
  unfold termV
  rw [of_side (by decide), of_side (by decide)]
  by_cases h0 : sideN (bAt s k) < 0
  · rw [piece_empty h0]
    simp
  · rcases side_lt h0 with e | e <;> rw [e] <;> simp
theorem term_side (s : ByteArray) (side : Int) (k : Nat) : termV s side k = if side = 0 then termV s 0 k else -(termV s 0 k) := by
  unfold termV
  by_cases h : side = 0
  · subst h; rw [if_pos rfl]
  · have e : (side == 0) = false := by simpa using h
    rw [if_neg h, e]
    cases hs : (sideN (bAt s k) == 0) <;> simp
theorem of_lead {s : ByteArray} (hs : isB s = true) (side : Int) : ofV s side = if side = 0 then sumP s (pcsN s 0) - sumP s (pcsN s 1) else -(sumP s (pcsN s 0) - sumP s (pcsN s 1)) := by
  unfold ofV
  rw [if_pos hs, ← red_black hs]
  split
  · rename_i h; subst h; rfl
  · rename_i h
    exact vsum_neg 90 fun k _ => by rw [term_side, if_neg h]
theorem of_bd (s : ByteArray) (side : Int) : -25000 ≤ ofV s side ∧ ofV s side ≤ 25000 := by
  cases hs : isB s
  · unfold ofV; rw [hs]; simp
  · rw [of_lead hs]
    have h1 := sumP_bd s (pcsN s 0)
    have h2 := sumP_bd s (pcsN s 1)
    have h3 := pcsN_len s 0
    have h4 := pcsN_len s 1
    split <;> omega
theorem side_01 {c : Nat} (h : ¬ sideN c < 0) : sideN c = 0 ∨ sideN c = 1 := side_lt h
set_option maxHeartbeats 1000000 in
theorem vpiece_side (c : Nat) (n : Int) (w : World) (h : sideN c < 0) : Calls Tryz.prog 144 #[.int .u8 (c : Int), .int .i64 n] w (Says w (.int .i64 0)) := by
  unfold Says
  have h1 : sideN c = -1 := by have := sideN_ge c; omega
  have H := Lib.hid h1
  clear h h1
  go_enter Tryz.func144, Tryz.ntmps144
  go_wp2_with fail
  refine (side_is c (-1) _ H.out).mono ?_
  rintro e w1 ⟨rfl, rfl⟩
  go_wp2_with fail
  go_ret
  exact ⟨rfl, rfl⟩
set_option maxHeartbeats 1000000 in
theorem vpiece_off (c : Nat) (n : Int) (w : World) (hs : ¬ sideN c < 0) (hn : ¬ (0 ≤ n ∧ n < 90)) : Calls Tryz.prog 144 #[.int .u8 (c : Int), .int .i64 n] w (Says w (.int .i64 0)) := by
  unfold Says
  obtain ⟨sd, hsd⟩ : ∃ sd, sideN c = sd := ⟨_, rfl⟩
  have d0 : decide (sd < 0) = false := by rw [← hsd]; simpa using hs
  have H := Lib.hid hsd
  have HN := Lib.hid (file_no hn)
  clear hs hn hsd
  go_enter Tryz.func144, Tryz.ntmps144
  go_wp2_with fail
  refine (side_is c sd _ H.out).mono ?_
  rintro e w1 ⟨rfl, rfl⟩
  go_wp2_with fail
  refine (file_is n (-1) _ HN.out).mono ?_
  rintro e w1 ⟨rfl, rfl⟩
  go_wp2_with fail
  go_ret
  exact ⟨rfl, rfl⟩
set_option maxHeartbeats 1000000 in
theorem vpiece_75 (c : Nat) (n sd f : Int) (w : World) (hk : kindN c = 75) (hs : sideN c = sd) (h01 : sd = 0 ∨ sd = 1) (hn : 0 ≤ n ∧ n < 90) (hf : fileI n = f) : Calls Tryz.prog 144 #[.int .u8 (c : Int), .int .i64 n] w (Gives w (.int .i64 (pieceV c n))) := by
  unfold Gives
  have hp : pieceV c n = kindV c + moreV c n := piece_on hn (by rw [hs]; omega)
  have hkv : kindV c = 0 := by unfold kindV; rw [hk]; rfl
  have d0 : decide (sd < 0) = false := by rcases h01 with rfl | rfl <;> rfl
  have d1 : decide (f < 0) = false := by rw [← hf, file_mod hn, decide_eq_false_iff_not]; omega
  have HK := Lib.hid hk
  have HS := Lib.hid hs
  have HF := Lib.hid hf
  have HV := Lib.hid hkv
  have HN := Lib.hid hn
  have H01 := Lib.hid h01
  have KP : Hid (pieceV c n = 0) := by show _ = _; rw [hp, hkv, moreV, hk]; rfl
  clear hk hs h01 hn hf hp hkv
  go_enter Tryz.func144, Tryz.ntmps144
  go_wp2_with fail
  refine (side_is c sd _ HS.out).mono ?_
  rintro e w1 ⟨rfl, rfl⟩
  go_wp2_with fail
  refine (file_is n f _ HF.out).mono ?_
  rintro e w1 ⟨rfl, rfl⟩
  go_wp2_with fail
  refine (kind_is c 75 _ HK.out).mono ?_
  rintro e w1 ⟨rfl, rfl⟩
  go_wp2_with fail
  refine (vkind_is c 0 _ HV.out).mono ?_
  rintro e w1 ⟨rfl, rfl⟩
  go_wp2_with fail
  go_ret
  exact ⟨by rw [KP.out]; rfl, Below.refl _ _⟩
set_option maxHeartbeats 1000000 in
theorem vpiece_65 (c : Nat) (n sd f : Int) (w : World) (hk : kindN c = 65) (hs : sideN c = sd) (h01 : sd = 0 ∨ sd = 1) (hn : 0 ≤ n ∧ n < 90) (hf : fileI n = f) : Calls Tryz.prog 144 #[.int .u8 (c : Int), .int .i64 n] w (Gives w (.int .i64 (pieceV c n))) := by
  unfold Gives
  have hp : pieceV c n = kindV c + moreV c n := piece_on hn (by rw [hs]; omega)
  have hkv : kindV c = 40 := by unfold kindV; rw [hk]; rfl
  have d0 : decide (sd < 0) = false := by rcases h01 with rfl | rfl <;> rfl
  have d1 : decide (f < 0) = false := by rw [← hf, file_mod hn, decide_eq_false_iff_not]; omega
  have HK := Lib.hid hk
  have HS := Lib.hid hs
  have HF := Lib.hid hf
  have HV := Lib.hid hkv
  have HN := Lib.hid hn
  have H01 := Lib.hid h01
  have KP : Hid (pieceV c n = 40) := by show _ = _; rw [hp, hkv, moreV, hk]; rfl
  clear hk hs h01 hn hf hp hkv
  go_enter Tryz.func144, Tryz.ntmps144
  go_wp2_with fail
  refine (side_is c sd _ HS.out).mono ?_
  rintro e w1 ⟨rfl, rfl⟩
  go_wp2_with fail
  refine (file_is n f _ HF.out).mono ?_
  rintro e w1 ⟨rfl, rfl⟩
  go_wp2_with fail
  refine (kind_is c 65 _ HK.out).mono ?_
  rintro e w1 ⟨rfl, rfl⟩
  go_wp2_with fail
  refine (vkind_is c 40 _ HV.out).mono ?_
  rintro e w1 ⟨rfl, rfl⟩
  go_wp2_with fail
  go_ret
  exact ⟨by rw [KP.out]; rfl, Below.refl _ _⟩
set_option maxHeartbeats 1000000 in
theorem vpiece_66 (c : Nat) (n sd f : Int) (w : World) (hk : kindN c = 66) (hs : sideN c = sd) (h01 : sd = 0 ∨ sd = 1) (hn : 0 ≤ n ∧ n < 90) (hf : fileI n = f) : Calls Tryz.prog 144 #[.int .u8 (c : Int), .int .i64 n] w (Gives w (.int .i64 (pieceV c n))) := by
  unfold Gives
  have hp : pieceV c n = kindV c + moreV c n := piece_on hn (by rw [hs]; omega)
  have hkv : kindV c = 40 := by unfold kindV; rw [hk]; rfl
  have d0 : decide (sd < 0) = false := by rcases h01 with rfl | rfl <;> rfl
  have d1 : decide (f < 0) = false := by rw [← hf, file_mod hn, decide_eq_false_iff_not]; omega
  have HK := Lib.hid hk
  have HS := Lib.hid hs
  have HF := Lib.hid hf
  have HV := Lib.hid hkv
  have HN := Lib.hid hn
  have H01 := Lib.hid h01
  have KP : Hid (pieceV c n = 40) := by show _ = _; rw [hp, hkv, moreV, hk]; rfl
  clear hk hs h01 hn hf hp hkv
  go_enter Tryz.func144, Tryz.ntmps144
  go_wp2_with fail
  refine (side_is c sd _ HS.out).mono ?_
  rintro e w1 ⟨rfl, rfl⟩
  go_wp2_with fail
  refine (file_is n f _ HF.out).mono ?_
  rintro e w1 ⟨rfl, rfl⟩
  go_wp2_with fail
  refine (kind_is c 66 _ HK.out).mono ?_
  rintro e w1 ⟨rfl, rfl⟩
  go_wp2_with fail
  refine (vkind_is c 40 _ HV.out).mono ?_
  rintro e w1 ⟨rfl, rfl⟩
  go_wp2_with fail
  go_ret
  exact ⟨by rw [KP.out]; rfl, Below.refl _ _⟩
set_option maxHeartbeats 1000000 in
theorem vpiece_78 (c : Nat) (n sd f : Int) (w : World) (hk : kindN c = 78) (hs : sideN c = sd) (h01 : sd = 0 ∨ sd = 1) (hn : 0 ≤ n ∧ n < 90) (hf : fileI n = f) : Calls Tryz.prog 144 #[.int .u8 (c : Int), .int .i64 n] w (Gives w (.int .i64 (pieceV c n))) := by
  unfold Gives
  have hp : pieceV c n = kindV c + moreV c n := piece_on hn (by rw [hs]; omega)
  have hkv : kindV c = 90 := by unfold kindV; rw [hk]; rfl
  have d0 : decide (sd < 0) = false := by rcases h01 with rfl | rfl <;> rfl
  have d1 : decide (f < 0) = false := by rw [← hf, file_mod hn, decide_eq_false_iff_not]; omega
  have HK := Lib.hid hk
  have HS := Lib.hid hs
  have HF := Lib.hid hf
  have HV := Lib.hid hkv
  have HN := Lib.hid hn
  have H01 := Lib.hid h01
  obtain ⟨r, hr⟩ : ∃ r, seenR n sd = r := ⟨_, rfl⟩
  obtain ⟨a, ha⟩ : ∃ a, asideI n = a := ⟨_, rfl⟩
  obtain ⟨b0, b1⟩ := seen_bd hn sd
  obtain ⟨b2, b3⟩ := aside_bd n
  rw [hr] at b0 b1
  rw [ha] at b2 b3
  have KP : Hid (pieceV c n = 90 + r + 4 - a) := by show _ = _; rw [hp, hkv, ← hr, ← ha, moreV, hk, if_neg (by decide), if_pos (by decide), hs, asideI]; omega
  have HR := Lib.hid hr
  have HA := Lib.hid ha
  clear hk hs h01 hn hf hp hkv hr ha
  go_enter Tryz.func144, Tryz.ntmps144
  go_wp2_with fail
  refine (side_is c sd _ HS.out).mono ?_
  rintro e w1 ⟨rfl, rfl⟩
  go_wp2_with fail
  refine (file_is n f _ HF.out).mono ?_
  rintro e w1 ⟨rfl, rfl⟩
  go_wp2_with fail
  refine (kind_is c 78 _ HK.out).mono ?_
  rintro e w1 ⟨rfl, rfl⟩
  go_wp2_with fail
  refine (vkind_is c 90 _ HV.out).mono ?_
  rintro e w1 ⟨rfl, rfl⟩
  go_wp2_with fail
  refine (side_is c sd _ HS.out).mono ?_
  rintro e w1 ⟨rfl, rfl⟩
  go_wp2_with fail
  refine (vrank_is n sd r _ HN.out H01.out HR.out).mono ?_
  rintro e w1 ⟨rfl, rfl⟩
  go_wp2_with fail
  refine (aside_is n a _ HN.out HA.out).mono ?_
  rintro e w1 ⟨rfl, rfl⟩
  go_wp2_with fail
  go_ret
  exact ⟨by rw [KP.out]; rfl, Below.refl _ _⟩
set_option maxHeartbeats 1000000 in
theorem vpiece_82 (c : Nat) (n sd f : Int) (w : World) (hk : kindN c = 82) (hs : sideN c = sd) (h01 : sd = 0 ∨ sd = 1) (hn : 0 ≤ n ∧ n < 90) (hf : fileI n = f) : Calls Tryz.prog 144 #[.int .u8 (c : Int), .int .i64 n] w (Gives w (.int .i64 (pieceV c n))) := by
  unfold Gives
  have hp : pieceV c n = kindV c + moreV c n := piece_on hn (by rw [hs]; omega)
  have hkv : kindV c = 200 := by unfold kindV; rw [hk]; rfl
  have d0 : decide (sd < 0) = false := by rcases h01 with rfl | rfl <;> rfl
  have d1 : decide (f < 0) = false := by rw [← hf, file_mod hn, decide_eq_false_iff_not]; omega
  have HK := Lib.hid hk
  have HS := Lib.hid hs
  have HF := Lib.hid hf
  have HV := Lib.hid hkv
  have HN := Lib.hid hn
  have H01 := Lib.hid h01
  obtain ⟨r, hr⟩ : ∃ r, seenR n sd = r := ⟨_, rfl⟩
  obtain ⟨a, ha⟩ : ∃ a, asideI n = a := ⟨_, rfl⟩
  obtain ⟨b0, b1⟩ := seen_bd hn sd
  obtain ⟨b2, b3⟩ := aside_bd n
  rw [hr] at b0 b1
  rw [ha] at b2 b3
  have KP : Hid (pieceV c n = 200 + r + 4 - a) := by show _ = _; rw [hp, hkv, ← hr, ← ha, moreV, hk, if_neg (by decide), if_pos (by decide), hs, asideI]; omega
  have HR := Lib.hid hr
  have HA := Lib.hid ha
  clear hk hs h01 hn hf hp hkv hr ha
  go_enter Tryz.func144, Tryz.ntmps144
  go_wp2_with fail
  refine (side_is c sd _ HS.out).mono ?_
  rintro e w1 ⟨rfl, rfl⟩
  go_wp2_with fail
  refine (file_is n f _ HF.out).mono ?_
  rintro e w1 ⟨rfl, rfl⟩
  go_wp2_with fail
  refine (kind_is c 82 _ HK.out).mono ?_
  rintro e w1 ⟨rfl, rfl⟩
  go_wp2_with fail
  refine (vkind_is c 200 _ HV.out).mono ?_
  rintro e w1 ⟨rfl, rfl⟩
  go_wp2_with fail
  refine (side_is c sd _ HS.out).mono ?_
  rintro e w1 ⟨rfl, rfl⟩
  go_wp2_with fail
  refine (vrank_is n sd r _ HN.out H01.out HR.out).mono ?_
  rintro e w1 ⟨rfl, rfl⟩
  go_wp2_with fail
  refine (aside_is n a _ HN.out HA.out).mono ?_
  rintro e w1 ⟨rfl, rfl⟩
  go_wp2_with fail
  go_ret
  exact ⟨by rw [KP.out]; rfl, Below.refl _ _⟩
set_option maxHeartbeats 1000000 in
theorem vpiece_67 (c : Nat) (n sd f : Int) (w : World) (hk : kindN c = 67) (hs : sideN c = sd) (h01 : sd = 0 ∨ sd = 1) (hn : 0 ≤ n ∧ n < 90) (hf : fileI n = f) : Calls Tryz.prog 144 #[.int .u8 (c : Int), .int .i64 n] w (Gives w (.int .i64 (pieceV c n))) := by
  unfold Gives
  have hp : pieceV c n = kindV c + moreV c n := piece_on hn (by rw [hs]; omega)
  have hkv : kindV c = 95 := by unfold kindV; rw [hk]; rfl
  have d0 : decide (sd < 0) = false := by rcases h01 with rfl | rfl <;> rfl
  have d1 : decide (f < 0) = false := by rw [← hf, file_mod hn, decide_eq_false_iff_not]; omega
  have HK := Lib.hid hk
  have HS := Lib.hid hs
  have HF := Lib.hid hf
  have HV := Lib.hid hkv
  have HN := Lib.hid hn
  have H01 := Lib.hid h01
  obtain ⟨r, hr⟩ : ∃ r, seenR n sd = r := ⟨_, rfl⟩
  obtain ⟨a, ha⟩ : ∃ a, asideI n = a := ⟨_, rfl⟩
  obtain ⟨b0, b1⟩ := seen_bd hn sd
  obtain ⟨b2, b3⟩ := aside_bd n
  rw [hr] at b0 b1
  rw [ha] at b2 b3
  have KP : Hid (pieceV c n = 95 + r + 4 - a) := by show _ = _; rw [hp, hkv, ← hr, ← ha, moreV, hk, if_neg (by decide), if_pos (by decide), hs, asideI]; omega
  have HR := Lib.hid hr
  have HA := Lib.hid ha
  clear hk hs h01 hn hf hp hkv hr ha
  go_enter Tryz.func144, Tryz.ntmps144
  go_wp2_with fail
  refine (side_is c sd _ HS.out).mono ?_
  rintro e w1 ⟨rfl, rfl⟩
  go_wp2_with fail
  refine (file_is n f _ HF.out).mono ?_
  rintro e w1 ⟨rfl, rfl⟩
  go_wp2_with fail
  refine (kind_is c 67 _ HK.out).mono ?_
  rintro e w1 ⟨rfl, rfl⟩
  go_wp2_with fail
  refine (vkind_is c 95 _ HV.out).mono ?_
  rintro e w1 ⟨rfl, rfl⟩
  go_wp2_with fail
  refine (side_is c sd _ HS.out).mono ?_
  rintro e w1 ⟨rfl, rfl⟩
  go_wp2_with fail
  refine (vrank_is n sd r _ HN.out H01.out HR.out).mono ?_
  rintro e w1 ⟨rfl, rfl⟩
  go_wp2_with fail
  refine (aside_is n a _ HN.out HA.out).mono ?_
  rintro e w1 ⟨rfl, rfl⟩
  go_wp2_with fail
  go_ret
  exact ⟨by rw [KP.out]; rfl, Below.refl _ _⟩
set_option maxHeartbeats 1000000 in
theorem vpiece_80 (c : Nat) (n sd f : Int) (w : World) (hk : kindN c = 80) (hs : sideN c = sd) (h01 : sd = 0 ∨ sd = 1) (hn : 0 ≤ n ∧ n < 90) (hf : fileI n = f) : Calls Tryz.prog 144 #[.int .u8 (c : Int), .int .i64 n] w (Gives w (.int .i64 (pieceV c n))) := by
  unfold Gives
  have hp : pieceV c n = kindV c + moreV c n := piece_on hn (by rw [hs]; omega)
  have hkv : kindV c = 30 := by unfold kindV; rw [hk]; rfl
  have d0 : decide (sd < 0) = false := by rcases h01 with rfl | rfl <;> rfl
  have d1 : decide (f < 0) = false := by rw [← hf, file_mod hn, decide_eq_false_iff_not]; omega
  have HK := Lib.hid hk
  have HS := Lib.hid hs
  have HF := Lib.hid hf
  have HV := Lib.hid hkv
  have HN := Lib.hid hn
  have H01 := Lib.hid h01
  obtain ⟨p, hpv⟩ : ∃ p, pawnV n sd = p := ⟨_, rfl⟩
  have bp := pawnV_bd n sd
  rw [hpv] at bp
  obtain ⟨b0, b1⟩ := bp
  have KP : Hid (pieceV c n = 30 + p) := by show _ = _; rw [hp, hkv, ← hpv, moreV, hk, if_pos rfl, hs]; rfl
  have HP := Lib.hid hpv
  clear hk hs h01 hn hf hp hkv hpv
  go_enter Tryz.func144, Tryz.ntmps144
  go_wp2_with fail
  refine (side_is c sd _ HS.out).mono ?_
  rintro e w1 ⟨rfl, rfl⟩
  go_wp2_with fail
  refine (file_is n f _ HF.out).mono ?_
  rintro e w1 ⟨rfl, rfl⟩
  go_wp2_with fail
  refine (kind_is c 80 _ HK.out).mono ?_
  rintro e w1 ⟨rfl, rfl⟩
  go_wp2_with fail
  refine (vkind_is c 30 _ HV.out).mono ?_
  rintro e w1 ⟨rfl, rfl⟩
  go_wp2_with fail
  refine (side_is c sd _ HS.out).mono ?_
  rintro e w1 ⟨rfl, rfl⟩
  go_wp2_with fail
  refine (pawn_is n sd p _ HN.out HP.out).mono ?_
  rintro e w1 ⟨rfl, hb⟩
  go_wp2_with fail
  go_ret
  exact ⟨by rw [KP.out]; rfl, hb⟩
theorem vpiece_any (c : Nat) (n : Int) (w : World) : Calls Tryz.prog 144 #[.int .u8 (c : Int), .int .i64 n] w (Gives w (.int .i64 (pieceV c n))) := by
  by_cases hs : sideN c < 0
  · rw [piece_empty hs]; exact (vpiece_side c n w hs).mono fun _ _ ⟨a, b⟩ => ⟨a, b ▸ Below.refl _ _⟩
  · by_cases hn : 0 ≤ n ∧ n < 90
    · rcases side_kind (c := c) (by omega) with h | h | h | h | h | h | h
      · exact vpiece_75 c n _ _ w h rfl (side_lt hs) hn rfl
      · exact vpiece_65 c n _ _ w h rfl (side_lt hs) hn rfl
      · exact vpiece_66 c n _ _ w h rfl (side_lt hs) hn rfl
      · exact vpiece_78 c n _ _ w h rfl (side_lt hs) hn rfl
      · exact vpiece_82 c n _ _ w h rfl (side_lt hs) hn rfl
      · exact vpiece_67 c n _ _ w h rfl (side_lt hs) hn rfl
      · exact vpiece_80 c n _ _ w h rfl (side_lt hs) hn rfl
    · rw [piece_off hn]; exact (vpiece_off c n w hs hn).mono fun _ _ ⟨a, b⟩ => ⟨a, b ▸ Below.refl _ _⟩
theorem vpiece_is (c : Nat) (n v : Int) (w : World) (h : pieceV c n = v) : Calls Tryz.prog 144 #[.int .u8 (c : Int), .int .i64 n] w (Gives w (.int .i64 v)) := by subst h; exact vpiece_any c n w
/-- What a position is worth behind a move, as the machine reckons. -/
def mvW (v a b t : Int) : Int := IntKind.i64.wrap (-(IntKind.i64.wrap (IntKind.i64.wrap (IntKind.i64.wrap (v - a) + b) + t)))
theorem vpos_cells {W : World} {g : Nat} {t : TypeId} {s : ByteArray} {a b c : Int} (h : Blk W g t #[.string s, .int .i64 a, .int .i64 b, .int .i64 c]) : W.cell? ⟨g, 0, none⟩ = some (.string s) ∧ W.cell? ⟨g, 1, none⟩ = some (.int .i64 a) ∧ W.cell? ⟨g, 2, none⟩ = some (.int .i64 b) ∧ W.cell? ⟨g, 3, none⟩ = some (.int .i64 c) := ⟨h.cell 0, h.cell 1, h.cell 2, h.cell 3⟩
theorem vs_keep {g : Nat} {a b : Value} {w W W' : World} (h : W.cell? ⟨g, 0, none⟩ = some a ∧ W.cell? ⟨g, 1, none⟩ = some b ∧ Below w.heap.size w W) (hb : Below W.heap.size W W') : W'.cell? ⟨g, 0, none⟩ = some a ∧ W'.cell? ⟨g, 1, none⟩ = some b ∧ Below w.heap.size w W' :=
  ⟨(hb.cell (p := ⟨g, 0, none⟩) (cell_lt h.1)).trans h.1, (hb.cell (p := ⟨g, 1, none⟩) (cell_lt h.2.1)).trans h.2.1, h.2.2.trans (hb.mono h.2.2.size)⟩
theorem vs_below {g : Nat} {a b : Value} {w W : World} (h : W.cell? ⟨g, 0, none⟩ = some a ∧ W.cell? ⟨g, 1, none⟩ = some b ∧ Below w.heap.size w W) : Below w.heap.size w W := h.2.2
set_option maxRecDepth 100000 in
set_option maxHeartbeats 2000000 in
theorem together_any (s : ByteArray) (side : Int) (w : World) (hT : Tab w) (hs : isB s = true) : Calls Tryz.prog 108 #[.string s, .int .i64 side] w (Gives w (.int .i64 (sumP s (pcsN s side)))) := by
  unfold Gives
  obtain ⟨L, hL⟩ : ∃ L, pcsN s side = L := ⟨_, rfl⟩
  obtain ⟨m, hm⟩ : ∃ m, L.length = m := ⟨_, rfl⟩
  have hm90 : m ≤ 90 := by rw [← hm, ← hL]; exact pcsN_len s side
  have hpl : (piecesL s side).length = m := by rw [pcsN_list hs, List.length_map, hL, hm]
  have hlt : ∀ k (hk : k < L.length), L[k] < 90 := fun k hk => by subst hL; exact pcsN_lt hk
  have HL := Lib.hid hL
  have HM := Lib.hid hm
  have HP : Hid (piecesL s side = L.map fun k : Nat => (k : Int)) := by show _ = _; rw [pcsN_list hs, hL]
  have HX := Lib.hid hlt
  have HZ := Lib.hid (isB_size hs)
  rw [hL]
  clear hL hm hlt hs
  go_enter Tryz.func108, Tryz.ntmps108
  go_wp2_with fail
  refine (pieces_is s side m _ hT hpl).mono ?_
  rintro e w2 ⟨A2, c2, rfl, hr2, hb2⟩
  rw [HP.out] at hr2
  clear hpl
  go_wp2_with fail
  go_loopw [5, 12] (fun x i wr => ∃ k : Nat, k ≤ m ∧ x = .int .i64 (sumP s (L.take k)) ∧ i = .int .i64 k ∧ Below w2.heap.size w2 wr) (fun _ i _ => m - (intOf i).toNat)
  case atStart => exact ⟨0, by omega, rfl, rfl, Below.refl _ _⟩
  case round =>
    obtain ⟨k, hk, rfl, rfl, hR⟩ := hrel
    have hsb := sumP_bd s (L.take k)
    have hln : (L.take k).length ≤ 90 := Nat.le_trans (by rw [List.length_take]; exact Nat.min_le_left _ _) (Nat.le_trans hk hm90)
    obtain ⟨x, hx⟩ : ∃ x, sumP s (L.take k) = x := ⟨_, rfl⟩
    rw [hx] at hsb
    have x0 : 0 ≤ x := hsb.1
    have x1 : x ≤ 22500 := by omega
    simp only [hx]
    by_cases hlt : k < m
    · have hkl : k < L.length := by rw [HM.out]; exact hlt
      obtain ⟨n, hn⟩ : ∃ n, L[k] = n := ⟨_, rfl⟩
      have hn90 : n < 90 := by rw [← hn]; exact HX.out k hkl
      obtain ⟨c, hc⟩ : ∃ c, bAt s n = c := ⟨_, rfl⟩
      obtain ⟨v, hv⟩ : ∃ v, pieceV c (n : Int) = v := ⟨_, rfl⟩
      have hvb := piece_bd c (n : Int)
      rw [hv] at hvb
      obtain ⟨v0, v1⟩ := hvb
      have hnx : sumP s (L.take (k + 1)) = x + v := by rw [sumP_take s L hkl, hx, hn, hc, hv]
      have hks : n < s.size := by rw [HZ.out]; exact hn90
      have hbk : s[n].toNat = c := (bAt_eq s n hks).trans hc
      have b0 : (0 : Int) ≤ (n : Int) := Int.natCast_nonneg n
      have b1 : (n : Int) < (s.size : Int) := Int.ofNat_lt.2 hks
      have b2 : (k : Int) < (m : Int) := by omega
      obtain ⟨ad, rfl, hca⟩ := (hr2.next hR) k (iv (n : Int)) (by simp [hkl, hn])
      have HN := Lib.hid hnx
      have HV := Lib.hid hv
      clear hnx hv hn hx hc hsb hln hn90 hkl
      go_wp2_with fail
      refine (vpiece_is c (n : Int) v _ HV.out).mono ?_
      rintro e w3 ⟨rfl, hb⟩
      go_wp2
      go_roundw
      case rel => exact ⟨k + 1, by omega, by rw [HN.out], by go_num, hR.trans (hb.mono hR.size)⟩
      case measure => simp [intOf]; omega
    · obtain rfl : k = m := by omega
      have ht : L.take k = L := List.take_of_length_le (by rw [HM.out]; exact Nat.le_refl _)
      rw [ht] at hx
      have HX2 := Lib.hid hx
      clear hx hsb hln ht
      go_wp2
      go_ret
      exact ⟨by rw [HX2.out]; rfl, hb2.trans (hR.mono hb2.size)⟩
theorem together_is (s : ByteArray) (side v : Int) (w : World) (hT : Tab w) (hs : isB s = true) (h : sumP s (pcsN s side) = v) : Calls Tryz.prog 108 #[.string s, .int .i64 side] w (Gives w (.int .i64 v)) := by subst h; exact together_any s side w hT hs
set_option maxRecDepth 100000 in
set_option maxHeartbeats 2000000 in
theorem vof_any (s : ByteArray) (side clock full : Int) (w : World) (hT : Tab w) : Calls Tryz.prog 66 #[.agg #[.string s, .int .i64 side, .int .i64 clock, .int .i64 full]] w (Gives w (.int .i64 (ofV s side))) := by
  unfold Gives
  obtain ⟨W0, hW0⟩ : ∃ W0, w.alloc (.cells #[.string s, .int .i64 side, .int .i64 clock, .int .i64 full] 23) = W0 := ⟨_, rfl⟩
  have hB : Below w.heap.size w W0 := by rw [← hW0]; exact (by repeat (first | exact Below.refl _ _ | (refine Below.setCell ?_ (by first | omega | (simp; done) | (simp; omega) | (simp at *; omega)) _) | (refine Below.alloc ?_ (by first | omega | (simp; done) | (simp; omega) | (simp at *; omega)) _) | refine Below.drew ?_ | (refine below_drewN ?_ _) | (refine Below.trans ?_ (Below.mono (by assumption) (by first | omega | (simp; done) | (simp; omega) | (simp at *; omega))))))
  have bP : Blk W0 w.heap.size 23 #[.string s, .int .i64 side, .int .i64 clock, .int .i64 full] := by rw [← hW0]; exact Blk.new _ _ _ rfl
  have HW := Lib.hid hW0
  clear hW0
  obtain ⟨p0, p1, p2, p3⟩ := vpos_cells bP
  cases hs : isB s
  · have HR : Hid (ofV s side = 0) := by show _ = _; unfold ofV; rw [hs]; rfl
    have HS := Lib.hid hs
    clear hs
    go_enter Tryz.func66, Tryz.ntmps66
    go_wp2_with fail
    rw [HW.out]
    refine (is_is s false _ HS.out).mono ?_
    rintro e w1 ⟨rfl, rfl⟩
    go_wp2
    go_ret
    exact ⟨by rw [HR.out]; rfl, hB⟩
  · obtain ⟨r, hr⟩ : ∃ r, sumP s (pcsN s 0) = r := ⟨_, rfl⟩
    obtain ⟨b, hb⟩ : ∃ b, sumP s (pcsN s 1) = b := ⟨_, rfl⟩
    have hl := of_lead hs side
    rw [hr, hb] at hl
    have h1 := sumP_bd s (pcsN s 0)
    have h2 := sumP_bd s (pcsN s 1)
    have h3 := pcsN_len s 0
    have h4 := pcsN_len s 1
    rw [hr] at h1
    rw [hb] at h2
    have r0 : 0 ≤ r := h1.1
    have r1 : r ≤ 22500 := by omega
    have b0 : 0 ≤ b := h2.1
    have b1 : b ≤ 22500 := by omega
    have HS := Lib.hid hs
    have HR := Lib.hid hr
    have HB := Lib.hid hb
    have HL := Lib.hid hl
    have hS : W0.drew.cell? ⟨w.heap.size, 0, none⟩ = some (.string s) ∧ W0.drew.cell? ⟨w.heap.size, 1, none⟩ = some (.int .i64 side) ∧ Below w.heap.size w W0.drew := ⟨p0, p1, hB.drew⟩
    clear hs hr hb hl h1 h2 h3 h4 bP
    go_enter Tryz.func66, Tryz.ntmps66
    go_wp2_with fail
    rw [HW.out]
    refine (is_is s true _ HS.out).mono ?_
    rintro e w1 ⟨rfl, rfl⟩
    go_wp2_with fail
    clear p0 p1 p2 p3
    go_region_held3 (fun W => W.cell? ⟨w.heap.size, 0, none⟩ = some (.string s) ∧ W.cell? ⟨w.heap.size, 1, none⟩ = some (.int .i64 side) ∧ Below w.heap.size w W)
      (first | exact hS | with_reducible assumption | exact vs_keep (by assumption) hb)
      (first | (go_at_call 108; refine (together_any _ _ _ (hT.next (vs_below (by assumption))) HS.out).mono ?_; rintro e w2 ⟨rfl, hb⟩))
    all_goals go_wp2
    all_goals (rename_i hsd; go_ret; refine ⟨?_, vs_below (by assumption)⟩)
    · have e0 : side = 0 := by simpa using hsd
      show Ending.returned (.int .i64 (IntKind.i64.wrap (sumP s (pcsN s 0) - sumP s (pcsN s 1)))) = _
      rw [HL.out, HR.out, HB.out, IntWalk.i64_in _ (by omega), if_pos e0]
    · have e0 : ¬ side = 0 := by simpa using hsd
      show Ending.returned (.int .i64 (wrap64 (-wrap64 (sumP s (pcsN s 0) - sumP s (pcsN s 1))))) = _
      rw [HL.out, HR.out, HB.out, IntWalk.wrap64_in (r - b) (by omega), IntWalk.wrap64_in (-(r - b)) (by omega), if_neg e0]
theorem vof_is (s : ByteArray) (side clock full v : Int) (w : World) (hT : Tab w) (h : ofV s side = v) : Calls Tryz.prog 66 #[.agg #[.string s, .int .i64 side, .int .i64 clock, .int .i64 full]] w (Gives w (.int .i64 v)) := by subst h; exact vof_any s side clock full w hT
set_option maxHeartbeats 2000000 in
theorem vmoved_any (v : Int) (c : Nat) (a b : Int) (t : Nat) (w : World) : Calls Tryz.prog 106 #[.int .i64 v, .int .u8 (c : Int), .agg #[.int .i64 a, .int .i64 b], .int .u8 (t : Int)] w (Gives w (.int .i64 (mvW v (pieceV c a) (pieceV c b) (pieceV t b)))) := by
  unfold Gives
  obtain ⟨p, hp⟩ : ∃ p, pieceV c a = p := ⟨_, rfl⟩
  obtain ⟨q, hq⟩ : ∃ q, pieceV c b = q := ⟨_, rfl⟩
  obtain ⟨r, hr⟩ : ∃ r, pieceV t b = r := ⟨_, rfl⟩
  rw [hp, hq, hr]
  have HP := Lib.hid hp
  have HQ := Lib.hid hq
  have HR := Lib.hid hr
  obtain ⟨W0, hW0⟩ : ∃ W0, w.alloc (.cells #[.int .i64 a, .int .i64 b] 48) = W0 := ⟨_, rfl⟩
  have hB : Below w.heap.size w W0 := by rw [← hW0]; exact (by repeat (first | exact Below.refl _ _ | (refine Below.setCell ?_ (by first | omega | (simp; done) | (simp; omega) | (simp at *; omega)) _) | (refine Below.alloc ?_ (by first | omega | (simp; done) | (simp; omega) | (simp at *; omega)) _) | refine Below.drew ?_ | (refine below_drewN ?_ _) | (refine Below.trans ?_ (Below.mono (by assumption) (by first | omega | (simp; done) | (simp; omega) | (simp at *; omega))))))
  have bM : Blk W0 w.heap.size 48 #[.int .i64 a, .int .i64 b] := by rw [← hW0]; exact Blk.new _ _ _ rfl
  have hS : W0.drew.cell? ⟨w.heap.size, 0, none⟩ = some (.int .i64 a) ∧ W0.drew.cell? ⟨w.heap.size, 1, none⟩ = some (.int .i64 b) ∧ Below w.heap.size w W0.drew := ⟨bM.cell 0, bM.cell 1, hB.drew⟩
  clear hp hq hr hB bM
  have HW := Lib.hid hW0
  clear hW0
  go_enter Tryz.func106, Tryz.ntmps106
  go_wp2_with fail
  rw [HW.out]
  go_region_held3 (fun W => W.cell? ⟨w.heap.size, 0, none⟩ = some (.int .i64 a) ∧ W.cell? ⟨w.heap.size, 1, none⟩ = some (.int .i64 b) ∧ Below w.heap.size w W)
    (first | exact hS | with_reducible assumption | exact vs_keep (by assumption) hb)
    (first | (go_at_call 144; refine (vpiece_any _ _ _).mono ?_; rintro e w1 ⟨rfl, hb⟩))
  all_goals go_wp2
  all_goals (go_ret; exact ⟨by rw [mvW, ← HP.out, ← HQ.out, ← HR.out]; rfl, vs_below (by assumption)⟩)
theorem vmoved_is (v : Int) (c : Nat) (a b : Int) (t : Nat) (m : Int) (w : World) (h : mvW v (pieceV c a) (pieceV c b) (pieceV t b) = m) : Calls Tryz.prog 106 #[.int .i64 v, .int .u8 (c : Int), .agg #[.int .i64 a, .int .i64 b], .int .u8 (t : Int)] w (Gives w (.int .i64 m)) := by subst h; exact vmoved_any v c a b t w
end Go.Proofs.YtbdgbihdhbjljaaGreatDoor
