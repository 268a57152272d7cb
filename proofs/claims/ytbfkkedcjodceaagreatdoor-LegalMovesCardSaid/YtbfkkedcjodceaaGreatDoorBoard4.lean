/- What the document's plain answers of layer 2 come to. -/
import Derived.Test.YtbfkkedcjodceaaGreatDoorBoard3
namespace Go.Proofs.YtbfkkedcjodceaaGreatDoor
open Go.RowKit Go.Shelf
open M (S)

theorem fill_side (c : Nat) : fillB c = (c == 46 || decide (0 ≤ sideN c)) := by
  unfold fillB sideN
  cases isRed c <;> cases isBlack c <;> simp
theorem sideN_ge (c : Nat) : -1 ≤ sideN c ∧ sideN c ≤ 1 := by
  unfold sideN
  split
  · omega
  · split <;> omega

set_option maxHeartbeats 1000000 in
theorem ris_any (s : ByteArray) (w : World) : Calls Tryz.prog 72 #[.string s] w fun e w' => e = .returned (.bool (isB s)) ∧ w = w' := by
  by_cases hs : s.size = 90
  · have h1 : ((s.size : Int) != 90) = false := by rw [hs]; rfl
    have h90 : 90 ≤ s.size := by omega
    have hall : ∀ k, k ≤ 90 → (∀ j, j < k → fillB (bAt s j) = true) → k = 90 → isB s = true := fun k _ h e => by
      subst e
      simp only [isB, Bool.and_eq_true, decide_eq_true_eq, List.all_eq_true]
      exact ⟨hs, fun j hj => h j (List.mem_range.1 hj)⟩
    have Hall := Lib.hid hall
    clear hs hall
    go_enter Tryz.func72, Tryz.ntmps72
    go_wp2_with fail
    go_loop [3] (fun i => ∃ k : Nat, k ≤ 90 ∧ i = .int .i64 k ∧ ∀ j, j < k → fillB (bAt s j) = true) (fun i => 90 - (intOf i).toNat)
    case atStart => exact ⟨0, by omega, rfl, fun j hj => by omega⟩
    case round =>
      obtain ⟨k, hk, rfl, hf⟩ := hrel
      have Hf := Lib.hid hf
      clear hf
      by_cases hlt : k < 90
      · have hks : k < s.size := by omega
        obtain ⟨x, hx⟩ : ∃ x, bAt s k = x := ⟨_, rfl⟩
        have hbk : s[k].toNat = x := (bAt_eq s k hks).trans hx
        have Hx := Lib.hid hx
        clear hx
        have step : fillB x = true → ∀ j, j < k + 1 → fillB (bAt s j) = true := fun h j hj => by
          rcases Nat.lt_or_ge j k with h' | h'
          · exact Hf.out j h'
          · rw [show j = k by omega, Hx.out]; exact h
        by_cases h46 : x = 46
        · have e0 : ((x : Int) != 46) = false := by rw [h46]; rfl
          have K := Lib.hid (step (by rw [h46]; rfl))
          clear step h46
          go_wp2
          go_round
          case rel => exact ⟨k + 1, by omega, by go_num, K.out⟩
          case measure => simp [intOf]; omega
        · have e0 : ((x : Int) != 46) = true := by rw [bne_iff_ne]; omega
          by_cases hsd : 0 ≤ sideN x
          · have K := Lib.hid (step (by rw [fill_side, decide_eq_true hsd, Bool.or_true]))
            have e1 : decide (sideN x < 0) = false := by simp; omega
            clear step h46
            go_wp2_with fail
            refine (rside_any x _).mono ?_
            rintro e w' ⟨rfl, rfl⟩
            go_wp2
            go_round
            case rel => exact ⟨k + 1, by omega, by go_num, K.out⟩
            case measure => simp [intOf]; omega
          · have K : Hid (isB s = false) := isB_no (k := k) hlt (by rw [Hx.out, fill_side, decide_eq_false hsd]; simp [h46])
            have e1 : decide (sideN x < 0) = true := by simp; omega
            clear step h46
            go_wp2_with fail
            refine (rside_any x _).mono ?_
            rintro e w' ⟨rfl, rfl⟩
            go_wp2
            go_ret
            exact ⟨by rw [K.out]; rfl, rfl⟩
      · have K := Lib.hid (Hall.out k hk Hf.out (by omega))
        go_wp2
        go_ret
        exact ⟨by rw [K.out]; rfl, rfl⟩
  · have h1 : ((s.size : Int) != 90) = true := by rw [bne_iff_ne]; omega
    have K : Hid (isB s = false) := by show _ = _; simp [isB, hs]
    clear hs
    go_enter Tryz.func72, Tryz.ntmps72
    go_wp2
    go_ret
    exact ⟨by rw [K.out]; rfl, rfl⟩


/-- A call's answer is the value v; the world is as it was. -/
def Says (w : World) (v : Value) (e : Ending) (w' : World) : Prop := e = .returned v ∧ w = w'
theorem is_is (s : ByteArray) (b : Bool) (w : World) (h : isB s = b) : Calls Tryz.prog 68 #[.string s] w (Says w (.bool b)) := by subst h; exact is_any s w
theorem side_is (c : Nat) (k : Int) (w : World) (h : sideN c = k) : Calls Tryz.prog 94 #[.int .u8 (c : Int)] w (Says w (.int .i64 k)) := by subst h; exact side_any c w
theorem kind_is (c k : Nat) (w : World) (h : kindN c = k) : Calls Tryz.prog 66 #[.int .u8 (c : Int)] w (Says w (.int .u8 (k : Int))) := by subst h; exact kind_any c w
theorem file_is (n k : Int) (w : World) (h : fileI n = k) : Calls Tryz.prog 50 #[.int .i64 n] w (Says w (.int .i64 k)) := by subst h; exact file_any n w
theorem rank_is (n k : Int) (w : World) (h : rankI n = k) : Calls Tryz.prog 130 #[.int .i64 n] w (Says w (.int .i64 k)) := by subst h; exact rank_any n w
theorem square_is (f r k : Int) (w : World) (h : squareI f r = k) : Calls Tryz.prog 139 #[.int .i64 f, .int .i64 r] w (Says w (.int .i64 k)) := by subst h; exact square_any f r w
/-- A call's answer is a slice of n numbers, those of l. -/
def GivesN (w : World) (l : List Int) (n : Nat) (e : Ending) (w' : World) : Prop := ∃ A c, e = .returned (.slice A n c) ∧ Rd w' A (l.map iv) ∧ Below w.heap.size w w'
theorem pieces_is (s : ByteArray) (side : Int) (n : Nat) (w : World) (hT : Tab w) (hn : (piecesL s side).length = n) : Calls Tryz.prog 82 #[.string s, .int .i64 side] w (GivesN w (piecesL s side) n) := by subst hn; exact pieces_any s side w hT
def Gives (w : World) (v : Value) (e : Ending) (w' : World) : Prop := e = .returned v ∧ Below w.heap.size w w'
theorem put_is (s : ByteArray) (n : Int) (c : Nat) (w : World) (hc : c < 256) : Calls Tryz.prog 79 #[.string s, .int .i64 n, .int .u8 (c : Int)] w (Gives w (.string (putB s n c))) := put_any s n c w hc
theorem rd_lit {w : World} {g : Nat} {t : TypeId} {xs : List Int} (h : Blk w g t (xs.map iv).toArray) : Rd w (some ⟨g, 0, none⟩) (xs.map iv) := fun j u hu => by
  refine ⟨_, rfl, ?_⟩
  rw [show (Addr.add ⟨g, 0, none⟩ j) = ⟨g, j, none⟩ by simp [Addr.add]; omega, h.cell j]
  simpa using hu
theorem below_made {w w' : World} {o : Obj} (hb : Below (w.alloc o).heap.size (w.alloc o) w') : Below w.heap.size w w' := ((Below.refl _ _).alloc (Nat.le_refl _) _).trans (hb.mono (by simp))
end Go.Proofs.YtbfkkedcjodceaaGreatDoor
