/- What more of the document's plain answers of layer 2 come to: a board with something put; a board from the other side. -/
import Derived.Test.YtbfkkedcjodceaaGreatDoorBoard6
namespace Go.Proofs.YtbfkkedcjodceaaGreatDoor
open Go.RowKit Go.Shelf
open M (S)

/-- A text of one byte. -/
def one (c : Nat) : ByteArray := ⟨[UInt8.ofNat c].toArray⟩
theorem one_of (W : World) (g C c : Nat) (hc : c < 256) (h : W.cell? ⟨g, 0, none⟩ = some (.int .u8 (c : Int))) :
    (convert 70 9 (.slice (some ⟨g, 0, none⟩) 1 C)).run Tryz.prog W = .ok (.string (one c)) W :=
  run_convert_bytes_back (P := Tryz.prog) W 70 9 5 ⟨g, 0, none⟩ C [UInt8.ofNat c] Tryz.underlying70 Tryz.underlying5 Tryz.underlying9 (fun j hj => by
    obtain rfl : j = 0 := by simpa using hj
    rw [show (Addr.add ⟨g, 0, none⟩ 0) = ⟨g, 0, none⟩ by simp [Addr.add], h]
    simp only [List.getElem_cons_zero]
    rw [UInt8.toNat_ofNat_of_lt' (by omega)])
theorem put_cut (s : ByteArray) (n c : Nat) (h : n < s.size) : putS s n c = (s.extract 0 n ++ one c) ++ s.extract (n + 1) s.size := by
  obtain ⟨⟨l⟩⟩ := s
  have hl : n < l.length := h
  unfold putS one
  rw [ByteArray.extract_mk, ByteArray.extract_mk, ByteArray.mk_append_mk, ByteArray.mk_append_mk]
  congr 1
  rw [List.set_eq_take_append_cons_drop, if_pos hl]
  rw [size_mk, List.take_of_length_le (l := List.drop (n + 1) l) (by simp)]
  simp

theorem rof_one (k : Nat) (w : World) (h : 65 ≤ k ∧ k ≤ 122) : Calls Tryz.prog 78 #[.int .u8 (k : Int), .int .i64 1] w (Says w (.int .u8 ((k + 32 : Nat) : Int))) := by
  have i1 : IntKind.u8.wrap ((k : Int) - 65) = (k : Int) - 65 := IntWalk.u8_in _ (by omega)
  have i2 : IntKind.u8.wrap ((k : Int) - 65 + 97) = ((k + 32 : Nat) : Int) := by rw [IntWalk.u8_in _ (by omega)]; omega
  go_enter Tryz.func78, Tryz.ntmps78
  go_wp2
  go_ret
  exact ⟨rfl, rfl⟩
theorem rof_zero (k : Nat) (w : World) : Calls Tryz.prog 78 #[.int .u8 (k : Int), .int .i64 0] w (Says w (.int .u8 (k : Int))) := by
  go_enter Tryz.func78, Tryz.ntmps78
  go_wp2
  go_ret
  exact ⟨rfl, rfl⟩
theorem swap_facts (c : Nat) (h : 0 ≤ sideN c) : (sideN c = 0 ∧ kindN c = c ∧ swapN c = c + 32 ∧ 65 ≤ c ∧ c ≤ 122) ∨ (sideN c = 1 ∧ swapN c = kindN c) := by
  rcases byte_cases c with ⟨kb, kr, _⟩ | rfl | rfl | rfl | rfl | rfl | rfl | rfl | rfl | rfl | rfl | rfl | rfl | rfl | rfl
  · have : sideN c = -1 := by simp [sideN, kb, kr]
    omega
  all_goals decide
theorem rof_swap (c : Nat) (w : World) (h : 0 ≤ sideN c) : Calls Tryz.prog 78 #[.int .u8 (kindN c : Nat), .int .i64 (1 - sideN c)] w (Says w (.int .u8 (swapN c : Nat))) := by
  rcases swap_facts c h with ⟨a, b, d, e⟩ | ⟨a, d⟩
  · rw [a, b, d]
    exact rof_one c w e
  · rw [a, d]
    exact rof_zero _ w
theorem rof_is (c k x : Nat) (m : Int) (w : World) (h : 0 ≤ sideN c) (hk : kindN c = k) (hm : 1 - sideN c = m) (hx : swapN c = x) : Calls Tryz.prog 78 #[.int .u8 (k : Int), .int .i64 m] w (Says w (.int .u8 (x : Int))) := by
  subst hk hm hx
  exact rof_swap c w h
theorem swap_none {c : Nat} (h : ¬ 0 ≤ sideN c) : swapN c = c := by
  rcases byte_cases c with ⟨kb, kr, _⟩ | rfl | rfl | rfl | rfl | rfl | rfl | rfl | rfl | rfl | rfl | rfl | rfl | rfl | rfl
  · simp [swapN, kb, kr]
  all_goals exact absurd (by decide) h
theorem turnL_succ (s : ByteArray) (k : Nat) : turnL s (k + 1) = turnL s k ++ [UInt8.ofNat (swapN (bAt s (89 - k)))] := by
  unfold turnL
  rw [List.range_succ, List.map_append]
  rfl
theorem turnL_len (s : ByteArray) (k : Nat) : (turnL s k).length = k := by simp [turnL]

set_option maxRecDepth 100000 in
set_option maxHeartbeats 2000000 in
theorem rturn_any (s : ByteArray) (w : World) : Calls Tryz.prog 47 #[.string s] w (Gives w (.string (turnB s))) := by
  unfold turnB
  cases hb : isB s
  · have B := Lib.hid hb
    rw [if_neg (by simp)]
    clear hb
    go_enter Tryz.func47, Tryz.ntmps47
    go_wp2_with fail
    refine (ris_any _ _).mono ?_
    rintro e w' ⟨rfl, rfl⟩
    rw [B.out]
    go_wp2
    go_ret
    exact ⟨rfl, Below.refl _ _⟩
  · have hs := isB_size hb
    have hs1 : 90 ≤ s.size := by omega
    have B := Lib.hid hb
    rw [if_pos rfl]
    clear hb hs
    go_enter Tryz.func47, Tryz.ntmps47
    go_wp2_with fail
    refine (ris_any _ _).mono ?_
    rintro e w' ⟨rfl, rfl⟩
    rw [B.out]
    go_wp2_with fail
    go_loopw [3, 4, 5] (fun o i _ wr => ∃ k : Nat, k ≤ 90 ∧ i = .int .i64 (89 - (k : Int)) ∧ o = .string ⟨(turnL s k).toArray⟩ ∧ Below w.heap.size w wr) (fun _ i _ _ => (intOf i + 1).toNat)
    case atStart => exact ⟨0, by omega, rfl, rfl, Below.refl _ _⟩
    case round =>
      obtain ⟨k, hk, rfl, rfl, hB⟩ := hrel
      obtain ⟨i, hi⟩ : ∃ i, 89 - (k : Int) = i := ⟨_, rfl⟩
      obtain ⟨t, ht⟩ : ∃ t : ByteArray, ⟨(turnL s k).toArray⟩ = t := ⟨_, rfl⟩
      rw [hi, ht]
      by_cases hlt : k < 90
      · have h0 : 0 ≤ i := by omega
        have h1 : i < (s.size : Int) := by omega
        have hks : i.toNat < s.size := by omega
        obtain ⟨x, hx⟩ : ∃ x, bAt s i.toNat = x := ⟨_, rfl⟩
        have hbk : s[i.toNat].toNat = x := (bAt_eq s _ hks).trans hx
        have hx256 : x < 256 := by rw [← hx]; exact bAt_lt _ _
        obtain ⟨y, hy⟩ : ∃ y, swapN x = y := ⟨_, rfl⟩
        have hy256 : y < 256 := by rw [← hy]; exact swapN_lt _ hx256
        have hnext := turnL_succ s k
        rw [show 89 - k = i.toNat by omega, hx, hy] at hnext
        have hadd : ∀ W : World, (Op.stringOp .add t (one y)).run Tryz.prog W = .ok (.string ⟨(turnL s (k + 1)).toArray⟩) W := fun W => by
          rw [hnext, ← ByteArray.mk_append_mk, ht]
          exact run_string_add_sum _ _ _ (by rw [← ht, size_mk, turnL_len, show (one y).size = 1 from rfl]; omega)
        have hcv : ∀ (W : World) (g C : Nat), W.cell? ⟨g, 0, none⟩ = some (.int .u8 (y : Int)) → (convert 70 9 (.slice (some ⟨g, 0, none⟩) 1 C)).run Tryz.prog W = .ok (.string (one y)) W := fun W g C h => one_of W g C y hy256 h
        have i1 : IntKind.i64.wrap (i - 1) = i - 1 := IntWalk.i64_in _ (by omega)
        have Hi := Lib.hid hi
        have Hy := Lib.hid hy
        clear hx hi ht hnext hy
        by_cases hsd : 0 ≤ sideN x
        · have e1 : decide (0 ≤ sideN x) = true := by simp; exact hsd
          have ge := sideN_ge x
          have i2 : IntKind.i64.wrap (1 - sideN x) = 1 - sideN x := IntWalk.i64_in _ (by omega)
          go_wp2_with fail
          refine (rside_any x _).mono ?_
          rintro e w' ⟨rfl, rfl⟩
          go_wp2_with fail
          refine (rkind_any x _).mono ?_
          rintro e w' ⟨rfl, rfl⟩
          go_wp2_with fail
          refine (rside_any x _).mono ?_
          rintro e w' ⟨rfl, rfl⟩
          go_wp2_with fail
          refine (rof_is x _ y _ _ hsd rfl rfl Hy.out).mono ?_
          rintro e w' ⟨rfl, rfl⟩
          go_wp2_with fail
          go_roundw
          case rel =>
            have := Hi.out
            exact ⟨k + 1, by omega, by rw [show i - 1 = 89 - ((k + 1 : Nat) : Int) by omega], rfl, hB.alloc hB.size _⟩
          case measure => simp [intOf]; omega
        · have e1 : decide (0 ≤ sideN x) = false := by simp; omega
          have hxy : x = y := (swap_none hsd).symm.trans Hy.out
          subst hxy
          go_wp2_with fail
          refine (rside_any x _).mono ?_
          rintro e w' ⟨rfl, rfl⟩
          go_wp2_with fail
          go_roundw
          case rel =>
            have := Hi.out
            exact ⟨k + 1, by omega, by rw [show i - 1 = 89 - ((k + 1 : Nat) : Int) by omega], rfl, hB.alloc hB.size _⟩
          case measure => simp [intOf]; omega
      · obtain rfl : k = 90 := by omega
        have hneg : i < 0 := by omega
        subst ht
        go_wp2
        go_ret
        exact ⟨rfl, hB⟩
end Go.Proofs.YtbfkkedcjodceaaGreatDoor
