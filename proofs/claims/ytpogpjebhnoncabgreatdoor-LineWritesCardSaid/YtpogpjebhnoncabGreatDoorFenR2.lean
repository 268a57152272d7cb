/- What the document's plain answer of layer 4 comes to: a position's text. -/
import Derived.Test.YtpogpjebhnoncabGreatDoorFenM
namespace Go.Proofs.YtpogpjebhnoncabGreatDoor
open Go.RowKit Go.Shelf
open M (S)

/-- A position's parts. -/
def posP (s : ByteArray) (side clock full : Int) : F.P := ⟨s.data.toList, side, clock, full⟩
/-- The text of the first k ranks, from the last on. -/
def ranksT (s : ByteArray) (k : Nat) : List UInt8 := Lib.join ((F.rows s.data.toList).take k) [47]
theorem rows_at (s : ByteArray) (k : Nat) (hk : k < 10) : (F.rows s.data.toList)[k]? = some (F.rle 0 (line s (9 - k))) := by
  unfold F.rows line
  rw [List.getElem?_map, List.getElem?_range hk]
  rfl
theorem ranksT_one (s : ByteArray) : ranksT s 1 = F.rle 0 (line s 9) := by
  unfold ranksT
  rw [F.rows_all]
  exact Lib.join_one _ _
theorem ranksT_succ (s : ByteArray) (k : Nat) (h1 : 1 ≤ k) (hk : k < 10) : ranksT s (k + 1) = (ranksT s k ++ [47]) ++ F.rle 0 (line s (9 - k)) := by
  obtain ⟨m, rfl⟩ : ∃ m, k = m + 1 := ⟨k - 1, by omega⟩
  have h := rows_at s (m + 1) hk
  unfold ranksT
  have hl : (F.rows s.data.toList).length = 10 := by simp [F.rows]
  cases hr : F.rows s.data.toList with
  | nil => rw [hr] at hl; cases hl
  | cons x r =>
    rw [hr, List.getElem?_cons_succ] at h
    rw [List.take_succ_cons, List.take_succ_cons, Lib.join_cons, Lib.join_cons, Lib.joinTail_take_succ [47] r m _ h]
    simp
theorem ranksT_ten (s : ByteArray) : ranksT s 10 = F.boardT s.data.toList := by
  unfold ranksT F.boardT
  rw [List.take_of_length_le (by simp [F.rows])]
theorem rle_len : ∀ (l : List UInt8) (e : Nat), (F.rle e l).length ≤ e + l.length := fun l e => by
  rw [← F.rleK_zero]
  exact F.rleK_len 0 l e
theorem line_le (s : ByteArray) (r : Nat) : (F.rle 0 (line s r)).length ≤ 9 := by
  have := rle_len (line s r) 0
  have h2 : (line s r).length ≤ 9 := by unfold line; simp; omega
  omega
theorem ranksT_len (s : ByteArray) : ∀ k, 1 ≤ k → k ≤ 10 → (ranksT s k).length ≤ 10 * k
  | 0, h, _ => absurd h (by decide)
  | 1, _, _ => by
    rw [ranksT_one]
    have := line_le s 9
    omega
  | k + 2, _, h => by
    rw [ranksT_succ s (k + 1) (by omega) (by omega)]
    have h1 := ranksT_len s (k + 1) (by omega) (by omega)
    have h2 := line_le s (9 - (k + 1))
    rw [List.length_append, List.length_append, List.length_singleton]
    omega
theorem print_eq (s : ByteArray) (side clock full : Int) (sd : List UInt8) (hsd : sd = [32, if side = 1 then 98 else 119, 32, 45, 32, 45, 32]) :
    (((ranksT s 10 ++ sd) ++ Lib.decDigits clock.toNat) ++ [32]) ++ Lib.decDigits full.toNat = F.printL (posP s side clock full) := by
  subst hsd
  rw [ranksT_ten]
  unfold F.printL F.fields posP
  rw [Lib.join_cons]
  simp [Lib.joinTail]
/-- What Print answers. -/
def printV (s : ByteArray) (side clock full : Int) : Value := if (checkN s side clock full : Int) = 0 then .tuple #[.string (bs (F.printL (posP s side clock full))), .int .i64 0] else .tuple #[.string ⟨#[]⟩, .int .i64 (checkN s side clock full : Nat)]
theorem rdigitsI (n : Int) (w : World) (h : 0 ≤ n ∧ n ≤ 1000000) : Calls Tryz.prog 22 #[.int .i64 n] w (Gives w (.string (bs (Lib.decDigits n.toNat)))) := rdigits_is n _ w h.1 h.2 rfl
set_option maxHeartbeats 1000000 in
theorem rprint_bad (s : ByteArray) (side clock full k : Int) (w : World) (K : Hid ((checkN s side clock full : Int) = k)) (hk : (k != 0) = true) : Calls Tryz.prog 23 #[.agg #[.string s, .int .i64 side, .int .i64 clock, .int .i64 full]] w (Gives w (.tuple #[.string ⟨#[]⟩, .int .i64 k])) := by
  unfold Gives
  go_enter Tryz.func23, Tryz.ntmps23
  go_wp2_with fail
  refine (rcheck_is s side clock full k _ K.out).mono ?_
  rintro e w1 ⟨rfl, hb⟩
  go_wp2
  go_ret2
  exact ⟨rfl, below_made hb⟩
set_option maxRecDepth 100000 in
set_option maxHeartbeats 4000000 in
theorem rprint_good (s : ByteArray) (side clock full : Int) (w : World) (K : Hid ((checkN s side clock full : Int) = 0)) (T : List UInt8) (HT : Hid (F.printL (posP s side clock full) = T)) : Calls Tryz.prog 23 #[.agg #[.string s, .int .i64 side, .int .i64 clock, .int .i64 full]] w (Gives w (.tuple #[.string (bs T), .int .i64 0])) := by
  unfold Gives
  have hp := (check_zeroF K.out).1
  have hs := isB_size (parts_boardF hp)
  obtain ⟨hsd, hc0, hc1, hf0, hf1⟩ := parts_nums hp
  have HS := Lib.hid hs
  clear hp hs
  go_enter Tryz.func23, Tryz.ntmps23
  go_wp2_with fail
  obtain ⟨W0, hW0⟩ : ∃ W0, w.alloc (.cells #[.string s, .int .i64 side, .int .i64 clock, .int .i64 full] 23) = W0 := ⟨_, rfl⟩
  have hB : Below w.heap.size w W0 := by rw [← hW0]; exact (by repeat (first | exact Below.refl _ _ | (refine Below.setCell ?_ (by first | omega | (simp; done) | (simp; omega) | (simp at *; omega)) _) | (refine Below.alloc ?_ (by first | omega | (simp; done) | (simp; omega) | (simp at *; omega)) _) | refine Below.drew ?_ | (refine below_drewN ?_ _) | (refine Below.trans ?_ (Below.mono (by assumption) (by first | omega | (simp; done) | (simp; omega) | (simp at *; omega))))))
  have bP : Blk W0 w.heap.size 23 #[.string s, .int .i64 side, .int .i64 clock, .int .i64 full] := by rw [← hW0]; exact Blk.new _ _ _ rfl
  rw [hW0]
  clear hW0
  refine (rcheck_is s side clock full 0 _ K.out).mono ?_
  rintro e w1 ⟨rfl, hb⟩
  replace bP := bP.next hb
  replace hB := hB.trans (hb.mono hB.size)
  clear hb
  have p0 := bP.cell 0
  simp only [List.getElem?_toArray, List.getElem?_cons_zero] at p0
  go_wp2_with fail
  refine (rrow_is s 9 _ _ HS.out (by decide) (by decide) rfl).mono ?_
  rintro e w2 ⟨rfl, hb⟩
  replace bP := bP.next hb
  replace hB := hB.trans (hb.mono hB.size)
  clear hb p0
  have h1 : Hid (F.rle 0 (line s (9 : Int).toNat) = ranksT s 1) := (ranksT_one s).symm
  rw [h1.out]
  go_wp2_with fail
  go_loopw [5, 6] (fun o i wr => ∃ k : Nat, 1 ≤ k ∧ k ≤ 10 ∧ i = .int .i64 (9 - (k : Int)) ∧ o = .string (bs (ranksT s k)) ∧ Blk wr w.heap.size 23 #[.string s, .int .i64 side, .int .i64 clock, .int .i64 full] ∧ Below w.heap.size w wr) (fun _ i _ => (intOf i + 1).toNat)
  case atStart => exact ⟨1, by omega, by omega, rfl, rfl, bP, hB⟩
  case round =>
    obtain ⟨k, hk1, hk, rfl, rfl, bP, hB⟩ := hrel
    obtain ⟨i, hi⟩ : ∃ i, 9 - (k : Int) = i := ⟨_, rfl⟩
    rw [hi]
    have p0 := bP.cell 0
    have p1 := bP.cell 1
    have p2 := bP.cell 2
    have p3 := bP.cell 3
    simp only [List.getElem?_toArray, List.getElem?_cons_zero, List.getElem?_cons_succ] at p0 p1 p2 p3
    by_cases hlt : k < 10
    · have i0 : 0 ≤ i := by omega
      have i9 : i ≤ 8 := by omega
      have hlen := ranksT_len s k hk1 hk
      have hll := line_le s (9 - k)
      have hsucc := ranksT_succ s k hk1 hlt
      have hik : i.toNat = 9 - k := by omega
      rw [← hik] at hll hsucc
      obtain ⟨t, ht⟩ : ∃ t, ranksT s k = t := ⟨_, rfl⟩
      obtain ⟨rw', hr⟩ : ∃ r, F.rle 0 (line s i.toNat) = r := ⟨_, rfl⟩
      obtain ⟨t1, ht1⟩ : ∃ t1, t ++ [47] = t1 := ⟨_, rfl⟩
      rw [ht] at hlen hsucc ⊢
      rw [hr] at hll hsucc
      rw [ht1] at hsucc
      have ht1l : t1.length = t.length + 1 := by rw [← ht1]; simp
      have hadd1 : ∀ W : World, (Op.stringOp .add (bs t) ⟨#[47]⟩).run Tryz.prog W = .ok (.string (bs t1)) W := add_run (b := [47]) ht1 (by simp; omega)
      have hadd2 := add_run (a := t1) (b := rw') hsucc.symm (by omega)
      have Hr := Lib.hid hr
      have i1 : IntKind.i64.wrap (i - 1) = i - 1 := IntWalk.i64_in _ (by omega)
      have Hi := Lib.hid hi
      clear hr ht ht1 hsucc hi p1 p2 p3
      go_wp2_with fail
      refine (rrow_is s i _ _ HS.out i0 (by omega) Hr.out).mono ?_
      rintro e w3 ⟨rfl, hb⟩
      go_wp2
      go_roundw
      case rel =>
        have := Hi.out
        exact ⟨k + 1, by omega, by omega, by rw [show i - 1 = 9 - ((k + 1 : Nat) : Int) by omega], rfl, bP.next hb, hB.trans (hb.mono hB.size)⟩
      case measure => simp [intOf]; omega
    · obtain rfl : k = 10 := by omega
      have hi0 : i < 0 := by omega
      have hS : wr.drew.cell? ⟨w.heap.size, 2, none⟩ = some (.int .i64 clock) ∧ wr.drew.cell? ⟨w.heap.size, 3, none⟩ = some (.int .i64 full) ∧ Below w.heap.size w wr.drew := ⟨p2, p3, hB.drew⟩
      have hlen := ranksT_len s 10 (by omega) (by omega)
      obtain ⟨t, ht⟩ : ∃ t, ranksT s 10 = t := ⟨_, rfl⟩
      rw [ht] at hlen ⊢
      have ldc : (Lib.decDigits clock.toNat).length ≤ 20 := by rw [Lib.decDigits_length]; exact Lib.nDigits_le20 _ (by omega)
      have ldf : (Lib.decDigits full.toNat).length ≤ 20 := by rw [Lib.decDigits_length]; exact Lib.nDigits_le20 _ (by omega)
      have hk : ∀ W W' : World, (W.cell? ⟨w.heap.size, 2, none⟩ = some (.int .i64 clock) ∧ W.cell? ⟨w.heap.size, 3, none⟩ = some (.int .i64 full) ∧ Below w.heap.size w W) → Below W.heap.size W W' → (W'.cell? ⟨w.heap.size, 2, none⟩ = some (.int .i64 clock) ∧ W'.cell? ⟨w.heap.size, 3, none⟩ = some (.int .i64 full) ∧ Below w.heap.size w W') := fun W W' h hb => by
        obtain ⟨h2, h3, h5⟩ := h
        have hg : w.heap.size < W.heap.size := World.block_lt_of_cell? _ _ h2
        exact ⟨(hb.cell (p := ⟨w.heap.size, 2, none⟩) hg).trans h2, (hb.cell (p := ⟨w.heap.size, 3, none⟩) hg).trans h3, h5.trans (hb.mono h5.size)⟩
      have HK := Lib.hid hk
      have hpe := print_eq s side clock full _ rfl
      rw [HT.out, ht] at hpe
      clear hk ht bP hB
      rcases hsd with rfl | rfl
      · replace hpe : (((t ++ [32, 119, 32, 45, 32, 45, 32]) ++ Lib.decDigits clock.toNat) ++ [32]) ++ Lib.decDigits full.toNat = T := hpe
        obtain ⟨t1, ht1⟩ : ∃ t1, t ++ [32, 119, 32, 45, 32, 45, 32] = t1 := ⟨_, rfl⟩
        obtain ⟨t2, ht2⟩ : ∃ t2, t1 ++ Lib.decDigits clock.toNat = t2 := ⟨_, rfl⟩
        obtain ⟨t3, ht3⟩ : ∃ t3, t2 ++ [32] = t3 := ⟨_, rfl⟩
        rw [ht1, ht2, ht3] at hpe
        have l1 : t1.length = t.length + 7 := by rw [← ht1]; simp
        have l2 : t2.length ≤ t1.length + 20 := by rw [← ht2]; simp; omega
        have l3 : t3.length = t2.length + 1 := by rw [← ht3]; simp
        have hadd1 : ∀ W : World, (Op.stringOp .add (bs t) ⟨#[32, 119, 32, 45, 32, 45, 32]⟩).run Tryz.prog W = .ok (.string (bs t1)) W := add_run (b := [32, 119, 32, 45, 32, 45, 32]) ht1 (by simp; omega)
        have hadd2 := add_run ht2 (by omega)
        have hadd3 : ∀ W : World, (Op.stringOp .add (bs t2) ⟨#[32]⟩).run Tryz.prog W = .ok (.string (bs t3)) W := add_run (b := [32]) ht3 (by simp; omega)
        have hadd4 := add_run hpe (by omega)
        clear ht1 ht2 ht3 hpe l1 l2 l3 ldc ldf p0 p2 p3
        go_wp2_with fail
        clear p1
        go_region_held3 (fun W => W.cell? ⟨w.heap.size, 2, none⟩ = some (.int .i64 clock) ∧ W.cell? ⟨w.heap.size, 3, none⟩ = some (.int .i64 full) ∧ Below w.heap.size w W)
          (first | exact hS | exact HK.out _ _ (by assumption) hb)
          ((go_at_call 22; refine (rdigitsI _ _ (by omega)).mono ?_; rintro e w3 ⟨rfl, hb⟩))
        all_goals
          have hB : Below w.heap.size w _ := And.right (And.right (by assumption))
          clear hadd1 hadd2 hadd3 hadd4
          go_wp2
          go_ret2
          exact ⟨rfl, hB⟩
      · replace hpe : (((t ++ [32, 98, 32, 45, 32, 45, 32]) ++ Lib.decDigits clock.toNat) ++ [32]) ++ Lib.decDigits full.toNat = T := hpe
        obtain ⟨t1, ht1⟩ : ∃ t1, t ++ [32, 98, 32, 45, 32, 45, 32] = t1 := ⟨_, rfl⟩
        obtain ⟨t2, ht2⟩ : ∃ t2, t1 ++ Lib.decDigits clock.toNat = t2 := ⟨_, rfl⟩
        obtain ⟨t3, ht3⟩ : ∃ t3, t2 ++ [32] = t3 := ⟨_, rfl⟩
        rw [ht1, ht2, ht3] at hpe
        have l1 : t1.length = t.length + 7 := by rw [← ht1]; simp
        have l2 : t2.length ≤ t1.length + 20 := by rw [← ht2]; simp; omega
        have l3 : t3.length = t2.length + 1 := by rw [← ht3]; simp
        have hadd1 : ∀ W : World, (Op.stringOp .add (bs t) ⟨#[32, 98, 32, 45, 32, 45, 32]⟩).run Tryz.prog W = .ok (.string (bs t1)) W := add_run (b := [32, 98, 32, 45, 32, 45, 32]) ht1 (by simp; omega)
        have hadd2 := add_run ht2 (by omega)
        have hadd3 : ∀ W : World, (Op.stringOp .add (bs t2) ⟨#[32]⟩).run Tryz.prog W = .ok (.string (bs t3)) W := add_run (b := [32]) ht3 (by simp; omega)
        have hadd4 := add_run hpe (by omega)
        clear ht1 ht2 ht3 hpe l1 l2 l3 ldc ldf p0 p2 p3
        go_wp2_with fail
        clear p1
        go_region_held3 (fun W => W.cell? ⟨w.heap.size, 2, none⟩ = some (.int .i64 clock) ∧ W.cell? ⟨w.heap.size, 3, none⟩ = some (.int .i64 full) ∧ Below w.heap.size w W)
          (first | exact hS | exact HK.out _ _ (by assumption) hb)
          ((go_at_call 22; refine (rdigitsI _ _ (by omega)).mono ?_; rintro e w3 ⟨rfl, hb⟩))
        all_goals
          have hB : Below w.heap.size w _ := And.right (And.right (by assumption))
          clear hadd1 hadd2 hadd3 hadd4
          go_wp2
          go_ret2
          exact ⟨rfl, hB⟩
theorem rprint_any (s : ByteArray) (side clock full : Int) (w : World) : Calls Tryz.prog 23 #[.agg #[.string s, .int .i64 side, .int .i64 clock, .int .i64 full]] w (Gives w (printV s side clock full)) := by
  unfold printV
  by_cases h : (checkN s side clock full : Int) = 0
  · rw [if_pos h]
    exact rprint_good s side clock full w h _ rfl
  · rw [if_neg h]
    exact rprint_bad s side clock full _ w rfl (by rw [bne_iff_ne]; exact h)
end Go.Proofs.YtpogpjebhnoncabGreatDoor
