/- Of a text whose second field is turned the position is the same, but for whose move it is: the call answers true. -/
import Derived.Test.YtcnaejmhifedfaaGreatDoorFenL
import Derived.Test.YtcnaejmhifedfaaGreatDoorFenI
namespace Go.Proofs.YtcnaejmhifedfaaGreatDoor.sides
open Go.RowKit Go.Shelf
open M (S)

set_option maxRecDepth 100000 in
set_option maxHeartbeats 8000000 in
theorem good0 (T : List UInt8) (b sd : List UInt8) (rest : List (List UInt8)) (n : Nat) (S : ByteArray) (u v : Int) (U : List UInt8) (w : World) (hE : Env w) (hl5 : T.length ≤ 500) (HL : Hid (F.cutL 32 T = b :: sd :: rest)) (hn : rest.length + 2 = n) (hn4 : rest.length ≤ 4) (HP : Hid (parseV T = .tuple #[.agg #[.string S, .int .i64 0, .int .i64 u, .int .i64 v], .int .i64 0])) (HU : Hid (Lib.join (b :: [98] :: rest) [32] = U)) (HQ : Hid (parseV U = .tuple #[.agg #[.string S, .int .i64 1, .int .i64 u, .int .i64 v], .int .i64 0])) : Calls Tryz.prog 7 #[.string (bs T)] w (Gives w (.bool true)) := by
  unfold Gives
  have hsz := bs_size T
  have hd : decide (500 < ((bs T).size : Int)) = false := by simp; omega
  have hs5 : (bs T).size ≤ 500 := by omega
  have hn2 : decide ((n : Int) < 2) = false := by simp; omega
  have hb5 : b.length ≤ 500 := by
    have := piece_le 32 T b (by rw [HL.out]; simp)
    omega
  have hr5 : ∀ q ∈ rest, q.length ≤ 500 := fun q hq => by
    have := piece_le 32 T q (by rw [HL.out]; simp [hq])
    omega
  have hjl : ∀ k, k ≤ 4 → (Lib.join (b :: [98] :: rest.take k) [32]).length ≤ 4000 := fun k hk => by
    have := join_le (x := 98) hb5 hr5 k
    have h2 : (500 + 1) * (k + 2) ≤ 501 * 6 := Nat.mul_le_mul (Nat.le_refl _) (by omega)
    omega
  have HJ := Lib.hid hjl
  have HR5 := Lib.hid hr5
  have hUl : U.length ≤ 4000 := by
    have := hjl rest.length hn4
    rw [List.take_of_length_le (Nat.le_refl _), HU.out] at this
    exact this
  have h0 : Lib.join (b :: [98] :: rest.take 0) [32] = b ++ [32, 98] := by
    rw [List.take_zero, Lib.join_cons]
    simp [Lib.joinTail]
  have H0 := Lib.hid h0
  have hadd0 : ∀ W : World, (Op.stringOp .add (bs b) ⟨#[32, 98]⟩).run Tryz.prog W = .ok (.string (bs (b ++ [32, 98]))) W := add_run (b := [32, 98]) rfl (by simp; omega)
  have hadd1 : ∀ W : World, (Op.stringOp .add (bs b) ⟨#[32, 119]⟩).run Tryz.prog W = .ok (.string (bs (b ++ [32, 119]))) W := add_run (b := [32, 119]) rfl (by simp; omega)
  clear hsz hjl hr5 h0
  go_enter Tryz.func7, Tryz.ntmps7
  go_wp2_with fail
  refine (rcut_isA T 32 n _ _ (by decide) (by omega) HL.out (by simpa using hn)).mono ?_
  rintro e w1 ⟨g, c, rfl, hc, hr, hb⟩
  have hB := hb
  replace hE := hE.next hb
  clear hb
  go_wp2_with fail
  refine (parse_is T _ _ hE (by omega) HP.out).mono ?_
  rintro e w2 ⟨rfl, hb⟩
  replace hr := hr.next hb
  replace hB := hB.trans (hb.mono hB.size)
  replace hE := hE.next hb
  clear hb
  have c0 := rd_at hr 0 b rfl
  have hgl := World.block_lt_of_cell? _ _ c0
  simp only [] at hgl
  obtain ⟨W, hW⟩ : ∃ W, w2.alloc (.cells #[.string S, .int .i64 0, .int .i64 u, .int .i64 v] 24) = W := ⟨_, rfl⟩
  have hA : Below w2.heap.size w2 W := by rw [← hW]; exact (by repeat (first | exact Below.refl _ _ | (refine Below.setCell ?_ (by first | omega | (simp; done) | (simp; omega) | (simp at *; omega)) _) | (refine Below.alloc ?_ (by first | omega | (simp; done) | (simp; omega) | (simp at *; omega)) _) | refine Below.drew ?_ | (refine below_drewN ?_ _) | (refine Below.trans ?_ (Below.mono (by assumption) (by first | omega | (simp; done) | (simp; omega) | (simp at *; omega))))))
  have bP : Blk W w2.heap.size 24 #[.string S, .int .i64 0, .int .i64 u, .int .i64 v] := by rw [← hW]; exact Blk.new _ _ _ rfl
  have hrW := hr.next hA
  have hEW := hE.next hA
  have hBW := hB.trans (hA.mono hB.size)
  have HW := Lib.hid hW
  clear hW hA hr hE hB
  go_wp2_with fail
  rw [HW.out]
  go_loopw [6, 7] (fun t i wr => ∃ k m : Nat, k ≤ rest.length ∧ m = k + 2 ∧ i = .int .i64 (m : Int) ∧ t = .string (bs (Lib.join (b :: [98] :: rest.take k) [32])) ∧ wr = W) (fun _ i _ => n - (intOf i).toNat)
  case atStart => exact ⟨0, 2, by omega, rfl, rfl, by rw [H0.out], rfl⟩
  case round =>
    obtain ⟨k, m, hk, hm, rfl, rfl, rfl⟩ := hrel
    have HM := Lib.hid hm
    by_cases hlt : k < rest.length
    · obtain ⟨q, hq⟩ : ∃ q, rest[k] = q := ⟨_, rfl⟩
      have hql := HR5.out q (by rw [← hq]; exact List.getElem_mem hlt)
      have hstep : Lib.join (b :: [98] :: rest.take (k + 1)) [32] = (Lib.join (b :: [98] :: rest.take k) [32] ++ [32]) ++ q := by
        rw [List.take_succ_eq_append_getElem hlt, hq, ← List.cons_append, join_snoc]
      have hc1 := rd_at hrW m q (by rw [hm, List.getElem?_cons_succ, List.getElem?_cons_succ, List.getElem?_eq_getElem hlt, hq])
      rw [Nat.zero_add] at hc1
      have hjk := HJ.out k (by omega)
      obtain ⟨t1, ht1⟩ : ∃ t1, Lib.join (b :: [98] :: rest.take k) [32] = t1 := ⟨_, rfl⟩
      rw [ht1] at hstep hjk ⊢
      obtain ⟨t2, ht2⟩ : ∃ t2, t1 ++ [32] = t2 := ⟨_, rfl⟩
      rw [ht2] at hstep
      have ht2l : t2.length = t1.length + 1 := by rw [← ht2]; simp
      have a1 : ∀ W : World, (Op.stringOp .add (bs t1) ⟨#[32]⟩).run Tryz.prog W = .ok (.string (bs t2)) W := add_run (b := [32]) ht2 (by simp; omega)
      have a2 := add_run (a := t2) (b := q) rfl (by omega)
      have HST := Lib.hid hstep
      have hmn : m < n := by omega
      have hmd : decide ((m : Int) < (n : Int)) = true := by simp; omega
      have i1 : IntKind.i64.wrap ((m : Int) + 1) = (m : Int) + 1 := IntWalk.i64_in _ (by omega)
      have hnn : n ≤ 6 := by omega
      clear hstep ht1 ht2 hq hm
      go_wp2
      go_roundw
      case rel => exact ⟨k + 1, m + 1, by omega, by have := HM.out; omega, by go_num, by rw [HST.out], trivial⟩
      case measure => simp [intOf]; omega
    · obtain rfl : k = rest.length := by omega
      have hmn : ¬ (m < n) := by omega
      have hmd : decide ((m : Int) < (n : Int)) = false := by simp; omega
      clear hm
      rw [List.take_of_length_le (Nat.le_refl _), HU.out]
      go_wp2_with fail
      refine (parse_is U _ _ hEW (by omega) HQ.out).mono ?_
      rintro e w3 ⟨rfl, hb⟩
      have bP3 := bP.next hb
      have hB3 := hBW.trans (hb.mono hBW.size)
      have hE3 := hEW.next hb
      clear hb c0
      obtain ⟨p0, p1, p2, p3⟩ := pos_cells bP3
      have hlt3 := bP3.lt
      have hA : Below w3.heap.size w3 (w3.alloc (.cells #[.string S, .int .i64 1, .int .i64 u, .int .i64 v] 24)) := (by repeat (first | exact Below.refl _ _ | (refine Below.setCell ?_ (by first | omega | (simp; done) | (simp; omega) | (simp at *; omega)) _) | (refine Below.alloc ?_ (by first | omega | (simp; done) | (simp; omega) | (simp at *; omega)) _) | refine Below.drew ?_ | (refine below_drewN ?_ _) | (refine Below.trans ?_ (Below.mono (by assumption) (by first | omega | (simp; done) | (simp; omega) | (simp at *; omega))))))
      have hB4 := hB3.trans (hA.mono hB3.size)
      have hE4 := hE3.next hA
      clear hA
      go_wp2_with fail
      refine (live4_any _ hE4).mono ?_
      rintro e w9 ⟨rfl, hb⟩
      go_wp2
      go_ret
      exact ⟨rfl, hB4.trans (hb.mono hB4.size)⟩
set_option maxRecDepth 100000 in
set_option maxHeartbeats 8000000 in
theorem good1 (T : List UInt8) (b sd : List UInt8) (rest : List (List UInt8)) (n : Nat) (S : ByteArray) (u v : Int) (U : List UInt8) (w : World) (hE : Env w) (hl5 : T.length ≤ 500) (HL : Hid (F.cutL 32 T = b :: sd :: rest)) (hn : rest.length + 2 = n) (hn4 : rest.length ≤ 4) (HP : Hid (parseV T = .tuple #[.agg #[.string S, .int .i64 1, .int .i64 u, .int .i64 v], .int .i64 0])) (HU : Hid (Lib.join (b :: [119] :: rest) [32] = U)) (HQ : Hid (parseV U = .tuple #[.agg #[.string S, .int .i64 0, .int .i64 u, .int .i64 v], .int .i64 0])) : Calls Tryz.prog 7 #[.string (bs T)] w (Gives w (.bool true)) := by
  unfold Gives
  have hsz := bs_size T
  have hd : decide (500 < ((bs T).size : Int)) = false := by simp; omega
  have hs5 : (bs T).size ≤ 500 := by omega
  have hn2 : decide ((n : Int) < 2) = false := by simp; omega
  have hb5 : b.length ≤ 500 := by
    have := piece_le 32 T b (by rw [HL.out]; simp)
    omega
  have hr5 : ∀ q ∈ rest, q.length ≤ 500 := fun q hq => by
    have := piece_le 32 T q (by rw [HL.out]; simp [hq])
    omega
  have hjl : ∀ k, k ≤ 4 → (Lib.join (b :: [119] :: rest.take k) [32]).length ≤ 4000 := fun k hk => by
    have := join_le (x := 119) hb5 hr5 k
    have h2 : (500 + 1) * (k + 2) ≤ 501 * 6 := Nat.mul_le_mul (Nat.le_refl _) (by omega)
    omega
  have HJ := Lib.hid hjl
  have HR5 := Lib.hid hr5
  have hUl : U.length ≤ 4000 := by
    have := hjl rest.length hn4
    rw [List.take_of_length_le (Nat.le_refl _), HU.out] at this
    exact this
  have h0 : Lib.join (b :: [119] :: rest.take 0) [32] = b ++ [32, 119] := by
    rw [List.take_zero, Lib.join_cons]
    simp [Lib.joinTail]
  have H0 := Lib.hid h0
  have hadd0 : ∀ W : World, (Op.stringOp .add (bs b) ⟨#[32, 98]⟩).run Tryz.prog W = .ok (.string (bs (b ++ [32, 98]))) W := add_run (b := [32, 98]) rfl (by simp; omega)
  have hadd1 : ∀ W : World, (Op.stringOp .add (bs b) ⟨#[32, 119]⟩).run Tryz.prog W = .ok (.string (bs (b ++ [32, 119]))) W := add_run (b := [32, 119]) rfl (by simp; omega)
  clear hsz hjl hr5 h0
  go_enter Tryz.func7, Tryz.ntmps7
  go_wp2_with fail
  refine (rcut_isA T 32 n _ _ (by decide) (by omega) HL.out (by simpa using hn)).mono ?_
  rintro e w1 ⟨g, c, rfl, hc, hr, hb⟩
  have hB := hb
  replace hE := hE.next hb
  clear hb
  go_wp2_with fail
  refine (parse_is T _ _ hE (by omega) HP.out).mono ?_
  rintro e w2 ⟨rfl, hb⟩
  replace hr := hr.next hb
  replace hB := hB.trans (hb.mono hB.size)
  replace hE := hE.next hb
  clear hb
  have c0 := rd_at hr 0 b rfl
  have hgl := World.block_lt_of_cell? _ _ c0
  simp only [] at hgl
  obtain ⟨W, hW⟩ : ∃ W, w2.alloc (.cells #[.string S, .int .i64 1, .int .i64 u, .int .i64 v] 24) = W := ⟨_, rfl⟩
  have hA : Below w2.heap.size w2 W := by rw [← hW]; exact (by repeat (first | exact Below.refl _ _ | (refine Below.setCell ?_ (by first | omega | (simp; done) | (simp; omega) | (simp at *; omega)) _) | (refine Below.alloc ?_ (by first | omega | (simp; done) | (simp; omega) | (simp at *; omega)) _) | refine Below.drew ?_ | (refine below_drewN ?_ _) | (refine Below.trans ?_ (Below.mono (by assumption) (by first | omega | (simp; done) | (simp; omega) | (simp at *; omega))))))
  have bP : Blk W w2.heap.size 24 #[.string S, .int .i64 1, .int .i64 u, .int .i64 v] := by rw [← hW]; exact Blk.new _ _ _ rfl
  have hrW := hr.next hA
  have hEW := hE.next hA
  have hBW := hB.trans (hA.mono hB.size)
  have HW := Lib.hid hW
  clear hW hA hr hE hB
  go_wp2_with fail
  rw [HW.out]
  go_loopw [6, 7] (fun t i wr => ∃ k m : Nat, k ≤ rest.length ∧ m = k + 2 ∧ i = .int .i64 (m : Int) ∧ t = .string (bs (Lib.join (b :: [119] :: rest.take k) [32])) ∧ wr = W) (fun _ i _ => n - (intOf i).toNat)
  case atStart => exact ⟨0, 2, by omega, rfl, rfl, by rw [H0.out], rfl⟩
  case round =>
    obtain ⟨k, m, hk, hm, rfl, rfl, rfl⟩ := hrel
    have HM := Lib.hid hm
    by_cases hlt : k < rest.length
    · obtain ⟨q, hq⟩ : ∃ q, rest[k] = q := ⟨_, rfl⟩
      have hql := HR5.out q (by rw [← hq]; exact List.getElem_mem hlt)
      have hstep : Lib.join (b :: [119] :: rest.take (k + 1)) [32] = (Lib.join (b :: [119] :: rest.take k) [32] ++ [32]) ++ q := by
        rw [List.take_succ_eq_append_getElem hlt, hq, ← List.cons_append, join_snoc]
      have hc1 := rd_at hrW m q (by rw [hm, List.getElem?_cons_succ, List.getElem?_cons_succ, List.getElem?_eq_getElem hlt, hq])
      rw [Nat.zero_add] at hc1
      have hjk := HJ.out k (by omega)
      obtain ⟨t1, ht1⟩ : ∃ t1, Lib.join (b :: [119] :: rest.take k) [32] = t1 := ⟨_, rfl⟩
      rw [ht1] at hstep hjk ⊢
      obtain ⟨t2, ht2⟩ : ∃ t2, t1 ++ [32] = t2 := ⟨_, rfl⟩
      rw [ht2] at hstep
      have ht2l : t2.length = t1.length + 1 := by rw [← ht2]; simp
      have a1 : ∀ W : World, (Op.stringOp .add (bs t1) ⟨#[32]⟩).run Tryz.prog W = .ok (.string (bs t2)) W := add_run (b := [32]) ht2 (by simp; omega)
      have a2 := add_run (a := t2) (b := q) rfl (by omega)
      have HST := Lib.hid hstep
      have hmn : m < n := by omega
      have hmd : decide ((m : Int) < (n : Int)) = true := by simp; omega
      have i1 : IntKind.i64.wrap ((m : Int) + 1) = (m : Int) + 1 := IntWalk.i64_in _ (by omega)
      have hnn : n ≤ 6 := by omega
      clear hstep ht1 ht2 hq hm
      go_wp2
      go_roundw
      case rel => exact ⟨k + 1, m + 1, by omega, by have := HM.out; omega, by go_num, by rw [HST.out], trivial⟩
      case measure => simp [intOf]; omega
    · obtain rfl : k = rest.length := by omega
      have hmn : ¬ (m < n) := by omega
      have hmd : decide ((m : Int) < (n : Int)) = false := by simp; omega
      clear hm
      rw [List.take_of_length_le (Nat.le_refl _), HU.out]
      go_wp2_with fail
      refine (parse_is U _ _ hEW (by omega) HQ.out).mono ?_
      rintro e w3 ⟨rfl, hb⟩
      have bP3 := bP.next hb
      have hB3 := hBW.trans (hb.mono hBW.size)
      have hE3 := hEW.next hb
      clear hb c0
      obtain ⟨p0, p1, p2, p3⟩ := pos_cells bP3
      have hlt3 := bP3.lt
      have hA : Below w3.heap.size w3 (w3.alloc (.cells #[.string S, .int .i64 0, .int .i64 u, .int .i64 v] 24)) := (by repeat (first | exact Below.refl _ _ | (refine Below.setCell ?_ (by first | omega | (simp; done) | (simp; omega) | (simp at *; omega)) _) | (refine Below.alloc ?_ (by first | omega | (simp; done) | (simp; omega) | (simp at *; omega)) _) | refine Below.drew ?_ | (refine below_drewN ?_ _) | (refine Below.trans ?_ (Below.mono (by assumption) (by first | omega | (simp; done) | (simp; omega) | (simp at *; omega))))))
      have hB4 := hB3.trans (hA.mono hB3.size)
      have hE4 := hE3.next hA
      clear hA
      go_wp2_with fail
      refine (live4_any _ hE4).mono ?_
      rintro e w9 ⟨rfl, hb⟩
      go_wp2
      go_ret
      exact ⟨rfl, hB4.trans (hb.mono hB4.size)⟩
set_option maxRecDepth 100000 in
set_option maxHeartbeats 8000000 in
theorem over (T : List UInt8) (S : ByteArray) (a b c k : Int) (w : World) (hE : Env w) (hl : T.length ≤ 1048576) (HP : Hid (parseV T = .tuple #[.agg #[.string S, .int .i64 a, .int .i64 b, .int .i64 c], .int .i64 k])) (hcase : 500 < T.length ∨ (T.length ≤ 500 ∧ (k != 0) = true)) : Calls Tryz.prog 7 #[.string (bs T)] w (Gives w (.bool true)) := by
  unfold Gives
  have hsz := bs_size T
  obtain ⟨n, hn⟩ : ∃ n, (F.cutL 32 T).length = n := ⟨_, rfl⟩
  have HN := Lib.hid hn
  clear hn
  rcases hcase with h | ⟨h, hk⟩
  · have hd : decide (500 < ((bs T).size : Int)) = true := by simp; omega
    clear hsz
    go_enter Tryz.func7, Tryz.ntmps7
    go_wp2_with fail
    refine (rcut_isA T 32 n _ _ (by decide) hl rfl HN.out).mono ?_
    rintro e w1 ⟨g, c', rfl, hc, hr, hb⟩
    have hB := hb
    replace hE := hE.next hb
    clear hb hr
    go_wp2_with fail
    refine (parse_is T _ _ hE (by omega) HP.out).mono ?_
    rintro e w2 ⟨rfl, hb⟩
    have hA : Below w2.heap.size w2 (w2.alloc (.cells #[.string S, .int .i64 a, .int .i64 b, .int .i64 c] 24)) := (by repeat (first | exact Below.refl _ _ | (refine Below.setCell ?_ (by first | omega | (simp; done) | (simp; omega) | (simp at *; omega)) _) | (refine Below.alloc ?_ (by first | omega | (simp; done) | (simp; omega) | (simp at *; omega)) _) | refine Below.drew ?_ | (refine below_drewN ?_ _) | (refine Below.trans ?_ (Below.mono (by assumption) (by first | omega | (simp; done) | (simp; omega) | (simp at *; omega))))))
    replace hB := (hB.trans (hb.mono hB.size)).trans (hA.mono (hB.trans (hb.mono hB.size)).size)
    replace hE := (hE.next hb).next hA
    clear hb hA
    go_wp2_with fail
    refine (live4_any _ hE).mono ?_
    rintro e w9 ⟨rfl, hb⟩
    go_wp2
    go_ret
    exact ⟨rfl, hB.trans (hb.mono hB.size)⟩
  · have hd : decide (500 < ((bs T).size : Int)) = false := by simp; omega
    have hs5 : (bs T).size ≤ 500 := by omega
    clear hsz
    go_enter Tryz.func7, Tryz.ntmps7
    go_wp2_with fail
    refine (rcut_isA T 32 n _ _ (by decide) hl rfl HN.out).mono ?_
    rintro e w1 ⟨g, c', rfl, hc, hr, hb⟩
    have hB := hb
    replace hE := hE.next hb
    clear hb hr
    go_wp2_with fail
    refine (parse_is T _ _ hE (by omega) HP.out).mono ?_
    rintro e w2 ⟨rfl, hb⟩
    have hA : Below w2.heap.size w2 (w2.alloc (.cells #[.string S, .int .i64 a, .int .i64 b, .int .i64 c] 24)) := (by repeat (first | exact Below.refl _ _ | (refine Below.setCell ?_ (by first | omega | (simp; done) | (simp; omega) | (simp at *; omega)) _) | (refine Below.alloc ?_ (by first | omega | (simp; done) | (simp; omega) | (simp at *; omega)) _) | refine Below.drew ?_ | (refine below_drewN ?_ _) | (refine Below.trans ?_ (Below.mono (by assumption) (by first | omega | (simp; done) | (simp; omega) | (simp at *; omega))))))
    replace hB := (hB.trans (hb.mono hB.size)).trans (hA.mono (hB.trans (hb.mono hB.size)).size)
    replace hE := (hE.next hb).next hA
    clear hb hA
    go_wp2_with fail
    refine (live4_any _ hE).mono ?_
    rintro e w9 ⟨rfl, hb⟩
    go_wp2
    go_ret
    exact ⟨rfl, hB.trans (hb.mono hB.size)⟩
theorem walk (s : ByteArray) (w : World) (hE : Env w) (hs : s.size ≤ 1048576) : Calls Tryz.prog 7 #[.string s] w (Gives w (.bool true)) := by
  obtain ⟨T, rfl⟩ : ∃ T, s = bs T := ⟨s.data.toList, (bs_back s).symm⟩
  rw [bs_size] at hs
  by_cases h5 : T.length ≤ 500
  · cases hf : F.formL T with
    | none =>
      exact over T _ _ _ _ _ w hE hs (by show _ = _; rw [parse_none hf]; rfl) (.inr ⟨h5, rfl⟩)
    | some p =>
      by_cases h : (checkP p : Int) = 0
      · obtain ⟨b, sd, rest, hl, h4⟩ := form_len hf
        have hc : (checkN (bs p.cells) p.side p.clock p.full : Int) = 0 := h
        obtain ⟨h01, hfl⟩ := check_flip hc
        have hP := parse_yes hf h
        rcases h01 with h0 | h1
        · have hq := form_flip (x := 98) (y := 1) hl hf rfl (by decide)
          have hQ := parse_yes hq (by rw [h0] at hfl; exact hfl)
          rw [posVP, h0] at hP
          exact good0 T b sd rest _ (bs p.cells) p.clock p.full _ w hE h5 hl rfl h4 hP rfl hQ
        · have hq := form_flip (x := 119) (y := 0) hl hf rfl (by decide)
          have hQ := parse_yes hq (by rw [h1] at hfl; exact hfl)
          rw [posVP, h1] at hP
          exact good1 T b sd rest _ (bs p.cells) p.clock p.full _ w hE h5 hl rfl h4 hP rfl hQ
      · exact over T _ _ _ _ _ w hE hs (parse_no hf h) (.inr ⟨h5, by rw [bne_iff_ne]; exact h⟩)
  · cases hf : F.formL T with
    | none => exact over T _ _ _ _ _ w hE hs (by show _ = _; rw [parse_none hf]; rfl) (.inl (by omega))
    | some p =>
      by_cases h : (checkP p : Int) = 0
      · exact over T _ _ _ _ _ w hE hs (parse_yes hf h) (.inl (by omega))
      · exact over T _ _ _ _ _ w hE hs (parse_no hf h) (.inl (by omega))
end Go.Proofs.YtcnaejmhifedfaaGreatDoor.sides
