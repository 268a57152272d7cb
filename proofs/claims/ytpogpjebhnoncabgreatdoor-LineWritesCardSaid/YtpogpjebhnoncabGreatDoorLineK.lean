/- The document's own examples of layer 23 hold; texts and commands that are the same. -/
import Derived.Test.YtpogpjebhnoncabGreatDoorLineJ
namespace Go.Proofs.YtpogpjebhnoncabGreatDoor
open Go.RowKit Go.Shelf Go.Proofs.YtpogpjebhnoncabGreatDoor.Ln
open M (S)

theorem parse_got (s : List UInt8) (c : Cmd) {w : World} {a0 a1 a2 : Addr} (hE : Env w) (hR : Errs w a0 a1 a2) (hs : s.length < 4294967281) (h : parseL s = .ok c) : Calls Tryz.prog 12 #[.string (bs s)] w fun e w' => ∃ A n, e = .returned (.tuple #[.agg #[.int .i64 c.k, .string (bs c.p.cells), .int .i64 c.p.side, .int .i64 c.p.clock, .int .i64 c.p.full, .slice A c.l.length n, .int .i64 c.d], .int .i64 0]) ∧ RdM w' A c.l ∧ Below w.heap.size w w' := by
  refine (lparse_any s hE hR hs).mono ?_
  rintro e w' hG
  rw [h] at hG
  obtain ⟨hb, v, rfl, ho⟩ := hG
  obtain ⟨A, n, rfl, hm, _, _⟩ := own_moves ho
  exact ⟨A, n, rfl, hm, hb⟩
theorem parse_not (s : List UInt8) (k : Int) {w : World} {a0 a1 a2 : Addr} (hE : Env w) (hR : Errs w a0 a1 a2) (hs : s.length < 4294967281) (h : parseL s = .error k) : Calls Tryz.prog 12 #[.string (bs s)] w (Gives w (.tuple #[.agg cmdZ, .int .i64 k])) := by
  refine (lparse_any s hE hR hs).mono ?_
  rintro e w' hG
  rw [h] at hG
  exact ⟨hG.2, hG.1⟩
theorem lk1 : parseL [32, 112, 111, 115, 105, 116, 105, 111, 110, 32, 32, 115, 116, 97, 114, 116, 112, 111, 115, 32, 109, 111, 118, 101, 115, 32, 104, 50, 101, 50] = .ok ⟨3, startP, [(25, 22)], 0⟩ := by kernel_rfl
theorem lk2 : parseL [103, 111, 32, 100, 101, 112, 116, 104, 32, 49, 50] = .ok ⟨5, zeroP, [], 12⟩ := by kernel_rfl
theorem lk3 : parseL [103, 111, 32, 100, 101, 112, 116, 104, 32, 48, 49, 50] = .error 9 := by kernel_rfl
theorem lk4 : parseL [112, 111, 115, 105, 116, 105, 111, 110, 32, 102, 101, 110, 32, 57, 47, 57, 32, 119] = .error 6 := by kernel_rfl
theorem lk5 : parseL [98, 97, 110, 109, 111, 118, 101, 115, 32, 120] = .error 6 := by kernel_rfl
theorem lk6 : printC ⟨3, startP, [(25, 22)], 0⟩ = [112, 111, 115, 105, 116, 105, 111, 110, 32, 115, 116, 97, 114, 116, 112, 111, 115, 32, 109, 111, 118, 101, 115, 32, 104, 50, 101, 50] := by
  rw [printC_is, if_neg (by decide), if_neg (by decide), if_pos rfl]
  have e : placeT startP = startW := by unfold placeT; exact if_pos rfl
  unfold setT
  rw [e, if_neg (by decide), if_neg (by decide)]
  rfl
theorem lk7 : wordsV [97, 9, 98, 32] = [[97], [98]] := by kernel_rfl
set_option maxRecDepth 100000 in
set_option maxHeartbeats 4000000 in
theorem texts_is (A B : Option Addr) (l : List (List UInt8)) (n c d : Nat) (w : World) (ha : Rd w A (l.map sv)) (hb : Rd w B (l.map sv)) (hn : l.length = n) (hn9 : n ≤ 1000000) : Calls Tryz.prog 16 #[.slice A n c, .slice B n d] w (Gives w (.bool true)) := by
  unfold Gives
  have HN := Lib.hid hn
  have hnn : ((n : Int) != (n : Int)) = false := by simp
  clear hn
  go_enter Tryz.func16, Tryz.ntmps16
  go_wp2
  go_loopw [5] (fun i wr => ∃ j : Nat, j ≤ n ∧ i = .int .i64 (j : Int) ∧ Below w.heap.size w wr) (fun i _ => n - (intOf i).toNat)
  case atStart => exact ⟨0, Nat.zero_le _, rfl, Below.refl _ _⟩
  case round =>
    obtain ⟨j, hj, rfl, hB⟩ := hrel
    by_cases hlt : j < n
    · have bj : (j : Int) < (n : Int) := by omega
      have hjl : j < l.length := by rw [HN.out]; exact hlt
      obtain ⟨x, hx⟩ : ∃ x, l[j]? = some x := ⟨_, List.getElem?_eq_getElem hjl⟩
      obtain ⟨g1, b1, rfl, d0⟩ := rd_form (ha.next hB) (by omega)
      obtain ⟨g2, b2, rfl, f0⟩ := rd_form (hb.next hB) (by omega)
      replace d0 := d0 j x hx
      replace f0 := f0 j x hx
      have ss : ((bs x).toList == (bs x).toList) = true := by simp
      clear hx
      go_wp2
      go_quiet (fail)
      go_wp2
      go_roundw
      case rel => exact ⟨j + 1, by omega, by go_num, below_drewN hB _⟩
      case measure => simp [intOf]; omega
    · obtain rfl : j = n := by omega
      have bj : ¬ (j : Int) < (j : Int) := by omega
      go_wp2
      go_ret
      exact ⟨rfl, hB⟩
set_option maxRecDepth 100000 in
set_option maxHeartbeats 4000000 in
theorem msame_is (A B : Option Addr) (l : List (Int × Int)) (n c d : Nat) (w : World) (ha : RdM w A l) (hb : RdM w B l) (hn : l.length = n) (hn9 : n ≤ 1000000) : Calls Tryz.prog 29 #[.slice A n c, .slice B n d] w (Gives w (.bool true)) := by
  unfold Gives
  have HN := Lib.hid hn
  have hnn : ((n : Int) != (n : Int)) = false := by simp
  clear hn
  go_enter Tryz.func29, Tryz.ntmps29
  go_wp2
  go_loopw [5] (fun i wr => ∃ j : Nat, j ≤ n ∧ i = .int .i64 (j : Int) ∧ Below w.heap.size w wr) (fun i _ => n - (intOf i).toNat)
  case atStart => exact ⟨0, Nat.zero_le _, rfl, Below.refl _ _⟩
  case round =>
    obtain ⟨j, hj, rfl, hB⟩ := hrel
    by_cases hlt : j < n
    · have bj : (j : Int) < (n : Int) := by omega
      have hjl : j < l.length := by rw [HN.out]; exact hlt
      obtain ⟨⟨x, y⟩, hx⟩ : ∃ x, l[j]? = some x := ⟨_, List.getElem?_eq_getElem hjl⟩
      obtain ⟨g1, b1, rfl, d0, d1⟩ := (ha.next hB) j _ hx
      obtain ⟨g2, b2, rfl, f0, f1⟩ := (hb.next hB) j _ hx
      clear hx
      go_wp2
      go_quiet (fail)
      go_wp2
      go_roundw
      case rel => exact ⟨j + 1, by omega, by go_num, below_drewN hB _⟩
      case measure => simp [intOf]; omega
    · obtain rfl : j = n := by omega
      have bj : ¬ (j : Int) < (j : Int) := by omega
      go_wp2
      go_ret
      exact ⟨rfl, hB⟩
set_option maxRecDepth 100000 in
set_option maxHeartbeats 4000000 in
theorem told_is (k x y z d : Int) (s : ByteArray) (A : Option Addr) (n c : Nat) (w : World) : Calls Tryz.prog 14 #[.agg #[.int .i64 k, .string s, .int .i64 x, .int .i64 y, .int .i64 z, .slice A n c, .int .i64 d]] w (Gives w (.agg #[.int .i64 k, .string s, .int .i64 x, .int .i64 y, .int .i64 z, .slice A n c, .int .i64 d])) := by
  unfold Gives
  go_enter Tryz.func14, Tryz.ntmps14
  go_wp2
  have hB : Below w.heap.size w ((w.alloc (.cells #[.int .i64 k, .string s, .int .i64 x, .int .i64 y, .int .i64 z, .slice A n c, .int .i64 d] 29)).alloc (.cells #[.int .i64 k, .string s, .int .i64 x, .int .i64 y, .int .i64 z, .slice A n c, .int .i64 d] 26)) := (by repeat (first | exact Below.refl _ _ | (refine Below.setCell ?_ (by first | omega | (simp; done) | (simp; omega) | (simp at *; omega)) _) | (refine Below.alloc ?_ (by first | omega | (simp; done) | (simp; omega) | (simp at *; omega)) _) | refine Below.drew ?_ | (refine below_drewN ?_ _) | (refine Below.trans ?_ (Below.mono (by assumption) (by first | omega | (simp; done) | (simp; omega) | (simp at *; omega))))))
  refine bodyPost_ret (v := .agg #[.int .i64 k, .string s, .int .i64 x, .int .i64 y, .int .i64 z, .slice A n c, .int .i64 d]) (by simp [results, Tryz.results14, go_sem]) rfl ⟨rfl, hB⟩
set_option maxRecDepth 100000 in
set_option maxHeartbeats 4000000 in
theorem csame_is (k x y z d : Int) (s : ByteArray) (A B : Option Addr) (l : List (Int × Int)) (n c c' : Nat) (w : World) (ha : RdM w A l) (hb : RdM w B l) (hn : l.length = n) (hn9 : n ≤ 1000000) : Calls Tryz.prog 13 #[.agg #[.int .i64 k, .string s, .int .i64 x, .int .i64 y, .int .i64 z, .slice A n c, .int .i64 d], .agg #[.int .i64 k, .string s, .int .i64 x, .int .i64 y, .int .i64 z, .slice B n c', .int .i64 d]] w (Gives w (.bool true)) := by
  unfold Gives
  have hA : Below w.heap.size w ((w.alloc (.cells #[.int .i64 k, .string s, .int .i64 x, .int .i64 y, .int .i64 z, .slice A n c, .int .i64 d] 26)).alloc (.cells #[.int .i64 k, .string s, .int .i64 x, .int .i64 y, .int .i64 z, .slice B n c', .int .i64 d] 26)) := (by repeat (first | exact Below.refl _ _ | (refine Below.setCell ?_ (by first | omega | (simp; done) | (simp; omega) | (simp at *; omega)) _) | (refine Below.alloc ?_ (by first | omega | (simp; done) | (simp; omega) | (simp at *; omega)) _) | refine Below.drew ?_ | (refine below_drewN ?_ _) | (refine Below.trans ?_ (Below.mono (by assumption) (by first | omega | (simp; done) | (simp; omega) | (simp at *; omega))))))
  have hm := msame_is A B l n c c' _ (ha.next hA) (hb.next hA) hn hn9
  have HA := Lib.hid hA
  have HM := Lib.hid hm
  have ss : (s.toList == s.toList) = true := by simp
  clear ha hb hA hm hn
  go_enter Tryz.func13, Tryz.ntmps13
  go_wp2_with fail
  refine HM.out.mono ?_
  rintro e w1 ⟨rfl, hb1⟩
  go_wp2_with fail
  go_ret
  exact ⟨rfl, HA.out.trans (hb1.mono HA.out.size)⟩
/-- What a step of the examples leaves: what was below, one block more. -/
theorem cmd_step {w V w1 : World} (hB : Below w.heap.size w V) (hb : Below V.heap.size V w1) (cs : Array Value) (t : TypeId) : Below w.heap.size w (w1.alloc (.cells cs t)) := (hB.trans (hb.mono hB.size)).alloc (hB.trans (hb.mono hB.size)).size _
theorem RdM.alloc {w : World} {A : Option Addr} {l : List (Int × Int)} (h : RdM w A l) (o : Obj) : RdM (w.alloc o) A l := h.next ((Below.refl _ _).alloc (Nat.le_refl _) _)
set_option maxRecDepth 100000 in
set_option maxHeartbeats 8000000 in
theorem live23_any {w : World} {a0 a1 a2 : Addr} (hE : Env w) (hR : Errs w a0 a1 a2) : Calls Tryz.prog 8 #[] w (Gives w (.bool true)) := by
  unfold Gives
  obtain ⟨ST, hST⟩ : ∃ x, bs startL = x := ⟨_, rfl⟩
  have P1 := fun (W : World) (h1 : Env W) (h2 : Errs W a0 a1 a2) => parse_got _ _ h1 h2 (by decide) lk1
  simp only [startP] at P1
  rw [hST] at P1
  have P2 : ∀ W : World, Env W → Errs W a0 a1 a2 → Calls Tryz.prog 12 #[.string (bs [103, 111, 32, 100, 101, 112, 116, 104, 32, 49, 50])] W fun e w' => ∃ A n, e = .returned (.tuple #[.agg #[.int .i64 5, .string ⟨#[]⟩, .int .i64 0, .int .i64 0, .int .i64 0, .slice A 0 n, .int .i64 12], .int .i64 0]) ∧ RdM w' A [] ∧ Below W.heap.size W w' := fun W h1 h2 => parse_got _ _ h1 h2 (by decide) lk2
  have P3 := fun (W : World) (h1 : Env W) (h2 : Errs W a0 a1 a2) => parse_not _ _ h1 h2 (by decide) lk3
  have P4 := fun (W : World) (h1 : Env W) (h2 : Errs W a0 a1 a2) => parse_not _ _ h1 h2 (by decide) lk4
  have P5 := fun (W : World) (h1 : Env W) (h2 : Errs W a0 a1 a2) => parse_not _ _ h1 h2 (by decide) lk5
  have P6 := fun (A : Option Addr) (n : Nat) (W : World) (h1 : Env W) (h2 : RdM W A [(25, 22)]) => printL_any ⟨3, startP, [(25, 22)], 0⟩ A 1 n W h1 h2 rfl (by decide)
  rw [lk6] at P6
  simp only [startP] at P6
  rw [hST] at P6
  have P7 := fun (W : World) (h1 : Env W) => words_any [97, 9, 98, 32] W h1 (by decide)
  rw [lk7] at P7
  replace P1 := Lib.hid P1
  replace P2 := Lib.hid P2
  replace P3 := Lib.hid P3
  replace P4 := Lib.hid P4
  replace P5 := Lib.hid P5
  replace P6 := Lib.hid P6
  replace P7 := Lib.hid P7
  have HS := Lib.hid hST
  clear hST
  go_enter Tryz.func8, Tryz.ntmps8
  go_wp2_with fail
  refine (P1.out w hE hR).mono ?_
  rintro e w1 ⟨A, n, rfl, hm, hb⟩
  have hB := cmd_step (Below.refl w.heap.size w) hb #[.int .i64 3, .string ST, .int .i64 0, .int .i64 0, .int .i64 1, .slice A 1 n, .int .i64 0] 29
  have bA := Blk.new w1 29 #[.int .i64 3, .string ST, .int .i64 0, .int .i64 0, .int .i64 1, .slice A 1 n, .int .i64 0] rfl
  replace hm := hm.alloc (.cells #[.int .i64 3, .string ST, .int .i64 0, .int .i64 0, .int .i64 1, .slice A 1 n, .int .i64 0] 29)
  clear hb
  go_wp2_with fail
  generalize w1.alloc (.cells #[.int .i64 3, .string ST, .int .i64 0, .int .i64 0, .int .i64 1, .slice A 1 n, .int .i64 0] 29) = V1 at hB bA hm ⊢
  generalize w1.heap.size = gA at bA ⊢
  clear w1
  refine (P2.out V1 (hE.next hB) (hR.next hB)).mono ?_
  rintro e w2 ⟨A2, n2, rfl, hz, hb⟩
  clear hz
  have hB2 := cmd_step hB hb #[.int .i64 5, .string ⟨#[]⟩, .int .i64 0, .int .i64 0, .int .i64 0, .slice A2 0 n2, .int .i64 12] 29
  have bB := Blk.new w2 29 #[.int .i64 5, .string ⟨#[]⟩, .int .i64 0, .int .i64 0, .int .i64 0, .slice A2 0 n2, .int .i64 12] rfl
  replace hm := (hm.next hb).alloc (.cells #[.int .i64 5, .string ⟨#[]⟩, .int .i64 0, .int .i64 0, .int .i64 0, .slice A2 0 n2, .int .i64 12] 29)
  replace bA := (bA.next hb).alloc (.cells #[.int .i64 5, .string ⟨#[]⟩, .int .i64 0, .int .i64 0, .int .i64 0, .slice A2 0 n2, .int .i64 12] 29)
  clear hb hB
  go_wp2_with fail
  generalize w2.alloc (.cells #[.int .i64 5, .string ⟨#[]⟩, .int .i64 0, .int .i64 0, .int .i64 0, .slice A2 0 n2, .int .i64 12] 29) = V2 at hB2 bB bA hm ⊢
  generalize w2.heap.size = gB at bB ⊢
  clear w2
  refine (P3.out V2 (hE.next hB2) (hR.next hB2)).mono ?_
  rintro e w3 ⟨rfl, hb⟩
  have hB3 := cmd_step hB2 hb cmdZ 29
  replace hm := (hm.next hb).alloc (.cells cmdZ 29)
  replace bA := (bA.next hb).alloc (.cells cmdZ 29)
  replace bB := (bB.next hb).alloc (.cells cmdZ 29)
  clear hb hB2
  go_wp2_with fail
  generalize w3.alloc (.cells cmdZ 29) = V3 at hB3 bB bA hm ⊢
  generalize w3.heap.size = g3
  clear w3
  refine (P4.out V3 (hE.next hB3) (hR.next hB3)).mono ?_
  rintro e w4 ⟨rfl, hb⟩
  have hB4 := cmd_step hB3 hb cmdZ 29
  replace hm := (hm.next hb).alloc (.cells cmdZ 29)
  replace bA := (bA.next hb).alloc (.cells cmdZ 29)
  replace bB := (bB.next hb).alloc (.cells cmdZ 29)
  clear hb hB3
  go_wp2_with fail
  generalize w4.alloc (.cells cmdZ 29) = V4 at hB4 bB bA hm ⊢
  generalize w4.heap.size = g4
  clear w4
  refine (P5.out V4 (hE.next hB4) (hR.next hB4)).mono ?_
  rintro e w5 ⟨rfl, hb⟩
  have hB5 := cmd_step hB4 hb cmdZ 29
  replace hm := (hm.next hb).alloc (.cells cmdZ 29)
  replace bA := (bA.next hb).alloc (.cells cmdZ 29)
  replace bB := (bB.next hb).alloc (.cells cmdZ 29)
  clear hb hB4
  go_upto_region 6 with (fail)
  generalize w5.alloc (.cells cmdZ 29) = V5 at hB5 bB bA hm ⊢
  generalize w5.heap.size = g5
  clear w5
  obtain ⟨r0, r1, r2, r3, r4, r5, r6⟩ := c_cells bA
  obtain ⟨q0, q1, q2, q3, q4, q5, q6⟩ := c_cells bB
  have hst : ST.toList = [82, 78, 66, 65, 75, 65, 66, 78, 82, 46, 46, 46, 46, 46, 46, 46, 46, 46, 46, 67, 46, 46, 46, 46, 46, 67, 46, 80, 46, 80, 46, 80, 46, 80, 46, 80, 46, 46, 46, 46, 46, 46, 46, 46, 46, 46, 46, 46, 46, 46, 46, 46, 46, 46, 112, 46, 112, 46, 112, 46, 112, 46, 112, 46, 99, 46, 46, 46, 46, 46, 99, 46, 46, 46, 46, 46, 46, 46, 46, 46, 46, 114, 110, 98, 97, 107, 97, 98, 110, 114] := by rw [← HS.out, ByteArray.toList_eq, bs_data]; rfl
  go_wp2_with fail
  refine (P6.out A n V5 (hE.next hB5) hm).mono ?_
  rintro e w6 ⟨rfl, hb⟩
  have hB6 := hB5.trans (hb.mono hB5.size)
  clear hb hst r0 r1 r2 r3 r4 r5 r6 q0 q1 q2 q3 q4 q5 q6
  have ht6 : (bs [112, 111, 115, 105, 116, 105, 111, 110, 32, 115, 116, 97, 114, 116, 112, 111, 115, 32, 109, 111, 118, 101, 115, 32, 104, 50, 101, 50]).toList = [112, 111, 115, 105, 116, 105, 111, 110, 32, 115, 116, 97, 114, 116, 112, 111, 115, 32, 109, 111, 118, 101, 115, 32, 104, 50, 101, 50] := by rw [ByteArray.toList_eq, bs_data]
  go_wp2_with fail
  refine (P7.out w6 (hE.next hB6)).mono ?_
  rintro e w7 ⟨v, rfl, ho, hb⟩
  obtain ⟨g, c, rfl, _, _⟩ := own_at ho (by decide)
  go_wp2_with fail
  go_ret
  exact ⟨rfl, hB6.trans (hb.mono hB6.size)⟩
end Go.Proofs.YtpogpjebhnoncabGreatDoor
