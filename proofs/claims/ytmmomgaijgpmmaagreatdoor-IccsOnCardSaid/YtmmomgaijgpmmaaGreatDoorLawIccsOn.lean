/- A line of moves, and one of more from where it ends, are one line of both: the call answers true. -/
import Derived.Test.YtmmomgaijgpmmaaGreatDoorIccsY
namespace Go.Proofs.YtmmomgaijgpmmaaGreatDoor.ion
open Go.RowKit Go.Shelf Go.Proofs.YtmmomgaijgpmmaaGreatDoor.F Go.Proofs.YtmmomgaijgpmmaaGreatDoor.I
open M (S)
attribute [local go_sem] Oper.semAt_some

theorem text_empty {s : ByteArray} (h : s.size = 0) : s.toList = [] ∧ s.toList.isEmpty = true := by
  have e : s.data.toList.length = 0 := Array.length_toList.trans h
  have h1 : s.toList = [] := by rw [ByteArray.toList_eq]; exact List.length_eq_zero_iff.1 e
  exact ⟨h1, by rw [h1]; rfl⟩
theorem text_some {s : ByteArray} (h : s.size ≠ 0) : ¬ s.toList = [] ∧ s.toList.isEmpty = false := by
  have h1 : ¬ s.toList = [] := by
    rw [ByteArray.toList_eq]
    intro e
    have := congrArg List.length e
    rw [show s.data.toList.length = s.size from Array.length_toList] at this
    exact h this
  exact ⟨h1, by rw [List.isEmpty_eq_false_iff]; exact h1⟩
set_option maxRecDepth 100000 in
set_option maxHeartbeats 8000000 in
theorem large (c : ByteArray) (y z u : Int) (s t : ByteArray) (w : World) {a0 a1 a2 : Addr} (hE : Errs w a0 a1 a2) (hT : Tab w) (h : 200 < c.size ∨ 200 < s.size ∨ 200 < t.size) : Calls Tryz.prog 7 #[.agg #[.string c, .int .i64 y, .int .i64 z, .int .i64 u], .string s, .string t] w (Gives w (.bool true)) := by
  unfold Gives
  have hc : decide (200 < (c.size : Int)) = true ∨ (decide (200 < (c.size : Int)) = false ∧ decide (200 < (s.size : Int)) = true) ∨ (decide (200 < (c.size : Int)) = false ∧ decide (200 < (s.size : Int)) = false ∧ decide (200 < (t.size : Int)) = true) := by
    simp only [decide_eq_true_eq, decide_eq_false_iff_not]
    omega
  clear h
  rcases hc with d0 | ⟨d0, d1⟩ | ⟨d0, d1, d2⟩
  all_goals
    obtain ⟨W0, hW0⟩ : ∃ W0, w.alloc (.cells #[.string c, .int .i64 y, .int .i64 z, .int .i64 u] 32) = W0 := ⟨_, rfl⟩
    have hB : Below w.heap.size w W0 := by rw [← hW0]; exact (by repeat (first | exact Below.refl _ _ | (refine Below.setCell ?_ (by first | omega | (simp; done) | (simp; omega) | (simp at *; omega)) _) | (refine Below.alloc ?_ (by first | omega | (simp; done) | (simp; omega) | (simp at *; omega)) _) | refine Below.drew ?_ | (refine below_drewN ?_ _) | (refine Below.trans ?_ (Below.mono (by assumption) (by first | omega | (simp; done) | (simp; omega) | (simp at *; omega))))))
    have bP : Blk W0 w.heap.size 32 #[.string c, .int .i64 y, .int .i64 z, .int .i64 u] := by rw [← hW0]; exact Blk.new _ _ _ rfl
    have HW := Lib.hid hW0
    clear hW0
    obtain ⟨p0, p1, p2, p3⟩ := cell4 bP
    go_enter Tryz.func7, Tryz.ntmps7
    go_wp2_with fail
    rw [HW.out]
    go_wp2_with fail
    refine (live12_any (hE.next hB) (hT.next hB)).mono ?_
    rintro e w3 ⟨rfl, hb⟩
    go_wp2
    go_ret
    exact ⟨rfl, hB.trans (hb.mono hB.size)⟩
set_option maxRecDepth 100000 in
set_option maxHeartbeats 8000000 in
theorem empty (c : ByteArray) (y z u : Int) (s t : ByteArray) (w : World) {a0 a1 a2 : Addr} (hE : Errs w a0 a1 a2) (hT : Tab w) (hc : c.size ≤ 200) (hs : s.size ≤ 200) (ht : t.size ≤ 200) (h : s.size = 0 ∨ t.size = 0) : Calls Tryz.prog 7 #[.agg #[.string c, .int .i64 y, .int .i64 z, .int .i64 u], .string s, .string t] w (Gives w (.bool true)) := by
  unfold Gives
  have d0 : decide (200 < (c.size : Int)) = false := by simp; omega
  have d1 : decide (200 < (s.size : Int)) = false := by simp; omega
  have d2 : decide (200 < (t.size : Int)) = false := by simp; omega
  have hc3 : (s.toList = [] ∧ s.toList.isEmpty = true) ∨ ((¬ s.toList = [] ∧ s.toList.isEmpty = false) ∧ (t.toList = [] ∧ t.toList.isEmpty = true)) := by
    by_cases h0 : s.size = 0
    · exact .inl (text_empty h0)
    · exact .inr ⟨text_some h0, text_empty (h.resolve_left h0)⟩
  clear h hc hs ht
  rcases hc3 with ⟨z0, z1⟩ | ⟨⟨z0, z1⟩, z2, z3⟩
  all_goals
    obtain ⟨W0, hW0⟩ : ∃ W0, w.alloc (.cells #[.string c, .int .i64 y, .int .i64 z, .int .i64 u] 32) = W0 := ⟨_, rfl⟩
    have hB : Below w.heap.size w W0 := by rw [← hW0]; exact (by repeat (first | exact Below.refl _ _ | (refine Below.setCell ?_ (by first | omega | (simp; done) | (simp; omega) | (simp at *; omega)) _) | (refine Below.alloc ?_ (by first | omega | (simp; done) | (simp; omega) | (simp at *; omega)) _) | refine Below.drew ?_ | (refine below_drewN ?_ _) | (refine Below.trans ?_ (Below.mono (by assumption) (by first | omega | (simp; done) | (simp; omega) | (simp at *; omega))))))
    have bP : Blk W0 w.heap.size 32 #[.string c, .int .i64 y, .int .i64 z, .int .i64 u] := by rw [← hW0]; exact Blk.new _ _ _ rfl
    have HW := Lib.hid hW0
    clear hW0
    obtain ⟨p0, p1, p2, p3⟩ := cell4 bP
    go_enter Tryz.func7, Tryz.ntmps7
    go_wp2_with fail
    rw [HW.out]
    go_wp2_with fail
    refine (live12_any (hE.next hB) (hT.next hB)).mono ?_
    rintro e w3 ⟨rfl, hb⟩
    go_wp2
    go_ret
    exact ⟨rfl, hB.trans (hb.mono hB.size)⟩
set_option maxRecDepth 100000 in
set_option maxHeartbeats 8000000 in
theorem refused (c : ByteArray) (y z u : Int) (s t : ByteArray) (w : World) {a0 a1 a2 : Addr} (hE : Errs w a0 a1 a2) (hT : Tab w) (hc : c.size ≤ 200) (hs : s.size ≤ 200) (ht : t.size ≤ 200) (hs0 : s.size ≠ 0) (ht0 : t.size ≠ 0) (k : Int) (h : lineT ⟨c, y, z, u⟩ s = .no k) : Calls Tryz.prog 7 #[.agg #[.string c, .int .i64 y, .int .i64 z, .int .i64 u], .string s, .string t] w (Gives w (.bool true)) := by
  unfold Gives
  have d0 : decide (200 < (c.size : Int)) = false := by simp; omega
  have d1 : decide (200 < (s.size : Int)) = false := by simp; omega
  have d2 : decide (200 < (t.size : Int)) = false := by simp; omega
  obtain ⟨z0, z1⟩ := text_some hs0
  obtain ⟨z2, z3⟩ := text_some ht0
  have hk := no_num h
  have hk1 : (k != 0) = true := by rw [bne_iff_ne]; exact hk
  have hk2 : ¬ k = 0 := hk
  have hz : s.size ≤ 100000 := by omega
  have H := Lib.hid h
  have HZ := Lib.hid hz
  clear hc hs ht h hk hz hs0 ht0
  obtain ⟨W0, hW0⟩ : ∃ W0, w.alloc (.cells #[.string c, .int .i64 y, .int .i64 z, .int .i64 u] 32) = W0 := ⟨_, rfl⟩
  have hB : Below w.heap.size w W0 := by rw [← hW0]; exact (by repeat (first | exact Below.refl _ _ | (refine Below.setCell ?_ (by first | omega | (simp; done) | (simp; omega) | (simp at *; omega)) _) | (refine Below.alloc ?_ (by first | omega | (simp; done) | (simp; omega) | (simp at *; omega)) _) | refine Below.drew ?_ | (refine below_drewN ?_ _) | (refine Below.trans ?_ (Below.mono (by assumption) (by first | omega | (simp; done) | (simp; omega) | (simp at *; omega))))))
  have bP : Blk W0 w.heap.size 32 #[.string c, .int .i64 y, .int .i64 z, .int .i64 u] := by rw [← hW0]; exact Blk.new _ _ _ rfl
  have HW := Lib.hid hW0
  clear hW0
  obtain ⟨p0, p1, p2, p3⟩ := cell4 bP
  go_enter Tryz.func7, Tryz.ntmps7
  go_wp2_with fail
  rw [HW.out]
  go_wp2_with fail
  refine (line_no (hE.next hB) (hT.next hB) c y z u s HZ.out k H.out).mono ?_
  rintro e w1 ⟨rfl, hb⟩
  have hB1 := hB.trans (hb.mono hB.size)
  clear hb hB bP p0 p1 p2 p3
  obtain ⟨V1, hV1⟩ : ∃ v, w1.alloc (.cells #[.string ⟨#[]⟩, .int .i64 0, .int .i64 0, .int .i64 0] 32) = v := ⟨_, rfl⟩
  have hB2 : Below w.heap.size w V1 := by rw [← hV1]; exact hB1.alloc hB1.size _
  have HV1 := Lib.hid hV1
  clear hV1
  go_wp2_with fail
  rw [HV1.out]
  refine (live12_any (hE.next hB2) (hT.next hB2)).mono ?_
  rintro e w3 ⟨rfl, hb⟩
  go_wp2
  go_ret
  exact ⟨rfl, hB2.trans (hb.mono hB2.size)⟩
set_option maxRecDepth 100000 in
set_option maxHeartbeats 8000000 in
theorem half (c : ByteArray) (y z u : Int) (s t : ByteArray) (w : World) {a0 a1 a2 : Addr} (hE : Errs w a0 a1 a2) (hT : Tab w) (hc : c.size ≤ 200) (hs : s.size ≤ 200) (ht : t.size ≤ 200) (hs0 : s.size ≠ 0) (ht0 : t.size ≠ 0) (l : List (Int × Int)) (q : Pz) (h : lineT ⟨c, y, z, u⟩ s = .got l q) (k : Int) (h2 : lineT q t = .no k) : Calls Tryz.prog 7 #[.agg #[.string c, .int .i64 y, .int .i64 z, .int .i64 u], .string s, .string t] w (Gives w (.bool true)) := by
  unfold Gives
  have d0 : decide (200 < (c.size : Int)) = false := by simp; omega
  have d1 : decide (200 < (s.size : Int)) = false := by simp; omega
  have d2 : decide (200 < (t.size : Int)) = false := by simp; omega
  obtain ⟨z0, z1⟩ := text_some hs0
  obtain ⟨z2, z3⟩ := text_some ht0
  have hsum : ∀ W, (Op.stringOp .add s ⟨#[32]⟩).run Tryz.prog W = .ok (.string (s ++ ⟨#[32]⟩)) W := fun W => run_string_add_sum _ _ _ (by show s.size + 1 ≤ _; omega)
  have hsum2 : ∀ W, (Op.stringOp .add (s ++ ⟨#[32]⟩) t).run Tryz.prog W = .ok (.string (s ++ ⟨#[32]⟩ ++ t)) W := fun W => run_string_add_sum _ _ _ (by rw [ByteArray.size_append]; show s.size + 1 + t.size ≤ _; omega)
  obtain ⟨S1, hS1⟩ : ∃ x, s ++ (⟨#[32]⟩ : ByteArray) = x := ⟨_, rfl⟩
  obtain ⟨S2, hS2⟩ : ∃ x, s ++ (⟨#[32]⟩ : ByteArray) ++ t = x := ⟨_, rfl⟩
  have hz3 : S2.size ≤ 100000 := by rw [← hS2, ByteArray.size_append, ByteArray.size_append]; show s.size + 1 + t.size ≤ _; omega
  have hboth := (line_both hs0 ht0 hs ht h).1
  rw [hS2] at hboth hsum2
  rw [hS1] at hsum hsum2
  rw [h2] at hboth
  have hk := no_num h2
  have hk1 : (k != 0) = true := by rw [bne_iff_ne]; exact hk
  have hk2 : ¬ k = 0 := hk
  obtain ⟨n, hn⟩ : ∃ n, l.length = n := ⟨_, rfl⟩
  have HG : Hid (∀ W, Errs W a0 a1 a2 → Tab W → Calls Tryz.prog 13 #[.agg #[.string c, .int .i64 y, .int .i64 z, .int .i64 u], .string s] W fun e w' => ∃ A cc, e = .returned (.tuple #[.slice A n cc, .agg #[.string q.s, .int .i64 q.y, .int .i64 q.z, .int .i64 q.u], .int .i64 0]) ∧ n ≤ cc ∧ Rd w' A (mvl l) ∧ Below W.heap.size W w') := fun W e1 e2 => by
    rw [← hn]
    exact (line_got e1 e2 c y z u s (by omega) l q h).mono fun _ _ ⟨A, cc, e3, e4, e5, e6⟩ => ⟨A, cc, e3, e4.1, e5, e6⟩
  have HK2 : Hid (∀ W, Errs W a0 a1 a2 → Tab W → Calls Tryz.prog 13 #[.agg #[.string q.s, .int .i64 q.y, .int .i64 q.z, .int .i64 q.u], .string t] W (Gives W (.tuple #[.slice none 0 0, .agg #[.string ⟨#[]⟩, .int .i64 0, .int .i64 0, .int .i64 0], .int .i64 k]))) := fun W e1 e2 => line_no e1 e2 q.s q.y q.z q.u t (by omega) k h2
  have HK3 : Hid (∀ W, Errs W a0 a1 a2 → Tab W → Calls Tryz.prog 13 #[.agg #[.string c, .int .i64 y, .int .i64 z, .int .i64 u], .string S2] W (Gives W (.tuple #[.slice none 0 0, .agg #[.string ⟨#[]⟩, .int .i64 0, .int .i64 0, .int .i64 0], .int .i64 k]))) := fun W e1 e2 => line_no e1 e2 c y z u S2 hz3 k hboth
  clear hc hs ht h h2 hk hs0 ht0 hS1 hS2 hz3 hboth hn
  obtain ⟨W0, hW0⟩ : ∃ W0, w.alloc (.cells #[.string c, .int .i64 y, .int .i64 z, .int .i64 u] 32) = W0 := ⟨_, rfl⟩
  have hB : Below w.heap.size w W0 := by rw [← hW0]; exact (by repeat (first | exact Below.refl _ _ | (refine Below.setCell ?_ (by first | omega | (simp; done) | (simp; omega) | (simp at *; omega)) _) | (refine Below.alloc ?_ (by first | omega | (simp; done) | (simp; omega) | (simp at *; omega)) _) | refine Below.drew ?_ | (refine below_drewN ?_ _) | (refine Below.trans ?_ (Below.mono (by assumption) (by first | omega | (simp; done) | (simp; omega) | (simp at *; omega))))))
  have bP : Blk W0 w.heap.size 32 #[.string c, .int .i64 y, .int .i64 z, .int .i64 u] := by rw [← hW0]; exact Blk.new _ _ _ rfl
  have HW := Lib.hid hW0
  clear hW0
  obtain ⟨p0, p1, p2, p3⟩ := cell4 bP
  go_enter Tryz.func7, Tryz.ntmps7
  go_wp2_with fail
  rw [HW.out]
  go_wp2_with fail
  refine (HG.out _ (hE.next hB) (hT.next hB)).mono ?_
  rintro e w1 ⟨A, cc, rfl, hcc, hr, hb⟩
  have hB1 := hB.trans (hb.mono hB.size)
  have bP1 := bP.next hb
  clear hb hB bP p0 p1 p2 p3
  obtain ⟨V1, hV1⟩ : ∃ v, w1.alloc (.cells #[.string q.s, .int .i64 q.y, .int .i64 q.z, .int .i64 q.u] 32) = v := ⟨_, rfl⟩
  have hB2 : Below w.heap.size w V1 := by rw [← hV1]; exact hB1.alloc hB1.size _
  have bP2 : Blk V1 w.heap.size 32 #[.string c, .int .i64 y, .int .i64 z, .int .i64 u] := by rw [← hV1]; exact bP1.alloc _
  have bQ2 : Blk V1 w1.heap.size 32 #[.string q.s, .int .i64 q.y, .int .i64 q.z, .int .i64 q.u] := by rw [← hV1]; exact Blk.new _ _ _ rfl
  have hr2 : Rd V1 A (mvl l) := by rw [← hV1]; exact hr.next ((Below.refl _ _).alloc (Nat.le_refl _) _)
  have bQr := bQ2
  rw [← hV1] at bQr
  obtain ⟨q0, q1, q2, q3⟩ := cell4 bQr
  have HV1 := Lib.hid hV1
  clear hV1 bQr hB1 bP1 hr
  go_wp2_with fail
  rw [HV1.out]
  clear HV1 q0 q1 q2 q3 bQ2
  refine (HK2.out _ (hE.next hB2) (hT.next hB2)).mono ?_
  rintro e w2 ⟨rfl, hb⟩
  have hB3 := hB2.trans (hb.mono hB2.size)
  have bP3 := bP2.next hb
  clear hb hB2 bP2 hr2
  obtain ⟨V2, hV2⟩ : ∃ v, w2.alloc (.cells #[.string ⟨#[]⟩, .int .i64 0, .int .i64 0, .int .i64 0] 32) = v := ⟨_, rfl⟩
  have hB4 : Below w.heap.size w V2 := by rw [← hV2]; exact hB3.alloc hB3.size _
  have bP4 : Blk V2 w.heap.size 32 #[.string c, .int .i64 y, .int .i64 z, .int .i64 u] := by rw [← hV2]; exact bP3.alloc _
  have bPr := bP4
  rw [← hV2] at bPr
  obtain ⟨p0, p1, p2, p3⟩ := cell4 bPr
  have HV2 := Lib.hid hV2
  clear hV2 bPr hB3 bP3
  go_wp2_with fail
  rw [HV2.out]
  clear HV2 p0 p1 p2 p3
  refine (HK3.out _ (hE.next hB4) (hT.next hB4)).mono ?_
  rintro e w3 ⟨rfl, hb⟩
  have hB5 := hB4.trans (hb.mono hB4.size)
  clear hb hB4 bP4
  obtain ⟨V3, hV3⟩ : ∃ v, w3.alloc (.cells #[.string ⟨#[]⟩, .int .i64 0, .int .i64 0, .int .i64 0] 32) = v := ⟨_, rfl⟩
  have hB6 : Below w.heap.size w V3 := by rw [← hV3]; exact hB5.alloc hB5.size _
  have HV3 := Lib.hid hV3
  clear hV3
  go_wp2_with fail
  rw [HV3.out]
  refine (live12_any (hE.next hB6) (hT.next hB6)).mono ?_
  rintro e w4 ⟨rfl, hb⟩
  go_wp2
  go_ret
  exact ⟨rfl, hB6.trans (hb.mono hB6.size)⟩
set_option maxRecDepth 100000 in
set_option maxHeartbeats 8000000 in
theorem whole (c : ByteArray) (y z u : Int) (s t : ByteArray) (w : World) {a0 a1 a2 : Addr} (hE : Errs w a0 a1 a2) (hT : Tab w) (hc : c.size ≤ 200) (hs : s.size ≤ 200) (ht : t.size ≤ 200) (hs0 : s.size ≠ 0) (ht0 : t.size ≠ 0) (l : List (Int × Int)) (q : Pz) (h : lineT ⟨c, y, z, u⟩ s = .got l q) (k : List (Int × Int)) (r : Pz) (h2 : lineT q t = .got k r) : Calls Tryz.prog 7 #[.agg #[.string c, .int .i64 y, .int .i64 z, .int .i64 u], .string s, .string t] w (Gives w (.bool true)) := by
  unfold Gives
  have d0 : decide (200 < (c.size : Int)) = false := by simp; omega
  have d1 : decide (200 < (s.size : Int)) = false := by simp; omega
  have d2 : decide (200 < (t.size : Int)) = false := by simp; omega
  obtain ⟨z0, z1⟩ := text_some hs0
  obtain ⟨z2, z3⟩ := text_some ht0
  have hsum : ∀ W, (Op.stringOp .add s ⟨#[32]⟩).run Tryz.prog W = .ok (.string (s ++ ⟨#[32]⟩)) W := fun W => run_string_add_sum _ _ _ (by show s.size + 1 ≤ _; omega)
  have hsum2 : ∀ W, (Op.stringOp .add (s ++ ⟨#[32]⟩) t).run Tryz.prog W = .ok (.string (s ++ ⟨#[32]⟩ ++ t)) W := fun W => run_string_add_sum _ _ _ (by rw [ByteArray.size_append]; show s.size + 1 + t.size ≤ _; omega)
  obtain ⟨S1, hS1⟩ : ∃ x, s ++ (⟨#[32]⟩ : ByteArray) = x := ⟨_, rfl⟩
  obtain ⟨S2, hS2⟩ : ∃ x, s ++ (⟨#[32]⟩ : ByteArray) ++ t = x := ⟨_, rfl⟩
  have hz3 : S2.size ≤ 100000 := by rw [← hS2, ByteArray.size_append, ByteArray.size_append]; show s.size + 1 + t.size ≤ _; omega
  have hboth := (line_both hs0 ht0 hs ht h).1
  rw [hS2] at hboth hsum2
  rw [hS1] at hsum hsum2
  rw [h2] at hboth
  obtain ⟨n, hn⟩ : ∃ n, l.length = n := ⟨_, rfl⟩
  obtain ⟨m, hm⟩ : ∃ m, k.length = m := ⟨_, rfl⟩
  have hn0 : 0 < n := by rw [← hn]; exact got_some hs0 h
  have hm0 : 0 < m := by rw [← hm]; exact got_some ht0 h2
  have hn1 : n ≤ 201 := by have := got_len h; omega
  have hm1 : m ≤ 201 := by have := got_len h2; omega
  have hN : (l ++ k).length = n + m := by rw [List.length_append, hn, hm]
  have HG : Hid (∀ W, Errs W a0 a1 a2 → Tab W → Calls Tryz.prog 13 #[.agg #[.string c, .int .i64 y, .int .i64 z, .int .i64 u], .string s] W fun e w' => ∃ A cc, e = .returned (.tuple #[.slice A n cc, .agg #[.string q.s, .int .i64 q.y, .int .i64 q.z, .int .i64 q.u], .int .i64 0]) ∧ n ≤ cc ∧ Rd w' A (mvl l) ∧ Below W.heap.size W w') := fun W e1 e2 => by
    rw [← hn]
    exact (line_got e1 e2 c y z u s (by omega) l q h).mono fun _ _ ⟨A, cc, e3, e4, e5, e6⟩ => ⟨A, cc, e3, e4.1, e5, e6⟩
  have HK2 : Hid (∀ W, Errs W a0 a1 a2 → Tab W → Calls Tryz.prog 13 #[.agg #[.string q.s, .int .i64 q.y, .int .i64 q.z, .int .i64 q.u], .string t] W fun e w' => ∃ A cc, e = .returned (.tuple #[.slice A m cc, .agg #[.string r.s, .int .i64 r.y, .int .i64 r.z, .int .i64 r.u], .int .i64 0]) ∧ m ≤ cc ∧ Rd w' A (mvl k) ∧ Below W.heap.size W w') := fun W e1 e2 => by
    rw [← hm]
    exact (line_got e1 e2 q.s q.y q.z q.u t (by omega) k r h2).mono fun _ _ ⟨A, cc, e3, e4, e5, e6⟩ => ⟨A, cc, e3, e4.1, e5, e6⟩
  have HK3 : Hid (∀ W, Errs W a0 a1 a2 → Tab W → Calls Tryz.prog 13 #[.agg #[.string c, .int .i64 y, .int .i64 z, .int .i64 u], .string S2] W fun e w' => ∃ g b cc, e = .returned (.tuple #[.slice (some ⟨g, b, none⟩) (n + m) cc, .agg #[.string r.s, .int .i64 r.y, .int .i64 r.z, .int .i64 r.u], .int .i64 0]) ∧ n + m ≤ cc ∧ Rd w' (some ⟨g, b, none⟩) (mvl (l ++ k)) ∧ Below W.heap.size W w') := fun W e1 e2 => by
    rw [← hN]
    exact (line_got e1 e2 c y z u S2 hz3 (l ++ k) r hboth).mono fun _ _ ⟨A, cc, e3, e4, e5, e6⟩ => by
      obtain ⟨g, b, rfl, _, _⟩ := rd_mvi e5 (k := 0) (by omega)
      exact ⟨g, b, cc, e3, e4.1, e5, e6⟩
  have HN := Lib.hid hn
  have HM := Lib.hid hm
  clear hc hs ht h h2 hs0 ht0 hS1 hS2 hz3 hboth hn hm hN
  obtain ⟨W0, hW0⟩ : ∃ W0, w.alloc (.cells #[.string c, .int .i64 y, .int .i64 z, .int .i64 u] 32) = W0 := ⟨_, rfl⟩
  have hB : Below w.heap.size w W0 := by rw [← hW0]; exact (by repeat (first | exact Below.refl _ _ | (refine Below.setCell ?_ (by first | omega | (simp; done) | (simp; omega) | (simp at *; omega)) _) | (refine Below.alloc ?_ (by first | omega | (simp; done) | (simp; omega) | (simp at *; omega)) _) | refine Below.drew ?_ | (refine below_drewN ?_ _) | (refine Below.trans ?_ (Below.mono (by assumption) (by first | omega | (simp; done) | (simp; omega) | (simp at *; omega))))))
  have bP : Blk W0 w.heap.size 32 #[.string c, .int .i64 y, .int .i64 z, .int .i64 u] := by rw [← hW0]; exact Blk.new _ _ _ rfl
  have HW := Lib.hid hW0
  clear hW0
  obtain ⟨p0, p1, p2, p3⟩ := cell4 bP
  go_enter Tryz.func7, Tryz.ntmps7
  go_wp2_with fail
  rw [HW.out]
  go_wp2_with fail
  refine (HG.out _ (hE.next hB) (hT.next hB)).mono ?_
  rintro e w1 ⟨A, cc, rfl, hcc, hr, hb⟩
  have hB1 := hB.trans (hb.mono hB.size)
  have bP1 := bP.next hb
  clear hb hB bP p0 p1 p2 p3
  obtain ⟨V1, hV1⟩ : ∃ v, w1.alloc (.cells #[.string q.s, .int .i64 q.y, .int .i64 q.z, .int .i64 q.u] 32) = v := ⟨_, rfl⟩
  have hB2 : Below w.heap.size w V1 := by rw [← hV1]; exact hB1.alloc hB1.size _
  have bP2 : Blk V1 w.heap.size 32 #[.string c, .int .i64 y, .int .i64 z, .int .i64 u] := by rw [← hV1]; exact bP1.alloc _
  have bQ2 : Blk V1 w1.heap.size 32 #[.string q.s, .int .i64 q.y, .int .i64 q.z, .int .i64 q.u] := by rw [← hV1]; exact Blk.new _ _ _ rfl
  have hr2 : Rd V1 A (mvl l) := by rw [← hV1]; exact hr.next ((Below.refl _ _).alloc (Nat.le_refl _) _)
  have bQr := bQ2
  rw [← hV1] at bQr
  obtain ⟨q0, q1, q2, q3⟩ := cell4 bQr
  have HV1 := Lib.hid hV1
  clear hV1 bQr hB1 bP1 hr
  go_wp2_with fail
  rw [HV1.out]
  clear HV1 q0 q1 q2 q3 bQ2
  refine (HK2.out _ (hE.next hB2) (hT.next hB2)).mono ?_
  rintro e w2 ⟨A2, c2, rfl, hc2, hk, hb⟩
  have hB3 := hB2.trans (hb.mono hB2.size)
  have bP3 := bP2.next hb
  have hr3 := hr2.next hb
  clear hb hB2 bP2 hr2
  obtain ⟨V2, hV2⟩ : ∃ v, w2.alloc (.cells #[.string r.s, .int .i64 r.y, .int .i64 r.z, .int .i64 r.u] 32) = v := ⟨_, rfl⟩
  have hB4 : Below w.heap.size w V2 := by rw [← hV2]; exact hB3.alloc hB3.size _
  have bP4 : Blk V2 w.heap.size 32 #[.string c, .int .i64 y, .int .i64 z, .int .i64 u] := by rw [← hV2]; exact bP3.alloc _
  have bR4 : Blk V2 w2.heap.size 32 #[.string r.s, .int .i64 r.y, .int .i64 r.z, .int .i64 r.u] := by rw [← hV2]; exact Blk.new _ _ _ rfl
  have hr4 : Rd V2 A (mvl l) := by rw [← hV2]; exact hr3.next ((Below.refl _ _).alloc (Nat.le_refl _) _)
  have hk4 : Rd V2 A2 (mvl k) := by rw [← hV2]; exact hk.next ((Below.refl _ _).alloc (Nat.le_refl _) _)
  have bPr := bP4
  rw [← hV2] at bPr
  obtain ⟨p0, p1, p2, p3⟩ := cell4 bPr
  have HV2 := Lib.hid hV2
  clear hV2 bPr hB3 bP3 hr3 hk
  go_wp2_with fail
  rw [HV2.out]
  clear HV2 p0 p1 p2 p3
  generalize w2.heap.size = gr at bR4 ⊢
  refine (HK3.out _ (hE.next hB4) (hT.next hB4)).mono ?_
  rintro e w3 ⟨g3, o3, c3, rfl, hc3, hall, hb⟩
  have hB5 := hB4.trans (hb.mono hB4.size)
  have bR5 := bR4.next hb
  have hr5 := hr4.next hb
  have hk5 := hk4.next hb
  clear hb hB4 bP4 bR4 hr4 hk4
  obtain ⟨V3, hV3⟩ : ∃ v, w3.alloc (.cells #[.string r.s, .int .i64 r.y, .int .i64 r.z, .int .i64 r.u] 32) = v := ⟨_, rfl⟩
  have hba : Below w3.heap.size w3 V3 := by rw [← hV3]; exact (Below.refl _ _).alloc (Nat.le_refl _) _
  have hB6 := hB5.trans (hba.mono hB5.size)
  have bR6 := bR5.next hba
  have hr6 := hr5.next hba
  have hk6 := hk5.next hba
  have hall6 := hall.next hba
  have bX6 : Blk V3 w3.heap.size 32 #[.string r.s, .int .i64 r.y, .int .i64 r.z, .int .i64 r.u] := by rw [← hV3]; exact Blk.new _ _ _ rfl
  have bRr := bR6
  have bXr := bX6
  rw [← hV3] at bRr bXr
  obtain ⟨q0, q1, q2, q3⟩ := cell4 bRr
  obtain ⟨x0, x1, x2, x3⟩ := cell4 bXr
  have HV3 := Lib.hid hV3
  clear hV3 bRr bXr hba hB5 bR5 hr5 hk5 hall
  go_wp2_with fail
  rw [HV3.out]
  clear HV3 q0 q1 q2 q3 x0 x1 x2 x3
  refine (same12 (some ⟨g3, o3, none⟩) A l n c3 cc _ (rd_head hall6) hr6 HN.out (by omega)).mono ?_
  rintro e w4 ⟨rfl, hb⟩
  have hB7 := hB6.trans (hb.mono hB6.size)
  have hk7 := hk6.next hb
  have hall7 := hall6.next hb
  clear hb hB6 hk6 hall6 hr6 bR6 bX6
  go_wp2_with fail
  have htl := rd_tail hall7
  rw [HN.out] at htl
  refine (same12 (some ⟨g3, o3 + n * 2, none⟩) A2 k m (c3 - n) c2 _ htl hk7 HM.out (by omega)).mono ?_
  rintro e w5 ⟨rfl, hb⟩
  have hB8 := hB7.trans (hb.mono hB7.size)
  go_wp2_with fail
  refine (live12_any (hE.next hB8) (hT.next hB8)).mono ?_
  rintro e w6 ⟨rfl, hb⟩
  go_wp2
  go_ret
  exact ⟨rfl, hB8.trans (hb.mono hB8.size)⟩
theorem walk (c : ByteArray) (y z u : Int) (s t : ByteArray) (w : World) {a0 a1 a2 : Addr} (hE : Errs w a0 a1 a2) (hT : Tab w) : Calls Tryz.prog 7 #[.agg #[.string c, .int .i64 y, .int .i64 z, .int .i64 u], .string s, .string t] w (Gives w (.bool true)) := by
  by_cases hl : 200 < c.size ∨ 200 < s.size ∨ 200 < t.size
  · exact large c y z u s t w hE hT hl
  · by_cases he : s.size = 0 ∨ t.size = 0
    · exact empty c y z u s t w hE hT (by omega) (by omega) (by omega) he
    · cases h : lineT ⟨c, y, z, u⟩ s with
      | no k => exact refused c y z u s t w hE hT (by omega) (by omega) (by omega) (fun e => he (.inl e)) (fun e => he (.inr e)) k h
      | got l q =>
        cases h2 : lineT q t with
        | no k => exact half c y z u s t w hE hT (by omega) (by omega) (by omega) (fun e => he (.inl e)) (fun e => he (.inr e)) l q h k h2
        | got l2 q2 => exact whole c y z u s t w hE hT (by omega) (by omega) (by omega) (fun e => he (.inl e)) (fun e => he (.inr e)) l q h l2 q2 h2
end Go.Proofs.YtmmomgaijgpmmaaGreatDoor.ion
