/- Where pieces may stand, for every byte and every number; which squares are in a palace, and beyond the river; how many there may be. -/
import Derived.Test.YtbfkkedcjodceaaGreatDoorPlace2
import Derived.Lib.Strings
import Derived.Lib.Walk
import Derived.Lib.Bytealg
namespace Go.Proofs.YtbfkkedcjodceaaGreatDoor
open Go.RowKit Go.Shelf
open M (S)

set_option maxHeartbeats 1000000 in
set_option maxRecDepth 100000 in
theorem sIndexByte_any (s : ByteArray) (c : Int) (w : World) :
    Calls Tryz.prog 113 #[.string s, .int .u8 c] w fun e w' => e = .returned (.int .i64 (Lib.indexByte s.data.toList c.toNat.toUInt8)) ∧ w = w' := by
  go_enter Tryz.func113, Tryz.ntmps113
  go_wp2
  rw [run_callFunc_extern Tryz.func128 (by kernel_rfl) (by kernel_rfl) (by kernel_rfl) (e := Extern.BytealgIndexByte.indexByte) (by kernel_rfl), Lib.run_indexByteString]
  simp only [Result.andThen]
  rw [Oper.upon_value]
  go_wp2
  go_ret
  exact ⟨rfl, rfl⟩
theorem indexByte_any (s : ByteArray) (c : Int) (w : World) :
    Calls Tryz.prog 85 #[.string s, .int .u8 c] w fun e w' => e = .returned (.int .i64 (Lib.indexByte s.data.toList c.toNat.toUInt8)) ∧ w = w' := by
  go_enter Tryz.func85, Tryz.ntmps85
  go_wp2_with fail
  refine (sIndexByte_any _ _ _).mono ?_
  rintro e w' ⟨rfl, rfl⟩
  go_wp2
  go_ret
  exact ⟨rfl, rfl⟩
/-- The letters of the kinds, in the order of places. -/
def kindsS : ByteArray := ⟨#[75, 65, 66, 78, 82, 67, 80]⟩
theorem index_is (c : Nat) (k : Nat) (w : World) (h : Lib.indexByte kindsS.data.toList (c : Int).toNat.toUInt8 = (k : Int)) : Calls Tryz.prog 85 #[.string ⟨#[75, 65, 66, 78, 82, 67, 80]⟩, .int .u8 (c : Int)] w (Says w (.int .i64 (k : Int))) := by
  have h1 := indexByte_any kindsS (c : Int) w
  rw [h] at h1
  exact h1
theorem real_none {c : Nat} {n : Int} (h : sideN c < 0) : realB n (sideN c) = false := by
  have h0 : (sideN c == 0) = false := by rw [beq_eq_false_iff_ne]; omega
  have h1 : (sideN c == 1) = false := by rw [beq_eq_false_iff_ne]; omega
  rw [realB, h0, h1]
  simp
set_option maxHeartbeats 2000000 in
theorem may_no (c : Nat) (n : Int) (w : World) (h : realB n (sideN c) = false) : Calls Tryz.prog 97 #[.int .u8 (c : Int), .int .i64 n] w (Gives w (.bool false)) := by
  unfold Gives
  have H := Lib.hid h
  clear h
  go_enter Tryz.func97, Tryz.ntmps97
  go_wp2_with fail
  refine (side_any c _).mono ?_
  rintro e w' ⟨rfl, rfl⟩
  go_wp2_with fail
  refine (seen_no n _ _ H.out).mono ?_
  rintro e w1 ⟨rfl, hb⟩
  have hz := hb.size
  go_wp2_with fail
  go_quiet (fail)
  go_wp2
  go_ret
  exact ⟨rfl, (by repeat (first | exact Below.refl _ _ | (refine Below.setCell ?_ (by first | omega | (simp; done) | (simp; omega) | (simp at *; omega)) _) | (refine Below.alloc ?_ (by first | omega | (simp; done) | (simp; omega) | (simp at *; omega)) _) | refine Below.drew ?_ | (refine below_drewN ?_ _) | (refine Below.trans ?_ (Below.mono (by assumption) (by first | omega | (simp; done) | (simp; omega) | (simp at *; omega))))))⟩
theorem spot_keep {w : World} {g : Nat} {f r : Int} {W W' : World} (h : W.cell? ⟨g, 0, none⟩ = some (.int .i64 f) ∧ W.cell? ⟨g, 1, none⟩ = some (.int .i64 r) ∧ Below w.heap.size w W) (hb : Below W.heap.size W W') :
    W'.cell? ⟨g, 0, none⟩ = some (.int .i64 f) ∧ W'.cell? ⟨g, 1, none⟩ = some (.int .i64 r) ∧ Below w.heap.size w W' := by
  obtain ⟨h0, h1, h2⟩ := h
  have hg : g < W.heap.size := World.block_lt_of_cell? _ _ h0
  exact ⟨(hb.cell (p := ⟨g, 0, none⟩) hg).trans h0, (hb.cell (p := ⟨g, 1, none⟩) hg).trans h1, h2.trans (hb.mono h2.size)⟩
theorem spot_below {w : World} {g : Nat} {f r : Int} {W : World} (h : W.cell? ⟨g, 0, none⟩ = some (.int .i64 f) ∧ W.cell? ⟨g, 1, none⟩ = some (.int .i64 r) ∧ Below w.heap.size w W) : Below w.heap.size w W := h.2.2
theorem kindb_is (c k : Nat) (w : World) (h : kindN c = k) : Calls Tryz.prog 66 #[.int .u8 (c : Int)] w (Gives w (.int .u8 (k : Int))) := (kind_is c k w h).mono fun _ _ ⟨a, b⟩ => ⟨a, b ▸ Below.refl _ _⟩
theorem indexb_is (c : Nat) (k : Nat) (w : World) (h : Lib.indexByte kindsS.data.toList (c : Int).toNat.toUInt8 = (k : Int)) : Calls Tryz.prog 85 #[.string ⟨#[75, 65, 66, 78, 82, 67, 80]⟩, .int .u8 (c : Int)] w (Gives w (.int .i64 (k : Int))) := (index_is c k w h).mono fun _ _ ⟨a, b⟩ => ⟨a, b ▸ Below.refl _ _⟩
theorem places_0 (W : World) : (Instr.index 94 (.agg #[.func (.func 131) #[] #[], .func (.func 132) #[] #[], .func (.func 133) #[] #[], .func (.func 134) #[] #[], .func (.func 134) #[] #[], .func (.func 134) #[] #[], .func (.func 135) #[] #[]]) (.int .i64 0)).run Tryz.prog W = .ok (.func (.func 131) #[] #[]) W := by kernel_rfl
theorem places_1 (W : World) : (Instr.index 94 (.agg #[.func (.func 131) #[] #[], .func (.func 132) #[] #[], .func (.func 133) #[] #[], .func (.func 134) #[] #[], .func (.func 134) #[] #[], .func (.func 134) #[] #[], .func (.func 135) #[] #[]]) (.int .i64 1)).run Tryz.prog W = .ok (.func (.func 132) #[] #[]) W := by kernel_rfl
theorem places_2 (W : World) : (Instr.index 94 (.agg #[.func (.func 131) #[] #[], .func (.func 132) #[] #[], .func (.func 133) #[] #[], .func (.func 134) #[] #[], .func (.func 134) #[] #[], .func (.func 134) #[] #[], .func (.func 135) #[] #[]]) (.int .i64 2)).run Tryz.prog W = .ok (.func (.func 133) #[] #[]) W := by kernel_rfl
theorem places_3 (W : World) : (Instr.index 94 (.agg #[.func (.func 131) #[] #[], .func (.func 132) #[] #[], .func (.func 133) #[] #[], .func (.func 134) #[] #[], .func (.func 134) #[] #[], .func (.func 134) #[] #[], .func (.func 135) #[] #[]]) (.int .i64 3)).run Tryz.prog W = .ok (.func (.func 134) #[] #[]) W := by kernel_rfl
theorem places_4 (W : World) : (Instr.index 94 (.agg #[.func (.func 131) #[] #[], .func (.func 132) #[] #[], .func (.func 133) #[] #[], .func (.func 134) #[] #[], .func (.func 134) #[] #[], .func (.func 134) #[] #[], .func (.func 135) #[] #[]]) (.int .i64 4)).run Tryz.prog W = .ok (.func (.func 134) #[] #[]) W := by kernel_rfl
theorem places_5 (W : World) : (Instr.index 94 (.agg #[.func (.func 131) #[] #[], .func (.func 132) #[] #[], .func (.func 133) #[] #[], .func (.func 134) #[] #[], .func (.func 134) #[] #[], .func (.func 134) #[] #[], .func (.func 135) #[] #[]]) (.int .i64 5)).run Tryz.prog W = .ok (.func (.func 134) #[] #[]) W := by kernel_rfl
theorem places_6 (W : World) : (Instr.index 94 (.agg #[.func (.func 131) #[] #[], .func (.func 132) #[] #[], .func (.func 133) #[] #[], .func (.func 134) #[] #[], .func (.func 134) #[] #[], .func (.func 134) #[] #[], .func (.func 135) #[] #[]]) (.int .i64 6)).run Tryz.prog W = .ok (.func (.func 135) #[] #[]) W := by kernel_rfl
set_option maxHeartbeats 4000000 in
theorem may_75 (c : Nat) (n s f r : Int) (w : World) (h : realB n s = true) (hs : sideN c = s) (hk : kindN c = 75) (hf : seenF n s = f) (hr : seenR n s = r) :
    Calls Tryz.prog 97 #[.int .u8 (c : Int), .int .i64 n] w (Gives w (.bool (inP f r))) := by
  unfold Gives
  have hix := places_0
  have bd := seen_in (side := s) (real_parts h).1
  rw [hf, hr] at bd
  obtain ⟨b0, b1, b2, b3⟩ := bd
  have Hs := Lib.hid hs
  have H := Lib.hid h
  have Hk := Lib.hid hk
  have Hf := Lib.hid hf
  have Hr := Lib.hid hr
  clear h hs hk hf hr
  go_enter Tryz.func97, Tryz.ntmps97
  go_wp2_with fail
  refine (side_any c _).mono ?_
  rintro e w' ⟨rfl, rfl⟩
  rw [Hs.out]
  go_wp2_with fail
  refine (seen_yes n _ _ H.out).mono ?_
  rintro e w1 ⟨rfl, hb⟩
  rw [Hf.out, Hr.out]
  have hz := hb.size
  go_wp2_with fail
  obtain ⟨W0, hW0⟩ : ∃ W0, w1.alloc (.cells #[.int .i64 f, .int .i64 r] 90) = W0 := ⟨_, rfl⟩
  have bA : Blk W0 w1.heap.size 90 #[.int .i64 f, .int .i64 r] := by rw [← hW0]; exact Blk.new _ _ _ rfl
  have hB : Below w.heap.size w W0 := by rw [← hW0]; exact (by repeat (first | exact Below.refl _ _ | (refine Below.setCell ?_ (by first | omega | (simp; done) | (simp; omega) | (simp at *; omega)) _) | (refine Below.alloc ?_ (by first | omega | (simp; done) | (simp; omega) | (simp at *; omega)) _) | refine Below.drew ?_ | (refine below_drewN ?_ _) | (refine Below.trans ?_ (Below.mono (by assumption) (by first | omega | (simp; done) | (simp; omega) | (simp at *; omega))))))
  have hS : W0.drew.cell? ⟨w1.heap.size, 0, none⟩ = some (.int .i64 f) ∧ W0.drew.cell? ⟨w1.heap.size, 1, none⟩ = some (.int .i64 r) ∧ Below w.heap.size w W0.drew := ⟨bA.cell 0, bA.cell 1, hB.drew⟩
  rw [hW0]
  clear hW0 hB bA hb hz
  go_region_held3 (fun W => W.cell? ⟨w1.heap.size, 0, none⟩ = some (.int .i64 f) ∧ W.cell? ⟨w1.heap.size, 1, none⟩ = some (.int .i64 r) ∧ Below w.heap.size w W)
    (first | exact hS | exact spot_keep (by assumption) hb | assumption)
    (first | (go_at_call 117; refine (places_any _).mono ?_; rintro e w2 ⟨rfl, hb⟩) | (go_at_call 66; refine (kindb_is c 75 _ Hk.out).mono ?_; rintro e w2 ⟨rfl, hb⟩) | (go_at_call 85; refine (indexb_is 75 0 _ rfl).mono ?_; rintro e w2 ⟨rfl, hb⟩) | (go_at_call 131; refine (inPalace_any f r _).mono ?_; rintro e w2 ⟨rfl, hb⟩))
  go_wp2
  go_ret
  exact ⟨rfl, spot_below (by assumption)⟩
set_option maxHeartbeats 4000000 in
theorem may_65 (c : Nat) (n s f r : Int) (w : World) (h : realB n s = true) (hs : sideN c = s) (hk : kindN c = 65) (hf : seenF n s = f) (hr : seenR n s = r) :
    Calls Tryz.prog 97 #[.int .u8 (c : Int), .int .i64 n] w (Gives w (.bool (advP f r))) := by
  unfold Gives
  have hix := places_1
  have bd := seen_in (side := s) (real_parts h).1
  rw [hf, hr] at bd
  obtain ⟨b0, b1, b2, b3⟩ := bd
  have Hs := Lib.hid hs
  have H := Lib.hid h
  have Hk := Lib.hid hk
  have Hf := Lib.hid hf
  have Hr := Lib.hid hr
  clear h hs hk hf hr
  go_enter Tryz.func97, Tryz.ntmps97
  go_wp2_with fail
  refine (side_any c _).mono ?_
  rintro e w' ⟨rfl, rfl⟩
  rw [Hs.out]
  go_wp2_with fail
  refine (seen_yes n _ _ H.out).mono ?_
  rintro e w1 ⟨rfl, hb⟩
  rw [Hf.out, Hr.out]
  have hz := hb.size
  go_wp2_with fail
  obtain ⟨W0, hW0⟩ : ∃ W0, w1.alloc (.cells #[.int .i64 f, .int .i64 r] 90) = W0 := ⟨_, rfl⟩
  have bA : Blk W0 w1.heap.size 90 #[.int .i64 f, .int .i64 r] := by rw [← hW0]; exact Blk.new _ _ _ rfl
  have hB : Below w.heap.size w W0 := by rw [← hW0]; exact (by repeat (first | exact Below.refl _ _ | (refine Below.setCell ?_ (by first | omega | (simp; done) | (simp; omega) | (simp at *; omega)) _) | (refine Below.alloc ?_ (by first | omega | (simp; done) | (simp; omega) | (simp at *; omega)) _) | refine Below.drew ?_ | (refine below_drewN ?_ _) | (refine Below.trans ?_ (Below.mono (by assumption) (by first | omega | (simp; done) | (simp; omega) | (simp at *; omega))))))
  have hS : W0.drew.cell? ⟨w1.heap.size, 0, none⟩ = some (.int .i64 f) ∧ W0.drew.cell? ⟨w1.heap.size, 1, none⟩ = some (.int .i64 r) ∧ Below w.heap.size w W0.drew := ⟨bA.cell 0, bA.cell 1, hB.drew⟩
  rw [hW0]
  clear hW0 hB bA hb hz
  go_region_held3 (fun W => W.cell? ⟨w1.heap.size, 0, none⟩ = some (.int .i64 f) ∧ W.cell? ⟨w1.heap.size, 1, none⟩ = some (.int .i64 r) ∧ Below w.heap.size w W)
    (first | exact hS | exact spot_keep (by assumption) hb | assumption)
    (first | (go_at_call 117; refine (places_any _).mono ?_; rintro e w2 ⟨rfl, hb⟩) | (go_at_call 66; refine (kindb_is c 65 _ Hk.out).mono ?_; rintro e w2 ⟨rfl, hb⟩) | (go_at_call 85; refine (indexb_is 65 1 _ rfl).mono ?_; rintro e w2 ⟨rfl, hb⟩) | (go_at_call 132; refine (isAdvisors_any f r _ b0 b1 b2 b3).mono ?_; rintro e w2 ⟨rfl, hb⟩))
  go_wp2
  go_ret
  exact ⟨rfl, spot_below (by assumption)⟩
set_option maxHeartbeats 4000000 in
theorem may_66 (c : Nat) (n s f r : Int) (w : World) (h : realB n s = true) (hs : sideN c = s) (hk : kindN c = 66) (hf : seenF n s = f) (hr : seenR n s = r) :
    Calls Tryz.prog 97 #[.int .u8 (c : Int), .int .i64 n] w (Gives w (.bool (eleP f r))) := by
  unfold Gives
  have hix := places_2
  have bd := seen_in (side := s) (real_parts h).1
  rw [hf, hr] at bd
  obtain ⟨b0, b1, b2, b3⟩ := bd
  have Hs := Lib.hid hs
  have H := Lib.hid h
  have Hk := Lib.hid hk
  have Hf := Lib.hid hf
  have Hr := Lib.hid hr
  clear h hs hk hf hr
  go_enter Tryz.func97, Tryz.ntmps97
  go_wp2_with fail
  refine (side_any c _).mono ?_
  rintro e w' ⟨rfl, rfl⟩
  rw [Hs.out]
  go_wp2_with fail
  refine (seen_yes n _ _ H.out).mono ?_
  rintro e w1 ⟨rfl, hb⟩
  rw [Hf.out, Hr.out]
  have hz := hb.size
  go_wp2_with fail
  obtain ⟨W0, hW0⟩ : ∃ W0, w1.alloc (.cells #[.int .i64 f, .int .i64 r] 90) = W0 := ⟨_, rfl⟩
  have bA : Blk W0 w1.heap.size 90 #[.int .i64 f, .int .i64 r] := by rw [← hW0]; exact Blk.new _ _ _ rfl
  have hB : Below w.heap.size w W0 := by rw [← hW0]; exact (by repeat (first | exact Below.refl _ _ | (refine Below.setCell ?_ (by first | omega | (simp; done) | (simp; omega) | (simp at *; omega)) _) | (refine Below.alloc ?_ (by first | omega | (simp; done) | (simp; omega) | (simp at *; omega)) _) | refine Below.drew ?_ | (refine below_drewN ?_ _) | (refine Below.trans ?_ (Below.mono (by assumption) (by first | omega | (simp; done) | (simp; omega) | (simp at *; omega))))))
  have hS : W0.drew.cell? ⟨w1.heap.size, 0, none⟩ = some (.int .i64 f) ∧ W0.drew.cell? ⟨w1.heap.size, 1, none⟩ = some (.int .i64 r) ∧ Below w.heap.size w W0.drew := ⟨bA.cell 0, bA.cell 1, hB.drew⟩
  rw [hW0]
  clear hW0 hB bA hb hz
  go_region_held3 (fun W => W.cell? ⟨w1.heap.size, 0, none⟩ = some (.int .i64 f) ∧ W.cell? ⟨w1.heap.size, 1, none⟩ = some (.int .i64 r) ∧ Below w.heap.size w W)
    (first | exact hS | exact spot_keep (by assumption) hb | assumption)
    (first | (go_at_call 117; refine (places_any _).mono ?_; rintro e w2 ⟨rfl, hb⟩) | (go_at_call 66; refine (kindb_is c 66 _ Hk.out).mono ?_; rintro e w2 ⟨rfl, hb⟩) | (go_at_call 85; refine (indexb_is 66 2 _ rfl).mono ?_; rintro e w2 ⟨rfl, hb⟩) | (go_at_call 133; refine (isElephants_any f r _).mono ?_; rintro e w2 ⟨rfl, hb⟩))
  go_wp2
  go_ret
  exact ⟨rfl, spot_below (by assumption)⟩
set_option maxHeartbeats 4000000 in
theorem may_78 (c : Nat) (n s f r : Int) (w : World) (h : realB n s = true) (hs : sideN c = s) (hk : kindN c = 78) (hf : seenF n s = f) (hr : seenR n s = r) :
    Calls Tryz.prog 97 #[.int .u8 (c : Int), .int .i64 n] w (Gives w (.bool true)) := by
  unfold Gives
  have hix := places_3
  have bd := seen_in (side := s) (real_parts h).1
  rw [hf, hr] at bd
  obtain ⟨b0, b1, b2, b3⟩ := bd
  have Hs := Lib.hid hs
  have H := Lib.hid h
  have Hk := Lib.hid hk
  have Hf := Lib.hid hf
  have Hr := Lib.hid hr
  clear h hs hk hf hr
  go_enter Tryz.func97, Tryz.ntmps97
  go_wp2_with fail
  refine (side_any c _).mono ?_
  rintro e w' ⟨rfl, rfl⟩
  rw [Hs.out]
  go_wp2_with fail
  refine (seen_yes n _ _ H.out).mono ?_
  rintro e w1 ⟨rfl, hb⟩
  rw [Hf.out, Hr.out]
  have hz := hb.size
  go_wp2_with fail
  obtain ⟨W0, hW0⟩ : ∃ W0, w1.alloc (.cells #[.int .i64 f, .int .i64 r] 90) = W0 := ⟨_, rfl⟩
  have bA : Blk W0 w1.heap.size 90 #[.int .i64 f, .int .i64 r] := by rw [← hW0]; exact Blk.new _ _ _ rfl
  have hB : Below w.heap.size w W0 := by rw [← hW0]; exact (by repeat (first | exact Below.refl _ _ | (refine Below.setCell ?_ (by first | omega | (simp; done) | (simp; omega) | (simp at *; omega)) _) | (refine Below.alloc ?_ (by first | omega | (simp; done) | (simp; omega) | (simp at *; omega)) _) | refine Below.drew ?_ | (refine below_drewN ?_ _) | (refine Below.trans ?_ (Below.mono (by assumption) (by first | omega | (simp; done) | (simp; omega) | (simp at *; omega))))))
  have hS : W0.drew.cell? ⟨w1.heap.size, 0, none⟩ = some (.int .i64 f) ∧ W0.drew.cell? ⟨w1.heap.size, 1, none⟩ = some (.int .i64 r) ∧ Below w.heap.size w W0.drew := ⟨bA.cell 0, bA.cell 1, hB.drew⟩
  rw [hW0]
  clear hW0 hB bA hb hz
  go_region_held3 (fun W => W.cell? ⟨w1.heap.size, 0, none⟩ = some (.int .i64 f) ∧ W.cell? ⟨w1.heap.size, 1, none⟩ = some (.int .i64 r) ∧ Below w.heap.size w W)
    (first | exact hS | exact spot_keep (by assumption) hb | assumption)
    (first | (go_at_call 117; refine (places_any _).mono ?_; rintro e w2 ⟨rfl, hb⟩) | (go_at_call 66; refine (kindb_is c 78 _ Hk.out).mono ?_; rintro e w2 ⟨rfl, hb⟩) | (go_at_call 85; refine (indexb_is 78 3 _ rfl).mono ?_; rintro e w2 ⟨rfl, hb⟩) | (go_at_call 134; refine (isAnywhere_any f r _).mono ?_; rintro e w2 ⟨rfl, hb⟩))
  go_wp2
  go_ret
  exact ⟨rfl, spot_below (by assumption)⟩
set_option maxHeartbeats 4000000 in
theorem may_82 (c : Nat) (n s f r : Int) (w : World) (h : realB n s = true) (hs : sideN c = s) (hk : kindN c = 82) (hf : seenF n s = f) (hr : seenR n s = r) :
    Calls Tryz.prog 97 #[.int .u8 (c : Int), .int .i64 n] w (Gives w (.bool true)) := by
  unfold Gives
  have hix := places_4
  have bd := seen_in (side := s) (real_parts h).1
  rw [hf, hr] at bd
  obtain ⟨b0, b1, b2, b3⟩ := bd
  have Hs := Lib.hid hs
  have H := Lib.hid h
  have Hk := Lib.hid hk
  have Hf := Lib.hid hf
  have Hr := Lib.hid hr
  clear h hs hk hf hr
  go_enter Tryz.func97, Tryz.ntmps97
  go_wp2_with fail
  refine (side_any c _).mono ?_
  rintro e w' ⟨rfl, rfl⟩
  rw [Hs.out]
  go_wp2_with fail
  refine (seen_yes n _ _ H.out).mono ?_
  rintro e w1 ⟨rfl, hb⟩
  rw [Hf.out, Hr.out]
  have hz := hb.size
  go_wp2_with fail
  obtain ⟨W0, hW0⟩ : ∃ W0, w1.alloc (.cells #[.int .i64 f, .int .i64 r] 90) = W0 := ⟨_, rfl⟩
  have bA : Blk W0 w1.heap.size 90 #[.int .i64 f, .int .i64 r] := by rw [← hW0]; exact Blk.new _ _ _ rfl
  have hB : Below w.heap.size w W0 := by rw [← hW0]; exact (by repeat (first | exact Below.refl _ _ | (refine Below.setCell ?_ (by first | omega | (simp; done) | (simp; omega) | (simp at *; omega)) _) | (refine Below.alloc ?_ (by first | omega | (simp; done) | (simp; omega) | (simp at *; omega)) _) | refine Below.drew ?_ | (refine below_drewN ?_ _) | (refine Below.trans ?_ (Below.mono (by assumption) (by first | omega | (simp; done) | (simp; omega) | (simp at *; omega))))))
  have hS : W0.drew.cell? ⟨w1.heap.size, 0, none⟩ = some (.int .i64 f) ∧ W0.drew.cell? ⟨w1.heap.size, 1, none⟩ = some (.int .i64 r) ∧ Below w.heap.size w W0.drew := ⟨bA.cell 0, bA.cell 1, hB.drew⟩
  rw [hW0]
  clear hW0 hB bA hb hz
  go_region_held3 (fun W => W.cell? ⟨w1.heap.size, 0, none⟩ = some (.int .i64 f) ∧ W.cell? ⟨w1.heap.size, 1, none⟩ = some (.int .i64 r) ∧ Below w.heap.size w W)
    (first | exact hS | exact spot_keep (by assumption) hb | assumption)
    (first | (go_at_call 117; refine (places_any _).mono ?_; rintro e w2 ⟨rfl, hb⟩) | (go_at_call 66; refine (kindb_is c 82 _ Hk.out).mono ?_; rintro e w2 ⟨rfl, hb⟩) | (go_at_call 85; refine (indexb_is 82 4 _ rfl).mono ?_; rintro e w2 ⟨rfl, hb⟩) | (go_at_call 134; refine (isAnywhere_any f r _).mono ?_; rintro e w2 ⟨rfl, hb⟩))
  go_wp2
  go_ret
  exact ⟨rfl, spot_below (by assumption)⟩
set_option maxHeartbeats 4000000 in
theorem may_67 (c : Nat) (n s f r : Int) (w : World) (h : realB n s = true) (hs : sideN c = s) (hk : kindN c = 67) (hf : seenF n s = f) (hr : seenR n s = r) :
    Calls Tryz.prog 97 #[.int .u8 (c : Int), .int .i64 n] w (Gives w (.bool true)) := by
  unfold Gives
  have hix := places_5
  have bd := seen_in (side := s) (real_parts h).1
  rw [hf, hr] at bd
  obtain ⟨b0, b1, b2, b3⟩ := bd
  have Hs := Lib.hid hs
  have H := Lib.hid h
  have Hk := Lib.hid hk
  have Hf := Lib.hid hf
  have Hr := Lib.hid hr
  clear h hs hk hf hr
  go_enter Tryz.func97, Tryz.ntmps97
  go_wp2_with fail
  refine (side_any c _).mono ?_
  rintro e w' ⟨rfl, rfl⟩
  rw [Hs.out]
  go_wp2_with fail
  refine (seen_yes n _ _ H.out).mono ?_
  rintro e w1 ⟨rfl, hb⟩
  rw [Hf.out, Hr.out]
  have hz := hb.size
  go_wp2_with fail
  obtain ⟨W0, hW0⟩ : ∃ W0, w1.alloc (.cells #[.int .i64 f, .int .i64 r] 90) = W0 := ⟨_, rfl⟩
  have bA : Blk W0 w1.heap.size 90 #[.int .i64 f, .int .i64 r] := by rw [← hW0]; exact Blk.new _ _ _ rfl
  have hB : Below w.heap.size w W0 := by rw [← hW0]; exact (by repeat (first | exact Below.refl _ _ | (refine Below.setCell ?_ (by first | omega | (simp; done) | (simp; omega) | (simp at *; omega)) _) | (refine Below.alloc ?_ (by first | omega | (simp; done) | (simp; omega) | (simp at *; omega)) _) | refine Below.drew ?_ | (refine below_drewN ?_ _) | (refine Below.trans ?_ (Below.mono (by assumption) (by first | omega | (simp; done) | (simp; omega) | (simp at *; omega))))))
  have hS : W0.drew.cell? ⟨w1.heap.size, 0, none⟩ = some (.int .i64 f) ∧ W0.drew.cell? ⟨w1.heap.size, 1, none⟩ = some (.int .i64 r) ∧ Below w.heap.size w W0.drew := ⟨bA.cell 0, bA.cell 1, hB.drew⟩
  rw [hW0]
  clear hW0 hB bA hb hz
  go_region_held3 (fun W => W.cell? ⟨w1.heap.size, 0, none⟩ = some (.int .i64 f) ∧ W.cell? ⟨w1.heap.size, 1, none⟩ = some (.int .i64 r) ∧ Below w.heap.size w W)
    (first | exact hS | exact spot_keep (by assumption) hb | assumption)
    (first | (go_at_call 117; refine (places_any _).mono ?_; rintro e w2 ⟨rfl, hb⟩) | (go_at_call 66; refine (kindb_is c 67 _ Hk.out).mono ?_; rintro e w2 ⟨rfl, hb⟩) | (go_at_call 85; refine (indexb_is 67 5 _ rfl).mono ?_; rintro e w2 ⟨rfl, hb⟩) | (go_at_call 134; refine (isAnywhere_any f r _).mono ?_; rintro e w2 ⟨rfl, hb⟩))
  go_wp2
  go_ret
  exact ⟨rfl, spot_below (by assumption)⟩
set_option maxHeartbeats 4000000 in
theorem may_80 (c : Nat) (n s f r : Int) (w : World) (h : realB n s = true) (hs : sideN c = s) (hk : kindN c = 80) (hf : seenF n s = f) (hr : seenR n s = r) :
    Calls Tryz.prog 97 #[.int .u8 (c : Int), .int .i64 n] w (Gives w (.bool (pawnP f r))) := by
  unfold Gives
  have hix := places_6
  have bd := seen_in (side := s) (real_parts h).1
  rw [hf, hr] at bd
  obtain ⟨b0, b1, b2, b3⟩ := bd
  have Hs := Lib.hid hs
  have H := Lib.hid h
  have Hk := Lib.hid hk
  have Hf := Lib.hid hf
  have Hr := Lib.hid hr
  clear h hs hk hf hr
  go_enter Tryz.func97, Tryz.ntmps97
  go_wp2_with fail
  refine (side_any c _).mono ?_
  rintro e w' ⟨rfl, rfl⟩
  rw [Hs.out]
  go_wp2_with fail
  refine (seen_yes n _ _ H.out).mono ?_
  rintro e w1 ⟨rfl, hb⟩
  rw [Hf.out, Hr.out]
  have hz := hb.size
  go_wp2_with fail
  obtain ⟨W0, hW0⟩ : ∃ W0, w1.alloc (.cells #[.int .i64 f, .int .i64 r] 90) = W0 := ⟨_, rfl⟩
  have bA : Blk W0 w1.heap.size 90 #[.int .i64 f, .int .i64 r] := by rw [← hW0]; exact Blk.new _ _ _ rfl
  have hB : Below w.heap.size w W0 := by rw [← hW0]; exact (by repeat (first | exact Below.refl _ _ | (refine Below.setCell ?_ (by first | omega | (simp; done) | (simp; omega) | (simp at *; omega)) _) | (refine Below.alloc ?_ (by first | omega | (simp; done) | (simp; omega) | (simp at *; omega)) _) | refine Below.drew ?_ | (refine below_drewN ?_ _) | (refine Below.trans ?_ (Below.mono (by assumption) (by first | omega | (simp; done) | (simp; omega) | (simp at *; omega))))))
  have hS : W0.drew.cell? ⟨w1.heap.size, 0, none⟩ = some (.int .i64 f) ∧ W0.drew.cell? ⟨w1.heap.size, 1, none⟩ = some (.int .i64 r) ∧ Below w.heap.size w W0.drew := ⟨bA.cell 0, bA.cell 1, hB.drew⟩
  rw [hW0]
  clear hW0 hB bA hb hz
  go_region_held3 (fun W => W.cell? ⟨w1.heap.size, 0, none⟩ = some (.int .i64 f) ∧ W.cell? ⟨w1.heap.size, 1, none⟩ = some (.int .i64 r) ∧ Below w.heap.size w W)
    (first | exact hS | exact spot_keep (by assumption) hb | assumption)
    (first | (go_at_call 117; refine (places_any _).mono ?_; rintro e w2 ⟨rfl, hb⟩) | (go_at_call 66; refine (kindb_is c 80 _ Hk.out).mono ?_; rintro e w2 ⟨rfl, hb⟩) | (go_at_call 85; refine (indexb_is 80 6 _ rfl).mono ?_; rintro e w2 ⟨rfl, hb⟩) | (go_at_call 135; refine (isPawns_any f r _ b0 b1).mono ?_; rintro e w2 ⟨rfl, hb⟩))
  go_wp2
  go_ret
  exact ⟨rfl, spot_below (by assumption)⟩
end Go.Proofs.YtbfkkedcjodceaaGreatDoor
