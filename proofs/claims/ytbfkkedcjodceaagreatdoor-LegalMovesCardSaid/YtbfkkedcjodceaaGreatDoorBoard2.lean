/- What is told of boards, for every text: whether it is one, what stands on a square, a board with something put. -/
import Derived.Test.YtbfkkedcjodceaaGreatDoorBoard1
import Derived.Test.YtbfkkedcjodceaaGreatDoorBase
import Derived.Test.YtbfkkedcjodceaaGreatDoorBitsF
import Derived.Laws.IdiomStrings
namespace Go.Proofs.YtbfkkedcjodceaaGreatDoor
open Go.RowKit Go.Shelf
open M (S)

/-- The byte at a place of a text. -/
def bAt (s : ByteArray) (k : Nat) : Nat := if h : k < s.size then s[k].toNat else 0
theorem bAt_eq (s : ByteArray) (k : Nat) (h : k < s.size) : s[k].toNat = bAt s k := by unfold bAt; rw [dif_pos h]
theorem bAt_lt (s : ByteArray) (k : Nat) : bAt s k < 256 := by
  unfold bAt
  split
  · exact UInt8.toNat_lt _
  · decide
/-- Is a text a board? -/
def isB (s : ByteArray) : Bool := decide (s.size = 90) && (List.range 90).all fun k => fillB (bAt s k)
theorem isB_size {s : ByteArray} (h : isB s = true) : s.size = 90 := by
  simp only [isB, Bool.and_eq_true, decide_eq_true_eq] at h
  exact h.1
theorem isB_fill {s : ByteArray} (h : isB s = true) (k : Nat) (hk : k < 90) : fillB (bAt s k) = true := by
  simp only [isB, Bool.and_eq_true, List.all_eq_true] at h
  exact h.2 k (List.mem_range.2 hk)
theorem isB_no {s : ByteArray} {k : Nat} (hk : k < 90) (h : fillB (bAt s k) = false) : isB s = false := by
  cases hb : isB s
  · rfl
  · rw [isB_fill hb k hk] at h; cases h

set_option maxHeartbeats 1000000 in
theorem is_any (s : ByteArray) (w : World) : Calls Tryz.prog 68 #[.string s] w fun e w' => e = .returned (.bool (isB s)) ∧ w = w' := by
  by_cases hs : s.size = 90
  · have h1 : ((s.size : Int) != 90) = false := by rw [hs]; rfl
    have h90 : 90 ≤ s.size := by omega
    have hall : ∀ k, k ≤ 90 → (∀ j, j < k → fillB (bAt s j) = true) → k = 90 → isB s = true := fun k _ h e => by
      subst e
      simp only [isB, Bool.and_eq_true, decide_eq_true_eq, List.all_eq_true]
      exact ⟨hs, fun j hj => h j (List.mem_range.1 hj)⟩
    have Hall := Lib.hid hall
    clear hs hall
    go_enter Tryz.func68, Tryz.ntmps68
    go_wp2_with fail
    go_loop [3, 7] (fun _ i => ∃ k : Nat, k ≤ 90 ∧ i = .int .i64 k ∧ ∀ j, j < k → fillB (bAt s j) = true) (fun _ i => 90 - (intOf i).toNat)
    case atStart => exact ⟨0, by omega, rfl, fun j hj => by omega⟩
    case round =>
      obtain ⟨k, hk, rfl, hf⟩ := hrel
      have Hf := Lib.hid hf
      clear hf
      by_cases hlt : k < 90
      · have hks : k < s.size := by omega
        have hb := Lib.hid (bAt_eq s k hks)
        go_wp2_with fail
        rw [hb.out]
        refine (fills_any _ _).mono ?_
        rintro e w' ⟨rfl, rfl⟩
        cases hfk : fillB (bAt s k)
        · have K := Lib.hid (isB_no hlt hfk)
          clear hfk
          go_wp2
          go_ret
          exact ⟨by rw [K.out]; rfl, rfl⟩
        · have K := Lib.hid hfk
          clear hfk
          go_wp2
          go_round
          case rel => exact ⟨k + 1, by omega, by go_num, fun j hj => by
            rcases Nat.lt_or_ge j k with h | h
            · exact Hf.out j h
            · rw [show j = k by omega]; exact K.out⟩
          case measure => simp [intOf]; omega
      · have K := Lib.hid (Hall.out k hk Hf.out (by omega))
        go_wp2
        go_ret
        exact ⟨by rw [K.out]; rfl, rfl⟩
  · have h1 : ((s.size : Int) != 90) = true := by rw [bne_iff_ne]; omega
    have K : Hid (isB s = false) := by show _ = _; simp [isB, hs]
    clear hs
    go_enter Tryz.func68, Tryz.ntmps68
    go_wp2
    go_ret
    exact ⟨by rw [K.out]; rfl, rfl⟩

/-- What stands on a square. -/
def atB (s : ByteArray) (n : Int) : Nat := if isB s = true ∧ sqI n = true then bAt s n.toNat else 46

/-- A text with a byte put. -/
def putS (s : ByteArray) (n c : Nat) : ByteArray := ⟨((s.data.toList).set n (UInt8.ofNat c)).toArray⟩
/-- What Put answers. -/
def putB (s : ByteArray) (n : Int) (c : Nat) : ByteArray := if isB s = true ∧ sqI n = true ∧ fillB c = true then putS s n.toNat c else s
theorem bAt_list (s : ByteArray) (i : Nat) (h : i < s.data.toList.length) : (s.data.toList[i]).toNat = bAt s i := by
  have h' : i < s.size := by simpa using h
  rw [← bAt_eq s i h']
  rfl

/-- A text's bytes in new memory. -/
theorem bytes_of (s : ByteArray) (w : World) (hs : s.size = 90) : ∃ (C : Nat) (W1 : World), (convert 9 70 (.string s)).run Tryz.prog w = .ok (.slice (some ⟨w.heap.size, 0, none⟩) 90 C) W1 ∧
    (∀ i, i < 90 → W1.cell? ⟨w.heap.size, i, none⟩ = some (.int .u8 (bAt s i : Nat))) ∧ (∀ i, i < 90 → W1.frozen? ⟨w.heap.size, i, none⟩ = false) ∧ Below w.heap.size w W1 := by
  have h := run_bytes_of_string (P := Tryz.prog) w 9 70 5 s Tryz.underlying9 Tryz.underlying70 Tryz.underlying5
  generalize hC : grownCap w s.size 0 5 = C at h
  rw [hs] at h
  refine ⟨C, _, h, fun i hi => ?_, fun i hi => ?_, ?_⟩
  · have hd : i < s.data.size := by have : s.data.size = s.size := rfl; omega
    have hc := bytesRow_at s C i hd
    have hb : (World.alloc w.drew (.cells (bytesRow s C) 5 ((bytesRow s C).size, (bytesRow s C).size + 1))).heap[w.heap.size]? = some (.cells (bytesRow s C) 5 ((bytesRow s C).size, (bytesRow s C).size + 1)) := made_block w.drew _
    simp only [World.cell?, hb]
    rw [← bAt_eq s i (by omega)]
    exact hc
  · have hd : i < s.data.size := by have : s.data.size = s.size := rfl; omega
    have hlt : i < (bytesRow s C).size := (Array.getElem?_eq_some_iff.1 (bytesRow_at s C i hd)).1
    have hb : (World.alloc w.drew (.cells (bytesRow s C) 5 ((bytesRow s C).size, (bytesRow s C).size + 1))).heap[w.heap.size]? = some (.cells (bytesRow s C) 5 ((bytesRow s C).size, (bytesRow s C).size + 1)) := made_block w.drew _
    simp only [World.frozen?, hb]
    simp
    omega
  · exact ((Below.refl _ _).drew).alloc (Nat.le_refl _) _
/-- A text of bytes in memory. -/
theorem string_of (W : World) (g C : Nat) (l : List UInt8) (hl : l.length = 90) (h : ∀ i (hi : i < 90), W.cell? ⟨g, i, none⟩ = some (.int .u8 ((l[i]'(by omega)).toNat : Int))) :
    (convert 70 9 (.slice (some ⟨g, 0, none⟩) 90 C)).run Tryz.prog W = .ok (.string ⟨l.toArray⟩) W := by
  have h1 := run_convert_bytes_back (P := Tryz.prog) W 70 9 5 ⟨g, 0, none⟩ C l Tryz.underlying70 Tryz.underlying5 Tryz.underlying9 (fun j hj => by
    rw [show (Addr.add ⟨g, 0, none⟩ j) = ⟨g, j, none⟩ by simp [Addr.add]; omega]
    exact h j (by omega))
  rw [hl] at h1
  exact h1

set_option maxHeartbeats 1000000 in
theorem put_any (s : ByteArray) (n : Int) (c : Nat) (w : World) (hc : c < 256) : Calls Tryz.prog 79 #[.string s, .int .i64 n, .int .u8 (c : Int)] w fun e w' => e = .returned (.string (putB s n c)) ∧ Below w.heap.size w w' := by
  cases hq : sqI n
  · have K : Hid (putB s n c = s) := by show _ = _; simp [putB, hq]
    have Q := Lib.hid hq
    clear hq
    go_enter Tryz.func79, Tryz.ntmps79
    go_wp2_with fail
    refine (isSquare_any _ _).mono ?_
    rintro e w' ⟨rfl, rfl⟩
    rw [Q.out]
    go_wp2
    go_ret
    exact ⟨by rw [K.out]; rfl, Below.refl _ _⟩
  · have Q := Lib.hid hq
    cases hf : fillB c
    · have K : Hid (putB s n c = s) := by show _ = _; simp [putB, hf]
      have F := Lib.hid hf
      clear hq hf
      go_enter Tryz.func79, Tryz.ntmps79
      go_wp2_with fail
      refine (isSquare_any _ _).mono ?_
      rintro e w' ⟨rfl, rfl⟩
      rw [Q.out]
      go_wp2_with fail
      refine (fills_any c _).mono ?_
      rintro e w' ⟨rfl, rfl⟩
      rw [F.out]
      go_wp2
      go_ret
      exact ⟨by rw [K.out]; rfl, Below.refl _ _⟩
    · have F := Lib.hid hf
      cases hb : isB s
      · have K : Hid (putB s n c = s) := by show _ = _; simp [putB, hb]
        have B := Lib.hid hb
        clear hq hf hb
        go_enter Tryz.func79, Tryz.ntmps79
        go_wp2_with fail
        refine (isSquare_any _ _).mono ?_
        rintro e w' ⟨rfl, rfl⟩
        rw [Q.out]
        go_wp2_with fail
        refine (fills_any c _).mono ?_
        rintro e w' ⟨rfl, rfl⟩
        rw [F.out]
        go_wp2_with fail
        refine (is_any _ _).mono ?_
        rintro e w' ⟨rfl, rfl⟩
        rw [B.out]
        go_wp2
        go_ret
        exact ⟨by rw [K.out]; rfl, Below.refl _ _⟩
      · have hn : 0 ≤ n ∧ n < 90 := by
          by_cases h : 0 ≤ n ∧ n < 90
          · exact h
          · rw [sqI_false h] at hq; cases hq
        obtain ⟨h0, h1⟩ := hn
        have hs := isB_size hb
        obtain ⟨C, W1, hconv, hcell, hfr, hbel⟩ := bytes_of s w hs
        have c0 := hcell n.toNat (by omega)
        have f0 := hfr n.toNat (by omega)
        have hback : (convert 70 9 (.slice (some ⟨w.heap.size, 0, none⟩) 90 C)).run Tryz.prog (W1.setCell ⟨w.heap.size, n.toNat, none⟩ (.int .u8 (c : Int))) = .ok (.string (putS s n.toNat c)) (W1.setCell ⟨w.heap.size, n.toNat, none⟩ (.int .u8 (c : Int))) := by
          have hlen : s.data.toList.length = 90 := by simpa using hs
          refine string_of _ w.heap.size C ((s.data.toList).set n.toNat (UInt8.ofNat c)) (by rw [List.length_set]; exact hlen) fun i hi => ?_
          by_cases e : i = n.toNat
          · subst e
            rw [World.cell?_setCell_same' _ _ _ (by rw [c0]; rfl), List.getElem_set_self]
            rw [UInt8.toNat_ofNat_of_lt' (by omega)]
          · rw [World.cell?_setCell_other _ _ _ _ (by intro h; injection h with _ h2; exact e h2.symm), hcell i hi, List.getElem_set_ne (fun h => e h.symm), bAt_list]
        have K : Hid (putB s n c = putS s n.toNat c) := by show _ = _; simp [putB, hb, hq, hf]
        have B := Lib.hid hb
        clear hq hf hb hcell hfr hs
        go_enter Tryz.func79, Tryz.ntmps79
        go_wp2_with fail
        refine (isSquare_any _ _).mono ?_
        rintro e w' ⟨rfl, rfl⟩
        rw [Q.out]
        go_wp2_with fail
        refine (fills_any c _).mono ?_
        rintro e w' ⟨rfl, rfl⟩
        rw [F.out]
        go_wp2_with fail
        refine (is_any _ _).mono ?_
        rintro e w' ⟨rfl, rfl⟩
        rw [B.out]
        go_wp2
        go_ret
        exact ⟨by rw [K.out]; rfl, hbel.setCell (p := ⟨w.heap.size, n.toNat, none⟩) (Nat.le_refl _) _⟩
end Go.Proofs.YtbfkkedcjodceaaGreatDoor
