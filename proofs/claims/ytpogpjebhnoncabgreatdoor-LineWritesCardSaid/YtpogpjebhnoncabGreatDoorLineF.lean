/- Is there a line's end in a text: strings.ContainsAny, of any bytes. -/
import Derived.Test.YtpogpjebhnoncabGreatDoorLineA
import Derived.Test.YtpogpjebhnoncabGreatDoorShelf
import Derived.Test.YtpogpjebhnoncabGreatDoorShelfB
import Derived.Laws.Runes
import Derived.Laws.RangeAny
import Derived.Lib.IndexAny
import Derived.WalkMore
import Derived.Lib.OthersKept
namespace Go.Proofs.YtpogpjebhnoncabGreatDoor
open Go.RowKit Go.Shelf Go.Proofs.YtpogpjebhnoncabGreatDoor.Ln
open M (S)

/-- The bytes of a rune that is none of ASCII are none of ASCII. -/
theorem decode_span (s : ByteArray) (pos : Nat) (h : pos < s.size) (ha : 128 ≤ (s[pos]'h).toNat) : pos + (Utf8.decode s pos).2 ≤ s.size ∧ ∀ j, pos ≤ j → j < pos + (Utf8.decode s pos).2 → 128 ≤ (s.get! j).toNat := by
  have hn : ¬ (s[pos]'h).toNat < 128 := by omega
  have h0 : 128 ≤ (s.get! pos).toNat := by
    have := get_at s pos h
    rw [Nat.add_zero] at this
    rw [this]
    exact ha
  have key : ∀ n, (∀ k, 1 ≤ k → k < n → pos + k < s.size ∧ (s.get! (pos + k)).toNat / 64 = 2) → 1 ≤ n → pos + n ≤ s.size ∧ ∀ j, pos ≤ j → j < pos + n → 128 ≤ (s.get! j).toNat := by
    intro n hk hn1
    refine ⟨?_, fun j h1 h2 => ?_⟩
    · by_cases e : n = 1
      · omega
      · have := (hk (n - 1) (by omega) (by omega)).1
        omega
    · by_cases e : j = pos
      · rw [e]; exact h0
      · have := (hk (j - pos) (by omega) (by omega)).2
        rw [show pos + (j - pos) = j by omega] at this
        omega
  have one : ∀ k, 1 ≤ k → k < 1 → pos + k < s.size ∧ (s.get! (pos + k)).toNat / 64 = 2 := fun k a b => by omega
  simp only [Utf8.decode, get_at s pos h, hn, if_false]
  split
  · rename_i hc
    simp only [Bool.and_eq_true, decide_eq_true_eq, beq_iff_eq] at hc
    split
    · exact key 2 (fun k a b => (by
        have e : k = 1 := by omega
        subst e
        exact ⟨hc.2.1, hc.2.2⟩)) (by omega)
    · exact key 1 one (by omega)
  · split
    · rename_i hc
      simp only [Bool.and_eq_true, decide_eq_true_eq, beq_iff_eq] at hc
      split
      · exact key 3 (fun k a b => by
          rcases (by omega : k = 1 ∨ k = 2) with rfl | rfl
          · exact ⟨hc.1.2.1, hc.1.2.2⟩
          · exact ⟨hc.2.1, hc.2.2⟩) (by omega)
      · exact key 1 one (by omega)
    · split
      · rename_i hc
        simp only [Bool.and_eq_true, decide_eq_true_eq, beq_iff_eq] at hc
        split
        · exact key 4 (fun k a b => by
            rcases (by omega : k = 1 ∨ k = 2 ∨ k = 3) with rfl | rfl | rfl
            · exact ⟨hc.1.1.2.1, hc.1.1.2.2⟩
            · exact ⟨hc.1.2.1, hc.1.2.2⟩
            · exact ⟨hc.2.1, hc.2.2⟩) (by omega)
        · exact key 1 one (by omega)
      · exact key 1 one (by omega)
set_option maxRecDepth 100000 in
set_option maxHeartbeats 4000000 in
/-- No rune beyond ASCII is a line's end. -/
theorem irune_error (w : World) : Calls Tryz.prog 61 #[.string ⟨#[10, 13]⟩, .int .i32 65533] w (Gives w (.int .i64 (-1))) := by
  unfold Gives
  go_enter Tryz.func61, Tryz.ntmps61
  go_wp2_with fail
  go_loopg [5] 2 (fun g _ wx => ∃ i : Nat, i + g = 2 ∧ wx = w.iter ⟨#[10, 13]⟩ i)
  case atStart => exact ⟨0, rfl, rfl⟩
  case round =>
    obtain ⟨i, hig, rfl⟩ := hrel
    cases gk with
    | zero =>
      obtain rfl : i = 2 := by omega
      have hnx := run_next_end (P := Tryz.prog) w ⟨#[10, 13]⟩ 2
      go_wp2_with fail
      go_ret
      exact ⟨rfl, (by repeat (first | exact Below.refl _ _ | (refine Below.setCell ?_ (by first | omega | (simp; done) | (simp; omega) | (simp at *; omega)) _) | (refine Below.alloc ?_ (by first | omega | (simp; done) | (simp; omega) | (simp at *; omega)) _) | refine Below.drew ?_ | (refine below_drewN ?_ _) | (refine Below.trans ?_ (Below.mono (by assumption) (by first | omega | (simp; done) | (simp; omega) | (simp at *; omega))))))⟩
    | succ g =>
      rcases (by omega : i = 0 ∨ i = 1) with rfl | rfl
      · have hnx := fun ty => run_next_ascii (P := Tryz.prog) w ⟨#[10, 13]⟩ 0 ty (by decide) (by decide)
        go_wp2_with fail
        go_roundg g
        case measure => omega
        case rel => exact ⟨1, by omega, rfl⟩
      · have hnx := fun ty => run_next_ascii (P := Tryz.prog) w ⟨#[10, 13]⟩ 1 ty (by decide) (by decide)
        go_wp2_with fail
        go_roundg g
        case measure => omega
        case rel => exact ⟨2, by omega, rfl⟩
set_option maxRecDepth 100000 in
set_option maxHeartbeats 4000000 in
theorem irune_bad (r : Int) (w : World) (h0 : 128 ≤ r) (h1 : r ≤ 2147483647) (he : r ≠ 65533) (hv : Utf8.valid r = false) : Calls Tryz.prog 61 #[.string ⟨#[10, 13]⟩, .int .i32 r] w (Gives w (.int .i64 (-1))) := by
  have e1 : decide ((0 : Int) ≤ r) = true := decide_eq_true (by omega)
  have e2 : ¬ r < 128 := by omega
  have e3 : (r == 65533) = false := by rw [beq_eq_false_iff_ne]; exact he
  have hvv := Tryz.utf8_ValidRune r w
  rw [show Lib.validRune r = false from (validRune_eq r).symm.trans hv] at hvv
  unfold Gives
  go_enter Tryz.func61, Tryz.ntmps61
  go_wp2_with fail
  refine hvv.mono ?_
  rintro e w1 ⟨rfl, rfl⟩
  go_wp2_with fail
  go_ret
  exact ⟨rfl, Below.refl _ _⟩
set_option maxRecDepth 100000 in
set_option maxHeartbeats 4000000 in
theorem irune_good (r : Int) (w : World) (h0 : 128 ≤ r) (h1 : r ≤ 2147483647) (he : r ≠ 65533) (hv : Utf8.valid r = true) : Calls Tryz.prog 61 #[.string ⟨#[10, 13]⟩, .int .i32 r] w (Gives w (.int .i64 (-1))) := by
  have e1 : decide ((0 : Int) ≤ r) = true := decide_eq_true (by omega)
  have e2 : ¬ r < 128 := by omega
  have e3 : (r == 65533) = false := by rw [beq_eq_false_iff_ne]; exact he
  have hvv := Tryz.utf8_ValidRune r w
  rw [show Lib.validRune r = true from (validRune_eq r).symm.trans hv] at hvv
  obtain ⟨f1, f2, f3⟩ := encode_facts r hv h0
  obtain ⟨E, hE⟩ : ∃ E, Utf8.encode r = E := ⟨_, rfl⟩
  rw [hE] at f1 f2 f3
  unfold Gives
  by_cases h2 : E.size = 2
  · have hE1 : E.size - 1 = 1 := by omega
    have f4 := f3 (by omega)
    simp only [hE1] at f4
    obtain ⟨y, hy⟩ : ∃ y, (E[1]'(show 1 < E.size by omega)).toNat = y := ⟨_, rfl⟩
    have f5 : 128 ≤ y := by rw [← hy]; exact f4
    clear f3 f4
    go_enter Tryz.func61, Tryz.ntmps61
    go_wp2_with fail
    refine hvv.mono ?_
    rintro e w1 ⟨rfl, rfl⟩
    go_wp2_with fail
    go_step3
    go_wp2_with fail
    go_loopw [9] (fun i wr => i = .int .i64 1 ∧ wr = w1) (fun _ _ => 0)
    case atStart => exact ⟨rfl, rfl⟩
    case round =>
      obtain ⟨rfl, rfl⟩ := hrel
      go_wp2_with fail
      go_step3
      go_wp2_with fail
      have b1 : (1 : Int) < (E.size : Int) := by omega
      have b2 : ¬ (13 : Int) = (y : Int) := by omega
      have b3 : ((13 : Int) != (y : Int)) = true := by rw [bne_iff_ne]; exact b2
      have b4 : ((⟨#[10, 13]⟩ : ByteArray)[1]'(by decide)).toNat = 13 := rfl
      go_quiet (fail)
      generalize hV : wr.drewN _ = V
      have hBV : Below wr.heap.size wr V := by rw [← hV]; exact below_drewN (Below.refl _ _) _
      clear hV
      go_wp2_with fail
      go_quiet ((go_at_call 88; exact Calls.quiet_of_same (Tryz.strings_IndexByte _ _ _)))
      have b5 : Lib.indexByte ByteArray.empty.data.toList (y : Int).toNat.toUInt8 = -1 := rfl
      rw [b5]
      go_wp2_with fail
      rw [Exit.noGoto_ret]
      go_wp2_with fail
      rw [Exit.noGoto_ret]
      go_wp2_with fail
      go_ret
      exact ⟨rfl, below_drewN hBV _⟩
  · obtain ⟨q, hq⟩ : ∃ q : Nat, E.size = q + 3 := ⟨E.size - 3, by omega⟩
    have hq2 : ((E.size : Int)) = ((q + 3 : Nat) : Int) := by rw [hq]
    go_enter Tryz.func61, Tryz.ntmps61
    go_wp2_with fail
    refine hvv.mono ?_
    rintro e w1 ⟨rfl, rfl⟩
    go_wp2_with fail
    go_step3
    go_wp2_with fail
    go_loopw [9] (fun i wr => i = .int .i64 ((q : Int) + 3 - 1) ∧ wr = w1) (fun _ _ => 0)
    case atStart => exact ⟨rfl, rfl⟩
    case round =>
      obtain ⟨rfl, rfl⟩ := hrel
      have b1 : ¬ (q : Int) + 3 - 1 < 2 := by omega
      go_wp2_with fail
      go_ret
      exact ⟨rfl, Below.refl _ _⟩
theorem valid_or (r : Int) : Utf8.valid r = true ∨ Utf8.valid r = false := by cases Utf8.valid r <;> simp
theorem irune_none (r : Int) (w : World) (h0 : 128 ≤ r) (h1 : r ≤ 2147483647) : Calls Tryz.prog 61 #[.string ⟨#[10, 13]⟩, .int .i32 r] w (Gives w (.int .i64 (-1))) := by
  by_cases he : r = 65533
  · rw [he]
    exact irune_error w
  · rcases valid_or r with hv | hv
    · exact irune_good r w h0 h1 he hv
    · exact irune_bad r w h0 h1 he hv
/-- There is no line's end ahead of a place. -/
def NoEnd (s : List UInt8) (i : Nat) : Prop := ∀ j (h : j < s.length), j < i → s[j] ≠ 10 ∧ s[j] ≠ 13
theorem noEnd_all {s : List UInt8} (h : NoEnd s s.length) : endB s = false := by
  unfold endB
  rw [List.any_eq_false]
  intro b hb
  obtain ⟨j, hj, rfl⟩ := List.getElem_of_mem hb
  have := h j hj hj
  simpa using this
theorem end_hit {s : List UInt8} {i : Nat} (hi : i < s.length) (h : s[i] = 10 ∨ s[i] = 13) : endB s = true := by
  unfold endB
  rw [List.any_eq_true]
  exact ⟨_, List.getElem_mem hi, by rcases h with h | h <;> rw [h] <;> rfl⟩
theorem bs_at (s : List UInt8) (i : Nat) (h : i < (bs s).size) : (bs s)[i] = s[i]'(by rw [bs_size] at h; exact h) := rfl
theorem bs_get (s : List UInt8) (i : Nat) (h : i < s.length) : (bs s).get! i = s[i] := by
  have := get_at (bs s) i (by rw [bs_size]; exact h)
  rw [Nat.add_zero] at this
  exact this.trans (bs_at s i (by rw [bs_size]; exact h))
theorem below_iterAt {B K : Nat} {w W : World} (h : Below B w W) (hB : B ≤ K) (s : ByteArray) (i : Nat) : Below B w (W.iterAt K s i) := by
  refine ⟨h.os, h.tape, h.output, ?_, fun k hk => ?_⟩
  · show _ ≤ (Array.setIfInBounds _ _ _).size
    rw [Array.size_setIfInBounds]
    exact h.size
  · show (Array.setIfInBounds _ _ _)[k]? = _
    rw [Array.getElem?_setIfInBounds_ne (by omega)]
    exact h.block k hk
theorem index_ten : Lib.indexByte [10, 13] 10 = 0 := rfl
theorem index_thirteen : Lib.indexByte [10, 13] 13 = 1 := rfl
theorem index_else {b : UInt8} (h1 : b ≠ 10) (h2 : b ≠ 13) : Lib.indexByte [10, 13] b = -1 := by
  simp [Lib.indexByte, Ne.symm h1, Ne.symm h2]
set_option maxRecDepth 100000 in
set_option maxHeartbeats 4000000 in
theorem iany_short (s : List UInt8) (w : World) (hs : s.length ≤ 8) : Calls Tryz.prog 41 #[.string (bs s), .string ⟨#[10, 13]⟩] w fun e w' => ∃ k, e = .returned (.int .i64 k) ∧ decide (0 ≤ k) = endB s ∧ Below w.heap.size w w' := by
  have hz := bs_size s
  have h8z : decide ((8 : Int) < ((bs s).size : Int)) = false := decide_eq_false (by omega)
  have h8y : decide ((8 : Int) < (s.length : Int)) = false := decide_eq_false (by omega)
  go_enter Tryz.func41, Tryz.ntmps41
  go_wp2_with fail
  refine (Tryz.strings_shouldUseASCIISet _ _).mono ?_
  rintro e w' ⟨rfl, rfl⟩
  rw [h8y]
  go_wp2_with fail
  go_loopg [9, 10] s.length (fun g _ _ wx => ∃ i : Nat, i + g = s.length ∧ wx.heap[w'.heap.size]? = some (.stringIter (bs s) i) ∧ Below w'.heap.size w' wx ∧ NoEnd s i)
  case atStart => exact ⟨0, by omega, World.iter_heap .., (by repeat (first | exact Below.refl _ _ | (refine Below.setCell ?_ (by first | omega | (simp; done) | (simp; omega) | (simp at *; omega)) _) | (refine Below.alloc ?_ (by first | omega | (simp; done) | (simp; omega) | (simp at *; omega)) _) | refine Below.drew ?_ | (refine below_drewN ?_ _) | (refine Below.trans ?_ (Below.mono (by assumption) (by first | omega | (simp; done) | (simp; omega) | (simp at *; omega)))))), fun j _ h => absurd h (Nat.not_lt_zero _)⟩
  case round =>
    obtain ⟨i, hig, hit, hB, hno⟩ := hrel
    have HN := Lib.hid hno
    clear hno
    cases gk with
    | zero =>
      obtain rfl : i = s.length := by omega
      have hnx := fun ty => Lib.run_next_end_at (P := Tryz.prog) wr w'.heap.size (bs s) s.length ty hit (by omega)
      go_wp2_with fail
      go_ret
      exact ⟨_, rfl, by rw [noEnd_all HN.out]; rfl, hB⟩
    | succ g =>
      have hi : i < s.length := by omega
      have hib : i < (bs s).size := by omega
      obtain ⟨x, hx⟩ : ∃ x : UInt8, s[i] = x := ⟨_, rfl⟩
      have hxb : (bs s)[i] = x := (bs_at s i hib).trans hx
      by_cases hx8 : x.toNat < 128
      · have hnx := fun ty => Lib.run_next_ascii_at (P := Tryz.prog) wr w'.heap.size (bs s) i ty hit hib (by rw [hxb]; exact hx8)
        rw [hxb] at hnx
        have hback : ((x.toNat : Int)).toNat.toUInt8 = x := by simp
        have hir := Tryz.strings_IndexRune_ascii ⟨#[10, 13]⟩ (x.toNat : Int) (wr.iterAt w'.heap.size (bs s) (i + 1)) (by omega) (by omega)
        rw [hback] at hir
        by_cases hend : x = 10 ∨ x = 13
        · have hk : ∃ k : Int, Lib.indexByte [10, 13] x = k ∧ 0 ≤ k := by
            rcases hend with rfl | rfl
            · exact ⟨0, rfl, by decide⟩
            · exact ⟨1, rfl, by decide⟩
          obtain ⟨k, hk, hk0⟩ := hk
          have hit := end_hit hi (hend.elim (fun h => .inl (hx.trans h)) fun h => .inr (hx.trans h))
          replace hir : Calls _ _ _ _ (fun e w'' => e = .returned (.int .i64 (Lib.indexByte [10, 13] x)) ∧ w'' = _) := hir
          rw [hk] at hir
          have HH := Lib.hid hit
          clear hk hend hx hxb hback hit
          go_wp2_with fail
          refine hir.mono ?_
          rintro e w2 ⟨rfl, rfl⟩
          go_wp2_with fail
          go_ret
          exact ⟨_, rfl, by rw [HH.out]; exact decide_eq_true (by omega), below_iterAt hB (Nat.le_refl _) _ _⟩
        · rw [not_or] at hend
          have hk := index_else hend.1 hend.2
          replace hir : Calls _ _ _ _ (fun e w'' => e = .returned (.int .i64 (Lib.indexByte [10, 13] x)) ∧ w'' = _) := hir
          rw [hk] at hir
          have HX := Lib.hid hx
          have HE := Lib.hid hend
          have HIT := Lib.hid hit
          have HB := Lib.hid hB
          clear hk hx hxb hback hend
          go_wp2_with fail
          refine hir.mono ?_
          rintro e w2 ⟨rfl, rfl⟩
          go_wp2_with fail
          go_roundg g
          case measure => omega
          case rel =>
            refine ⟨i + 1, by omega, Lib.iterAt_heap _ _ _ _ _ HIT.out, below_iterAt HB.out (Nat.le_refl _) _ _, fun j hj h => ?_⟩
            rcases Nat.lt_succ_iff_lt_or_eq.1 h with h | h
            · exact HN.out j hj h
            · subst h
              exact ⟨fun e => HE.out.1 (HX.out.symm.trans e), fun e => HE.out.2 (HX.out.symm.trans e)⟩
      · have ha : 128 ≤ ((bs s)[i]'hib).toNat := by rw [hxb]; omega
        have hnx := fun ty => Lib.run_next_any_at (P := Tryz.prog) wr w'.heap.size (bs s) i ty hit hib
        obtain ⟨d1, d2⟩ := decode_high (bs s) i hib ha
        have d3 := decode_le (bs s) i
        obtain ⟨d4, d5⟩ := decode_span (bs s) i hib ha
        obtain ⟨r, hr⟩ : ∃ r, (Utf8.decode (bs s) i).1 = r := ⟨_, rfl⟩
        obtain ⟨wd, hwd⟩ : ∃ wd, (Utf8.decode (bs s) i).2 = wd := ⟨_, rfl⟩
        rw [hr, hwd] at hnx
        rw [hr] at d1 d3
        rw [hwd] at d2 d4 d5
        have hir := irune_none (r : Int) (wr.iterAt w'.heap.size (bs s) (i + wd)) (by omega) (by omega)
        have HIT := Lib.hid (Lib.iterAt_heap _ _ _ _ (i + wd) hit)
        have HB := Lib.hid (below_iterAt hB (Nat.le_refl _) (bs s) (i + wd))
        clear hit hB
        have H5 := Lib.hid d5
        clear d5 hx hxb ha hr hwd
        go_wp2_with fail
        refine hir.mono ?_
        rintro e w2 ⟨rfl, hb2⟩
        have hlt := (Array.getElem?_eq_some_iff.1 HIT.out).1
        have hit2 := (hb2.block _ hlt).trans HIT.out
        have hB2 := HB.out.trans (hb2.mono HB.out.size)
        clear hlt hb2
        go_wp2_with fail
        go_roundg (s.length - (i + wd))
        case measure => omega
        case rel =>
          refine ⟨i + wd, by rw [hz] at d4; omega, hit2, hB2, fun j hj h => ?_⟩
          by_cases hji : j < i
          · exact HN.out j hj hji
          · have h5 := H5.out j (by omega) h
            rw [bs_get s j hj] at h5
            exact ⟨fun e => by rw [e] at h5; exact absurd h5 (by decide), fun e => by rw [e] at h5; exact absurd h5 (by decide)⟩
theorem indexAny_end : ∀ s : List UInt8, decide (0 ≤ Lib.indexAny s [10, 13]) = endB s
  | [] => rfl
  | b :: r => by
    have ih := indexAny_end r
    have hg := Lib.indexAny_ge [10, 13] r
    unfold endB at ih ⊢
    rw [Lib.indexAny, List.any_cons]
    by_cases h : b = 10 ∨ b = 13
    · rw [if_pos (by rcases h with rfl | rfl <;> rfl)]
      have : (b == 10 || b == 13) = true := by rcases h with rfl | rfl <;> rfl
      rw [this]
      rfl
    · rw [not_or] at h
      have h2 : (b == 10 || b == 13) = false := by simp [h.1, h.2]
      rw [if_neg (by simp [h.1, h.2]), h2, Bool.false_or, ← ih]
      by_cases hm : Lib.indexAny r [10, 13] = -1
      · rw [hm]; rfl
      · have e : (Lib.indexAny r [10, 13] == -1) = false := by rw [beq_eq_false_iff_ne]; exact hm
        rw [e]
        simp only [Bool.false_eq_true, if_false, decide_eq_decide]
        omega
theorem iany_any (s : List UInt8) (w : World) (hs : s.length < 4294967281) : Calls Tryz.prog 41 #[.string (bs s), .string ⟨#[10, 13]⟩] w fun e w' => ∃ k, e = .returned (.int .i64 k) ∧ decide (0 ≤ k) = endB s ∧ Below w.heap.size w w' := by
  by_cases h : s.length ≤ 8
  · exact iany_short s w h
  · refine (Tryz.strings_IndexAny_long (fun w => by kernel_rfl) (bs s) ⟨#[10, 13]⟩ w (by decide) (by rw [bs_size]; omega) (by rw [bs_size]; exact hs) (by decide) (fun j b hb => ?_)).mono ?_
    · match j, hb with
      | 0, hb => injection hb with hb; subst hb; decide
      | 1, hb => injection hb with hb; subst hb; decide
    · rintro e w' ⟨rfl, rfl⟩
      rw [bs_data]
      exact ⟨_, rfl, indexAny_end s, (by repeat (first | exact Below.refl _ _ | (refine Below.setCell ?_ (by first | omega | (simp; done) | (simp; omega) | (simp at *; omega)) _) | (refine Below.alloc ?_ (by first | omega | (simp; done) | (simp; omega) | (simp at *; omega)) _) | refine Below.drew ?_ | (refine below_drewN ?_ _) | (refine Below.trans ?_ (Below.mono (by assumption) (by first | omega | (simp; done) | (simp; omega) | (simp at *; omega))))))⟩
set_option maxRecDepth 100000 in
set_option maxHeartbeats 4000000 in
theorem cany_is (s : List UInt8) (w : World) (hs : s.length < 4294967281) : Calls Tryz.prog 24 #[.string (bs s), .string ⟨#[10, 13]⟩] w (Gives w (.bool (endB s))) := by
  have hi := iany_any s w hs
  obtain ⟨v, hv⟩ : ∃ v, endB s = v := ⟨_, rfl⟩
  rw [hv] at hi ⊢
  unfold Gives
  go_enter Tryz.func24, Tryz.ntmps24
  go_wp2_with fail
  refine hi.mono ?_
  rintro e w1 ⟨k, rfl, hk, hb⟩
  go_wp2_with fail
  go_ret
  exact ⟨by rw [← hk]; rfl, hb⟩
end Go.Proofs.YtpogpjebhnoncabGreatDoor
