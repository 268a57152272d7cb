/- Text: what it answers of moves that are there. -/
import Derived.Test.YtmmomgaijgpmmaaGreatDoorIccsV
import Derived.Test.YtmmomgaijgpmmaaGreatDoorIccsC
import Derived.Test.YtmmomgaijgpmmaaGreatDoorShelf
import Derived.Laws.OwnMore
namespace Go.Proofs.YtmmomgaijgpmmaaGreatDoor.I
open Go.RowKit Go.Shelf Go.Proofs.YtmmomgaijgpmmaaGreatDoor.F
open M (S)
attribute [local go_sem] Oper.semAt_some
theorem mvl_at : ∀ (l : List (Int × Int)) (k : Nat) (hk : k < l.length), (mvl l)[2 * k]? = some (.int .i64 l[k].1) ∧ (mvl l)[2 * k + 1]? = some (.int .i64 l[k].2)
  | [], k, hk => absurd hk (Nat.not_lt_zero _)
  | m :: l, 0, _ => ⟨rfl, rfl⟩
  | m :: l, k + 1, hk => by
    have := mvl_at l k (by simpa using hk)
    rw [show 2 * (k + 1) = 2 * k + 1 + 1 by omega]
    exact this
theorem rd_mvi {w : World} {A : Option Addr} {l : List (Int × Int)} (h : Rd w A (mvl l)) {k : Nat} (hk : k < l.length) : ∃ g b, A = some ⟨g, b, none⟩ ∧ w.cell? ⟨g, b + k * 2, none⟩ = some (.int .i64 l[k].1) ∧ w.cell? ⟨g, b + k * 2 + 1, none⟩ = some (.int .i64 l[k].2) := by
  obtain ⟨m0, m1⟩ := mvl_at l k hk
  obtain ⟨⟨g, b, sp⟩, rfl, hc0⟩ := h _ _ m0
  obtain ⟨a', e1, hc1⟩ := h _ _ m1
  cases e1
  obtain ⟨a0, e0, hc⟩ := h _ _ (mvl_at l 0 (by omega)).1
  cases e0
  have hsp : sp = none := by simpa [Addr.add] using World.cell?_spot hc
  subst hsp
  have hadd : ∀ j, (Addr.add ⟨g, b, none⟩ j) = ⟨g, b + j, none⟩ := fun j => by
    simp only [Addr.add]
    split <;> simp_all
  rw [hadd, Nat.mul_comm] at hc0
  rw [hadd, Nat.mul_comm] at hc1
  exact ⟨g, b, rfl, hc0, hc1⟩
/-- A full row's block, of texts. -/
theorem row_blk1 {w : World} {base : Nat} {e : TypeId} {g n : Nat} {xs : List Value} (h : w.ownsRow base e 1 (.slice (some ⟨g, 0, none⟩) n n) n xs) : Blk w g e xs.toArray := by
  rcases h.2 with ⟨h', _⟩ | ⟨g', cap, cur, h', _, hg, _, _, hcs, htake⟩
  · cases h'
  · injection h' with e1 e2 e3
    injection e1 with e1
    injection e1 with e1
    subst e1
    subst e3
    have : cur = xs.toArray := by
      rw [← htake, List.take_of_length_le (by rw [Array.length_toList, hcs]; exact Nat.le_refl _)]
    rw [← this]
    exact hg
theorem lens_four : ∀ r : List (List UInt8), (∀ x ∈ r, x.length ≤ 4) → Lib.lens r ≤ 4 * r.length
  | [], _ => by simp [Lib.lens]
  | x :: r, h => by
    have h1 := lens_four r fun y hy => h y (List.mem_cons_of_mem _ hy)
    have h2 := h x (by simp)
    simp only [Lib.lens, List.map_cons, List.sum_cons, List.length_cons] at h1 ⊢
    omega
theorem join_four : ∀ r : List (List UInt8), (∀ x ∈ r, x.length ≤ 4) → (Lib.join r [32]).length ≤ 5 * r.length
  | [], _ => by rw [Lib.join_nil]; simp
  | x :: r, h => by
    have h1 := lens_four r fun y hy => h y (List.mem_cons_of_mem _ hy)
    have h2 := h x (by simp)
    rw [Lib.join_cons, List.length_append, Lib.joinTail_length]
    show x.length + (1 * r.length + Lib.lens r) ≤ 5 * (r.length + 1)
    omega
theorem join12 (bk n : Nat) (xs : List (List UInt8)) (w : World) (hc : ∀ j x, xs[j]? = some x → w.cell? ⟨bk, j, none⟩ = some (.string (bs x))) (hbk : bk < w.heap.size) (hn : xs.length = n) (hN : n ≤ 100000) (hx : ∀ x ∈ xs, x.length ≤ 4) :
    Calls Tryz.prog 23 #[.slice (some ⟨bk, 0, none⟩) n n, .string ⟨#[32]⟩] w (Gives w (.string (bs (Lib.join xs [32])))) := by
  have e : (xs.map bs).map (·.data.toList) = xs := by
    rw [List.map_map]
    conv => rhs; rw [← List.map_id xs]
    exact List.map_congr_left fun x _ => bs_data x
  subst hn
  have hl := join_four xs hx
  have h := Tryz.strings_Join bk 0 xs.length (xs.map bs) (bs [32]) w (fun j x hx => by
    rw [List.getElem?_map] at hx
    obtain ⟨y, hy, rfl⟩ := Option.map_eq_some_iff.1 hx
    rw [Nat.zero_add]
    exact hc j y hy) hbk (by simp; omega) (by simp) (by rw [e, bs_data]; omega)
  rw [e, bs_data, List.length_map] at h
  exact h
theorem info_str12 : (Tryz.prog.info? 9).map (fun i => (i.zero, i.size, i.bytes)) = some (some (.string ⟨#[]⟩), 1, 16) := by kernel_rfl
set_option maxRecDepth 100000 in
set_option maxHeartbeats 8000000 in
theorem itext_any (l : List (Int × Int)) (n : Nat) (A : Option Addr) (c : Nat) (w : World) (hr : Rd w A (mvl l)) (hn : l.length = n) (hl : n ≤ 100000) (hv : ∀ m ∈ l, sqI m.1 = true ∧ sqI m.2 = true) :
    Calls Tryz.prog 14 #[.slice A n c] w (Gives w (.string (textT l))) := by
  unfold Gives
  obtain ⟨i0, hi, hz0, hz1, hz2⟩ := info_parts12 info_str12
  obtain ⟨W1, hmk, hown, hgrow⟩ := run_makeSlice_full (P := Tryz.prog) w 0 51 9 i0 _ 1 Tryz.underlying51 hi hz0 hz1 .i64 .i64 n (by omega) (by rw [hz2]; omega) (by unfold maxLen; omega) (Nat.zero_le _)
  have hB1 : Below w.heap.size w W1 := ⟨hgrow.os, hgrow.tape, hgrow.output, hgrow.size, fun k hk => hgrow.block k hk (by simp)⟩
  go_enter Tryz.func14, Tryz.ntmps14
  go_wp2_with fail
  have bT : Blk W1 w.heap.size 9 (madeCells (Value.string ⟨#[]⟩).cells (n * 1)) := by
    have := row_blk1 hown
    simpa using this
  have hsz0 : (madeCells (Value.string ⟨#[]⟩).cells (n * 1)).size = n := by rw [size_madeCells, Nat.mul_one]
  have HN := Lib.hid hn
  have HV := Lib.hid hv
  have HM := Lib.hid (And.intro hmk (And.intro hown hgrow))
  clear hn hv hmk hown hgrow hi hz0 hz1 hz2
  go_loopw [11] (fun i wr => ∃ (k : Nat) (cs : Array Value), k ≤ n ∧ i = .int .i64 k ∧ Blk wr w.heap.size 9 cs ∧ cs.size = n ∧ Hid (∀ (j : Nat) m, j < k → l[j]? = some m → cs[j]? = some (.string (printT m.1 m.2))) ∧ Below w.heap.size w wr) (fun i _ => n - (intOf i).toNat)
  case atStart => exact ⟨0, _, by omega, rfl, bT, hsz0, fun j m h => absurd h (Nat.not_lt_zero _), hB1⟩
  case round =>
    obtain ⟨k, cs, hk, rfl, bK, hcs, hpre, hB⟩ := hrel
    by_cases hlt : k < n
    · have hkl : k < l.length := by rw [HN.out]; exact hlt
      obtain ⟨g, b, rfl, c0, c1⟩ := rd_mvi (hr.next hB) hkl
      obtain ⟨⟨x, y⟩, hxy⟩ : ∃ m, l[k] = m := ⟨_, rfl⟩
      rw [hxy] at c0 c1
      have hv2 := HV.out l[k] (List.getElem_mem hkl)
      rw [hxy] at hv2
      obtain ⟨t, ht⟩ : ∃ t, printT x y = t := ⟨_, rfl⟩
      have hs4 : t.size = 4 := by rw [← ht]; exact print_size hv2.1 hv2.2
      have hne : ¬ t.toList = [] := by rw [ByteArray.toList_eq]; intro e; have := congrArg List.length e; simp at this; rw [this] at hs4; cases hs4
      have hem : t.toList.isEmpty = false := by rw [List.isEmpty_eq_false_iff]; exact hne
      have HT := Lib.hid ht
      have b2 : (k : Int) < (n : Int) := by omega
      have b0 : (0 : Int) ≤ (k : Int) := Int.natCast_nonneg k
      obtain ⟨V, hV⟩ : ∃ v, wr.alloc (.cells #[.int .i64 x, .int .i64 y] 23) = v := ⟨_, rfl⟩
      have bV : Blk V w.heap.size 9 cs := by rw [← hV]; exact bK.alloc _
      have hBV : Below w.heap.size w V := by rw [← hV]; exact hB.alloc hB.size _
      have bM : Blk V wr.heap.size 23 #[.int .i64 x, .int .i64 y] := by rw [← hV]; exact Blk.new _ _ _ rfl
      have m0 : V.cell? ⟨wr.heap.size, 0, none⟩ = some (.int .i64 x) := bM.cell 0
      have m1 : V.cell? ⟨wr.heap.size, 1, none⟩ = some (.int .i64 y) := bM.cell 1
      have hsx : Hid (l[k]? = some (x, y)) := by show _ = _; rw [List.getElem?_eq_getElem hkl, hxy]
      clear hv2 hs4 ht hxy hkl bK hB
      go_wp2_with fail
      refine (print_is x y t _ HT.out).mono ?_
      rintro e w2 ⟨rfl, hb⟩
      have b3 := bV.next hb
      have hB3 := hBV.trans (hb.mono hBV.size)
      clear hb bV hBV bM m0 m1 hV c0 c1
      have hkc : k < cs.size := by rw [hcs]; exact hlt
      obtain ⟨d, hd⟩ : ∃ d, cs[k]? = some d := ⟨_, Array.getElem?_eq_getElem hkc⟩
      have k0 : w2.cell? ⟨w.heap.size, k, none⟩ = some d := by rw [b3.cell k, hd]
      have k1 : w2.frozen? ⟨w.heap.size, k, none⟩ = false := b3.frozen k
      obtain ⟨X, hX⟩ : ∃ v, w2.setCell ⟨w.heap.size, k, none⟩ (.string t) = v := ⟨_, rfl⟩
      have bX : Blk X w.heap.size 9 (cs.setIfInBounds k (.string t)) := by rw [← hX]; exact b3.set_ k _
      have hBX : Below w.heap.size w X := by rw [← hX]; exact hB3.setCell (p := ⟨w.heap.size, k, none⟩) (Nat.le_refl _) _
      have x0 : X.cell? ⟨w.heap.size, k, none⟩ = some (.string t) := by rw [bX.cell k]; simp [hkc]
      have hpre2 : Hid (∀ (j : Nat) m, j < k + 1 → l[j]? = some m → (cs.setIfInBounds k (.string t))[j]? = some (.string (printT m.1 m.2))) := by
        show ∀ (j : Nat) m, _
        intro j m hj hm
        by_cases e : j = k
        · subst e
          rw [hsx.out] at hm
          cases hm
          simp [hkc, HT.out]
        · rw [Array.getElem?_setIfInBounds_ne (fun e' => e e'.symm)]
          exact hpre.out j m (by omega) hm
      have hcs2 : (cs.setIfInBounds k (.string t)).size = n := by rw [Array.size_setIfInBounds]; exact hcs
      clear hpre hcs hkc hsx HT hd
      go_wp2
      go_roundw
      case rel => exact ⟨k + 1, _, by omega, by go_num, bX, hcs2, hpre2, hBX⟩
      case measure => simp [intOf]; omega
    · obtain rfl : k = n := by omega
      clear hr
      have htx := text_of HV.out
      have HTX := Lib.hid htx
      clear htx
      go_wp2_with fail
      refine (join12 w.heap.size k (l.map fun m => (printT m.1 m.2).data.toList) wr ?_ bK.lt (by rw [List.length_map, HN.out]) (by omega) ?_).mono ?_
      · intro j x hx
        rw [List.getElem?_map] at hx
        obtain ⟨m, hm, rfl⟩ := Option.map_eq_some_iff.1 hx
        rw [bs_back, bK.cell j]
        exact hpre.out j m (by rw [← HN.out]; exact (List.getElem?_eq_some_iff.1 hm).1) hm
      · intro x hx
        obtain ⟨m, hm, rfl⟩ := List.mem_map.1 hx
        have := print_size (HV.out m hm).1 (HV.out m hm).2
        exact Nat.le_of_eq (Array.length_toList.trans this)
      rintro e w3 ⟨rfl, hb⟩
      go_wp2
      go_ret
      exact ⟨by rw [HTX.out]; rfl, hB.trans (hb.mono hB.size)⟩
end Go.Proofs.YtmmomgaijgpmmaaGreatDoor.I
