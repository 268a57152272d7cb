/- What of the library's variables is read, and what the library's functions answer that are called. -/
import Derived.Test.YtpogpjebhnoncabGreatDoorFenR2
import Derived.Test.YtpogpjebhnoncabGreatDoorShelf
import Derived.Lib.LaidTab
import Derived.Lib.AppendIntMem
import Derived.WalkSmall
namespace Go.Proofs.YtpogpjebhnoncabGreatDoor
open Go.RowKit Go.Shelf
open M (S)

theorem gPow : Tryz.prog.globalNamed "internal/strconv.uint64pow10" = some 8 := by kernel_rfl
/-- The library's variables. -/
structure Env (w : World) : Prop where
  max : ∃ m, w.cell? ⟨0, 0, none⟩ = some (.int .i64 m)
  pow : Lib.TabIs Tryz.prog w "internal/strconv.uint64pow10" .u64 Lib.pow10Tab
  syn : ∃ te pe, w.cell? ⟨1, 0, none⟩ = some (.iface te pe)
  ran : ∃ te pe, w.cell? ⟨2, 0, none⟩ = some (.iface te pe)
  ety : w.cell? ⟨9, 0, none⟩ = some (.iface 195 (.agg #[.pointer (some ⟨12, 69, none⟩)]))
theorem pow_lt {w : World} (h : Lib.TabIs Tryz.prog w "internal/strconv.uint64pow10" .u64 Lib.pow10Tab) : 8 < w.heap.size := by
  have h0 := h.cell gPow 0 (by decide)
  exact World.block_lt_of_cell? _ _ (h0.trans (by rfl : Lib.pow10Tab[0]?.map _ = some _))
/-- All of them lie below B. -/
def EnvLt (B : Nat) : Prop := 0 < B ∧ 8 < B ∧ 1 < B ∧ 2 < B ∧ 9 < B
theorem envLt {w : World} (h : Env w) : EnvLt w.heap.size := by
  obtain ⟨⟨m, h1⟩, h2, ⟨te, pe, h3⟩, ⟨te', pe', h4⟩, h5⟩ := h
  exact ⟨World.block_lt_of_cell? _ _ h1, pow_lt h2, World.block_lt_of_cell? _ _ h3, World.block_lt_of_cell? _ _ h4, World.block_lt_of_cell? _ _ h5⟩
theorem Env.below {w w' : World} (h : Env w) {B : Nat} (hb : Below B w w') (hB : EnvLt B) : Env w' := by
  obtain ⟨⟨m, h1⟩, h2, ⟨te, pe, h3⟩, ⟨te', pe', h4⟩, h5⟩ := h
  obtain ⟨b1, b2, b3, b4, b5⟩ := hB
  exact ⟨⟨m, (hb.cell (p := ⟨0, 0, none⟩) b1).trans h1⟩, var?_below hb gPow b2 h2, ⟨te, pe, (hb.cell (p := ⟨1, 0, none⟩) b3).trans h3⟩, ⟨te', pe', (hb.cell (p := ⟨2, 0, none⟩) b4).trans h4⟩, (hb.cell (p := ⟨9, 0, none⟩) b5).trans h5⟩
theorem Env.next {w w' : World} (h : Env w) (hb : Below w.heap.size w w') : Env w' := h.below hb (envLt h)
/-- strconv.Itoa of a number that is not below 0. -/
theorem itoa_any (n : Int) (w : World) (hE : Env w) (h : 0 ≤ n ∧ n ≤ 1000000) : Calls Tryz.prog 34 #[.int .i64 n] w (Gives w (.string (bs (Lib.decDigits n.toNat)))) := by
  refine (Tryz.strconv_Itoa n (by omega) (by omega) w hE.pow).mono fun e w' ⟨he, k, os, hw⟩ => ⟨?_, ?_⟩
  · rw [he]
    unfold bs
    rw [Lib.itoa, if_neg (by omega)]
  · rw [hw]
    exact Lib.below_grow _ _ (Nat.le_refl _) k os
theorem repeat_any (c : Nat) (w : World) (h : c ≤ 1000) : Calls Tryz.prog 140 #[.string ⟨#[46]⟩, .int .i64 (c : Int)] w (Gives w (.string (bs (Lib.repeatL [46] c)))) :=
  Tryz.strings_Repeat ⟨#[46]⟩ c w (by omega) (by show 1 * c ≤ _; omega)
theorem countB_small (s old : ByteArray) (h : 1 ≤ old.size) : Lib.countB s old ≤ s.size := by
  have := Lib.countB_le old h s.size s (Nat.le_refl _)
  exact this
theorem replaceAll_any (s old new r : List UInt8) (w : World) (hE : Env w) (h1 : old ≠ []) (hs : s.length ≤ 1000) (hn : new.length ≤ 1000) (hr : Lib.replaceAll s old new = r) : Calls Tryz.prog 32 #[.string (bs s), .string (bs old), .string (bs new)] w (Gives w (.string (bs r))) := by
  obtain ⟨m, hm⟩ := hE.max
  have ho : 1 ≤ (bs old).size := by
    rw [bs_size]
    exact List.length_pos_iff.2 h1
  have hc := countB_small (bs s) (bs old) ho
  rw [bs_size] at hc
  refine (Tryz.strings_ReplaceAll (bs s) (bs old) (bs new) m w (by rw [bs_size]; omega) hm ho ?_).mono fun e w' ⟨he, hb⟩ => ⟨?_, hb⟩
  · rw [bs_size, bs_size]
    have : Lib.countB (bs s) (bs old) * new.length ≤ 1000 * 1000 := Nat.mul_le_mul (by omega) hn
    omega
  · rw [he, bs_data, bs_data, bs_data, hr]
    rfl
theorem join_any (bk c : Nat) (xs : List (List UInt8)) (n : Nat) (sep r : List UInt8) (w : World) (hc : ∀ j x, xs[j]? = some x → w.cell? ⟨bk, j, none⟩ = some (.string (bs x))) (hbk : bk < w.heap.size) (hn : xs.length = n) (hN : n ≤ c) (hr : Lib.join xs sep = r) (hl : r.length ≤ 1000000) (hxs : n ≤ 1000) :
    Calls Tryz.prog 36 #[.slice (some ⟨bk, 0, none⟩) n c, .string (bs sep)] w (Gives w (.string (bs r))) := by
  have e : (xs.map bs).map (·.data.toList) = xs := by
    rw [List.map_map]
    conv => rhs; rw [← List.map_id xs]
    exact List.map_congr_left fun x _ => bs_data x
  subst hn
  have h := Tryz.strings_Join bk 0 c (xs.map bs) (bs sep) w (fun j x hx => by
    rw [List.getElem?_map] at hx
    obtain ⟨y, hy, rfl⟩ := Option.map_eq_some_iff.1 hx
    rw [Nat.zero_add]
    exact hc j y hy) hbk (by simp; omega) (by simpa using hN) (by rw [e, bs_data, hr]; omega)
  rw [e, bs_data, hr, List.length_map] at h
  exact h
set_option maxRecDepth 100000 in
set_option maxHeartbeats 2000000 in
theorem printRank_any (l : List UInt8) (w : World) (hE : Env w) (hl : l.length = 9) : Calls Tryz.prog 116 #[.string (bs l)] w (Gives w (.string (bs (F.rle 0 l)))) := by
  unfold Gives
  have h0 : Hid (F.rleK 9 0 l = l) := by
    show _ = _
    rw [F.rleK_nine l 0 (by omega)]
    rfl
  have hz : Hid (F.rleK 0 0 l = F.rle 0 l) := F.rleK_zero l 0
  have hlen : ∀ k, (F.rleK k 0 l).length ≤ 9 := fun k => by
    have := F.rleK_len k l 0
    omega
  have HL := Lib.hid hlen
  have hl9 : l.length ≤ 9 := by omega
  clear hlen hl
  go_enter Tryz.func116, Tryz.ntmps116
  go_wp2_with fail
  go_loopw [0, 3] (fun o i wr => ∃ k : Nat, k ≤ 9 ∧ i = .int .i64 k ∧ o = .string (bs (F.rleK k 0 l)) ∧ Env wr ∧ Below w.heap.size w wr) (fun _ i _ => (intOf i).toNat)
  case atStart => exact ⟨9, by omega, rfl, by rw [h0.out], hE, Below.refl _ _⟩
  case round =>
    obtain ⟨k, hk, rfl, rfl, hE, hB⟩ := hrel
    by_cases hlt : 0 < k
    · obtain ⟨m, rfl⟩ : ∃ m, k = m + 1 := ⟨k - 1, by omega⟩
      have hst := F.rank_step (n := m + 1) (by omega) hk hl9
      have e2 : Lib.itoa ((m + 1 : Nat) : Int) = Lib.decDigits ((m + 1 : Nat) : Int).toNat := by rw [Lib.itoa, if_neg (by omega)]
      rw [e2, Nat.add_sub_cancel] at hst
      obtain ⟨n, hn⟩ : ∃ n : Nat, m + 1 = n := ⟨_, rfl⟩
      rw [hn] at hst
      have hne : Lib.repeatL [46] n ≠ [] := by
        rw [← hn, Lib.repeatL]
        simp
      have hdl : (Lib.decDigits (n : Int).toNat).length ≤ 1000 := by
        rw [Lib.decDigits_length]
        have := Lib.nDigits_le20 (n : Int).toNat (by omega)
        omega
      have hle := HL.out n
      have Hst := Lib.hid hst
      have Hn := Lib.hid hn
      have hn9 : n ≤ 9 := by omega
      have hn0 : 0 < n := by omega
      have hn0i : 0 < (n : Int) := by omega
      rw [hn]
      have hn' := hn
      clear hst hn hk hlt
      go_wp2_with fail
      refine (repeat_any n _ (by omega)).mono ?_
      rintro e w1 ⟨rfl, hb⟩
      replace hE := hE.next hb
      replace hB := hB.trans (hb.mono hB.size)
      clear hb
      go_wp2_with fail
      refine (itoa_any n _ hE (by omega)).mono ?_
      rintro e w2 ⟨rfl, hb⟩
      replace hE := hE.next hb
      replace hB := hB.trans (hb.mono hB.size)
      clear hb
      go_wp2_with fail
      refine (replaceAll_any _ _ _ _ _ hE hne (by omega) hdl Hst.out).mono ?_
      rintro e w3 ⟨rfl, hb⟩
      replace hE := hE.next hb
      replace hB := hB.trans (hb.mono hB.size)
      clear hb
      go_wp2
      go_roundw
      case rel => exact ⟨m, by omega, by rw [← hn']; go_num, rfl, hE, hB⟩
      case measure => simp [intOf]; omega
    · obtain rfl : k = 0 := by omega
      rw [hz.out]
      go_wp2
      go_ret
      exact ⟨rfl, hB⟩
end Go.Proofs.YtpogpjebhnoncabGreatDoor
