/- No more than 1024 plies are made: the call answers true. -/
import Derived.Test.YtocdmnkmepplcaaDoorFullA
namespace Go.Proofs.YtocdmnkmepplcaaDoor.gfull
open Go.RowKit Go.Shelf
open M (S)

/-- Behind k moves: the game, its last step, the four moves as they were. -/
structure Inv (n₀ : Nat) (w : World) (g tb k : Nat) (v : Value) (st : List Stp) (now : Po) (wr : World) : Prop where
  at_ : GAt n₀ wr g v st now
  len : st.length = k
  fro : FroAt k now
  last : ∀ j, k = j + 1 → ∃ st' x, st = st' ++ [x] ∧ FroAt j x.p
  to : Blk wr tb 30 #[.int .i64 0, .int .i64 9, .int .i64 81, .int .i64 72, .int .i64 9, .int .i64 0, .int .i64 72, .int .i64 81]
  tab : Tab wr
  bel : Below w.heap.size w wr
theorem Inv.next {n₀ : Nat} {w : World} {g tb k : Nat} {v : Value} {st : List Stp} {now : Po} {wr w' : World} (h : Inv n₀ w g tb k v st now wr) (hb : Below wr.heap.size wr w') : Inv n₀ w g tb k v st now w' :=
  ⟨h.at_.next hb, h.len, h.fro, h.last, h.to.next hb, h.tab.next hb, h.bel.trans (hb.mono h.bel.size)⟩
theorem Inv.far {n₀ : Nat} {w : World} {g tb k : Nat} {v : Value} {st : List Stp} {now : Po} {wr w' : World} (h : Inv n₀ w g tb k v st now wr) (h1 : tb < n₀) (h2 : tb ≠ g) (h3 : w.heap.size ≤ g) (h4 : w.heap.size ≤ n₀) (hf : Far (OfG g v) wr w') :
    Blk w' tb 30 #[.int .i64 0, .int .i64 9, .int .i64 81, .int .i64 72, .int .i64 9, .int .i64 0, .int .i64 72, .int .i64 81] ∧ Below w.heap.size w w' := by
  refine ⟨hf.blk h.to ?_, h.bel.trans (hf.below (OfG.low h.at_ h3 h4) h.bel.size)⟩
  rintro (e | e)
  · exact h2 e
  · have := (h.at_.own e).1
    omega
set_option maxRecDepth 100000 in
set_option maxHeartbeats 4000000 in
theorem walk (more : Int) (w : World) (hT : Tab w) : Calls Tryd.prog 3 #[.int .i64 more] w (Gives w (.bool true)) := by
  unfold Gives
  by_cases hm : more < 0
  · have h1 : decide (more < 0) = true := by simp; exact hm
    clear hm
    go_enter Tryd.func3, Tryd.ntmps3
    go_wp2_with fail
    refine (live9_any _ hT).mono ?_
    rintro e w9 ⟨rfl, hb⟩
    go_wp2
    go_ret
    exact ⟨rfl, hb⟩
  by_cases hm2 : 10 < more
  · have h1 : decide (more < 0) = false := by simp; omega
    have h2 : decide (10 < more) = true := by simp; exact hm2
    clear hm hm2
    go_enter Tryd.func3, Tryd.ntmps3
    go_wp2_with fail
    refine (live9_any _ hT).mono ?_
    rintro e w9 ⟨rfl, hb⟩
    go_wp2
    go_ret
    exact ⟨rfl, hb⟩
  obtain ⟨m, rfl⟩ : ∃ m : Nat, more = (m : Int) := ⟨more.toNat, by omega⟩
  have hm10 : m ≤ 10 := by omega
  have d1 : decide ((m : Int) < 0) = false := by simp
  have d2 : decide (10 < (m : Int)) = false := by simp; omega
  clear hm hm2
  have hF0 := fro_start
  have HT := Lib.hid hT
  have HW := Lib.hid live9_well
  go_enter Tryd.func3, Tryd.ntmps3
  go_wp2_with fail
  have hlit : (⟨#[82, 78, 66, 65, 75, 65, 66, 78, 82, 46, 46, 46, 46, 46, 46, 46, 46, 46, 46, 67, 46, 46, 46, 46, 46, 67, 46, 80, 46, 80, 46, 80, 46, 80, 46, 80, 46, 46, 46, 46, 46, 46, 46, 46, 46, 46, 46, 46, 46, 46, 46, 46, 46, 46, 112, 46, 112, 46, 112, 46, 112, 46, 112, 46, 99, 46, 46, 46, 46, 46, 99, 46, 46, 46, 46, 46, 46, 46, 46, 46, 46, 114, 110, 98, 97, 107, 97, 98, 110, 114]⟩ : ByteArray) = startS := rfl
  simp only [hlit]
  clear hlit
  generalize startS = st0 at HW hF0 ⊢
  refine (new_is st0 0 0 1 _ hT HW.out).mono ?_
  rintro e w1 ⟨g, rfl, hg, bG, hb⟩
  have hB := hb
  replace hT := hT.next hb
  clear hb
  go_wp2_with fail
  obtain ⟨W0, hW0⟩ : ∃ x, w1.alloc (.cells #[.int .i64 0, .int .i64 9, .int .i64 81, .int .i64 72, .int .i64 9, .int .i64 0, .int .i64 72, .int .i64 81] 30) = x := ⟨_, rfl⟩
  have hb : Below w1.heap.size w1 W0 := by rw [← hW0]; exact (by repeat (first | exact Below.refl _ _ | (refine Below.setCell ?_ (by first | omega | (simp; done) | (simp; omega) | (simp at *; omega)) _) | (refine Below.alloc ?_ (by first | omega | (simp; done) | (simp; omega) | (simp at *; omega)) _) | refine Below.drew ?_ | (refine below_drewN ?_ _) | (refine Below.trans ?_ (Below.mono (by assumption) (by first | omega | (simp; done) | (simp; omega) | (simp at *; omega))))))
  have bM : Blk W0 w1.heap.size 30 #[.int .i64 0, .int .i64 9, .int .i64 81, .int .i64 72, .int .i64 9, .int .i64 0, .int .i64 72, .int .i64 81] := by rw [← hW0]; exact Blk.new _ _ _ rfl
  have hI0 : Inv W0.heap.size w g w1.heap.size 0 (.slice none 0 0) [] ⟨st0, 0, 0, 1⟩ W0 := ⟨GAt.new (bG.next hb), rfl, hF0, fun j e => by omega, bM, hT.next hb, hB.trans (hb.mono hB.size)⟩
  have h1 : w1.heap.size < W0.heap.size := bM.lt
  have h2 : w1.heap.size ≠ g := by have := bG.lt; omega
  have h4 : w.heap.size ≤ W0.heap.size := Nat.le_trans hB.size (Nat.le_of_lt h1)
  rw [hW0]
  generalize w1.heap.size = tb at hI0 h1 h2 ⊢
  generalize W0.heap.size = n₀ at hI0 h1 h4
  clear hW0 hb bM bG hB hT
  go_loopw [6] (fun i wr => ∃ (k : Nat) (v : Value) (st : List Stp) (now : Po), k ≤ 1024 ∧ i = .int .i64 k ∧ Inv n₀ w g tb k v st now wr) (fun i _ => 1024 - (intOf i).toNat)
  case atStart => exact ⟨0, _, _, _, by omega, rfl, hI0⟩
  case round =>
    obtain ⟨k, v, st, now, hk, rfl, hI⟩ := hrel
    by_cases hlt : k < 1024
    · have b1 : (k : Int) < 1024 := by omega
      obtain ⟨q, hq, hV⟩ := hI.fro.next
      have hl := hI.len
      have hm := fun a b hV => gmake_any hI.at_ hI.tab a b (by rw [hl]; exact hlt) q.s q.y q.z q.u 0 0 true hV rfl
      have t0 : tb < wr.heap.size := hI.to.lt
      obtain ⟨c0, c1, c2, c3, c4, c5, c6, c7⟩ : wr.cell? ⟨tb, 0, none⟩ = some (.int .i64 0) ∧ wr.cell? ⟨tb, 1, none⟩ = some (.int .i64 9) ∧ wr.cell? ⟨tb, 2, none⟩ = some (.int .i64 81) ∧ wr.cell? ⟨tb, 3, none⟩ = some (.int .i64 72) ∧ wr.cell? ⟨tb, 4, none⟩ = some (.int .i64 9) ∧ wr.cell? ⟨tb, 5, none⟩ = some (.int .i64 0) ∧ wr.cell? ⟨tb, 6, none⟩ = some (.int .i64 72) ∧ wr.cell? ⟨tb, 7, none⟩ = some (.int .i64 81) := ⟨hI.to.cell 0, hI.to.cell 1, hI.to.cell 2, hI.to.cell 3, hI.to.cell 4, hI.to.cell 5, hI.to.cell 6, hI.to.cell 7⟩
      have h4r : k % 4 = 0 ∨ k % 4 = 1 ∨ k % 4 = 2 ∨ k % 4 = 3 := by omega
      rcases h4r with hr | hr | hr | hr
      all_goals
        have hrr : (k : Int).tmod 4 = ((k % 4 : Nat) : Int) := by rw [Int.tmod_eq_emod_of_nonneg (by omega)]; omega
        rw [hr] at hrr hV
        replace hm := Lib.hid (hm _ _ hV)
        have HI := Lib.hid hI
        clear hI hV hr
        go_wp2_with fail
        refine hm.out.mono ?_
        rintro e w2 hgo
        rw [if_pos (by trivial)] at hgo
        obtain ⟨rfl, v2, hG2, ho, hf⟩ := hgo
        have hF := HI.out.far h1 h2 hg h4 hf
        clear hm c0 c1 c2 c3 c4 c5 c6 c7 ho hf
        go_wp2_with fail
        go_roundw
        case rel => exact ⟨k + 1, v2, _, q, by omega, by go_num, ⟨hG2, by simp [hl], hq, fun j e => ⟨st, _, rfl, by rw [show j = k by omega]; exact HI.out.fro⟩, hF.1, HT.out.below hF.2 HT.out.lt, hF.2⟩⟩
        case measure => simp [intOf]; omega
    · have hk1 : k = 1024 := by omega
      subst hk1
      clear hlt hk hI0 hF0
      have b1 : ¬ ((1024 : Nat) : Int) < 1024 := by decide
      have hs0 : w.heap.size ≤ wr.heap.size := hI.bel.size
      go_wp2_with fail
      go_loopw [7] (fun i wr => ∃ j : Nat, j ≤ m ∧ i = .int .i64 j ∧ Inv n₀ w g tb 1024 v st now wr) (fun i _ => m - (intOf i).toNat)
      case atStart => exact ⟨0, by omega, rfl, hI⟩
      case round =>
        obtain ⟨j, hj, rfl, hI2⟩ := hrel
        by_cases hlt : j < m
        · have b2 : (j : Int) < (m : Int) := by omega
          obtain ⟨c0, c1⟩ : wr.cell? ⟨tb, 0, none⟩ = some (.int .i64 0) ∧ wr.cell? ⟨tb, 1, none⟩ = some (.int .i64 9) := ⟨hI2.to.cell 0, hI2.to.cell 1⟩
          go_wp2_with fail
          refine (gmake_full hI2.at_ 0 9 hI2.len).mono ?_
          rintro e w2 ⟨rfl, hb⟩
          have hI3 := hI2.next hb
          clear c0 c1 hb
          go_wp2_with fail
          go_roundw
          case rel => exact ⟨j + 1, by omega, by go_num, hI3⟩
          case measure => simp [intOf]; omega
        · have b2 : (m : Int) ≤ (j : Int) := by omega
          obtain ⟨st', x, rfl, hx⟩ := hI2.last 1023 rfl
          have hl : st'.length = 1023 := by have := hI2.len; rw [List.length_append] at this; exact Nat.succ.inj this
          clear hI
          go_wp2_with fail
          refine (unmake_is hI2.at_ (by omega)).mono ?_
          rintro e w3 ⟨rfl, v3, h3, ho3, hf3⟩
          have hF := hI2.far h1 h2 hg h4 hf3
          obtain ⟨bT, hB⟩ := hF
          have hT := HT.out.below hB HT.out.lt
          clear hI2 ho3 hf3
          go_wp2_with fail
          refine (plies_is h3 1023 hl).mono ?_
          rintro e w4 ⟨rfl, rfl⟩
          obtain ⟨c6, c7⟩ : w3.cell? ⟨tb, 6, none⟩ = some (.int .i64 72) ∧ w3.cell? ⟨tb, 7, none⟩ = some (.int .i64 81) := ⟨bT.cell 6, bT.cell 7⟩
          go_wp2_with fail
          obtain ⟨q, hq, hV⟩ := hx.next
          refine (gmake_any h3 hT _ _ (by omega) q.s q.y q.z q.u 0 0 true hV rfl).mono ?_
          rintro e w5 hgo
          rw [if_pos (by trivial)] at hgo
          obtain ⟨rfl, v5, h5, ho5, hf5⟩ := hgo
          have hB5 := hB.trans (hf5.below (OfG.low h3 hg h4) hB.size)
          have hT5 := HT.out.below hB5 HT.out.lt
          clear c6 c7 ho5 hf5 hV
          go_wp2_with fail
          refine (plies_is h5 1024 (by simp [hl])).mono ?_
          rintro e w6 ⟨rfl, rfl⟩
          go_wp2_with fail
          refine (live9_any _ hT5).mono ?_
          rintro e w7 ⟨rfl, hb⟩
          go_wp2
          go_ret
          exact ⟨rfl, hB5.trans (hb.mono hB5.size)⟩
end Go.Proofs.YtocdmnkmepplcaaDoor.gfull
