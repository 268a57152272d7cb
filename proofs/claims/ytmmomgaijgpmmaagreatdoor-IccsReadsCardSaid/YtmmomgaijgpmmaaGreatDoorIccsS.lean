/- strings.SplitSeq at a blank, for one caller's invariant: the words are handed over one behind the other. -/
import Derived.Test.YtmmomgaijgpmmaaGreatDoorIccsR
import Derived.Test.YtmmomgaijgpmmaaGreatDoorIccsB
import Derived.Test.YtmmomgaijgpmmaaGreatDoorShelfB
import Derived.Lib.IndexBytes
namespace Go.Proofs.YtmmomgaijgpmmaaGreatDoor
open Go.RowKit Go.Shelf Go.Proofs.YtmmomgaijgpmmaaGreatDoor.F Go
open M (S)

attribute [local go_sem] Oper.semAt_some

/-- How long the text in a cell is. -/
def lenAt (b : Nat) (W : World) : Nat := match W.cell? ⟨b, 0, none⟩ with | some (.string t) => t.size | _ => 0
theorem lenAt_of {b : Nat} {W : World} {t : ByteArray} (h : W.cell? ⟨b, 0, none⟩ = some (.string t)) : lenAt b W = t.size := by unfold lenAt; rw [h]
theorem ib_no {s : List UInt8} (h : (32 : UInt8) ∉ s) : Lib.indexByte s 32 = -1 := by rw [← Lib.index_one]; exact index_no h
theorem ib_at {a b : List UInt8} (h : (32 : UInt8) ∉ a) : Lib.indexByte (a ++ 32 :: b) 32 = (a.length : Nat) := by rw [← Lib.index_one]; exact index_app h b
theorem cut_left (a b : List UInt8) : (bs (a ++ 32 :: b)).extract 0 a.length = bs a := by
  rw [extract_bs, bs_data]
  simp
theorem cut_right (a b : List UInt8) : (bs (a ++ 32 :: b)).extract (a.length + 1) (bs (a ++ 32 :: b)).size = bs b := by
  rw [extract_bs, bs_data, bs_size]
  simp only [List.length_append, List.length_cons]
  rw [show a ++ 32 :: b = (a ++ [32]) ++ b by simp, List.drop_left' (by simp)]
  rw [List.take_of_length_le (by omega)]
set_option maxRecDepth 100000 in
set_option maxHeartbeats 4000000 in
theorem split_iter {σ : Type} (cur : σ → List UInt8) (todo : σ → List (List UInt8)) (upd : σ → List UInt8 → σ) (hu1 : ∀ s c, cur (upd s c) = c) (hu2 : ∀ s c, todo (upd s c) = todo s)
    (I : σ → World → Prop) (b0 b1 b2 B n : Nat) (hb : b0 < B)
    (hcells : ∀ s W, I s W → W.cell? ⟨b1, 0, none⟩ = some (.string ⟨#[32]⟩) ∧ W.cell? ⟨b0, 0, none⟩ = some (.string (bs (cur s))) ∧ W.frozen? ⟨b0, 0, none⟩ = false ∧ W.cell? ⟨b2, 0, none⟩ = some (.int .i64 0) ∧ (cur s).length ≤ 1000000)
    (hset : ∀ s W c, I s W → c.length ≤ (cur s).length → I (upd s c) (W.setCell ⟨b0, 0, none⟩ (.string (bs c))))
    (l : Nat) (M Mx : World → Prop) (hM : ∀ (V : World) (b : Nat) (v : Value), M V → b < B → M (V.setCell ⟨b, 0, none⟩ v))
    (hY : ∀ s x V, (∃ wd t, todo s = wd :: t ∧ x = .string (bs wd)) → I s V → M V → YieldAt Fence.wide (n - 1) Tryz.prog l #[x] V fun e V' => (e = .returned (.bool true) ∧ ∃ s', (cur s' = cur s ∧ ∃ wd, x = .string (bs wd) ∧ todo s = wd :: todo s') ∧ I s' V' ∧ M V') ∨ (e = .returned (.bool false) ∧ Mx V'))
    (s0 : σ) (h0 : todo s0 = cutL 32 (cur s0)) (W : World) (hI0 : I s0 W) (hM0 : M W) :
    CallsIn Fence.wide n Tryz.prog 66 #[.func (.yield l) #[] #[], .pointer (some ⟨b1, 0, none⟩), .pointer (some ⟨b0, 0, none⟩), .pointer (some ⟨b2, 0, none⟩)] W fun e V' => (∃ v, e = .returned v) ∧ ((∃ s, todo s = [] ∧ I s V' ∧ M V') ∨ Mx V') := by
  obtain ⟨c1, c0, f0, c2, hlen⟩ := hcells s0 W hI0
  refine callsIn_of_wp Tryz.func66 rfl trivial ?_ rfl
  simp only [Tryz.ntmps66, List.size_toArray, List.length_cons, List.length_nil, Nat.reduceAdd, Nat.reduceSub, Array.replicate_succ, Array.replicate_zero, List.push_toArray, List.append_toArray, List.nil_append, List.cons_append]
  gi_wp2
  gi_loopw [7] (fun _ wr => ∃ s, todo s = cutL 32 (cur s) ∧ I s wr ∧ M wr) (fun _ wr => lenAt b0 wr)
  case atStart => exact ⟨s0, h0, hI0, hM0⟩
  case round =>
    obtain ⟨s, ht, hIs, hMs⟩ := hrel
    clear c1 c0 f0 c2 hlen
    obtain ⟨c1, c0, f0, c2, hlen⟩ := hcells s wr hIs
    rcases cut_cases 32 (cur s) with hno | ⟨a, b, ha, hab⟩
    · have hix : ∀ W, CallsIn Fence.wide (n - 1) Tryz.prog 68 #[.string (bs (cur s)), .string ⟨#[32]⟩] W fun e w' => e = .returned (.int .i64 (-1)) ∧ w' = W := fun W => callsIn_wide.2 (by
        have := Tryz.strings_Index_one (bs (cur s)) 32 W
        rw [bs_data, ib_no hno] at this
        exact this)
      obtain ⟨fn, tmps, assign, body, hy, hR⟩ := hY s (.string (bs (cur s))) wr ⟨cur s, [], by rw [ht, cutL_no hno], rfl⟩ hIs hMs
      have htd : todo s = [cur s] := by rw [ht, cutL_no hno]
      have HT := Lib.hid htd
      obtain ⟨t, htx⟩ : ∃ t, bs (cur s) = t := ⟨_, rfl⟩
      rw [htx] at c0 hix hy
      clear ht hno htd htx
      gi_wp2
      refine ⟨trivial, (fun h => (by cases h)), ?_⟩
      refine (hix _).mono ?_
      rintro e w' ⟨rfl, rfl⟩
      gi_wp2
      refine ⟨(fun h => (by cases h)), ?_⟩
      refine hR.mono ?_
      rintro e W3 (⟨rfl, s', ⟨hc, wd, hx, hd⟩, hI3, hM3⟩ | ⟨rfl, hMx⟩)
      · have hd0 : todo s' = [] := by
          rw [HT.out] at hd
          injection hd with _ h2
          exact h2.symm
        gi_wp2
        go_end0
        exact ⟨⟨_, rfl⟩, .inl ⟨s', hd0, hI3, hM3⟩⟩
      · gi_wp2
        go_end0
        exact ⟨⟨_, rfl⟩, .inr hMx⟩
    · have hix : ∀ W, CallsIn Fence.wide (n - 1) Tryz.prog 68 #[.string (bs (cur s)), .string ⟨#[32]⟩] W fun e w' => e = .returned (.int .i64 (a.length : Nat)) ∧ w' = W := fun W => callsIn_wide.2 (by
        have := Tryz.strings_Index_one (bs (cur s)) 32 W
        rw [bs_data, hab, ib_at ha, ← hab] at this
        exact this)
      obtain ⟨fn, tmps, assign, body, hy, hR⟩ := hY s (.string (bs a)) wr ⟨a, cutL 32 b, by rw [ht, hab, cutL_app ha], rfl⟩ hIs hMs
      have htd : todo s = a :: cutL 32 b := by rw [ht, hab, cutL_app ha]
      have HT := Lib.hid htd
      have hx0 : (bs (cur s)).extract 0 a.length = bs a := by rw [hab]; exact cut_left a b
      have hx1 : (bs (cur s)).extract (a.length + 1) (bs (cur s)).size = bs b := by rw [hab]; exact cut_right a b
      have hsz : (bs (cur s)).size = a.length + 1 + b.length := by rw [bs_size, hab]; simp; omega
      have hl2 : (cur s).length = a.length + 1 + b.length := by rw [hab]; simp; omega
      obtain ⟨t, htx⟩ : ∃ t, bs (cur s) = t := ⟨_, rfl⟩
      obtain ⟨k, hk⟩ : ∃ k, a.length = k := ⟨_, rfl⟩
      rw [htx] at c0 hix hx0 hx1 hsz
      rw [hk] at hix hx0 hx1 hsz hl2
      have hx2 : t.extract (k + 1) (k + 1 + b.length) = bs b := by rw [← hsz]; exact hx1
      have i0 : (0 : Int) ≤ (k : Int) ∧ (k : Int) ≤ (t.size : Int) := by omega
      have i1 : (0 : Int) ≤ (k : Int) + 1 ∧ (k : Int) + 1 ≤ (t.size : Int) := by omega
      have i2 : IntKind.i64.wrap ((k : Int) + 1) = (k : Int) + 1 := IntWalk.i64_in _ (by omega)
      have i3 : ¬ (k : Int) < 0 := by omega
      have HX := Lib.hid (And.intro htx (And.intro hk hab))
      clear ht ha htd htx hk hab
      gi_wp2
      refine ⟨trivial, (fun h => (by cases h)), ?_⟩
      refine (hix _).mono ?_
      rintro e w' ⟨rfl, rfl⟩
      gi_wp2
      refine ⟨(fun h => (by cases h)), ?_⟩
      refine hR.mono ?_
      rintro e W3 (⟨rfl, s', ⟨hc, wd, hx, hd⟩, hI3, hM3⟩ | ⟨rfl, hMx⟩)
      · have hd0 : todo s' = cutL 32 b := by
          rw [HT.out] at hd
          injection hd with _ h2
          exact h2.symm
        obtain ⟨d1, d0, g0, d2, _⟩ := hcells s' W3 hI3
        rw [hc, HX.out.1] at d0
        have hl3 : b.length ≤ (cur s').length := by rw [hc]; omega
        have hI4 := hset s' W3 b hI3 hl3
        have hM4 := hM W3 b0 (.string (bs b)) hM3 hb
        have HE := Lib.hid (And.intro hI4 (And.intro hM4 (And.intro hd0 (And.intro hsz c0))))
        have d3 : (W3.setCell ⟨b0, 0, none⟩ (.string (bs b))).cell? ⟨b0, 0, none⟩ = some (.string (bs b)) := World.cell?_setCell_same' _ _ _ (by rw [d0]; rfl)
        clear hd0 hI3 hM3 hI4 hM4 hl3 hd hx
        gi_wp2
        go_roundw
        case rel => exact ⟨upd s' b, by rw [hu1, hu2]; exact HE.out.2.2.1, HE.out.1, HE.out.2.1⟩
        case measure => rw [lenAt_of d3, lenAt_of HE.out.2.2.2.2, HE.out.2.2.2.1, bs_size]; omega
      · gi_wp2
        refine bodyPost_ret (results_none rfl _ _ _) rfl ?_
        exact ⟨⟨_, rfl⟩, .inr hMx⟩
end Go.Proofs.YtmmomgaijgpmmaaGreatDoor
