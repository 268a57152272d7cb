/- What the calls of reach answer, for every text and every number: whether a piece reaches a square, all that it reaches, what stands between two. -/
import Derived.Test.YtbdgbihdhbjljaaGreatDoorReachD
import Derived.Test.YtbdgbihdhbjljaaGreatDoorShelf
import Derived.Lib.OwnBridge
namespace Go.Proofs.YtbdgbihdhbjljaaGreatDoor
open Go.RowKit Go.Shelf
open M (S)

/-- Squares, as numbers of 90. -/
def finL (q : Nat → Bool) : List (Fin 90) := (List.finRange 90).filter fun i => q i.val
abbrev fqv (x : Fin 90) : Value := .int .i64 (x.val : Int)
theorem finL_val (q : Nat → Bool) : (finL q).map (fun i => (i.val : Int)) = trues q 90 := by
  have h : (finL q).map Fin.val = (List.range 90).filter q := by
    unfold finL
    rw [← (show (List.finRange 90).map Fin.val = List.range 90 by decide +kernel), List.filter_map]
    rfl
  unfold trues
  rw [← h, List.map_map]
  rfl
theorem finL_vals (q : Nat → Bool) : (finL q).map fqv = (trues q 90).map iv := by
  rw [← finL_val, List.map_map]
  rfl
theorem finL_len (q : Nat → Bool) : (finL q).length = (trues q 90).length := by rw [← finL_val, List.length_map]
theorem finL_filter (q p : Nat → Bool) : ((finL q).filter fun i => !p i.val) = finL fun k => q k && !p k := by
  unfold finL
  rw [List.filter_filter]
  refine List.filter_congr fun i _ => ?_
  rw [Bool.and_comm]
theorem goes_own {s : ByteArray} {a k : Nat} : (goesV s a k && !(sideN (bAt s k) == sideN (bAt s a))) = canB s a k := by
  unfold goesV canB bne
  cases decide (0 ≤ sideN (bAt s a)) <;> cases (sideN (bAt s k) == sideN (bAt s a)) <;> simp
theorem own1_any (s : ByteArray) (x : Int) (k g0 g1 : Nat) (W : World) (hk : k < s.size) (c0 : W.cell? ⟨g0, 0, none⟩ = some (.string s)) (c1 : W.cell? ⟨g1, 0, none⟩ = some (.int .i64 x)) :
    Calls Tryz.prog 235 #[.int .i64 (k : Int), .pointer (some ⟨g0, 0, none⟩), .pointer (some ⟨g1, 0, none⟩)] W fun e w' => e = .returned (.bool (sideN (bAt s k) == x)) ∧ ∃ q, w' = W.drewN q := by
  obtain ⟨c, hc⟩ : ∃ c, bAt s k = c := ⟨_, rfl⟩
  have hbk : s[k].toNat = c := (bAt_eq s k hk).trans hc
  rw [hc]
  obtain ⟨y, hy⟩ : ∃ y, sideN c = y := ⟨_, rfl⟩
  have Hy := Lib.hid hy
  rw [hy]
  clear hc hy
  have HS := Lib.hid fun W => (side_is c _ W Hy.out).mono fun e w' (h : Says W _ e w') => (⟨h.1, h.2.symm⟩ : e = .returned (.int .i64 y) ∧ w' = W)
  go_enter Tryz.func235, Tryz.ntmps235
  go_wp2_with fail
  go_quiet ((go_at_call 175; exact Calls.quiet_of_same (HS.out _)))
  go_wp2
  go_ret
  exact ⟨rfl, nq, rfl⟩
theorem ownFrom_any (s : ByteArray) (a : Nat) (x : Int) (w : World) (ha : a < s.size) (hx : sideN (bAt s a) = x) :
    Calls Tryz.prog 205 #[.string s, .int .i64 (a : Int)] w fun e w' => e = .returned (.func (.func 235) #[] #[.pointer (some ⟨w.heap.size, 0, none⟩), .pointer (some ⟨w.heap.size + 1, 0, none⟩)]) ∧ Blk w' w.heap.size 9 #[.string s] ∧ Blk w' (w.heap.size + 1) 3 #[.int .i64 x] ∧ Below w.heap.size w w' := by
  obtain ⟨c, hc⟩ : ∃ c, bAt s a = c := ⟨_, rfl⟩
  have hbk : s[a].toNat = c := (bAt_eq s a ha).trans hc
  rw [hc] at hx
  have Hx := Lib.hid hx
  clear hc hx
  go_enter Tryz.func205, Tryz.ntmps205
  go_wp2_with fail
  refine (side_is c _ _ Hx.out).mono ?_
  rintro e w1 ⟨rfl, rfl⟩
  go_wp2
  go_ret
  exact ⟨rfl, (Blk.new _ _ _ rfl).alloc _, Blk.new _ _ _ (by simp), (by repeat (first | exact Below.refl _ _ | (refine Below.setCell ?_ (by first | omega | (simp; done) | (simp; omega) | (simp at *; omega)) _) | (refine Below.alloc ?_ (by first | omega | (simp; done) | (simp; omega) | (simp at *; omega)) _) | refine Below.drew ?_ | (refine below_drewN ?_ _) | (refine Below.trans ?_ (Below.mono (by assumption) (by first | omega | (simp; done) | (simp; omega) | (simp at *; omega))))))⟩
theorem blk_out {w w' : World} {g : Nat} {t : TypeId} {cs : Array Value} (h : Blk w g t cs) (hb : Below w.heap.size w w') : w'.cell? ⟨g, 0, none⟩ = cs[0]? := (h.next hb).cell 0
open Go.Lib Go.Sort in
theorem sorted_cell {α : Type} [Inhabited α] (enc : α → Value) (w : World) (blk off m B : Nat) (dk : Array α) (os : Array Obj) (hB : B < w.heap.size) (hne : B ≠ blk) : (sortWorld enc w blk off m dk os).cell? ⟨B, 0, none⟩ = w.cell? ⟨B, 0, none⟩ := by
  unfold sortWorld
  rw [cell?_grow _ _ _ (by show B < (putRow _ _ _ _ _).heap.size; rw [size_putRow]; exact hB), cell?_putRow_other _ _ blk off _ _ (Or.inl hne)]
  rfl
set_option maxHeartbeats 1000000 in
/-- What is left of a row of squares when those are left away on which the owner's own stand. -/
theorem delete_any (s : ByteArray) (x : Int) (q : Nat → Bool) (v : Value) (n g0 g1 base : Nat) (W0 W : World) (hs : 90 ≤ s.size) (hown : W.ownsRow base 3 1 v n ((finL q).map fqv)) (hB : Below base W0 W)
    (b0 : Blk W g0 9 #[.string s]) (b1 : Blk W g1 3 #[.int .i64 x]) (hne : ∀ k, v.ownBlock = some k → g0 ≠ k ∧ g1 ≠ k) :
    Calls Tryz.prog 160 #[v, .func (.func 235) #[] #[.pointer (some ⟨g0, 0, none⟩), .pointer (some ⟨g1, 0, none⟩)]] W fun e w' => ∃ A c, e = .returned (.slice A (finL fun k => q k && !(sideN (bAt s k) == x)).length c) ∧ Rd w' A ((finL fun k => q k && !(sideN (bAt s k) == x)).map fqv) ∧ Below base W0 w' ∧ (∀ ad, A = some ad → base ≤ ad.block) ∧ (finL fun k => q k && !(sideN (bAt s k) == x)).length ≤ c := by
  by_cases hv : v = .slice none 0 0
  · subst hv
    have hn : n = 0 := by
      rcases hown.2 with ⟨_, h⟩ | ⟨g, cap, cur, h, _⟩
      · exact h
      · injection h with h1
        cases h1
    have hl : finL q = [] := by
      have := hown.1
      rw [hn] at this
      simpa using this
    have hl2 : (finL fun k => q k && !(sideN (bAt s k) == x)) = [] := by rw [← finL_filter q fun k => sideN (bAt s k) == x, hl]; rfl
    rw [hl2]
    clear hl hl2 hown hn hne b0 b1
    go_enter Tryz.func160, Tryz.ntmps160
    go_wp2_with fail
    refine (Tryz.slices_IndexFunc_empty (α := Fin 90) none 0 _ _).mono ?_
    rintro e w1 ⟨rfl, rfl⟩
    go_wp2
    go_ret
    exact ⟨none, 0, rfl, fun j u hu => by simp at hu, hB, (fun _ h => by cases h), Nat.le_refl _⟩
  · obtain ⟨g, cap, rfl, hg, hgl, hcap, hmax, hlen, hH⟩ := Lib.holds_of_ownsRow (enc := fqv) hown hv
    obtain ⟨hne0, hne1⟩ := hne g rfl
    have eg : ∀ args w, (callFunc 235 args).run Tryz.prog w = .ok (.enter 235 args) w := enters_of Tryz.func235 (by kernel_rfl) rfl
    have hcon := Tryz.slices_DeleteFunc fqv (fun _ => rfl) (fun i : Fin 90 => sideN (bAt s i.val) == x) 235 #[.pointer (some ⟨g0, 0, none⟩), .pointer (some ⟨g1, 0, none⟩)] eg 0 Tryz.zeroValue3 g 0 cap (finL q).toArray W
      (fun W' k hb => own1_any s x k.val g0 g1 W' (by omega) (blk_out b0 hb) (blk_out b1 hb))
      (fun m os dk k _ => own1_any s x k.val g0 g1 _ (by omega)
        ((sorted_cell fqv W g 0 m g0 dk os b0.lt hne0).trans (b0.cell 0)) ((sorted_cell fqv W g 0 m g1 dk os b1.lt hne1).trans (b1.cell 0)))
      hH (by simp; unfold maxLen at hmax; omega) (by simp; omega)
    have hf : ((finL q).toArray.toList.filter fun i : Fin 90 => !(sideN (bAt s i.val) == x)) = finL fun k => q k && !(sideN (bAt s k) == x) := finL_filter q fun k => sideN (bAt s k) == x
    rw [hf, show (finL q).toArray.size = n by simpa using hlen] at hcon
    have hle : (finL fun k => q k && !(sideN (bAt s k) == x)).length ≤ n := by
      rw [← hf, ← hlen]
      exact List.length_filter_le _ _
    generalize (finL fun k => q k && !(sideN (bAt s k) == x)) = r at hcon hle ⊢
    refine hcon.mono ?_
    rintro e w' ⟨rfl, m, rfl⟩
    refine ⟨_, cap, rfl, ?_, Lib.below_putRow hB hg, (fun _ h => by cases h; exact hg), by omega⟩
    have h1 := Lib.ownsRow_putRow (q := m) (k := r.length) (ys := r ++ List.replicate (n - r.length) (0 : Fin 90)) hown (by simp; omega) hle
    rw [List.take_left' rfl] at h1
    exact Rd.own h1
theorem all_list (s : ByteArray) (a : Nat) : (finL fun k => goesV s a k && !(sideN (bAt s k) == sideN (bAt s a))).map fqv = (trues (fun b => canB s a b) 90).map iv ∧ (finL fun k => goesV s a k && !(sideN (bAt s k) == sideN (bAt s a))).length = (trues (fun b => canB s a b) 90).length := by
  have h : (fun k => goesV s a k && !(sideN (bAt s k) == sideN (bAt s a))) = fun b => canB s a b := funext fun k => goes_own
  rw [h]
  exact ⟨finL_vals _, finL_len _⟩
theorem own_next {w w1 : World} {base : Nat} {e : TypeId} {size : Nat} {v : Value} {n : Nat} {xs : List Value} (h : w.ownsRow base e size v n xs) (hb : Below w.heap.size w w1) : w1.ownsRow base e size v n xs := by
  refine ⟨h.1, ?_⟩
  rcases h.2 with h2 | ⟨g, cap, cur, hv, hg, hc, hr⟩
  · exact .inl h2
  · exact .inr ⟨g, cap, cur, hv, hg, (hb.block g (Array.getElem?_eq_some_iff.1 hc).1).trans hc, hr⟩
set_option maxRecDepth 100000 in
set_option maxHeartbeats 4000000 in
theorem all_new (s : ByteArray) (m : Nat) (w : World) (hb : isB s = true) (hm : m < 90) : Calls Tryz.prog 211 #[.string s, .int .i64 (m : Int)] w fun e w' => ∃ A c, e = .returned (.slice A (trues (fun b => canB s m b) 90).length c) ∧ Rd w' A ((trues (fun b => canB s m b) 90).map iv) ∧ Below w.heap.size w w' ∧ (∀ ad, A = some ad → w.heap.size ≤ ad.block) ∧ (trues (fun b => canB s m b) 90).length ≤ c := by
  have hz := isB_size hb
  have hz1 : 90 ≤ s.size := by omega
  have B := Lib.hid hb
  have S1 : Hid (sqI (m : Int) = true) := sqI_true (by omega)
  obtain ⟨i0, hi, hy0, hy1, hy2⟩ := info_parts info_int
  have AL := Lib.hid (all_list s m)
  obtain ⟨p, hp⟩ : ∃ p : Nat → Bool, p = fun k : Nat => goesV s m k := ⟨_, rfl⟩
  have Hp := Lib.hid hp
  clear hp hb hz
  go_enter Tryz.func211, Tryz.ntmps211
  go_wp2_with fail
  refine (qsq_is _ true _ S1.out).mono ?_
  rintro e w1 ⟨rfl, rfl⟩
  go_wp2_with fail
  refine (is_is s true _ B.out).mono ?_
  rintro e w1 ⟨rfl, rfl⟩
  go_wp2_with fail
  go_loopw [5, 6, 15] (fun v _ i wr => ∃ k : Nat, k ≤ 90 ∧ i = .int .i64 k ∧ wr.ownsRow w.heap.size 3 1 v (trues p k).length ((trues p k).map iv) ∧ Below w.heap.size w wr) (fun _ _ i _ => 90 - (intOf i).toNat)
  case atStart => exact ⟨0, by omega, rfl, by simpa [trues] using World.ownsRow_nil w w.heap.size 3 1, Below.refl _ _⟩
  case round =>
    obtain ⟨k, hk, rfl, hown, hB⟩ := hrel
    have hbs := hB.size
    have hle := trues_le p k
    by_cases hlt : k < 90
    · have hst := trues_succ p k
      have hpk : Hid (goesV s m k = p k) := by show _ = _; rw [Hp.out]
      cases hb : p k
      · rw [hb] at hst
        have Hs := Lib.hid hst
        have Hm : Hid (goesV s m k = false) := by show _ = _; rw [hpk.out, hb]
        clear hst hb hpk
        go_wp2_with fail
        refine (goes_is s m k false _ hz1 hm hlt Hm.out).mono ?_
        rintro e w1 ⟨rfl, hb1⟩
        go_wp2_with fail
        go_roundw
        case rel => exact ⟨k + 1, by omega, by go_num, by rw [Hs.out]; exact own_next hown hb1, hB.trans (hb1.mono hbs)⟩
        case measure => simp [intOf]; omega
      · rw [hb] at hst
        have Hs := Lib.hid hst
        have Hm : Hid (goesV s m k = true) := by show _ = _; rw [hpk.out, hb]
        clear hst hb hpk
        go_wp2_with fail
        refine (goes_is s m k true _ hz1 hm hlt Hm.out).mono ?_
        rintro e w1 ⟨rfl, hb1⟩
        replace hown := own_next hown hb1
        replace hB := hB.trans (hb1.mono hbs)
        replace hbs := hB.size
        clear hb1
        go_wp2_with (at_builtin; refine wpList_append_own _ rfl _ _ 106 rfl w.heap.size 3 i0 (.int .i64 0) 1 8 Tryz.underlying106 hi hy0 hy1 hy2 rfl (by decide) _ _ _ rfl (hown.alloc _) ⟨w1.heap.size, 0, none⟩ 1 1 [iv k] rfl rfl (cell_one_new _ _ _) (by simp [Value.oneCell']) (by unfold maxLen; omega) (by omega) (by simp; omega) ?_; intro v' w2 hown' hgrow _)
        go_roundw
        case rel => exact ⟨k + 1, by omega, by go_num, by rw [Hs.out]; simpa using hown', below_app hB hbs hown hgrow⟩
        case measure => simp [intOf]; omega
    · obtain rfl : k = 90 := by omega
      have hfin : (trues p 90).map iv = (finL p).map fqv := (finL_vals p).symm
      rw [hfin] at hown
      obtain ⟨A', c', rfl⟩ := own_slice hown
      have HO := Lib.hid hown
      clear hown hle hfin
      go_wp2_with fail
      refine (ownFrom_any s m _ _ (by omega) rfl).mono ?_
      rintro e w1 ⟨rfl, b0, b1, hb1⟩
      have hown1 := own_next HO.out hb1
      have hne : ∀ g, (Value.slice A' (trues p 90).length c').ownBlock = some g → wr.heap.size ≠ g ∧ wr.heap.size + 1 ≠ g := fun g hg => by
        have := (HO.out.lt g hg).2
        omega
      go_wp2_with fail
      refine (delete_any s _ p _ _ _ _ w.heap.size w _ hz1 hown1 (hB.trans (hb1.mono hbs)) b0 b1 hne).mono ?_
      rintro e w2 ⟨A2, c2, rfl, hr, hb2, hnew, hcp⟩
      rw [Hp.out, AL.out.1] at hr
      rw [Hp.out, AL.out.2] at hcp ⊢
      go_wp2
      go_ret
      exact ⟨A2, c2, rfl, hr, hb2, hnew, hcp⟩
theorem all_sq (s : ByteArray) (m : Nat) (w : World) (hb : isB s = true) (hm : m < 90) : Calls Tryz.prog 211 #[.string s, .int .i64 (m : Int)] w (GivesL w (trues (fun b => canB s m b) 90)) :=
  (all_new s m w hb hm).mono fun _ _ ⟨A, c, he, hr, hb, _⟩ => ⟨A, c, he, hr, hb⟩
theorem all_any (s : ByteArray) (a : Int) (w : World) : Calls Tryz.prog 211 #[.string s, .int .i64 a] w (GivesL w (allL s a)) := by
  unfold allL
  cases h1 : sqI a
  · have S1 := Lib.hid h1
    rw [if_neg (by simp)]
    clear h1
    go_enter Tryz.func211, Tryz.ntmps211
    go_wp2_with fail
    refine (qsq_is a false _ S1.out).mono ?_
    rintro e w1 ⟨rfl, rfl⟩
    go_wp2
    go_ret
    exact ⟨none, 0, rfl, fun j u hu => by simp at hu, Below.refl _ _⟩
  cases hb : isB s
  · have B := Lib.hid hb
    have S1 := Lib.hid h1
    rw [if_neg (by simp)]
    clear hb h1
    go_enter Tryz.func211, Tryz.ntmps211
    go_wp2_with fail
    refine (qsq_is a true _ S1.out).mono ?_
    rintro e w1 ⟨rfl, rfl⟩
    go_wp2_with fail
    refine (is_is s false _ B.out).mono ?_
    rintro e w1 ⟨rfl, rfl⟩
    go_wp2
    go_ret
    exact ⟨none, 0, rfl, fun j u hu => by simp at hu, Below.refl _ _⟩
  · obtain ⟨q0, q1⟩ := sqI_in h1
    obtain ⟨m, rfl⟩ : ∃ m : Nat, a = m := ⟨a.toNat, by omega⟩
    rw [show (true && true) = true from rfl, if_pos rfl, Int.toNat_natCast]
    exact all_sq s m w hb (by omega)
theorem all_is (s : ByteArray) (a : Int) (l : List Int) (n : Nat) (w : World) (h : allL s a = l) (hn : l.length = n) : Calls Tryz.prog 211 #[.string s, .int .i64 a] w (GivesN w l n) := by subst h; subst hn; exact all_any s a w
theorem between_any5 (s : ByteArray) (a b : Int) (w : World) : Calls Tryz.prog 127 #[.string s, .int .i64 a, .int .i64 b] w (Says w (.int .i64 (betweenV s a b))) := by
  unfold Says
  cases h1 : sqI a
  · have K : Hid (betweenV s a b = -1) := by show _ = _; unfold betweenV; rw [h1]; simp
    have S1 := Lib.hid h1
    clear h1
    go_enter Tryz.func127, Tryz.ntmps127
    go_wp2_with fail
    refine (qsq_is a false _ S1.out).mono ?_
    rintro e w1 ⟨rfl, rfl⟩
    go_wp2
    go_ret
    exact ⟨by rw [K.out]; rfl, rfl⟩
  cases h2 : sqI b
  · have K : Hid (betweenV s a b = -1) := by show _ = _; unfold betweenV; rw [h2]; simp
    have S1 := Lib.hid h1
    have S2 := Lib.hid h2
    clear h1 h2
    go_enter Tryz.func127, Tryz.ntmps127
    go_wp2_with fail
    refine (qsq_is a true _ S1.out).mono ?_
    rintro e w1 ⟨rfl, rfl⟩
    go_wp2_with fail
    refine (qsq_is b false _ S2.out).mono ?_
    rintro e w1 ⟨rfl, rfl⟩
    go_wp2
    go_ret
    exact ⟨by rw [K.out]; rfl, rfl⟩
  cases hi : isB s
  · have K : Hid (betweenV s a b = -1) := by show _ = _; unfold betweenV; rw [hi]; rfl
    have B := Lib.hid hi
    have S1 := Lib.hid h1
    have S2 := Lib.hid h2
    clear hi h1 h2
    go_enter Tryz.func127, Tryz.ntmps127
    go_wp2_with fail
    refine (qsq_is a true _ S1.out).mono ?_
    rintro e w1 ⟨rfl, rfl⟩
    go_wp2_with fail
    refine (qsq_is b true _ S2.out).mono ?_
    rintro e w1 ⟨rfl, rfl⟩
    go_wp2_with fail
    refine (is_is s false _ B.out).mono ?_
    rintro e w1 ⟨rfl, rfl⟩
    go_wp2
    go_ret
    exact ⟨by rw [K.out]; rfl, rfl⟩
  · obtain ⟨p, q⟩ := sqI_in h1
    obtain ⟨p2, q2⟩ := sqI_in h2
    obtain ⟨m, rfl⟩ : ∃ m : Nat, a = m := ⟨a.toNat, by omega⟩
    obtain ⟨n, rfl⟩ : ∃ n : Nat, b = n := ⟨b.toNat, by omega⟩
    have K : Hid (betweenV s m n = betweenI s m n) := by show _ = _; unfold betweenV; rw [hi, h1, h2]; rfl
    have hz := isB_size hi
    have B := Lib.hid hi
    have S1 := Lib.hid h1
    have S2 := Lib.hid h2
    clear hi h1 h2
    go_enter Tryz.func127, Tryz.ntmps127
    go_wp2_with fail
    refine (qsq_is _ true _ S1.out).mono ?_
    rintro e w1 ⟨rfl, rfl⟩
    go_wp2_with fail
    refine (qsq_is _ true _ S2.out).mono ?_
    rintro e w1 ⟨rfl, rfl⟩
    go_wp2_with fail
    refine (is_is s true _ B.out).mono ?_
    rintro e w1 ⟨rfl, rfl⟩
    go_wp2_with fail
    refine (qbetween_any s m n _ (by omega) (by omega) (by omega)).mono ?_
    rintro e w1 ⟨rfl, rfl⟩
    go_wp2
    go_ret
    exact ⟨by rw [K.out]; rfl, rfl⟩
theorem between_is5 (s : ByteArray) (a b k : Int) (w : World) (h : betweenV s a b = k) : Calls Tryz.prog 127 #[.string s, .int .i64 a, .int .i64 b] w (Says w (.int .i64 k)) := by subst h; exact between_any5 s a b w
set_option maxHeartbeats 2000000 in
theorem can_any (s : ByteArray) (a b : Int) (w : World) : Calls Tryz.prog 174 #[.string s, .int .i64 a, .int .i64 b] w (Gives w (.bool (canI s a b))) := by
  unfold Gives
  by_cases hz : s.size = 90
  · have e0 : ((s.size : Int) != 90) = false := by rw [hz]; rfl
    cases h1 : sqI a
    · have K : Hid (canI s a b = false) := by show _ = _; unfold canI; rw [h1]; simp
      have S1 := Lib.hid h1
      clear h1 hz
      go_enter Tryz.func174, Tryz.ntmps174
      go_wp2_with fail
      refine (qsq_is a false _ S1.out).mono ?_
      rintro e w1 ⟨rfl, rfl⟩
      go_wp2
      go_ret
      exact ⟨by rw [K.out]; rfl, Below.refl _ _⟩
    cases h2 : sqI b
    · have K : Hid (canI s a b = false) := by show _ = _; unfold canI; rw [h2]; simp
      have S1 := Lib.hid h1
      have S2 := Lib.hid h2
      clear h1 h2 hz
      go_enter Tryz.func174, Tryz.ntmps174
      go_wp2_with fail
      refine (qsq_is a true _ S1.out).mono ?_
      rintro e w1 ⟨rfl, rfl⟩
      go_wp2_with fail
      refine (qsq_is b false _ S2.out).mono ?_
      rintro e w1 ⟨rfl, rfl⟩
      go_wp2
      go_ret
      exact ⟨by rw [K.out]; rfl, Below.refl _ _⟩
    · obtain ⟨p, q⟩ := sqI_in h1
      obtain ⟨p2, q2⟩ := sqI_in h2
      obtain ⟨m, rfl⟩ : ∃ m : Nat, a = m := ⟨a.toNat, by omega⟩
      obtain ⟨n, rfl⟩ : ∃ n : Nat, b = n := ⟨b.toNat, by omega⟩
      have hz1 : 90 ≤ s.size := by omega
      have hm : m < 90 := by omega
      have hn : n < 90 := by omega
      have K0 : canI s m n = (isB s && (goesV s m n && !(sideN (bAt s n) == sideN (bAt s m)))) := by rw [goes_own]; unfold canI; rw [h1, h2]; simp
      have S1 := Lib.hid h1
      have S2 := Lib.hid h2
      have K1 := Lib.hid K0
      clear h1 h2 hz K0 p q p2 q2
      cases hg : goesV s m n
      · have K : Hid (canI s m n = false) := by show _ = _; rw [K1.out, hg]; simp
        have G := Lib.hid hg
        clear hg K1
        go_enter Tryz.func174, Tryz.ntmps174
        go_wp2_with fail
        refine (qsq_is _ true _ S1.out).mono ?_
        rintro e w1 ⟨rfl, rfl⟩
        go_wp2_with fail
        refine (qsq_is _ true _ S2.out).mono ?_
        rintro e w1 ⟨rfl, rfl⟩
        go_wp2_with fail
        refine (goes_is s m n false _ hz1 hm hn G.out).mono ?_
        rintro e w1 ⟨rfl, hb1⟩
        go_wp2
        go_ret
        exact ⟨by rw [K.out]; rfl, hb1⟩
      · have G := Lib.hid hg
        obtain ⟨o, ho⟩ : ∃ o, (sideN (bAt s n) == sideN (bAt s m)) = o := ⟨_, rfl⟩
        have HO := Lib.hid ho
        have K2 : Hid (canI s m n = (isB s && !o)) := by show _ = _; rw [K1.out, hg, ho]; simp
        clear hg K1 ho
        go_enter Tryz.func174, Tryz.ntmps174
        go_wp2_with fail
        refine (qsq_is _ true _ S1.out).mono ?_
        rintro e w1 ⟨rfl, rfl⟩
        go_wp2_with fail
        refine (qsq_is _ true _ S2.out).mono ?_
        rintro e w1 ⟨rfl, rfl⟩
        go_wp2_with fail
        refine (goes_is s m n true _ hz1 hm hn G.out).mono ?_
        rintro e w1 ⟨rfl, hb1⟩
        go_wp2_with fail
        refine (ownFrom_any s m _ _ (by omega) rfl).mono ?_
        rintro e w2 ⟨rfl, b0, b1, hb2⟩
        have c0 := b0.cell 0
        have c1 := b1.cell 0
        simp only [List.getElem?_toArray, List.getElem?_cons_zero] at c0 c1
        have hb3 := hb1.trans (hb2.mono hb1.size)
        clear b0 b1 hb1 hb2
        go_wp2_with fail
        refine (own1_any s _ n _ _ _ (by omega) c0 c1).mono ?_
        rintro e w3 ⟨rfl, nq, rfl⟩
        rw [HO.out]
        replace hb3 := below_drewN hb3 nq
        clear c0 c1
        cases o
        · obtain ⟨v, hv⟩ : ∃ v, isB s = v := ⟨_, rfl⟩
          have HV := Lib.hid hv
          have K : Hid (canI s m n = v) := by show _ = _; rw [K2.out, hv]; simp
          clear hv K2
          go_wp2_with fail
          refine (is_is s v _ HV.out).mono ?_
          rintro e w4 ⟨rfl, rfl⟩
          go_wp2
          go_ret
          exact ⟨by rw [K.out]; rfl, hb3⟩
        · have K : Hid (canI s m n = false) := by show _ = _; rw [K2.out]; simp
          go_wp2
          go_ret
          exact ⟨by rw [K.out]; rfl, hb3⟩
  · have e0 : ((s.size : Int) != 90) = true := by rw [bne_iff_ne]; omega
    have K : Hid (canI s a b = false) := by show _ = _; unfold canI isB; rw [decide_eq_false hz]; simp
    clear hz
    go_enter Tryz.func174, Tryz.ntmps174
    go_wp2
    go_ret
    exact ⟨by rw [K.out]; rfl, Below.refl _ _⟩
theorem can_is5 (s : ByteArray) (a b : Int) (v : Bool) (w : World) (h : canI s a b = v) : Calls Tryz.prog 174 #[.string s, .int .i64 a, .int .i64 b] w (Gives w (.bool v)) := by subst h; exact can_any s a b w
end Go.Proofs.YtbdgbihdhbjljaaGreatDoor
