/- Moves that are put in an order by a closure: whatever it answers, they are the same moves, in a row of their own. -/
import Derived.Test.YtbdgbihdhbjljaaGreatDoorMzKit
import Derived.Shelf.RegionOpen
namespace Go.Proofs.YtbdgbihdhbjljaaGreatDoor
open Go.RowKit Go.Shelf
open M (S)

/-- What a comparison answers, of some moves, wherever it is asked: a number. -/
def CmpOn (g : FuncId) (lb : Array Value) (xs : List (Int × Int)) (B : Nat) (w : World) : Prop := ∀ W (x y : Int × Int), x ∈ xs → y ∈ xs → Below B w W → Calls Tryz.prog g (#[.agg #[.int .i64 x.1, .int .i64 x.2], .agg #[.int .i64 y.1, .int .i64 y.2]] ++ lb) W fun e w' => ∃ k, e = .returned (.int .i64 k) ∧ Below W.heap.size W w'
theorem CmpOn.later {g : FuncId} {lb : Array Value} {xs : List (Int × Int)} {B : Nat} {w w' : World} (h : CmpOn g lb xs B w) (hb : Below B w w') : CmpOn g lb xs B w' := fun W x y hx hy hB => h W x y hx hy (hb.trans hB)
theorem CmpOn.perm {g : FuncId} {lb : Array Value} {xs ys : List (Int × Int)} {B : Nat} {w : World} (h : CmpOn g lb xs B w) (hp : ys.Perm xs) : CmpOn g lb ys B w := fun W x y hx hy hB => h W x y (hp.mem_iff.1 hx) (hp.mem_iff.1 hy) hB
/-- Two neighbours change places. -/
theorem swap_perm {zs : List (Int × Int)} {k : Nat} (h : k + 1 < zs.length) : ((zs.set (k + 1) (zs[k]'(by omega))).set k zs[k + 1]).Perm zs := by
  have e : zs = zs.take k ++ zs[k]'(by omega) :: zs[k + 1] :: zs.drop (k + 2) := by
    conv => lhs; rw [← List.take_append_drop k zs, List.drop_eq_getElem_cons (by omega : k < zs.length), List.drop_eq_getElem_cons (by omega : k + 1 < zs.length)]
  have e2 : (zs.set (k + 1) (zs[k]'(by omega))).set k zs[k + 1] = zs.take k ++ zs[k + 1] :: zs[k]'(by omega) :: zs.drop (k + 2) := by
    apply List.ext_getElem?
    intro i
    have hl : (zs.take k).length = k := by rw [List.length_take]; omega
    rw [List.getElem?_set, List.getElem?_set, List.getElem?_append, hl, List.length_set]
    by_cases h1 : k = i
    · subst h1
      rw [if_pos rfl, if_pos (by omega), if_neg (by omega), Nat.sub_self]
      rfl
    · rw [if_neg h1]
      by_cases h2 : k + 1 = i
      · subst h2
        rw [if_pos rfl, if_pos (by omega), if_neg (by omega), show k + 1 - k = 1 by omega]
        rfl
      · rw [if_neg h2]
        by_cases h3 : i < k
        · rw [if_pos h3, List.getElem?_take, if_pos h3]
        · rw [if_neg h3, show i - k = (i - k - 2) + 2 by omega]
          show zs[i]? = (zs.drop (k + 2))[i - k - 2]?
          rw [List.getElem?_drop]
          congr 1
          omega
  rw [e2]
  conv => rhs; rw [e]
  exact List.Perm.append_left _ (List.Perm.swap _ _ _)
theorem sort_keep {B gb n c i j : Nat} {t : TypeId} {xs : List Value} {x0 x1 y0 y1 : Value} {w W W' : World} (H : W.cell? ⟨gb, i, none⟩ = some x0 ∧ W.cell? ⟨gb, i + 1, none⟩ = some x1 ∧ W.cell? ⟨gb, j, none⟩ = some y0 ∧ W.cell? ⟨gb, j + 1, none⟩ = some y1 ∧ W.ownsRow B t 2 (.slice (some ⟨gb, 0, none⟩) n c) n xs ∧ Below B w W) (hb : Below W.heap.size W W') (hB : B ≤ w.heap.size) : W'.cell? ⟨gb, i, none⟩ = some x0 ∧ W'.cell? ⟨gb, i + 1, none⟩ = some x1 ∧ W'.cell? ⟨gb, j, none⟩ = some y0 ∧ W'.cell? ⟨gb, j + 1, none⟩ = some y1 ∧ W'.ownsRow B t 2 (.slice (some ⟨gb, 0, none⟩) n c) n xs ∧ Below B w W' :=
  ⟨(hb.cell (cell_lt H.1)).trans H.1, (hb.cell (cell_lt H.2.1)).trans H.2.1, (hb.cell (cell_lt H.2.2.1)).trans H.2.2.1, (hb.cell (cell_lt H.2.2.2.1)).trans H.2.2.2.1, own_next H.2.2.2.2.1 hb, H.2.2.2.2.2.trans (hb.mono (Nat.le_trans hB H.2.2.2.2.2.size))⟩
theorem swap_perm2 {zs : List (Int × Int)} {k q : Nat} (e : q = k + 1) (h : q < zs.length) : ((zs.set q (zs[k]'(by omega))).set k zs[q]).Perm zs := by
  subst e
  exact swap_perm h
set_option maxRecDepth 100000 in
set_option maxHeartbeats 8000000 in
theorem minsert_any (g : FuncId) (lb : Array Value) (eg : ∀ args w, (callFunc g args).run Tryz.prog w = .ok (.enter g args) w) (gb n c : Nat) (xs : List (Int × Int)) (a b : Nat) (B : Nat) (w : World) (hp : CmpOn g lb xs B w) (hrow : w.ownsRow B 48 2 (.slice (some ⟨gb, 0, none⟩) n c) n (mzL xs)) (hn : xs.length = n) (h9 : n ≤ 1000000) (ha : a ≤ 1000000) (hab : b ≤ n) (hBw : B ≤ w.heap.size) :
    Calls Tryz.prog 215 #[.slice (some ⟨gb, 0, none⟩) n c, .int .i64 a, .int .i64 b, .func (.func g) #[] lb] w fun e w' => e = .returned (.tuple #[]) ∧ ∃ zs : List (Int × Int), zs.Perm xs ∧ w'.ownsRow B 48 2 (.slice (some ⟨gb, 0, none⟩) n c) n (mzL zs) ∧ Below B w w' := by
  have hgB : B ≤ gb := by
    rcases hrow.2 with ⟨h0, _⟩ | ⟨g', cap, cur, hv, hg, _⟩
    · cases h0
    · injection hv with e1
      injection e1 with e1
      injection e1 with e1
      omega
  have HP := Lib.hid hp
  have HR := Lib.hid hrow
  have HN := Lib.hid hn
  clear hp hrow hn
  have wa1 : IntKind.i64.wrap ((a : Int) + 1) = (((a + 1 : Nat)) : Int) := by rw [IntWalk.i64_in _ (by omega)]; rfl
  go_enter Tryz.func215, Tryz.ntmps215
  go_wp2
  go_loopw [8] (fun i wr => ∃ (j : Nat) (zs : List (Int × Int)), i = .int .i64 (j : Int) ∧ j ≤ 1000001 + n ∧ zs.Perm xs ∧ wr.ownsRow B 48 2 (.slice (some ⟨gb, 0, none⟩) n c) n (mzL zs) ∧ Below B w wr) (fun i _ => n - (intOf i).toNat)
  case atStart => exact ⟨a + 1, xs, rfl, by omega, List.Perm.refl _, HR.out, Below.refl _ _⟩
  case round =>
    obtain ⟨j, zs, rfl, hj9, hperm, hown, hB⟩ := hrel
    have HPM := Lib.hid hperm
    have HOW := Lib.hid hown
    have HBB := Lib.hid hB
    clear hperm hown hB
    by_cases hlt : j < b
    · have bj : (j : Int) < (b : Int) := by omega
      go_wp2
      rename World => wa
      go_loopw [9] (fun i' wr' => ∃ (q : Nat) (ys : List (Int × Int)), i' = .int .i64 (q : Int) ∧ q ≤ j ∧ ys.Perm xs ∧ wr'.ownsRow B 48 2 (.slice (some ⟨gb, 0, none⟩) n c) n (mzL ys) ∧ Below B w wr') (fun i' _ => (intOf i').toNat)
      case atStart => exact ⟨j, zs, rfl, Nat.le_refl _, HPM.out, HOW.out, HBB.out⟩
      case round =>
        obtain ⟨q, ys, rfl, hq, hp2, ho2, hB2⟩ := hrel
        have HP2 := Lib.hid hp2
        have HO2 := Lib.hid ho2
        have HB2 := Lib.hid hB2
        have hyn : ys.length = n := by rw [hp2.length_eq, HN.out]
        have HYN := Lib.hid hyn
        clear hp2 ho2 hB2 hyn
        by_cases hqa : a < q
        · have bq : (a : Int) < (q : Int) := by omega
          obtain ⟨k, hqk⟩ : ∃ k, q = k + 1 := ⟨q - 1, by omega⟩
          have hk1 : q < ys.length := by rw [HYN.out]; omega
          have hk0 : k < ys.length := by omega
          obtain ⟨g1, b1, hA, y0, y1⟩ := (Rd.owns HO2.out).mz hk1
          injection hA with hA
          injection hA with hA1 hA2
          subst hA1 hA2
          obtain ⟨g1, b1, hA, x0, x1⟩ := (Rd.owns HO2.out).mz hk0
          injection hA with hA
          injection hA with hA1 hA2
          subst hA1 hA2
          have HSW := Lib.hid (swap_perm2 hqk hk1)
          have hyin : ys[q] ∈ xs := HP2.out.mem_iff.1 (List.getElem_mem hk1)
          have hxin : ys[k] ∈ xs := HP2.out.mem_iff.1 (List.getElem_mem hk0)
          have HC := Lib.hid (fun W' (hb : Below B w W') => HP.out W' ys[q] ys[k] hyin hxin hb)
          obtain ⟨⟨ya, yb⟩, hyy⟩ : ∃ u, ys[q] = u := ⟨_, rfl⟩
          obtain ⟨⟨xa, xb⟩, hxx⟩ : ∃ u, ys[k] = u := ⟨_, rfl⟩
          rw [hyy] at y0 y1 HSW HC
          rw [hxx] at x0 x1 HSW HC
          simp only [Nat.zero_add] at x0 x1 y0 y1 HC
          have kn1 : (q : Int) < (n : Int) := by omega
          have kn0 : (k : Int) < (n : Int) := by omega
          have k0 : (0 : Int) ≤ (q : Int) := by omega
          have k00 : (0 : Int) ≤ (k : Int) := by omega
          have wk : IntKind.i64.wrap ((q : Int) - 1) = (k : Int) := by rw [IntWalk.i64_in _ (by omega)]; omega
          have bq : (a : Int) < (q : Int) := by omega
          have HQK := Lib.hid hqk
          clear hk1 hk0 hyin hxin hyy hxx hqk
          go_wp2_with fail
          have hS : wr.drew.cell? ⟨gb, k * 2, none⟩ = some (.int .i64 xa) ∧ wr.drew.cell? ⟨gb, k * 2 + 1, none⟩ = some (.int .i64 xb) ∧ wr.drew.cell? ⟨gb, q * 2, none⟩ = some (.int .i64 ya) ∧ wr.drew.cell? ⟨gb, q * 2 + 1, none⟩ = some (.int .i64 yb) ∧ wr.drew.ownsRow B 48 2 (.slice (some ⟨gb, 0, none⟩) n c) n (mzL ys) ∧ Below B w wr.drew := ⟨x0, x1, y0, y1, own_next HO2.out (Below.refl _ _).drew, HB2.out.drew⟩
          have hg2 : decide ((a : Int) < (q : Int)) = true := by rw [decide_eq_true_eq]; exact bq
          go_region_held3 (fun W => W.cell? ⟨gb, k * 2, none⟩ = some (.int .i64 xa) ∧ W.cell? ⟨gb, k * 2 + 1, none⟩ = some (.int .i64 xb) ∧ W.cell? ⟨gb, q * 2, none⟩ = some (.int .i64 ya) ∧ W.cell? ⟨gb, q * 2 + 1, none⟩ = some (.int .i64 yb) ∧ W.ownsRow B 48 2 (.slice (some ⟨gb, 0, none⟩) n c) n (mzL ys) ∧ Below B w W)
            (first | exact hS | with_reducible assumption | exact sort_keep (by assumption) hb2 hBw)
            (first | (refine (HC.out _ (by first | exact HB2.out.drew | (rename_i hSS; exact hSS.2.2.2.2.2))).mono ?_; rintro e w2 ⟨cv, rfl, hb2⟩))
          have hs2 : w2.cell? ⟨gb, k * 2, none⟩ = some (.int .i64 xa) ∧ w2.cell? ⟨gb, k * 2 + 1, none⟩ = some (.int .i64 xb) ∧ w2.cell? ⟨gb, q * 2, none⟩ = some (.int .i64 ya) ∧ w2.cell? ⟨gb, q * 2 + 1, none⟩ = some (.int .i64 yb) ∧ w2.ownsRow B 48 2 (.slice (some ⟨gb, 0, none⟩) n c) n (mzL ys) ∧ Below B w w2 := by assumption
          obtain ⟨x0, x1, y0, y1, ho3, hb3⟩ := hs2
          have HO3 := Lib.hid ho3
          have HB3 := Lib.hid hb3
          have f0 := own_frozen ho3 (k * 2)
          have f1 := own_frozen ho3 (k * 2 + 1)
          have f2 := own_frozen ho3 (q * 2)
          have f3 := own_frozen ho3 (q * 2 + 1)
          clear ho3 hb3 hS hg2
          by_cases hcv : cv < 0
          · go_wp2_with fail
            have h1 := (World.ownsRow.stored HO3.out (q * 2) (iv xa)).1
            have h2 := (World.ownsRow.stored h1 (q * 2 + 1) (iv xb)).1
            have e := mzL_set ys q (xa, xb) (by rw [HYN.out]; omega)
            simp only at e
            rw [e] at h2
            have hkz : k < (ys.set q (xa, xb)).length := by rw [List.length_set, HYN.out]; omega
            obtain ⟨g1, b1, hA, z0, z1⟩ := (Rd.owns h2).mz hkz
            injection hA with hA
            injection hA with hA1 hA2
            subst hA1 hA2
            simp only [Nat.zero_add] at z0 z1
            have f4 := own_frozen h2 (k * 2)
            have f5 := own_frozen h2 (k * 2 + 1)
            have h3 := (World.ownsRow.stored h2 (k * 2) (iv ya)).1
            have h4 := (World.ownsRow.stored h3 (k * 2 + 1) (iv yb)).1
            have e2 := mzL_set (ys.set q (xa, xb)) k (ya, yb) hkz
            simp only at e2
            rw [e2] at h4
            have HO5 := Lib.hid h4
            have Z0 : ((w2.setCell ⟨gb, q * 2, none⟩ (.int .i64 xa)).setCell ⟨gb, q * 2 + 1, none⟩ (.int .i64 xb)).drew.cell? ⟨gb, k * 2, none⟩ = some (.int .i64 ((ys.set q (xa, xb))[k]'hkz).1) := z0
            have Z1 : ((w2.setCell ⟨gb, q * 2, none⟩ (.int .i64 xa)).setCell ⟨gb, q * 2 + 1, none⟩ (.int .i64 xb)).drew.cell? ⟨gb, k * 2 + 1, none⟩ = some (.int .i64 ((ys.set q (xa, xb))[k]'hkz).2) := z1
            have F4 : ((w2.setCell ⟨gb, q * 2, none⟩ (.int .i64 xa)).setCell ⟨gb, q * 2 + 1, none⟩ (.int .i64 xb)).drew.frozen? ⟨gb, k * 2, none⟩ = false := f4
            have F5 : ((w2.setCell ⟨gb, q * 2, none⟩ (.int .i64 xa)).setCell ⟨gb, q * 2 + 1, none⟩ (.int .i64 xb)).drew.frozen? ⟨gb, k * 2 + 1, none⟩ = false := f5
            have n0 : ¬ q * 2 = k * 2 := by have := HQK.out; omega
            have n1 : ¬ q * 2 + 1 = k * 2 := by have := HQK.out; omega
            have n2 : ¬ q * 2 = k * 2 + 1 := by have := HQK.out; omega
            have n4 : ¬ k * 2 = q * 2 := by have := HQK.out; omega
            have n5 : ¬ k * 2 = q * 2 + 1 := by have := HQK.out; omega
            have n6 : ¬ k * 2 + 1 = q * 2 := by have := HQK.out; omega
            have n7 : ¬ k = q := by have := HQK.out; omega
            have n8 : ¬ q = k := by have := HQK.out; omega
            clear h1 h2 h3 h4 e e2 z0 z1 f4 f5
            have mixed : Tryz.prog.follows Departure.mixedOrders = true := by kernel_rfl
            go_big_region_o
            all_goals go_wp2
            go_roundw
            case rel =>
              refine ⟨k, (ys.set q (xa, xb)).set k (ya, yb), by first | rfl | go_num, by have := HQK.out; omega, HSW.out.trans HP2.out, own_next HO5.out (Below.refl _ _).drew, ?_⟩
              exact ((((HB3.out.setCell (p := ⟨gb, q * 2, none⟩) hgB _).setCell (p := ⟨gb, q * 2 + 1, none⟩) hgB _).setCell (p := ⟨gb, k * 2, none⟩) hgB _).setCell (p := ⟨gb, k * 2 + 1, none⟩) hgB _).drew
            case measure =>
              have := HQK.out
              simp [intOf]
              omega
          · have hcv2 : ¬ cv < 0 := hcv
            go_wp2_with fail
            go_roundw
            case rel => exact ⟨j + 1, ys, by go_num, by omega, HP2.out, HO3.out, HB3.out⟩
            case measure => simp [intOf]; omega
        · have bq : decide ((a : Int) < (q : Int)) = false := by rw [decide_eq_false_iff_not]; omega
          go_wp2_with fail
          go_quiet (fail)
          go_wp2_with fail
          go_roundw
          case rel => exact ⟨j + 1, ys, by go_num, by omega, HP2.out, own_next HO2.out (below_drewN (Below.refl _ _) _), below_drewN HB2.out _⟩
          case measure => simp [intOf]; omega
    · have bj : ¬ (j : Int) < (b : Int) := by omega
      go_wp2
      exact bodyPost_end (results_none rfl _ _ _) rfl ⟨rfl, zs, HPM.out, HOW.out, HBB.out⟩
/-- What is put in an order. -/
def SortedOf (B : Nat) (v : Value) (n : Nat) (xs : List (Int × Int)) (w : World) (e : Ending) (w' : World) : Prop := e = .returned (.tuple #[]) ∧ ∃ zs : List (Int × Int), zs.Perm xs ∧ w'.ownsRow B 48 2 v n (mzL zs) ∧ Below B w w'
set_option maxRecDepth 100000 in
set_option maxHeartbeats 4000000 in
theorem minsert_none (fv : Value) (a b : Nat) (w : World) (hab : b ≤ a) (ha : a ≤ 1000000) : Calls Tryz.prog 215 #[.slice none 0 0, .int .i64 a, .int .i64 b, fv] w fun e w' => e = .returned (.tuple #[]) ∧ Below w.heap.size w w' := by
  have wa1 : IntKind.i64.wrap ((a : Int) + 1) = (((a + 1 : Nat)) : Int) := by rw [IntWalk.i64_in _ (by omega)]; rfl
  have hb : ¬ (((a + 1 : Nat)) : Int) < (b : Int) := by omega
  go_enter Tryz.func215, Tryz.ntmps215
  go_wp2
  go_loopw [8] (fun i wr => i = .int .i64 ((a + 1 : Nat) : Int) ∧ Below w.heap.size w wr) (fun _ _ => 0)
  case atStart => exact ⟨by first | rfl | go_num, Below.refl _ _⟩
  case round =>
    obtain ⟨rfl, hB⟩ := hrel
    have hb2 : ¬ (a : Int) + 1 < (b : Int) := by omega
    go_wp2
    exact bodyPost_end (results_none rfl _ _ _) rfl ⟨rfl, hB⟩
theorem minsert_own (g : FuncId) (lb : Array Value) (eg : ∀ args w, (callFunc g args).run Tryz.prog w = .ok (.enter g args) w) (v : Value) (n : Nat) (xs : List (Int × Int)) (a b : Nat) (B : Nat) (w : World) (hp : CmpOn g lb xs B w) (hrow : w.ownsRow B 48 2 v n (mzL xs)) (hn : xs.length = n) (h9 : n ≤ 1000000) (ha : a ≤ 1000000) (hab : b ≤ n) (hBw : B ≤ w.heap.size) :
    Calls Tryz.prog 215 #[v, .int .i64 a, .int .i64 b, .func (.func g) #[] lb] w (SortedOf B v n xs w) := by
  rcases hrow.2 with ⟨rfl, rfl⟩ | ⟨gb, cap, cur, rfl, hgb, hc, h1, h2, h3, h4⟩
  · obtain rfl : b = 0 := by omega
    refine (minsert_none _ a 0 w (Nat.zero_le _) ha).mono ?_
    rintro e w' ⟨rfl, hb⟩
    exact ⟨rfl, xs, List.Perm.refl _, own_next hrow hb, hb.mono hBw⟩
  · exact minsert_any g lb eg gb n cap xs a b B w hp hrow hn h9 ha hab hBw
set_option maxRecDepth 100000 in
set_option maxHeartbeats 4000000 in
theorem mstable_few (g : FuncId) (lb : Array Value) (eg : ∀ args w, (callFunc g args).run Tryz.prog w = .ok (.enter g args) w) (v : Value) (n : Nat) (xs : List (Int × Int)) (B : Nat) (w : World) (hp : CmpOn g lb xs B w) (hrow : w.ownsRow B 48 2 v n (mzL xs)) (hn : xs.length = n) (h20 : n ≤ 20) (hBw : B ≤ w.heap.size) :
    Calls Tryz.prog 189 #[v, .int .i64 n, .func (.func g) #[] lb] w (SortedOf B v n xs w) := by
  have HP := Lib.hid hp
  have HR := Lib.hid hrow
  have HN := Lib.hid hn
  have hnb : ¬ (20 : Int) < (n : Int) := by omega
  clear hp hrow hn
  go_enter Tryz.func189, Tryz.ntmps189
  go_wp2_with fail
  go_loopw [7, 8] (fun a' b' wr => ∃ (i j : Nat) (zs : List (Int × Int)), a' = .int .i64 (i : Int) ∧ b' = .int .i64 (j : Int) ∧ ((i = 0 ∧ j = 20) ∨ (i = 20 ∧ j = 40)) ∧ zs.Perm xs ∧ wr.ownsRow B 48 2 v n (mzL zs) ∧ Below B w wr) (fun _ b' _ => n + 20 - (intOf b').toNat)
  case atStart => exact ⟨0, 20, xs, rfl, rfl, .inl ⟨rfl, rfl⟩, List.Perm.refl _, HR.out, Below.refl _ _⟩
  case round =>
    obtain ⟨i, j, zs, rfl, rfl, hij, hperm, hown, hB⟩ := hrel
    have HIJ := Lib.hid hij
    have HPM := Lib.hid hperm
    have HOW := Lib.hid hown
    have HBB := Lib.hid hB
    have HPZ := Lib.hid ((HP.out.perm hperm).later hB)
    have HLZ : Hid (zs.length = n) := by show _ = _; rw [hperm.length_eq, HN.out]
    have hi : i ≤ 20 := by omega
    have HBS : Hid (B ≤ wr.heap.size) := Nat.le_trans hBw hB.size
    clear hij hperm hown hB
    by_cases hlt : j ≤ n
    · have bj : (j : Int) ≤ (n : Int) := by omega
      obtain ⟨rfl, rfl⟩ : i = 0 ∧ j = 20 := by have := HIJ.out; omega
      have HN20 : Hid (n = 20) := by show _ = _; omega
      go_wp2_with fail
      refine (minsert_own g lb eg v n zs 0 20 B wr HPZ.out HOW.out HLZ.out (by omega) (by omega) hlt HBS.out).mono ?_
      rintro e w2 ⟨rfl, ys, hp2, ho2, hb2⟩
      have HP2 := Lib.hid (hp2.trans HPM.out)
      have HO2 := Lib.hid ho2
      have HB2 := Lib.hid (HBB.out.trans hb2)
      clear hp2 ho2 hb2
      go_wp2_with fail
      go_roundw
      case rel => exact ⟨20, 40, ys, by first | rfl | go_num, by first | rfl | go_num, .inr ⟨rfl, rfl⟩, HP2.out, HO2.out, HB2.out⟩
      case measure => simp [intOf]; omega
    · have bj : ¬ (j : Int) ≤ (n : Int) := by omega
      go_wp2_with fail
      refine (minsert_own g lb eg v n zs i n B wr HPZ.out HOW.out HLZ.out (by omega) (by omega) (Nat.le_refl _) HBS.out).mono ?_
      rintro e w2 ⟨rfl, ys, hp2, ho2, hb2⟩
      have HP2 := Lib.hid (hp2.trans HPM.out)
      have HO2 := Lib.hid ho2
      have HB2 := Lib.hid (HBB.out.trans hb2)
      clear hp2 ho2 hb2
      go_wp2_with fail
      go_loopw [6] (fun b' wr' => b' = .int .i64 20 ∧ wr' = w2) (fun _ _ => 0)
      case atStart => exact ⟨rfl, rfl⟩
      case round =>
        obtain ⟨rfl, rfl⟩ := hrel
        go_wp2
        exact bodyPost_end (results_none rfl _ _ _) rfl ⟨rfl, ys, HP2.out, HO2.out, HB2.out⟩
set_option maxHeartbeats 1000000 in
theorem mstablef_few (g : FuncId) (lb : Array Value) (eg : ∀ args w, (callFunc g args).run Tryz.prog w = .ok (.enter g args) w) (v : Value) (n : Nat) (xs : List (Int × Int)) (B : Nat) (w : World) (hp : CmpOn g lb xs B w) (hrow : w.ownsRow B 48 2 v n (mzL xs)) (hn : xs.length = n) (h20 : n ≤ 20) (hBw : B ≤ w.heap.size) :
    Calls Tryz.prog 146 #[v, .func (.func g) #[] lb] w (SortedOf B v n xs w) := by
  have HC := Lib.hid (mstable_few g lb eg v n xs B w hp hrow hn h20 hBw)
  obtain ⟨A', c', rfl, _, _⟩ := own_any hrow
  clear hp hrow hn
  go_enter Tryz.func146, Tryz.ntmps146
  go_wp2_with fail
  refine HC.out.mono ?_
  rintro e w2 ⟨rfl, h⟩
  go_wp2
  exact bodyPost_end (results_none rfl _ _ _) rfl ⟨rfl, h⟩
end Go.Proofs.YtbdgbihdhbjljaaGreatDoor
