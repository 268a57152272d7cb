/- What Words answers: a line's words. -/
import Derived.Test.YtpogpjebhnoncabGreatDoorLineA
import Derived.Test.YtpogpjebhnoncabGreatDoorFenQ3
namespace Go.Proofs.YtpogpjebhnoncabGreatDoor
open Go.RowKit Go.Shelf Go.Proofs.YtpogpjebhnoncabGreatDoor.Ln
open M (S)

theorem pre_one {c b : UInt8} {r : List UInt8} (h : b ≠ c) : ([c] : List UInt8).isPrefixOf (b :: r) = false := by
  simp [List.isPrefixOf, Ne.symm h]
theorem tabs_map : ∀ s : List UInt8, F.repl [9] [32] s = s.map tb
  | [] => F.repl_nil (by simp)
  | b :: r => by
    by_cases h : b = 9
    · subst h
      rw [F.repl_hit (by simp) (F.index_pre (by simp [List.isPrefixOf]) (by simp))]
      show [32] ++ F.repl [9] [32] r = _
      rw [tabs_map r]
      rfl
    · rw [F.repl_skip (by simp) (pre_one h), tabs_map r, List.map_cons, tb_id h]
theorem tabs_any (s : List UInt8) (w : World) (hE : Env w) (hs : s.length ≤ 4096) : Calls Tryz.prog 32 #[.string (bs s), .string ⟨#[9]⟩, .string ⟨#[32]⟩] w (Gives w (.string (bs (s.map tb)))) := by
  obtain ⟨m, hm⟩ := hE.max
  have hc := countB_small (bs s) ⟨#[9]⟩ (Nat.le_refl 1)
  rw [bs_size] at hc
  refine (Tryz.strings_ReplaceAll (bs s) ⟨#[9]⟩ ⟨#[32]⟩ m w (by rw [bs_size]; omega) hm (Nat.le_refl 1) ?_).mono fun e w' ⟨he, hb⟩ => ⟨?_, hb⟩
  · rw [bs_size]
    show s.length + Lib.countB (bs s) ⟨#[9]⟩ * 1 ≤ _
    omega
  · rw [he, bs_data]
    show Ending.returned (.string (bs (Lib.replaceAll s [9] [32]))) = _
    rw [F.replaceAll_repl (by decide), tabs_map]
theorem count_cut : ∀ (n : Nat) (s : List UInt8), s.length ≤ n → Lib.count s [32] + 1 = (F.cutL 32 s).length := fun n => by
  induction n with
  | zero =>
    intro s h
    have : s = [] := List.length_eq_zero_iff.1 (by omega)
    subst this
    rw [Lib.count_miss (F.index_no (by simp))]
    rfl
  | succ n ih =>
    intro s h
    rcases F.cut_cases 32 s with hn | ⟨a, b, ha, rfl⟩
    · rw [Lib.count_miss (F.index_no hn), F.cutL_no hn]
      rfl
    · have hd : (a ++ 32 :: b).drop (a.length + ([32] : List UInt8).length) = b := by simp [List.drop_append]
      rw [Lib.count_hit (by simp) (F.index_app ha b), hd, F.cutL_app ha]
      have := ih b (by simp at h; omega)
      show _ = (F.cutL 32 b).length + 1
      omega
theorem splitall_is (t : List UInt8) (w : World) (hE : Env w) (ht : t.length < 4294967281) (ys : List (List UInt8)) (hy : F.cutL 32 t = ys) (n : Nat) (hn : ys.length = n) : Calls Tryz.prog 31 #[.string (bs t), .string ⟨#[32]⟩] w (GivesA w ys n) := by
  obtain ⟨m, hm⟩ := hE.max
  subst hn
  refine (Tryz.strings_Split (bs t) ⟨#[32]⟩ m w (by rw [bs_size]; exact ht) hm (Nat.le_refl 1)).mono ?_
  rintro e w' ⟨rfl, rfl⟩
  have hc : Lib.countB (bs t) ⟨#[32]⟩ + 1 = ys.length := by
    rw [← hy, ← count_cut _ t (Nat.le_refl _)]
    show Lib.count (bs t).data.toList [32] + 1 = _
    rw [bs_data]
  obtain ⟨k, hk⟩ : ∃ k, Lib.countB (bs t) ⟨#[32]⟩ = k := ⟨_, rfl⟩
  rw [hk] at hc ⊢
  have hd := Lib.splitB_data ⟨#[32]⟩ 0 k (bs t)
  rw [bs_data] at hd
  replace hd : _ = Lib.splitK [32] 0 k t := hd
  rw [(F.splitK_cut 32 k t).1 (by rw [hy]; omega), hy] at hd
  refine ⟨w.heap.size, k + 1, by rw [hc], ⟨by omega, Nat.le_refl _⟩, fun j u hu => ⟨⟨w.heap.size, 0, none⟩, rfl, ?_⟩, (by repeat (first | exact Below.refl _ _ | (refine Below.setCell ?_ (by first | omega | (simp; done) | (simp; omega) | (simp at *; omega)) _) | (refine Below.alloc ?_ (by first | omega | (simp; done) | (simp; omega) | (simp at *; omega)) _) | refine Below.drew ?_ | (refine below_drewN ?_ _) | (refine Below.trans ?_ (Below.mono (by assumption) (by first | omega | (simp; done) | (simp; omega) | (simp at *; omega))))))⟩
  have hk2 : (((Lib.splitB ⟨#[32]⟩ 0 k (bs t)).map Value.string).toArray)[j]? = some u := by
    rw [List.getElem?_toArray, ← hu, ← hd, List.map_map]
    exact congrArg (·[j]?) (List.map_congr_left fun x _ => congrArg Value.string (bs_back x).symm)
  have hb := (Blk.new w 9 (((Lib.splitB ⟨#[32]⟩ 0 k (bs t)).map Value.string).toArray) rfl).cell j
  rw [hk2] at hb
  rw [show (⟨w.heap.size, 0, none⟩ : Addr).add j = ⟨w.heap.size, j, none⟩ by simp [Addr.add]; exact Eq.symm]
  exact hb
set_option maxRecDepth 100000 in
set_option maxHeartbeats 4000000 in
theorem without_is (g c n : Nat) (l : List (List UInt8)) (w : World) (hr : Rd w (some ⟨g, 0, none⟩) (l.map sv)) (hn : l.length = n) (hl : n ≤ 100000) : Calls Tryz.prog 30 #[.slice (some ⟨g, 0, none⟩) n c, .string ⟨#[]⟩] w fun e w' => ∃ v, e = .returned v ∧ w'.ownsRow w.heap.size 9 1 v (l.filter full).length ((l.filter full).map sv) ∧ Below w.heap.size w w' := by
  obtain ⟨i0, hi, hz0, hz1, hz2⟩ := info_parts info_str
  go_enter Tryz.func30, Tryz.ntmps30
  go_wp2_with fail
  have H := Lib.hid hr
  have HN := Lib.hid hn
  clear hr hn
  go_loopw [10, 5] (fun i v wr => ∃ k : Nat, i = .int .i64 k ∧ k ≤ n ∧ wr.ownsRow w.heap.size 9 1 v ((l.take k).filter full).length (((l.take k).filter full).map sv) ∧ Below w.heap.size w wr) (fun i _ _ => n - (intOf i).toNat)
  case atStart => exact ⟨0, rfl, Nat.zero_le _, by simpa using World.ownsRow_nil w w.heap.size 9 1, Below.refl _ _⟩
  case round =>
    obtain ⟨k, rfl, hk, hown, hB⟩ := hrel
    have hbs := hB.size
    by_cases hlt : k < n
    · have hkl : k < l.length := by rw [HN.out]; exact hlt
      obtain ⟨x, hx⟩ : ∃ x, l[k] = x := ⟨_, rfl⟩
      have hx? : l[k]? = some x := by rw [List.getElem?_eq_getElem hkl, hx]
      have e0 := rd_at H.out k x hx?
      rw [Nat.zero_add] at e0
      replace e0 := (hB.cell (cell_lt e0)).trans e0
      have bk : (k : Int) < (n : Int) := by omega
      have htk : l.take (k + 1) = l.take k ++ [x] := by rw [List.take_add_one, hx?]; rfl
      obtain ⟨d, hd⟩ : ∃ d, (l.take k).filter full = d := ⟨_, rfl⟩
      rw [hd] at hown
      have hdl : d.length ≤ k := by rw [← hd]; exact Nat.le_trans (List.length_filter_le _ _) (by rw [List.length_take]; omega)
      cases hf : full x with
      | true =>
        have HX : Hid ((l.take (k + 1)).filter full = d ++ [x]) := by
          show _ = _
          rw [htk, List.filter_append, hd, List.filter_cons, if_pos hf]
          rfl
        have em : (bs x).toList.isEmpty = false := by
          rw [Lib.toList_data, bs_data]
          cases x with
          | nil => cases hf
          | cons _ _ => rfl
        clear hx hx? htk hd hf
        go_wp2_with (at_builtin; refine wpList_append_own _ rfl _ _ 38 rfl w.heap.size 9 i0 (.string ⟨#[]⟩) 1 16 Tryz.underlying38 hi hz0 hz1 hz2 rfl (by decide) _ _ _ rfl (hown.alloc _) ⟨wr.heap.size, 0, none⟩ 1 1 [sv x] rfl rfl (cell_one_new _ _ _) (by simp [Value.oneCell']) (by unfold maxLen; omega) (by omega) (by simp; omega) ?_; intro v' w1 hown' hgrow _)
        go_roundw
        case rel => exact ⟨k + 1, by go_num, by omega, by rw [HX.out]; simpa using hown', below_app hB hbs hown hgrow⟩
        case measure => simp [intOf]; omega
      | false =>
        have HX : Hid ((l.take (k + 1)).filter full = d) := by
          show _ = _
          rw [htk, List.filter_append, hd, List.filter_cons, if_neg (by rw [hf]; simp)]
          simp
        have em : (bs x).toList.isEmpty = true := by
          rw [Lib.toList_data, bs_data]
          cases x with
          | nil => rfl
          | cons _ _ => cases hf
        clear hx hx? htk hd hf
        go_wp2_with fail
        go_roundw
        case rel => exact ⟨k + 1, by go_num, by omega, by rw [HX.out]; exact hown, hB⟩
        case measure => simp [intOf]; omega
    · obtain rfl : k = n := by omega
      have hall : l.take k = l := List.take_of_length_le (by rw [HN.out]; exact Nat.le_refl _)
      rw [hall] at hown
      have bk : ¬ (k : Int) < (k : Int) := by omega
      go_wp2_with fail
      go_ret
      exact ⟨_, rfl, hown, hB⟩
end Go.Proofs.YtpogpjebhnoncabGreatDoor
