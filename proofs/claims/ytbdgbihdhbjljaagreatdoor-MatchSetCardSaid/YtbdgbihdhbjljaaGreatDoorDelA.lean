/- slices.IndexFunc, slices.DeleteFunc at numbers, whatever predicate, which may lay blocks of its own; the first place of a byte. -/
import Derived.Test.YtbdgbihdhbjljaaGreatDoorRowA
import Derived.Test.YtbdgbihdhbjljaaGreatDoorBoardO
import Derived.Test.YtbdgbihdhbjljaaGreatDoorShelf
import Derived.Lib.Bytealg
namespace Go.Proofs.YtbdgbihdhbjljaaGreatDoor
open Go.RowKit Go.Shelf
open M (S)

abbrev encI : Int → List Value := fun x => [iv x]
theorem encI_len (x : Int) : (encI x).length = 1 := rfl
theorem encI_flat (l : List Int) : l.flatMap encI = l.map iv := by
  induction l with
  | nil => rfl
  | cons x l ih => rw [List.flatMap_cons, ih]; rfl
/-- What is asked of a predicate: at the list's own members, in every world in which what lay below the row lies unturned. -/
def PredOn {α : Type} (fn : Nat) (lb : Array Value) (enc : α → Value) (p : α → Bool) (l : List α) (Wb : World) : Prop :=
  ∀ (W : World) (x : α), x ∈ l → Below Wb.heap.size Wb W → Calls Tryz.prog fn (#[enc x] ++ lb) W fun e w' => e = .returned (.bool (p x)) ∧ Below W.heap.size W w'
/-- The first place at which a predicate holds, or none. -/
def FirstAt {α : Type} (p : α → Bool) (l : List α) (e : Ending) : Prop :=
  (e = .returned (.int .i64 (-1)) ∧ ∀ x ∈ l, p x = false) ∨ ∃ (i : Nat) (hi : i < l.length), e = .returned (.int .i64 (i : Int)) ∧ p l[i] = true ∧ ∀ t (ht : t < i), p l[t] = false
set_option maxHeartbeats 2000000 in
theorem idx_ints (l : List Int) (p : Int → Bool) (fn : Nat) (lb : Array Value) (eg : ∀ args w, (callFunc fn args).run Tryz.prog w = .ok (.enter fn args) w) (g n cap : Nat) (Wb W : World) (hp : PredOn fn lb iv p l Wb) (hr : RowAt W Wb.heap.size 3 1 g n cap (l.map iv)) (hn : l.length = n) (hm : n ≤ 1000000) (hb : Below Wb.heap.size Wb W) :
    Calls Tryz.prog 193 #[.slice (some ⟨g, 0, none⟩) n cap, .func (.func fn) #[] lb] W fun e w' => FirstAt p l e ∧ Below W.heap.size W w' := by
  have HN := Lib.hid hn
  have HP := Lib.hid hp
  clear hn hp
  go_enter Tryz.func193, Tryz.ntmps193
  go_wp2
  go_loopg [5, 8] n (fun gg _ s8 wr => ∃ kk : Nat, kk ≤ n ∧ n - kk ≤ gg ∧ s8 = .int .i64 kk ∧ Below W.heap.size W wr ∧ Hid (∀ j (hj : j < l.length), j < kk → p l[j] = false))
  case atStart => exact ⟨0, Nat.zero_le _, by omega, rfl, Below.refl _ _, fun j _ hj => absurd hj (Nat.not_lt_zero _)⟩
  case round =>
    obtain ⟨kk, hkk, hg, rfl, BW, NO⟩ := hrel
    by_cases hlt : kk < n
    · have hltz : (kk : Int) < (n : Int) := by omega
      have hkl : kk < l.length := by rw [HN.out]; exact hlt
      have hR := hr.next BW
      have hcell : wr.cell? ⟨g, kk, none⟩ = some (iv l[kk]) := by
        rw [hR.cell (by omega), List.getElem?_map, List.getElem?_eq_getElem hkl]
        rfl
      have hcall := HP.out wr l[kk] (List.getElem_mem hkl) (hb.trans (BW.mono hb.size))
      obtain ⟨y, hy⟩ : ∃ y, l[kk] = y := ⟨_, rfl⟩
      have HY := Lib.hid hy
      rw [hy] at hcell hcall
      clear hy hR
      cases hq : p y
      · rw [hq] at hcall
        have HQ := Lib.hid hq
        clear hq
        go_wp2_with fail
        go_at_fn fn
        refine hcall.mono ?_
        rintro e w' ⟨rfl, hb'⟩
        go_wp2_with fail
        go_roundg (n - (kk + 1))
        case measure => omega
        case rel =>
          refine ⟨kk + 1, by omega, by omega, by go_num, BW.trans (hb'.mono BW.size), ?_⟩
          show ∀ j (hj : j < l.length), j < kk + 1 → _
          intro j hj hjk
          by_cases e : j = kk
          · subst e
            rw [HY.out]
            exact HQ.out
          · exact NO.out j hj (by omega)
      · rw [hq] at hcall
        have HQ := Lib.hid hq
        clear hq
        go_wp2_with fail
        go_at_fn fn
        refine hcall.mono ?_
        rintro e w' ⟨rfl, hb'⟩
        go_wp2_with fail
        go_ret
        exact ⟨.inr ⟨kk, hkl, rfl, by rw [HY.out]; exact HQ.out, fun t ht => NO.out t (by omega) ht⟩, BW.trans (hb'.mono BW.size)⟩
    · have hltz : ¬ (kk : Int) < (n : Int) := by omega
      obtain rfl : kk = n := by omega
      go_wp2
      go_ret
      refine ⟨.inl ⟨rfl, fun x hx => ?_⟩, BW⟩
      obtain ⟨j, hj, rfl⟩ := List.mem_iff_getElem.1 hx
      exact NO.out j hj (by rw [← HN.out]; exact hj)
set_option maxRecDepth 100000 in
set_option maxHeartbeats 4000000 in
theorem del_ints (l : List Int) (p : Int → Bool) (fn : Nat) (lb : Array Value) (eg : ∀ args w, (callFunc fn args).run Tryz.prog w = .ok (.enter fn args) w) (v : Value) (n : Nat) (Wb W : World) (hp : PredOn fn lb iv p l Wb) (hown : W.ownsRow Wb.heap.size 3 1 v n (l.map iv)) (hn : l.length = n) (hm : n ≤ 1000000) (hb : Below Wb.heap.size Wb W) :
    Calls Tryz.prog 160 #[v, .func (.func fn) #[] lb] W fun e w' => ∃ v', e = .returned v' ∧ w'.ownsRow Wb.heap.size 3 1 v' (l.filter fun x => !p x).length ((l.filter fun x => !p x).map iv) ∧ Below Wb.heap.size Wb w' := by
  rcases row_of_own hown with ⟨rfl, rfl⟩ | ⟨g, cap, rfl, hrow⟩
  · have hl : l = [] := List.eq_nil_of_length_eq_zero hn
    subst hl
    clear hown hn
    go_enter Tryz.func160, Tryz.ntmps160
    go_wp2_with fail
    refine (Tryz.slices_IndexFunc_empty (α := Fin 90) none 0 _ _).mono ?_
    rintro e w1 ⟨rfl, rfl⟩
    go_wp2
    go_ret
    exact ⟨_, rfl, by simpa using World.ownsRow_nil _ _ 3 1, hb⟩
  · have HP := Lib.hid hp
    have HN := Lib.hid hn
    have hidx := Lib.hid (idx_ints l p fn lb eg g n cap Wb W hp hrow hn hm hb)
    have hcap : n ≤ cap := hrow.2.2.1
    have hmax : cap ≤ maxLen := hrow.2.2.2.1
    clear hown hp hn
    go_enter Tryz.func160, Tryz.ntmps160
    go_wp2_with fail
    refine hidx.out.mono ?_
    rintro e w1 ⟨hres, hb1⟩
    have hrow1 := hrow.next hb1
    have hB1 := hb.trans (hb1.mono hb.size)
    rcases hres with ⟨rfl, hall⟩ | ⟨i0, hi0, rfl, ht, hne⟩
    · have hf : (l.filter fun x => !p x) = l := by
        rw [List.filter_eq_self]
        intro a ha
        rw [hall a ha]
        rfl
      have HF := Lib.hid hf
      clear hall hf
      go_wp2
      go_ret
      exact ⟨_, rfl, by rw [HF.out, HN.out]; exact hrow1.own, hB1⟩
    · have hi0n : i0 < n := by rw [← HN.out]; exact hi0
      have hmid := Lib.hid (Mid.start (enc := encI) (k := 1) encI_len hi0 ht hne)
      rw [encI_flat] at hmid
      have hne1 : ((i0 : Int) == -1) = false := by rw [beq_eq_false_iff_ne]; omega
      clear ht hne hi0
      go_wp2_with fail
      go_loopg [5, 6, 7] n (fun gg s5 s6 _ wr => ∃ (i j : Nat) (xs : List Value), s5 = .int .i64 i ∧ s6 = .int .i64 j ∧ j ≤ n ∧ n - j ≤ gg ∧ i < j ∧ RowAt wr Wb.heap.size 3 1 g n cap xs ∧ Hid (Mid encI 1 p l i j xs) ∧ Below Wb.heap.size Wb wr)
      case atStart => exact ⟨i0, i0 + 1, _, rfl, by go_num, by omega, by omega, by omega, hrow1, hmid, hB1⟩
      case round =>
        obtain ⟨i, j, xs, rfl, rfl, hjn, hgg, hij, hR, HM, hB⟩ := hrel
        by_cases hlt : j < n
        · have hltz : (j : Int) < (n : Int) := by omega
          have hjl : j < l.length := by rw [HN.out]; exact hlt
          obtain ⟨y, hy⟩ : ∃ y, l[j] = y := ⟨_, rfl⟩
          have hcj : wr.cell? ⟨g, j, none⟩ = some (iv y) := by
            rw [hR.cell (by omega)]
            have := HM.out.at_ encI_len hjl (o := 0) (by omega)
            rw [Nat.mul_one, Nat.add_zero] at this
            rw [this, hy]
            rfl
          have hcall := HP.out wr l[j] (List.getElem_mem hjl) hB
          rw [hy] at hcall
          have HY := Lib.hid hy
          clear hy
          cases hq : p y
          · rw [hq] at hcall
            have hk2 := Lib.hid (HM.out.keep encI_len hij hjl (by rw [HY.out]; exact hq))
            rw [HY.out] at hk2
            clear hq
            go_wp2_with fail
            go_at_fn fn
            refine hcall.mono ?_
            rintro e w' ⟨rfl, hb'⟩
            have hR' := hR.next hb'
            have hB' := hB.trans (hb'.mono hB.size)
            obtain ⟨old, hold⟩ : ∃ old, w'.cell? ⟨g, i, none⟩ = some old := by
              rw [hR'.cell (by omega)]
              exact ⟨_, List.getElem?_eq_getElem (by rw [hR'.1]; omega)⟩
            have hfz := hR'.frozen i
            have hi0' : (0 : Int) ≤ (i : Int) := by omega
            have hin' : (i : Int) < (n : Int) := by omega
            go_wp2_with fail
            go_roundg (n - (j + 1))
            case measure => omega
            case rel =>
              refine ⟨i + 1, j + 1, _, by go_num, by go_num, by omega, Nat.le_refl _, by omega, hR'.set i (iv y), ?_, hR'.below hB' i _⟩
              have := hk2.out
              rw [Nat.mul_one] at this
              exact this
          · rw [hq] at hcall
            have hk2 := Lib.hid (HM.out.skip encI_len hjl (by rw [HY.out]; exact hq))
            clear hq
            go_wp2_with fail
            go_at_fn fn
            refine hcall.mono ?_
            rintro e w' ⟨rfl, hb'⟩
            go_wp2_with fail
            go_roundg (n - (j + 1))
            case measure => omega
            case rel => exact ⟨i, j + 1, xs, rfl, by go_num, by omega, Nat.le_refl _, by omega, hR.next hb', hk2, hB.trans (hb'.mono hB.size)⟩
        · obtain rfl : j = n := by omega
          have hltz : ¬ (j : Int) < (j : Int) := by omega
          have hdone := HM.out
          rw [show j = l.length from HN.out.symm] at hdone
          obtain ⟨hi1, hi2⟩ := hdone.done encI_len
          rw [Nat.mul_one, encI_flat] at hi2
          have HI1 := Lib.hid hi1
          have HI2 := Lib.hid hi2
          obtain ⟨ys, hR2, hy2, hB2⟩ := RowAt.sets (List.replicate (j - i) (.int .i64 0)) i wr xs hR hB
          have HR2 := Lib.hid hR2
          have HB2 := Lib.hid hB2
          have hcl : ∀ ty, (Builtin.clear_ #[106] ty #[.slice (some ⟨g, i, none⟩) (j - i) (cap - i)]).run Tryz.prog wr = .ok (.tuple #[]) (wr.setCells g i (List.replicate (j - i) (.int .i64 0))) :=
            fun ty => Lib.run_clear_slice wr _ _ ty _ Tryz.underlying106 Tryz.zeroValue3 rfl rfl g i _ _ (by omega) (fun t ht => by rw [hR.cell (by omega), List.getElem?_eq_getElem (by rw [hR.1]; omega)]; rfl) (fun t _ => hR.frozen _)
          have hi0' : (0 : Int) ≤ (i : Int) := by omega
          have hin' : (i : Int) ≤ (j : Int) := by omega
          clear hdone hi1 hi2 hR2 hB2
          go_wp2
          go_ret
          refine ⟨_, rfl, ?_, HB2.out⟩
          have hcut := HR2.out.cut (i := i) (by omega)
          rw [Nat.mul_one, hy2, HI2.out, HI1.out] at hcut
          have := hcut.own
          rw [← HI1.out] at this ⊢
          exact this
set_option maxHeartbeats 1000000 in
set_option maxRecDepth 100000 in
theorem lite_index (s : ByteArray) (c : Int) (w : World) : Calls Tryz.prog 202 #[.string s, .int .u8 c] w (fun e w' => e = .returned (.int .i64 (Lib.indexByte s.data.toList c.toNat.toUInt8)) ∧ w = w') := by
  go_enter Tryz.func202, Tryz.ntmps202
  go_wp2
  rw [run_callFunc_extern Tryz.func230 (by kernel_rfl) (by kernel_rfl) (by kernel_rfl) (e := Extern.BytealgIndexByte.indexByte) (by kernel_rfl), Lib.run_indexByteString]
  simp only [Result.andThen]
  rw [Oper.upon_value]
  go_wp2
  go_ret
  exact ⟨rfl, rfl⟩
theorem byte_index (s : ByteArray) (c : Int) (w : World) : Calls Tryz.prog 167 #[.string s, .int .u8 c] w (fun e w' => e = .returned (.int .i64 (Lib.indexByte s.data.toList c.toNat.toUInt8)) ∧ w = w') := by
  go_enter Tryz.func167, Tryz.ntmps167
  go_wp2_with fail
  refine (lite_index s c _).mono ?_
  rintro e w1 ⟨rfl, rfl⟩
  go_wp2
  go_ret
  exact ⟨rfl, rfl⟩
end Go.Proofs.YtbdgbihdhbjljaaGreatDoor
