/- What the document's plain answers of layer 4 come to: a rank's squares. -/
import Derived.Test.YtcnaejmhifedfaaGreatDoorFenR3
namespace Go.Proofs.YtcnaejmhifedfaaGreatDoor
open Go.RowKit Go.Shelf
open M (S)

/-- A piece's letter, by one that is read. -/
def letN (c : Nat) : Nat := if c = 69 then 66 else if c = 101 then 98 else if c = 72 then 78 else if c = 104 then 110 else c
theorem letN_lt {c : Nat} (h : c < 256) : letN c < 256 := by
  unfold letN
  repeat' split
  all_goals omega
theorem side_kind0 (c : Nat) : (0 ≤ sideN c) ↔ kindN c ≠ 0 := by
  rcases byte_cases c with ⟨kb, kr, _⟩ | rfl | rfl | rfl | rfl | rfl | rfl | rfl | rfl | rfl | rfl | rfl | rfl | rfl | rfl
  · have h1 : sideN c = -1 := by simp [sideN, kb, kr]
    have h2 : kindN c = 0 := by simp [kindN, kb, kr]
    rw [h1, h2]
    decide
  all_goals decide
theorem u8_ne {x n : Nat} (hx : x < 256) (hn : n < 256) (h : x ≠ n) : UInt8.ofNat x ≠ UInt8.ofNat n := fun e => by
  have := congrArg UInt8.toNat e
  rw [F.u8_of _ hx, F.u8_of _ hn] at this
  exact h this
theorem expand1_let (x : Nat) (hx : x < 256) : F.expand1 (UInt8.ofNat x) = if 49 ≤ letN x ∧ letN x ≤ 57 then some (F.dots (letN x - 48)) else if 0 ≤ sideN (letN x) then some [UInt8.ofNat (letN x)] else none := by
  by_cases h1 : x = 69
  · subst h1; rfl
  by_cases h2 : x = 101
  · subst h2; rfl
  by_cases h3 : x = 72
  · subst h3; rfl
  by_cases h4 : x = 104
  · subst h4; rfl
  have hl : letN x = x := by rw [letN, if_neg h1, if_neg h2, if_neg h3, if_neg h4]
  have n1 : UInt8.ofNat x ≠ 69 := u8_ne (n := 69) hx (by decide) h1
  have n2 : UInt8.ofNat x ≠ 101 := u8_ne (n := 101) hx (by decide) h2
  have n3 : UInt8.ofNat x ≠ 72 := u8_ne (n := 72) hx (by decide) h3
  have n4 : UInt8.ofNat x ≠ 104 := u8_ne (n := 104) hx (by decide) h4
  rw [F.expand1, if_neg n1, if_neg n2, if_neg n3, if_neg n4, F.u8_of _ hx, hl]
  by_cases hd : 49 ≤ x ∧ x ≤ 57
  · rw [if_pos hd, if_pos hd]
  · rw [if_neg hd, if_neg hd]
    by_cases hk : kindN x = 0
    · rw [if_pos hk, if_neg (fun h => (side_kind0 x).1 h hk)]
    · rw [if_neg hk, if_pos ((side_kind0 x).2 hk)]
theorem expand_snoc (a : List UInt8) (b : UInt8) : F.expand (a ++ [b]) = match F.expand a, F.expand1 b with | some x, some y => some (x ++ y) | _, _ => none := by
  rw [F.expand_app, F.expand, F.expand]
  cases F.expand a <;> cases F.expand1 b <;> simp
/-- What rank answers. -/
def rankV (t : List UInt8) : Value := match F.expand t with
  | none => .tuple #[.string ⟨#[]⟩, .bool false]
  | some l => .tuple #[.string (bs l), .bool (l.length == 9)]
theorem expand_none_app {a b : List UInt8} (h : F.expand a = none) : F.expand (a ++ b) = none := by rw [F.expand_app, h]
set_option maxHeartbeats 1000000 in
theorem rletter_any (c : Nat) (w : World) : Calls Tryz.prog 62 #[.int .u8 (c : Int)] w (Says w (.int .u8 (letN c : Nat))) := by
  unfold Says
  by_cases h1 : c = 69
  · subst h1
    go_enter Tryz.func62, Tryz.ntmps62
    go_wp2
    go_ret
    exact ⟨rfl, rfl⟩
  by_cases h2 : c = 101
  · subst h2
    go_enter Tryz.func62, Tryz.ntmps62
    go_wp2
    go_ret
    exact ⟨rfl, rfl⟩
  by_cases h3 : c = 72
  · subst h3
    go_enter Tryz.func62, Tryz.ntmps62
    go_wp2
    go_ret
    exact ⟨rfl, rfl⟩
  by_cases h4 : c = 104
  · subst h4
    go_enter Tryz.func62, Tryz.ntmps62
    go_wp2
    go_ret
    exact ⟨rfl, rfl⟩
  have K : Hid (letN c = c) := by show _ = _; rw [letN, if_neg h1, if_neg h2, if_neg h3, if_neg h4]
  have e1 : ((c : Int) == 69) = false := by rw [beq_eq_false_iff_ne]; omega
  have e2 : ((c : Int) == 101) = false := by rw [beq_eq_false_iff_ne]; omega
  have e3 : ((c : Int) == 72) = false := by rw [beq_eq_false_iff_ne]; omega
  have e4 : ((c : Int) == 104) = false := by rw [beq_eq_false_iff_ne]; omega
  clear h1 h2 h3 h4
  go_enter Tryz.func62, Tryz.ntmps62
  go_wp2
  go_ret
  exact ⟨by rw [K.out]; rfl, rfl⟩
theorem rletter_is (c k : Nat) (w : World) (h : letN c = k) : Calls Tryz.prog 62 #[.int .u8 (c : Int)] w (Says w (.int .u8 (k : Int))) := by subst h; exact rletter_any c w
set_option maxRecDepth 100000 in
set_option maxHeartbeats 4000000 in
theorem rrank4_any (t : List UInt8) (w : World) (ht : t.length ≤ 1000) : Calls Tryz.prog 38 #[.string (bs t)] w (Gives w (rankV t)) := by
  unfold Gives
  have hsz := bs_size t
  have hs : (bs t).size ≤ 1000 := by omega
  have HZ := Lib.hid hsz
  have hbyte : ∀ k, k < (bs t).size → ∃ x, bAt (bs t) k = x ∧ x < 256 ∧ t.take (k + 1) = t.take k ++ [UInt8.ofNat x] ∧ ∃ r, t = t.take (k + 1) ++ r := fun k hk => by
    refine ⟨_, rfl, bAt_lt _ _, ?_, t.drop (k + 1), (List.take_append_drop _ _).symm⟩
    have h := byte_at (bs t) k hk
    rw [bs_data] at h
    have h2 := take_step (l := t) (a := 0) (Nat.zero_le k) h
    simpa using h2
  have HB := Lib.hid hbyte
  clear hsz hbyte ht
  generalize hS : bs t = S at hs HZ HB
  have HS := Lib.hid hS
  clear hS
  go_enter Tryz.func38, Tryz.ntmps38
  go_wp2_with fail
  rw [show (⟨#[]⟩ : ByteArray) = bs [] from rfl]
  go_loopw [4, 5, 6, 7] (fun o i _ _ wr => ∃ (k : Nat) (l : List UInt8), k ≤ S.size ∧ l.length ≤ 9 * k ∧ i = .int .i64 k ∧ o = .string (bs l) ∧ F.expand (t.take k) = some l ∧ Below w.heap.size w wr) (fun _ i _ _ _ => S.size - (intOf i).toNat)
  case atStart => exact ⟨0, [], by omega, by simp, rfl, rfl, by rw [List.take_zero]; rfl, Below.refl _ _⟩
  case round =>
    obtain ⟨k, l, hk, hl, rfl, rfl, hex, hB⟩ := hrel
    have hbs := hB.size
    have HEX := Lib.hid hex
    clear hex
    by_cases hlt : k < S.size
    · obtain ⟨x, hx, hx256, hstep, r, hr⟩ := HB.out k hlt
      have hbk : S[k].toNat = x := (bAt_eq S k hlt).trans hx
      have he1 := expand1_let x hx256
      have hes := expand_snoc (t.take k) (UInt8.ofNat x)
      rw [← hstep, HEX.out, he1] at hes
      obtain ⟨c, hc⟩ : ∃ c, letN x = c := ⟨_, rfl⟩
      have hc256 : c < 256 := by rw [← hc]; exact letN_lt hx256
      rw [hc] at hes
      have Hc := Lib.hid hc
      have HR := Lib.hid hr
      clear hx hstep he1 hc hr
      by_cases hd : 49 ≤ c ∧ c ≤ 57
      · rw [if_pos hd] at hes
        replace hes : F.expand (t.take (k + 1)) = some (l ++ F.dots (c - 48)) := hes
        have HES := Lib.hid hes
        obtain ⟨hd1, hd2⟩ := hd
        have i1 : IntKind.u8.wrap ((c : Int) - 48) = (c : Int) - 48 := IntWalk.u8_in _ (by omega)
        obtain ⟨n, hn⟩ : ∃ n : Nat, c - 48 = n := ⟨_, rfl⟩
        have i2 : (c : Int) - 48 = (n : Int) := by omega
        have i3 : ((n : Int) % 256) = (n : Int) := by omega
        rw [hn] at HES
        have hn9 : n ≤ 9 := by omega
        clear hes hn
        go_wp2_with fail
        refine (rletter_is x c _ Hc.out).mono ?_
        rintro e w' ⟨rfl, rfl⟩
        go_wp2_with fail
        go_loop [4, 7] (fun o j => ∃ (q : Nat) (m : List UInt8), q ≤ n ∧ j = .int .i64 q ∧ o = .string (bs m) ∧ m = l ++ F.dots q) (fun _ j => n - (intOf j).toNat)
        case atStart => exact ⟨0, l, by omega, rfl, rfl, by simp⟩
        case round =>
          obtain ⟨q, m, hq, rfl, rfl, hm⟩ := hrel
          have HM := Lib.hid hm
          have hml : m.length = l.length + q := by rw [hm]; simp
          clear hm
          by_cases hqn : q < n
          · have hadd : ∀ W : World, (Op.stringOp .add (bs m) ⟨#[46]⟩).run Tryz.prog W = .ok (.string (bs (m ++ [46]))) W := add_run (b := [46]) rfl (by simp; omega)
            have hqn' : decide (q < n) = true := by simp; omega
            go_wp2
            go_round
            case rel => exact ⟨q + 1, m ++ [46], by omega, by go_num, rfl, by rw [HM.out, List.append_assoc, ← F.dots_snoc]⟩
            case measure => simp [intOf]; omega
          · obtain rfl : q = n := by omega
            have hqn' : decide (q < q) = false := by simp
            go_wp2
            go_roundw
            case rel => exact ⟨k + 1, m, by omega, by omega, by go_num, rfl, by rw [HM.out]; exact HES.out, hB⟩
            case measure => simp [intOf]; omega
      · rw [if_neg hd] at hes
        by_cases hsd : 0 ≤ sideN c
        · rw [if_pos hsd] at hes
          replace hes : F.expand (t.take (k + 1)) = some (l ++ [UInt8.ofNat c]) := hes
          have HES := Lib.hid hes
          have hadd := add_run (a := l) (b := [UInt8.ofNat c]) rfl (by simp; omega)
          have hcv : ∀ (W : World) (g C : Nat), W.cell? ⟨g, 0, none⟩ = some (.int .u8 (c : Int)) → (convert 70 9 (.slice (some ⟨g, 0, none⟩) 1 C)).run Tryz.prog W = .ok (.string (bs [UInt8.ofNat c])) W := fun W g C h => byte_run c hc256 W g C h
          obtain ⟨sd, hsde⟩ : ∃ sd, sideN c = sd := ⟨_, rfl⟩
          rw [hsde] at hsd
          have Hsd := Lib.hid hsde
          clear hes hsde
          have h2 : (c < 49) ∨ (49 ≤ c ∧ 57 < c) := by omega
          clear hd
          rcases h2 with h49 | ⟨h49, h57⟩
          all_goals
            go_wp2_with fail
            refine (rletter_is x c _ Hc.out).mono ?_
            rintro e w' ⟨rfl, rfl⟩
            go_wp2_with fail
            refine (rside_is c sd _ Hsd.out).mono ?_
            rintro e w' ⟨rfl, rfl⟩
            go_wp2
            go_roundw
            case rel => exact ⟨k + 1, l ++ [UInt8.ofNat c], by omega, by simp; omega, by go_num, rfl, HES.out, hB.alloc hbs _⟩
            case measure => simp [intOf]; omega
        · rw [if_neg hsd] at hes
          replace hes : F.expand (t.take (k + 1)) = none := hes
          have K : Hid (rankV t = .tuple #[.string ⟨#[]⟩, .bool false]) := by
            show _ = _
            rw [rankV, HR.out, expand_none_app hes]
          obtain ⟨sd, hsde⟩ : ∃ sd, sideN c = sd := ⟨_, rfl⟩
          rw [hsde] at hsd
          have Hsd := Lib.hid hsde
          clear hes hsde
          have h2 : (c < 49) ∨ (49 ≤ c ∧ 57 < c) := by omega
          clear hd
          rcases h2 with h49 | ⟨h49, h57⟩
          all_goals
            go_wp2_with fail
            refine (rletter_is x c _ Hc.out).mono ?_
            rintro e w' ⟨rfl, rfl⟩
            go_wp2_with fail
            refine (rside_is c sd _ Hsd.out).mono ?_
            rintro e w' ⟨rfl, rfl⟩
            go_wp2
            go_ret2
            exact ⟨by rw [K.out]; rfl, hB⟩
    · obtain rfl : k = S.size := by omega
      have hfull : F.expand t = some l := by
        have := HEX.out
        rw [HZ.out, List.take_of_length_le (Nat.le_refl _)] at this
        exact this
      have K : Hid (rankV t = .tuple #[.string (bs l), .bool (l.length == 9)]) := by
        show _ = _
        rw [rankV, hfull]
      have hbl : Hid ((bs l).size = l.length) := bs_size l
      have hcmp : Hid (((((bs l).size : Nat) : Int) == 9) = (l.length == 9)) := by
        show _ = _
        rw [hbl.out, Bool.eq_iff_iff]
        simp
        omega
      clear hfull
      go_wp2
      go_ret2
      exact ⟨by rw [K.out, ← hcmp.out]; rfl, hB⟩
end Go.Proofs.YtcnaejmhifedfaaGreatDoor
