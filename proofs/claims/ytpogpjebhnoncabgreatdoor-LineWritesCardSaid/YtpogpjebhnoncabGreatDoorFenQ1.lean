/- What the code reads of a text: a byte's squares, a rank, a side. -/
import Derived.Test.YtpogpjebhnoncabGreatDoorFenP
import Derived.Test.YtpogpjebhnoncabGreatDoorFenM
namespace Go.Proofs.YtpogpjebhnoncabGreatDoor
open Go.RowKit Go.Shelf
open M (S)

/-- A number as an error. -/
def refV (k : Int) : Value := .iface 151 (.agg #[.int .i64 k])
set_option maxHeartbeats 1000000 in
theorem malformed_any (w : World) : Calls Tryz.prog 128 #[] w (Gives w (.agg #[.int .i64 6])) := by
  unfold Gives
  go_enter Tryz.func128, Tryz.ntmps128
  go_wp2
  exact bodyPost_ret (v := .agg #[.int .i64 6]) (by simp [results, Tryz.results128, go_sem]) rfl ⟨rfl, (by repeat (first | exact Below.refl _ _ | (refine Below.setCell ?_ (by first | omega | (simp; done) | (simp; omega) | (simp at *; omega)) _) | (refine Below.alloc ?_ (by first | omega | (simp; done) | (simp; omega) | (simp at *; omega)) _) | refine Below.drew ?_ | (refine below_drewN ?_ _) | (refine Below.trans ?_ (Below.mono (by assumption) (by first | omega | (simp; done) | (simp; omega) | (simp at *; omega))))))⟩
theorem expand1_code (x : Nat) (hx : x < 256) : x = 69 ∨ x = 101 ∨ x = 72 ∨ x = 104 ∨ (49 ≤ x ∧ x ≤ 57 ∧ F.expand1 (UInt8.ofNat x) = some (Lib.repeatL [46] (x - 48))) ∨ ((x ≠ 69 ∧ x ≠ 101 ∧ x ≠ 72 ∧ x ≠ 104 ∧ ¬ (49 ≤ x ∧ x ≤ 57)) ∧ F.expand1 (UInt8.ofNat x) = if kindN x = 0 then none else some [UInt8.ofNat x]) := by
  by_cases h1 : x = 69
  · exact .inl h1
  by_cases h2 : x = 101
  · exact .inr (.inl h2)
  by_cases h3 : x = 72
  · exact .inr (.inr (.inl h3))
  by_cases h4 : x = 104
  · exact .inr (.inr (.inr (.inl h4)))
  right; right; right; right
  by_cases hd : 49 ≤ x ∧ x ≤ 57
  · left
    refine ⟨hd.1, hd.2, ?_⟩
    have h : x = 49 ∨ x = 50 ∨ x = 51 ∨ x = 52 ∨ x = 53 ∨ x = 54 ∨ x = 55 ∨ x = 56 ∨ x = 57 := by omega
    rcases h with rfl | rfl | rfl | rfl | rfl | rfl | rfl | rfl | rfl <;> rfl
  · right
    refine ⟨⟨h1, h2, h3, h4, hd⟩, ?_⟩
    have n1 : UInt8.ofNat x ≠ 69 := u8_ne (n := 69) hx (by decide) h1
    have n2 : UInt8.ofNat x ≠ 101 := u8_ne (n := 101) hx (by decide) h2
    have n3 : UInt8.ofNat x ≠ 72 := u8_ne (n := 72) hx (by decide) h3
    have n4 : UInt8.ofNat x ≠ 104 := u8_ne (n := 104) hx (by decide) h4
    rw [F.expand1, if_neg n1, if_neg n2, if_neg n3, if_neg n4, F.u8_of _ hx, if_neg hd]
set_option maxRecDepth 100000 in
set_option maxHeartbeats 4000000 in
theorem readCells_is (x : Nat) (l : List UInt8) (w : World) (hx : x < 256) (hl : (F.expand1 (UInt8.ofNat x)).getD [] = l) : Calls Tryz.prog 163 #[.int .u8 (x : Int)] w (Gives w (.string (bs l))) := by
  unfold Gives
  subst hl
  rcases expand1_code x hx with rfl | rfl | rfl | rfl | ⟨h1, h2, he⟩ | ⟨⟨n1, n2, n3, n4, n5⟩, he⟩
  · rw [show (F.expand1 (UInt8.ofNat 69)).getD [] = [66] from rfl]
    have hcv : ∀ (W : World) (g C : Nat), W.cell? ⟨g, 0, none⟩ = some (.int .u8 66) → (convert 64 9 (.slice (some ⟨g, 0, none⟩) 1 C)).run Tryz.prog W = .ok (.string (bs [66])) W := fun W g C h => byte_run 66 (by decide) W g C h
    go_enter Tryz.func163, Tryz.ntmps163
    go_wp2_with fail
    refine (kind_is 66 66 _ (by decide)).mono ?_
    rintro e w' ⟨rfl, rfl⟩
    go_wp2
    go_ret
    exact ⟨rfl, (by repeat (first | exact Below.refl _ _ | (refine Below.setCell ?_ (by first | omega | (simp; done) | (simp; omega) | (simp at *; omega)) _) | (refine Below.alloc ?_ (by first | omega | (simp; done) | (simp; omega) | (simp at *; omega)) _) | refine Below.drew ?_ | (refine below_drewN ?_ _) | (refine Below.trans ?_ (Below.mono (by assumption) (by first | omega | (simp; done) | (simp; omega) | (simp at *; omega))))))⟩
  · rw [show (F.expand1 (UInt8.ofNat 101)).getD [] = [98] from rfl]
    have hcv : ∀ (W : World) (g C : Nat), W.cell? ⟨g, 0, none⟩ = some (.int .u8 98) → (convert 64 9 (.slice (some ⟨g, 0, none⟩) 1 C)).run Tryz.prog W = .ok (.string (bs [98])) W := fun W g C h => byte_run 98 (by decide) W g C h
    go_enter Tryz.func163, Tryz.ntmps163
    go_wp2_with fail
    refine (kind_is 98 66 _ (by decide)).mono ?_
    rintro e w' ⟨rfl, rfl⟩
    go_wp2
    go_ret
    exact ⟨rfl, (by repeat (first | exact Below.refl _ _ | (refine Below.setCell ?_ (by first | omega | (simp; done) | (simp; omega) | (simp at *; omega)) _) | (refine Below.alloc ?_ (by first | omega | (simp; done) | (simp; omega) | (simp at *; omega)) _) | refine Below.drew ?_ | (refine below_drewN ?_ _) | (refine Below.trans ?_ (Below.mono (by assumption) (by first | omega | (simp; done) | (simp; omega) | (simp at *; omega))))))⟩
  · rw [show (F.expand1 (UInt8.ofNat 72)).getD [] = [78] from rfl]
    have hcv : ∀ (W : World) (g C : Nat), W.cell? ⟨g, 0, none⟩ = some (.int .u8 78) → (convert 64 9 (.slice (some ⟨g, 0, none⟩) 1 C)).run Tryz.prog W = .ok (.string (bs [78])) W := fun W g C h => byte_run 78 (by decide) W g C h
    go_enter Tryz.func163, Tryz.ntmps163
    go_wp2_with fail
    refine (kind_is 78 78 _ (by decide)).mono ?_
    rintro e w' ⟨rfl, rfl⟩
    go_wp2
    go_ret
    exact ⟨rfl, (by repeat (first | exact Below.refl _ _ | (refine Below.setCell ?_ (by first | omega | (simp; done) | (simp; omega) | (simp at *; omega)) _) | (refine Below.alloc ?_ (by first | omega | (simp; done) | (simp; omega) | (simp at *; omega)) _) | refine Below.drew ?_ | (refine below_drewN ?_ _) | (refine Below.trans ?_ (Below.mono (by assumption) (by first | omega | (simp; done) | (simp; omega) | (simp at *; omega))))))⟩
  · rw [show (F.expand1 (UInt8.ofNat 104)).getD [] = [110] from rfl]
    have hcv : ∀ (W : World) (g C : Nat), W.cell? ⟨g, 0, none⟩ = some (.int .u8 110) → (convert 64 9 (.slice (some ⟨g, 0, none⟩) 1 C)).run Tryz.prog W = .ok (.string (bs [110])) W := fun W g C h => byte_run 110 (by decide) W g C h
    go_enter Tryz.func163, Tryz.ntmps163
    go_wp2_with fail
    refine (kind_is 110 78 _ (by decide)).mono ?_
    rintro e w' ⟨rfl, rfl⟩
    go_wp2
    go_ret
    exact ⟨rfl, (by repeat (first | exact Below.refl _ _ | (refine Below.setCell ?_ (by first | omega | (simp; done) | (simp; omega) | (simp at *; omega)) _) | (refine Below.alloc ?_ (by first | omega | (simp; done) | (simp; omega) | (simp at *; omega)) _) | refine Below.drew ?_ | (refine below_drewN ?_ _) | (refine Below.trans ?_ (Below.mono (by assumption) (by first | omega | (simp; done) | (simp; omega) | (simp at *; omega))))))⟩
  · rw [he]
    clear he
    have h : x = 49 ∨ x = 50 ∨ x = 51 ∨ x = 52 ∨ x = 53 ∨ x = 54 ∨ x = 55 ∨ x = 56 ∨ x = 57 := by omega
    clear h1 h2 hx
    rcases h with rfl | rfl | rfl | rfl | rfl | rfl | rfl | rfl | rfl
    all_goals
      rw [Option.getD_some]
      go_enter Tryz.func163, Tryz.ntmps163
      go_wp2_with fail
      refine (repeat_any _ _ (by decide)).mono ?_
      rintro e w1 ⟨rfl, hb⟩
      go_wp2
      go_ret
      exact ⟨rfl, hb⟩
  · rw [he]
    clear he
    have hcv : ∀ (W : World) (g C : Nat), W.cell? ⟨g, 0, none⟩ = some (.int .u8 (x : Int)) → (convert 64 9 (.slice (some ⟨g, 0, none⟩) 1 C)).run Tryz.prog W = .ok (.string (bs [UInt8.ofNat x])) W := fun W g C h => byte_run x hx W g C h
    have e1 : ((x : Int) == 69) = false := by rw [beq_eq_false_iff_ne]; omega
    have e2 : ((x : Int) == 101) = false := by rw [beq_eq_false_iff_ne]; omega
    have e3 : ((x : Int) == 72) = false := by rw [beq_eq_false_iff_ne]; omega
    have e4 : ((x : Int) == 104) = false := by rw [beq_eq_false_iff_ne]; omega
    have d1 : ((x : Int) == 49) = false := by rw [beq_eq_false_iff_ne]; omega
    have d2 : ((x : Int) == 50) = false := by rw [beq_eq_false_iff_ne]; omega
    have d3 : ((x : Int) == 51) = false := by rw [beq_eq_false_iff_ne]; omega
    have d4 : ((x : Int) == 52) = false := by rw [beq_eq_false_iff_ne]; omega
    have d5 : ((x : Int) == 53) = false := by rw [beq_eq_false_iff_ne]; omega
    have d6 : ((x : Int) == 54) = false := by rw [beq_eq_false_iff_ne]; omega
    have d7 : ((x : Int) == 55) = false := by rw [beq_eq_false_iff_ne]; omega
    have d8 : ((x : Int) == 56) = false := by rw [beq_eq_false_iff_ne]; omega
    have d9 : ((x : Int) == 57) = false := by rw [beq_eq_false_iff_ne]; omega
    clear n1 n2 n3 n4 n5
    obtain ⟨k, hk⟩ : ∃ k, kindN x = k := ⟨_, rfl⟩
    rw [hk]
    have Hk := Lib.hid hk
    clear hk
    by_cases h0 : k = 0
    · subst h0
      rw [if_pos rfl, Option.getD_none]
      go_enter Tryz.func163, Tryz.ntmps163
      go_wp2_with fail
      refine (kind_is x 0 _ Hk.out).mono ?_
      rintro e w' ⟨rfl, rfl⟩
      go_wp2
      go_ret
      exact ⟨rfl, (by repeat (first | exact Below.refl _ _ | (refine Below.setCell ?_ (by first | omega | (simp; done) | (simp; omega) | (simp at *; omega)) _) | (refine Below.alloc ?_ (by first | omega | (simp; done) | (simp; omega) | (simp at *; omega)) _) | refine Below.drew ?_ | (refine below_drewN ?_ _) | (refine Below.trans ?_ (Below.mono (by assumption) (by first | omega | (simp; done) | (simp; omega) | (simp at *; omega))))))⟩
    · rw [if_neg h0, Option.getD_some]
      have k0 : ((k : Int) == 0) = false := by rw [beq_eq_false_iff_ne]; omega
      clear h0
      go_enter Tryz.func163, Tryz.ntmps163
      go_wp2_with fail
      refine (kind_is x k _ Hk.out).mono ?_
      rintro e w' ⟨rfl, rfl⟩
      go_wp2
      go_ret
      exact ⟨rfl, (by repeat (first | exact Below.refl _ _ | (refine Below.setCell ?_ (by first | omega | (simp; done) | (simp; omega) | (simp at *; omega)) _) | (refine Below.alloc ?_ (by first | omega | (simp; done) | (simp; omega) | (simp at *; omega)) _) | refine Below.drew ?_ | (refine below_drewN ?_ _) | (refine Below.trans ?_ (Below.mono (by assumption) (by first | omega | (simp; done) | (simp; omega) | (simp at *; omega))))))⟩
/-- What readSide answers. -/
def sideV (t : List UInt8) : Value := match F.sideL t with
  | some y => .tuple #[.int .i64 y, .nilIface]
  | none => .tuple #[.int .i64 0, refV 6]
theorem bs_eq (t l : List UInt8) : ((bs t).toList == l) = decide (t = l) := by
  rw [ByteArray.toList_eq, bs_data, Bool.eq_iff_iff]
  simp
set_option maxHeartbeats 1000000 in
theorem readSide_any (t : List UInt8) (w : World) : Calls Tryz.prog 127 #[.string (bs t)] w (Gives w (sideV t)) := by
  unfold Gives
  have h1 := bs_eq t [119]
  have h2 := bs_eq t [114]
  have h3 := bs_eq t [98]
  have K : Hid (sideV t = if t = [119] ∨ t = [114] then .tuple #[.int .i64 0, .nilIface] else if t = [98] then .tuple #[.int .i64 1, .nilIface] else .tuple #[.int .i64 0, refV 6]) := by
    show _ = _
    unfold sideV F.sideL
    split
    · split <;> simp_all
    · split <;> simp_all
  obtain ⟨S, hS⟩ : ∃ S, bs t = S := ⟨_, rfl⟩
  rw [hS] at h1 h2 h3 ⊢
  by_cases c1 : t = [119]
  · rw [decide_eq_true c1] at h1
    have K2 := Lib.hid (K.out.trans (if_pos (.inl c1)))
    clear c1 h2 h3 hS
    go_enter Tryz.func127, Tryz.ntmps127
    go_wp2
    go_ret2
    exact ⟨by rw [K2.out]; rfl, (by repeat (first | exact Below.refl _ _ | (refine Below.setCell ?_ (by first | omega | (simp; done) | (simp; omega) | (simp at *; omega)) _) | (refine Below.alloc ?_ (by first | omega | (simp; done) | (simp; omega) | (simp at *; omega)) _) | refine Below.drew ?_ | (refine below_drewN ?_ _) | (refine Below.trans ?_ (Below.mono (by assumption) (by first | omega | (simp; done) | (simp; omega) | (simp at *; omega))))))⟩
  by_cases c2 : t = [114]
  · rw [decide_eq_true c2] at h2
    rw [decide_eq_false c1] at h1
    have K2 := Lib.hid (K.out.trans (if_pos (.inr c2)))
    clear c1 c2 h3 hS
    go_enter Tryz.func127, Tryz.ntmps127
    go_wp2
    go_ret2
    exact ⟨by rw [K2.out]; rfl, (by repeat (first | exact Below.refl _ _ | (refine Below.setCell ?_ (by first | omega | (simp; done) | (simp; omega) | (simp at *; omega)) _) | (refine Below.alloc ?_ (by first | omega | (simp; done) | (simp; omega) | (simp at *; omega)) _) | refine Below.drew ?_ | (refine below_drewN ?_ _) | (refine Below.trans ?_ (Below.mono (by assumption) (by first | omega | (simp; done) | (simp; omega) | (simp at *; omega))))))⟩
  have K1 := K.out.trans (if_neg (not_or.2 ⟨c1, c2⟩))
  rw [decide_eq_false c1] at h1
  rw [decide_eq_false c2] at h2
  by_cases c3 : t = [98]
  · rw [decide_eq_true c3] at h3
    have K2 := Lib.hid (K1.trans (if_pos c3))
    clear c1 c2 c3 hS K1
    go_enter Tryz.func127, Tryz.ntmps127
    go_wp2
    go_ret2
    exact ⟨by rw [K2.out]; rfl, (by repeat (first | exact Below.refl _ _ | (refine Below.setCell ?_ (by first | omega | (simp; done) | (simp; omega) | (simp at *; omega)) _) | (refine Below.alloc ?_ (by first | omega | (simp; done) | (simp; omega) | (simp at *; omega)) _) | refine Below.drew ?_ | (refine below_drewN ?_ _) | (refine Below.trans ?_ (Below.mono (by assumption) (by first | omega | (simp; done) | (simp; omega) | (simp at *; omega))))))⟩
  · rw [decide_eq_false c3] at h3
    have K2 := Lib.hid (K1.trans (if_neg c3))
    clear c1 c2 c3 hS K1
    go_enter Tryz.func127, Tryz.ntmps127
    go_wp2_with fail
    refine (malformed_any _).mono ?_
    rintro e w1 ⟨rfl, hb⟩
    go_wp2
    go_ret2
    exact ⟨by rw [K2.out]; rfl, hb⟩
end Go.Proofs.YtpogpjebhnoncabGreatDoor
