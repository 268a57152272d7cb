/- A position's text has ten ranks, and six fields; the board's squares are as many as its letters and digits tell: the call answers true. -/
import Derived.Test.YtcnaejmhifedfaaGreatDoorFenL
import Derived.Test.YtcnaejmhifedfaaGreatDoorFenH
namespace Go.Proofs.YtcnaejmhifedfaaGreatDoor.ranks
open Go.RowKit Go.Shelf
open M (S)

set_option maxHeartbeats 4000000 in
theorem large (s : ByteArray) (side clock full : Int) (w : World) (hE : Env w) (hs : 200 < s.size) : Calls Tryz.prog 8 #[.agg #[.string s, .int .i64 side, .int .i64 clock, .int .i64 full]] w (Gives w (.bool true)) := by
  unfold Gives
  have hd : decide (200 < (s.size : Int)) = true := by simp; omega
  have hA : Below w.heap.size w (w.alloc (.cells #[.string s, .int .i64 side, .int .i64 clock, .int .i64 full] 24)) := (by repeat (first | exact Below.refl _ _ | (refine Below.setCell ?_ (by first | omega | (simp; done) | (simp; omega) | (simp at *; omega)) _) | (refine Below.alloc ?_ (by first | omega | (simp; done) | (simp; omega) | (simp at *; omega)) _) | refine Below.drew ?_ | (refine below_drewN ?_ _) | (refine Below.trans ?_ (Below.mono (by assumption) (by first | omega | (simp; done) | (simp; omega) | (simp at *; omega))))))
  have HA := Lib.hid hA
  clear hA
  go_enter Tryz.func8, Tryz.ntmps8
  go_wp2_with fail
  refine (live4_any _ (hE.next HA.out)).mono ?_
  rintro e w1 ⟨rfl, hb⟩
  go_wp2
  go_ret
  exact ⟨rfl, HA.out.trans (hb.mono HA.out.size)⟩
set_option maxRecDepth 100000 in
set_option maxHeartbeats 8000000 in
theorem bad (s : ByteArray) (side clock full k : Int) (w : World) (hE : Env w) (hs : s.size ≤ 200) (K : Hid ((checkN s side clock full : Int) = k)) (hk : (k != 0) = true) : Calls Tryz.prog 8 #[.agg #[.string s, .int .i64 side, .int .i64 clock, .int .i64 full]] w (Gives w (.bool true)) := by
  unfold Gives
  have hd : decide (200 < (s.size : Int)) = false := by simp; omega
  have hA : Below w.heap.size w (w.alloc (.cells #[.string s, .int .i64 side, .int .i64 clock, .int .i64 full] 24)) := (by repeat (first | exact Below.refl _ _ | (refine Below.setCell ?_ (by first | omega | (simp; done) | (simp; omega) | (simp at *; omega)) _) | (refine Below.alloc ?_ (by first | omega | (simp; done) | (simp; omega) | (simp at *; omega)) _) | refine Below.drew ?_ | (refine below_drewN ?_ _) | (refine Below.trans ?_ (Below.mono (by assumption) (by first | omega | (simp; done) | (simp; omega) | (simp at *; omega))))))
  have HA := Lib.hid hA
  clear hA
  have P : Hid (printV s side clock full = .tuple #[.string ⟨#[]⟩, .int .i64 k]) := by
    show _ = _
    rw [printV, if_neg (by rw [K.out]; simpa using hk), K.out]
  go_enter Tryz.func8, Tryz.ntmps8
  go_wp2_with fail
  refine (print_is s side clock full _ _ (hE.next HA.out) P.out).mono ?_
  rintro e w1 ⟨rfl, hb⟩
  have bP := (Blk.new w 24 #[.string s, .int .i64 side, .int .i64 clock, .int .i64 full] rfl).next hb
  have hB := HA.out.trans (hb.mono HA.out.size)
  replace hE := (hE.next HA.out).next hb
  clear hb
  go_wp2_with fail
  refine (live4_any _ hE).mono ?_
  rintro e w9 ⟨rfl, hb⟩
  go_wp2
  go_ret
  exact ⟨rfl, hB.trans (hb.mono hB.size)⟩
theorem wgt_lt {x : Nat} (h : x < 256) : wgt (UInt8.ofNat x) = if x = 47 then 0 else if 49 ≤ x ∧ x ≤ 57 then x - 48 else 1 := by rw [wgt, F.u8_of _ h]
set_option maxRecDepth 100000 in
set_option maxHeartbeats 8000000 in
theorem good (s : ByteArray) (side clock full : Int) (w : World) (hE : Env w) (hs : s.size ≤ 200) (h0 : (checkN s side clock full : Int) = 0) (T : List UInt8) (hT : F.printL (posP s side clock full) = T) (hl : T.length ≤ 1000) (b r x1 x2 x3 x4 : List UInt8) (hcut : F.cutL 32 T = [b, r, x1, x2, x3, x4]) (hw : wgtL b = 90) (h10 : (F.cutL 47 b).length = 10) (hb100 : b.length ≤ 100) : Calls Tryz.prog 8 #[.agg #[.string s, .int .i64 side, .int .i64 clock, .int .i64 full]] w (Gives w (.bool true)) := by
  unfold Gives
  have hd : decide (200 < (s.size : Int)) = false := by simp; omega
  have hA : Below w.heap.size w (w.alloc (.cells #[.string s, .int .i64 side, .int .i64 clock, .int .i64 full] 24)) := (by repeat (first | exact Below.refl _ _ | (refine Below.setCell ?_ (by first | omega | (simp; done) | (simp; omega) | (simp at *; omega)) _) | (refine Below.alloc ?_ (by first | omega | (simp; done) | (simp; omega) | (simp at *; omega)) _) | refine Below.drew ?_ | (refine below_drewN ?_ _) | (refine Below.trans ?_ (Below.mono (by assumption) (by first | omega | (simp; done) | (simp; omega) | (simp at *; omega))))))
  have HA := Lib.hid hA
  clear hA
  have P : Hid (printV s side clock full = .tuple #[.string (bs T), .int .i64 0]) := by
    show _ = _
    rw [printV, if_pos h0, hT]
  have HC := Lib.hid hcut
  have H10 := Lib.hid h10
  have HW := Lib.hid hw
  have hsz := bs_size b
  have hs : (bs b).size ≤ 100 := by omega
  have HZ := Lib.hid hsz
  have hbyte : ∀ k, k < (bs b).size → ∃ x, bAt (bs b) k = x ∧ x < 256 ∧ b.take (k + 1) = b.take k ++ [UInt8.ofNat x] := fun k hk => by
    have h := byte_at (bs b) k hk
    rw [bs_data] at h
    have h2 := take_step (l := b) (a := 0) (Nat.zero_le k) h
    exact ⟨_, rfl, bAt_lt _ _, by simpa using h2⟩
  have HB := Lib.hid hbyte
  have hwl : ∀ k, k ≤ 100 → wgtL (b.take k) ≤ 900 := fun k hk => by
    have h1 := wgt_le (b.take k)
    have h2 : (b.take k).length ≤ k := by rw [List.length_take]; omega
    omega
  have HWL := Lib.hid hwl
  clear h0 hT hcut h10 hw hsz hbyte hwl
  obtain ⟨S, hS⟩ : ∃ S, bs b = S := ⟨_, rfl⟩
  have HS := Lib.hid hS
  go_enter Tryz.func8, Tryz.ntmps8
  go_wp2_with fail
  refine (print_is s side clock full _ _ (hE.next HA.out) P.out).mono ?_
  rintro e w1 ⟨rfl, hb⟩
  have hB := HA.out.trans (hb.mono HA.out.size)
  replace hE := (hE.next HA.out).next hb
  clear hb
  go_wp2_with fail
  refine (rcut_isA T 32 6 _ _ (by decide) (by omega) HC.out rfl).mono ?_
  rintro e w2 ⟨g, c, rfl, hc, hr, hb⟩
  replace hB := hB.trans (hb.mono hB.size)
  replace hE := hE.next hb
  clear hb
  have c0 := rd_at hr 0 b rfl
  clear hr
  rw [hS] at HB HZ hs c0
  have hS0 : S.size ≤ 100 := hs
  clear hS hs
  go_wp2_with fail
  go_loopw [6, 7, 8] (fun n i _ wr => ∃ k : Nat, k ≤ S.size ∧ i = .int .i64 k ∧ n = .int .i64 ((wgtL (b.take k) : Nat) : Int) ∧ wr = w2) (fun _ i _ _ => S.size - (intOf i).toNat)
  case atStart => exact ⟨0, by omega, rfl, by rw [List.take_zero]; rfl, rfl⟩
  case round =>
    obtain ⟨k, hk, rfl, rfl, rfl⟩ := hrel
    by_cases hlt : k < S.size
    · obtain ⟨x, hx, hx256, hstep⟩ := HB.out k hlt
      have hbk : S[k].toNat = x := (bAt_eq S k hlt).trans hx
      have hn := HWL.out k (by omega)
      have hnext := wgt_snoc (b.take k) (UInt8.ofNat x)
      rw [← hstep, wgt_lt hx256] at hnext
      obtain ⟨m, hm⟩ : ∃ m, wgtL (b.take k) = m := ⟨_, rfl⟩
      rw [hm] at hn hnext ⊢
      have HX := Lib.hid hnext
      clear hx hstep hnext hm
      have hcase : (x = 47) ∨ (x ≠ 47 ∧ 49 ≤ x ∧ x ≤ 57) ∨ (x ≠ 47 ∧ x < 49) ∨ (x ≠ 47 ∧ 49 ≤ x ∧ 57 < x) := by omega
      rcases hcase with h1 | ⟨h1, h2, h3⟩ | ⟨h1, h2⟩ | ⟨h1, h2, h3⟩
      · have e1 : ((x : Int) == 47) = true := by rw [beq_iff_eq]; omega
        have HN : Hid (wgtL (b.take (k + 1)) = m) := by show _ = _; rw [HX.out, if_pos h1]; rfl
        clear h1
        go_wp2
        go_roundw
        case rel => exact ⟨k + 1, by omega, by go_num, by rw [HN.out], trivial⟩
        case measure => simp [intOf]; omega
      · have e1 : ((x : Int) == 47) = false := by rw [beq_eq_false_iff_ne]; omega
        have HN : Hid (wgtL (b.take (k + 1)) = m + (x - 48)) := by show _ = _; rw [HX.out, if_neg h1, if_pos ⟨h2, h3⟩]
        have d1 : decide (49 ≤ (x : Int)) = true := by simp; omega
        have d2 : decide ((x : Int) ≤ 57) = true := by simp; omega
        have i1 : IntKind.u8.wrap ((x : Int) - 48) = (x : Int) - 48 := IntWalk.u8_in _ (by omega)
        have i2 : ((x : Int) - 48) % 256 = (x : Int) - 48 := by omega
        clear h1
        go_wp2
        go_roundw
        case rel => exact ⟨k + 1, by omega, by go_num, by rw [HN.out]; congr 1; omega, trivial⟩
        case measure => simp [intOf]; omega
      · have e1 : ((x : Int) == 47) = false := by rw [beq_eq_false_iff_ne]; omega
        have HN : Hid (wgtL (b.take (k + 1)) = m + 1) := by show _ = _; rw [HX.out, if_neg h1, if_neg (by omega)]
        have d1 : decide (49 ≤ (x : Int)) = false := by simp; omega
        clear h1
        go_wp2
        go_roundw
        case rel => exact ⟨k + 1, by omega, by go_num, by rw [HN.out]; congr 1, trivial⟩
        case measure => simp [intOf]; omega
      · have e1 : ((x : Int) == 47) = false := by rw [beq_eq_false_iff_ne]; omega
        have HN : Hid (wgtL (b.take (k + 1)) = m + 1) := by show _ = _; rw [HX.out, if_neg h1, if_neg (by omega)]
        have d1 : decide (49 ≤ (x : Int)) = true := by simp; omega
        have d2 : decide ((x : Int) ≤ 57) = false := by simp; omega
        clear h1
        go_wp2
        go_roundw
        case rel => exact ⟨k + 1, by omega, by go_num, by rw [HN.out]; congr 1, trivial⟩
        case measure => simp [intOf]; omega
    · obtain rfl : k = S.size := by omega
      have h90 : wgtL (b.take S.size) = 90 := by rw [HZ.out, List.take_of_length_le (Nat.le_refl _)]; exact HW.out
      rw [h90]
      clear h90
      go_wp2_with fail
      rw [← HS.out]
      refine (rcut_isA b 47 10 _ _ (by decide) (by omega) rfl H10.out).mono ?_
      rintro e w3 ⟨g', c', rfl, hc', hr, hb⟩
      replace hB := hB.trans (hb.mono hB.size)
      replace hE := hE.next hb
      clear hb hr
      go_wp2_with fail
      refine (live4_any _ hE).mono ?_
      rintro e w9 ⟨rfl, hb⟩
      go_wp2
      go_ret
      exact ⟨rfl, hB.trans (hb.mono hB.size)⟩
theorem small (s : ByteArray) (side clock full : Int) (w : World) (hE : Env w) (hs : s.size ≤ 200) : Calls Tryz.prog 8 #[.agg #[.string s, .int .i64 side, .int .i64 clock, .int .i64 full]] w (Gives w (.bool true)) := by
  by_cases h0 : (checkN s side clock full : Int) = 0
  · obtain ⟨b, r, x1, x2, x3, x4, h1, h2, h3, h4⟩ := print_cut h0
    exact good s side clock full w hE hs h0 _ rfl (print_len s side clock full h0) b r x1 x2 x3 x4 h1 h2 h3 h4
  · exact bad s side clock full _ w hE hs rfl (by rw [bne_iff_ne]; exact h0)
theorem walk (s : ByteArray) (side clock full : Int) (w : World) (hE : Env w) : Calls Tryz.prog 8 #[.agg #[.string s, .int .i64 side, .int .i64 clock, .int .i64 full]] w (Gives w (.bool true)) := by
  by_cases hs : s.size ≤ 200
  · exact small s side clock full w hE hs
  · exact large s side clock full w hE (by omega)
end Go.Proofs.YtcnaejmhifedfaaGreatDoor.ranks
