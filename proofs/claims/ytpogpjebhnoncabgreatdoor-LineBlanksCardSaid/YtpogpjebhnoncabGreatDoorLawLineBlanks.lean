/- How many blanks or tabs stand between words is of no moment: the call answers true. -/
import Derived.Test.YtpogpjebhnoncabGreatDoorLineN
namespace Go.Proofs.YtpogpjebhnoncabGreatDoor.lblanks
open Go.RowKit Go.Shelf Go.Proofs.YtpogpjebhnoncabGreatDoor.Ln
open M (S)

set_option maxHeartbeats 4000000 in
theorem large (s : ByteArray) {w : World} {a0 a1 a2 : Addr} (hE : Env w) (hR : Errs w a0 a1 a2) (hs : 1000 < s.size) : Calls Tryz.prog 5 #[.string s] w (Gives w (.bool true)) := by
  unfold Gives
  have hd : decide (1000 < (s.size : Int)) = true := by simp; omega
  go_enter Tryz.func5, Tryz.ntmps5
  go_wp2_with fail
  refine (live23_any hE hR).mono ?_
  rintro e w1 ⟨rfl, hb⟩
  go_wp2
  go_ret
  exact ⟨rfl, hb⟩
set_option maxRecDepth 100000 in
set_option maxHeartbeats 8000000 in
theorem small (s : List UInt8) {w : World} {a0 a1 a2 : Addr} (hE : Env w) (hR : Errs w a0 a1 a2) (hs : s.length ≤ 1000) : Calls Tryz.prog 5 #[.string (bs s)] w (Gives w (.bool true)) := by
  unfold Gives
  have hss : (bs s).size = s.length := bs_size s
  obtain ⟨p, hp⟩ : ∃ p, s.length = p := ⟨_, rfl⟩
  rw [hp] at hss
  have hp9 : p ≤ 1000 := by rw [← hp]; exact hs
  have hd : decide (1000 < (p : Int)) = false := by simp; omega
  have hw := words_any s w hE (by omega)
  have hv : wordsV s = wordsB s := if_neg (by omega)
  have hsum : sumL (wordsV s) ≤ 1001 := by rw [hv]; have := words_sum s; omega
  obtain ⟨c, hc⟩ : ∃ c, resC (parseL s) = c := ⟨_, rfl⟩
  obtain ⟨er, her⟩ : ∃ er, resE (parseL s) = er := ⟨_, rfl⟩
  have hcl := res_len hc
  have P1 := fun (W : World) (h1 : Env W) (h2 : Errs W a0 a1 a2) => parse_res s c er h1 h2 (by omega) hc her
  have hbl : endB s = false → resC (parseL (blankT (wordsV s))) = c ∧ resE (parseL (blankT (wordsV s))) = er := fun he => by rw [hv, parse_blanks hs he]; exact ⟨hc, her⟩
  have her9 : endB s = true → er = 9 := fun he => by
    rw [← her]
    unfold parseL
    rw [if_neg (by omega), he]
    rfl
  generalize wordsV s = l at hw hsum hbl
  obtain ⟨n, hn⟩ : ∃ n, l.length = n := ⟨_, rfl⟩
  have hn9 : n ≤ 1001 := by rw [← hn]; have := sum_count l; omega
  rw [hn] at hw
  have HW := Lib.hid hw
  have HS := Lib.hid hsum
  have HN := Lib.hid hn
  have HE := Lib.hid hE
  have HR := Lib.hid hR
  have HP1 := Lib.hid P1
  have HBL := Lib.hid hbl
  have H9 := Lib.hid her9
  have HP := Lib.hid hp
  clear hw hsum hn hE hR hv P1 hbl her9 hc her hp
  go_enter Tryz.func5, Tryz.ntmps5
  go_wp2_with fail
  refine HW.out.mono ?_
  rintro e w1 ⟨v, rfl, hown, hb1⟩
  obtain ⟨A, cc, rfl, hrd, hnc⟩ := own_anyL hown
  clear hown
  go_wp2_with fail
  go_loopw [4, 5] (fun t i wr => ∃ k : Nat, i = .int .i64 k ∧ k ≤ n ∧ t = .string (bs ((l.take k).flatMap fun x => [9, 32] ++ x)) ∧ w1 = wr) (fun _ i _ => n - (intOf i).toNat)
  case atStart => exact ⟨0, rfl, Nat.zero_le _, rfl, rfl⟩
  case round =>
    obtain ⟨k, rfl, hk, rfl, rfl⟩ := hrel
    obtain ⟨T, hT⟩ : ∃ T, ((l.take k).flatMap fun x => [9, 32] ++ x) = T := ⟨_, rfl⟩
    rw [hT]
    have hTl : T.length ≤ 2002 := by
      rw [← hT, flat2_len]
      have h1 := sum_take l k
      have h2 := sum_count (l.take k)
      have := HS.out
      omega
    have hTs : (bs T).size ≤ 2002 := by rw [bs_size]; exact hTl
    by_cases hlt : k < n
    · have bk : (k : Int) < (n : Int) := by omega
      have hkl : k < l.length := by rw [HN.out]; exact hlt
      obtain ⟨x, hx⟩ : ∃ x, l[k]? = some x := ⟨_, List.getElem?_eq_getElem hkl⟩
      obtain ⟨g, b, rfl, hc⟩ := rd_form hrd (by omega)
      have e0 := hc k x hx
      have hq9 : x.length ≤ 1001 := by have := sum_mem (List.mem_of_getElem? hx); have := HS.out; omega
      have hqs : (bs x).size ≤ 1001 := by rw [bs_size]; exact hq9
      have htk : ((l.take (k + 1)).flatMap fun x => [9, 32] ++ x) = T ++ ([9, 32] ++ x) := by rw [List.take_add_one, hx, List.flatMap_append, hT]; simp
      have HTK := Lib.hid htk
      clear hc htk hrd hx
      go_wp2_with fail
      go_roundw
      case rel => exact ⟨k + 1, by go_num, by omega, by rw [HTK.out, ← bs_app, ← bs_app, ← ByteArray.append_assoc]; rfl, trivial⟩
      case measure => simp [intOf]; omega
    · obtain rfl : k = n := by omega
      have bk : ¬ (k : Int) < (k : Int) := by omega
      have hTT : T = l.flatMap fun x => [9, 32] ++ x := by rw [← hT, List.take_of_length_le (by rw [HN.out]; exact Nat.le_refl _)]
      have hT2 : bs T ++ (⟨#[32]⟩ : ByteArray) = bs (blankT l) := by unfold blankT; rw [← hTT]; exact bs_app T [32]
      have hbl : (blankT l).length ≤ 4000 := by
        unfold blankT
        rw [← hTT, List.length_append]
        show _ + 1 ≤ _
        omega
      obtain ⟨c2, hc2⟩ : ∃ c2, resC (parseL (blankT l)) = c2 := ⟨_, rfl⟩
      obtain ⟨er2, her2⟩ : ∃ er2, resE (parseL (blankT l)) = er2 := ⟨_, rfl⟩
      have P2 := fun (W : World) (h1 : Env W) (h2 : Errs W a0 a1 a2) => parse_res (blankT l) c2 er2 h1 h2 (by omega) hc2 her2
      rw [← hT2] at P2
      have HP2 := Lib.hid P2
      have HEQ : Hid (endB s = false → c2 = c ∧ er2 = er) := fun he => ⟨hc2.symm.trans (HBL.out he).1, her2.symm.trans (HBL.out he).2⟩
      have HB1 := Lib.hid hb1
      clear P2 hTT hT2 hbl hc2 her2 hb1 hT hrd
      go_wp2_with fail
      refine (HP1.out w1 (HE.out.next HB1.out) (HR.out.next HB1.out)).mono ?_
      rintro e w2 ⟨A1, n1, rfl, hm1, hb2⟩
      have hB2 := cmd_step HB1.out hb2 #[.int .i64 c.k, .string (bs c.p.cells), .int .i64 c.p.side, .int .i64 c.p.clock, .int .i64 c.p.full, .slice A1 c.l.length n1, .int .i64 c.d] 29
      have bA := Blk.new w2 29 #[.int .i64 c.k, .string (bs c.p.cells), .int .i64 c.p.side, .int .i64 c.p.clock, .int .i64 c.p.full, .slice A1 c.l.length n1, .int .i64 c.d] rfl
      replace hm1 := hm1.alloc (.cells #[.int .i64 c.k, .string (bs c.p.cells), .int .i64 c.p.side, .int .i64 c.p.clock, .int .i64 c.p.full, .slice A1 c.l.length n1, .int .i64 c.d] 29)
      clear hb2
      go_wp2_with fail
      generalize w2.alloc (.cells #[.int .i64 c.k, .string (bs c.p.cells), .int .i64 c.p.side, .int .i64 c.p.clock, .int .i64 c.p.full, .slice A1 c.l.length n1, .int .i64 c.d] 29) = V1 at hB2 bA hm1 ⊢
      generalize w2.heap.size = gA at bA ⊢
      clear w2
      refine (HP2.out V1 (HE.out.next hB2) (HR.out.next hB2)).mono ?_
      rintro e w3 ⟨A2, n2, rfl, hm2, hb3⟩
      have hB3 := cmd_step hB2 hb3 #[.int .i64 c2.k, .string (bs c2.p.cells), .int .i64 c2.p.side, .int .i64 c2.p.clock, .int .i64 c2.p.full, .slice A2 c2.l.length n2, .int .i64 c2.d] 29
      have bB := Blk.new w3 29 #[.int .i64 c2.k, .string (bs c2.p.cells), .int .i64 c2.p.side, .int .i64 c2.p.clock, .int .i64 c2.p.full, .slice A2 c2.l.length n2, .int .i64 c2.d] rfl
      replace hm2 := hm2.alloc (.cells #[.int .i64 c2.k, .string (bs c2.p.cells), .int .i64 c2.p.side, .int .i64 c2.p.clock, .int .i64 c2.p.full, .slice A2 c2.l.length n2, .int .i64 c2.d] 29)
      replace hm1 := (hm1.next hb3).alloc (.cells #[.int .i64 c2.k, .string (bs c2.p.cells), .int .i64 c2.p.side, .int .i64 c2.p.clock, .int .i64 c2.p.full, .slice A2 c2.l.length n2, .int .i64 c2.d] 29)
      replace bA := (bA.next hb3).alloc (.cells #[.int .i64 c2.k, .string (bs c2.p.cells), .int .i64 c2.p.side, .int .i64 c2.p.clock, .int .i64 c2.p.full, .slice A2 c2.l.length n2, .int .i64 c2.d] 29)
      clear hb3 hB2
      go_wp2_with fail
      generalize w3.alloc (.cells #[.int .i64 c2.k, .string (bs c2.p.cells), .int .i64 c2.p.side, .int .i64 c2.p.clock, .int .i64 c2.p.full, .slice A2 c2.l.length n2, .int .i64 c2.d] 29) = V2 at hB3 bA bB hm1 hm2 ⊢
      generalize w3.heap.size = gB at bB ⊢
      clear w3
      cases he : endB s with
      | true =>
        have h9 := H9.out he
        subst h9
        have HEN := Lib.hid he
        clear he bA bB hm1 hm2
        go_wp2_with fail
        go_loopw [10] (fun i wr => ∃ m : Nat, i = .int .i64 m ∧ m ≤ p ∧ (∀ (j : Nat) (h : j < (bs s).size), j < m → (bs s)[j].toNat ≠ 10 ∧ (bs s)[j].toNat ≠ 13) ∧ V2 = wr) (fun i _ => p - (intOf i).toNat)
        case atStart => exact ⟨0, rfl, Nat.zero_le _, fun j _ h => absurd h (Nat.not_lt_zero _), rfl⟩
        case round =>
          obtain ⟨m, rfl, hm, hno, rfl⟩ := hrel
          by_cases hmp : m < p
          · have bm : (m : Int) < (p : Int) := by omega
            have hms : m < (bs s).size := by rw [hss]; exact hmp
            obtain ⟨y, hy⟩ : ∃ y, (bs s)[m].toNat = y := ⟨_, rfl⟩
            by_cases h10 : y = 10
            · have y1 : ((y : Int) == 10) = true := by rw [beq_iff_eq]; omega
              have HNO := Lib.hid hno
              clear hno
              go_wp2_with fail
              refine (live23_any (HE.out.next hB3) (HR.out.next hB3)).mono ?_
              rintro e w4 ⟨rfl, hb4⟩
              go_wp2_with fail
              go_ret
              exact ⟨rfl, hB3.trans (hb4.mono hB3.size)⟩
            · have y1 : ((y : Int) == 10) = false := by rw [beq_eq_false_iff_ne]; omega
              by_cases h13 : y = 13
              · have y2 : ((y : Int) == 13) = true := by rw [beq_iff_eq]; omega
                have HNO := Lib.hid hno
                clear hno
                go_wp2_with fail
                refine (live23_any (HE.out.next hB3) (HR.out.next hB3)).mono ?_
                rintro e w4 ⟨rfl, hb4⟩
                go_wp2_with fail
                go_ret
                exact ⟨rfl, hB3.trans (hb4.mono hB3.size)⟩
              · have y2 : ((y : Int) == 13) = false := by rw [beq_eq_false_iff_ne]; omega
                have HNO := Lib.hid hno
                clear hno
                go_wp2_with fail
                go_roundw
                case rel =>
                  refine ⟨m + 1, by go_num, by omega, fun j h hj => ?_, trivial⟩
                  by_cases e : j = m
                  · subst e
                    rw [hy]
                    exact ⟨h10, h13⟩
                  · exact HNO.out j h (by omega)
                case measure => simp [intOf]; omega
          · exfalso
            have hf : endB s = false := endB_of fun b hb => by
              obtain ⟨j, hj, rfl⟩ := List.getElem_of_mem hb
              have hjs : j < (bs s).size := by rw [bs_size]; exact hj
              have := hno j hjs (by rw [← HP.out] at hmp; omega)
              exact ⟨fun e => this.1 (by have e1 : (bs s)[j]'hjs = 10 := e; rw [e1]; rfl), fun e => this.2 (by have e1 : (bs s)[j]'hjs = 13 := e; rw [e1]; rfl)⟩
            rw [HEN.out] at hf
            cases hf
      | false =>
        obtain ⟨e1, e2⟩ := HEQ.out he
        subst e1 e2
        have HEN := Lib.hid he
        clear he HEQ HBL H9
        obtain ⟨q, hq⟩ : ∃ q, c2.l.length = q := ⟨_, rfl⟩
        rw [hq] at bA bB ⊢
        have hT2 : Two w gA gB c2.k (bs c2.p.cells) c2.p.side c2.p.clock c2.p.full A1 A2 c2.l q n1 n2 c2.d a0 a1 a2 V2 := ⟨bA, bB, hm1, hm2, HE.out.next hB3, HR.out.next hB3, hB3⟩
        have HT2 := Lib.hid hT2
        have hq9 : q ≤ 1000000 := by omega
        clear bA bB hm1 hm2 hT2
        go_wp2_with fail
        go_loopw [10] (fun i wr => ∃ m : Nat, i = .int .i64 m ∧ m ≤ p ∧ V2 = wr) (fun i _ => p - (intOf i).toNat)
        case atStart => exact ⟨0, rfl, Nat.zero_le _, rfl⟩
        case round =>
          obtain ⟨m, rfl, hm, rfl⟩ := hrel
          by_cases hmp : m < p
          · have bm : (m : Int) < (p : Int) := by omega
            have hms : m < (bs s).size := by rw [hss]; exact hmp
            obtain ⟨y, hy⟩ : ∃ y, (bs s)[m].toNat = y := ⟨_, rfl⟩
            have hb := endB_not HEN.out (b := (bs s)[m]) (by
              have : (bs s)[m] = s[m]'(by rw [HP.out]; exact hmp) := rfl
              rw [this]
              exact List.getElem_mem _)
            have y1 : ((y : Int) == 10) = false := by
              rw [beq_eq_false_iff_ne]
              intro e
              refine hb.1 (UInt8.toNat_inj.1 ?_)
              rw [hy]
              show y = 10
              omega
            have y2 : ((y : Int) == 13) = false := by
              rw [beq_eq_false_iff_ne]
              intro e
              refine hb.2 (UInt8.toNat_inj.1 ?_)
              rw [hy]
              show y = 13
              omega
            clear hb
            go_wp2_with fail
            go_roundw
            case rel => exact ⟨m + 1, by go_num, by omega, trivial⟩
            case measure => simp [intOf]; omega
          · have bm : ¬ (m : Int) < (p : Int) := by omega
            go_wp2_with fail
            have hS : V2.drew.cell? ⟨gA, 0, none⟩ = some (.int .i64 c2.k) ∧ V2.drew.cell? ⟨gA, 1, none⟩ = some (.string (bs c2.p.cells)) ∧ V2.drew.cell? ⟨gA, 2, none⟩ = some (.int .i64 c2.p.side) ∧ V2.drew.cell? ⟨gA, 3, none⟩ = some (.int .i64 c2.p.clock) ∧ V2.drew.cell? ⟨gA, 4, none⟩ = some (.int .i64 c2.p.full) ∧ V2.drew.cell? ⟨gA, 5, none⟩ = some (.slice A1 q n1) ∧ V2.drew.cell? ⟨gA, 6, none⟩ = some (.int .i64 c2.d) ∧ V2.drew.cell? ⟨gB, 0, none⟩ = some (.int .i64 c2.k) ∧ V2.drew.cell? ⟨gB, 1, none⟩ = some (.string (bs c2.p.cells)) ∧ V2.drew.cell? ⟨gB, 2, none⟩ = some (.int .i64 c2.p.side) ∧ V2.drew.cell? ⟨gB, 3, none⟩ = some (.int .i64 c2.p.clock) ∧ V2.drew.cell? ⟨gB, 4, none⟩ = some (.int .i64 c2.p.full) ∧ V2.drew.cell? ⟨gB, 5, none⟩ = some (.slice A2 q n2) ∧ V2.drew.cell? ⟨gB, 6, none⟩ = some (.int .i64 c2.d) ∧ Two w gA gB c2.k (bs c2.p.cells) c2.p.side c2.p.clock c2.p.full A1 A2 c2.l q n1 n2 c2.d a0 a1 a2 V2.drew := keepC HT2.out.c (Below.refl _ _).drew
            go_region_held3 (fun W => W.cell? ⟨gA, 0, none⟩ = some (.int .i64 c2.k) ∧ W.cell? ⟨gA, 1, none⟩ = some (.string (bs c2.p.cells)) ∧ W.cell? ⟨gA, 2, none⟩ = some (.int .i64 c2.p.side) ∧ W.cell? ⟨gA, 3, none⟩ = some (.int .i64 c2.p.clock) ∧ W.cell? ⟨gA, 4, none⟩ = some (.int .i64 c2.p.full) ∧ W.cell? ⟨gA, 5, none⟩ = some (.slice A1 q n1) ∧ W.cell? ⟨gA, 6, none⟩ = some (.int .i64 c2.d) ∧ W.cell? ⟨gB, 0, none⟩ = some (.int .i64 c2.k) ∧ W.cell? ⟨gB, 1, none⟩ = some (.string (bs c2.p.cells)) ∧ W.cell? ⟨gB, 2, none⟩ = some (.int .i64 c2.p.side) ∧ W.cell? ⟨gB, 3, none⟩ = some (.int .i64 c2.p.clock) ∧ W.cell? ⟨gB, 4, none⟩ = some (.int .i64 c2.p.full) ∧ W.cell? ⟨gB, 5, none⟩ = some (.slice A2 q n2) ∧ W.cell? ⟨gB, 6, none⟩ = some (.int .i64 c2.d) ∧ Two w gA gB c2.k (bs c2.p.cells) c2.p.side c2.p.clock c2.p.full A1 A2 c2.l q n1 n2 c2.d a0 a1 a2 W)
              (first | exact hS | with_reducible assumption | exact keepC (by assumption) hb2)
              (first | (go_at_call 14; refine (told_is _ _ _ _ _ _ _ _ _ _).mono ?_; rintro e w4 ⟨rfl, hb2⟩) | (go_at_call 13; refine (sameC (by assumption) hq hq9).mono ?_; rintro e w4 ⟨rfl, hb2⟩) | (go_at_call 8; refine (liveC (by assumption)).mono ?_; rintro e w4 ⟨rfl, hb2⟩))
            all_goals
              rename_i hH
              have hBF := hH.2.2.2.2.2.2.2.2.2.2.2.2.2.2.2.2.2.2.2.2
              clear hS hH
              go_wp2_with fail
              go_ret
              exact ⟨rfl, hBF⟩
theorem walk (s : ByteArray) {w : World} {a0 a1 a2 : Addr} (hE : Env w) (hR : Errs w a0 a1 a2) : Calls Tryz.prog 5 #[.string s] w (Gives w (.bool true)) := by
  by_cases h : 1000 < s.size
  · exact large s hE hR h
  · have := small s.data.toList hE hR (by have : s.data.toList.length = s.size := rfl; omega)
    rwa [bs_back] at this
end Go.Proofs.YtpogpjebhnoncabGreatDoor.lblanks
