/- What Words answers, and the parts of Parse. -/
import Derived.Test.YtpogpjebhnoncabGreatDoorLineB
import Derived.Test.YtpogpjebhnoncabGreatDoorFenQ8
import Derived.Test.YtpogpjebhnoncabGreatDoorIccsG
namespace Go.Proofs.YtpogpjebhnoncabGreatDoor
open Go.RowKit Go.Shelf Go.Proofs.YtpogpjebhnoncabGreatDoor.Ln
open M (S)

/-- A line's words, or none, if it is too long. -/
def wordsV (s : List UInt8) : List (List UInt8) := if 4096 < s.length then [] else wordsB s
theorem words_le (s : List UInt8) : (wordsV s).length ≤ 4097 := by
  unfold wordsV
  split
  · exact Nat.zero_le _
  · have := words_len s; omega
set_option maxRecDepth 100000 in
set_option maxHeartbeats 4000000 in
theorem words_any (s : List UInt8) (w : World) (hE : Env w) (hs : s.length < 4294967281) : Calls Tryz.prog 15 #[.string (bs s)] w fun e w' => ∃ v, e = .returned v ∧ w'.ownsRow w.heap.size 9 1 v (wordsV s).length ((wordsV s).map sv) ∧ Below w.heap.size w w' := by
  have hz := bs_size s
  unfold wordsV
  go_enter Tryz.func15, Tryz.ntmps15
  by_cases hl : 4096 < s.length
  · have h0 : (4096 : Int) < ((bs s).size : Int) := by omega
    rw [if_pos hl]
    go_wp2_with fail
    go_ret
    exact ⟨_, rfl, by simpa using World.ownsRow_nil w w.heap.size 9 1, Below.refl _ _⟩
  · have h0 : ¬ (4096 : Int) < ((bs s).size : Int) := by omega
    rw [if_neg hl]
    go_wp2_with fail
    refine (tabs_any s w hE (by omega)).mono ?_
    rintro e w1 ⟨rfl, hb1⟩
    go_wp2_with fail
    obtain ⟨ys, hys⟩ : ∃ ys, F.cutL 32 (s.map tb) = ys := ⟨_, rfl⟩
    have hyl : ys.length ≤ 4097 := by
      rw [← hys]
      have := cut_len 32 (s.map tb)
      rw [List.length_map] at this
      omega
    refine (splitall_is (s.map tb) w1 (hE.next hb1) (by rw [List.length_map]; omega) ys hys _ rfl).mono ?_
    rintro e w2 ⟨g, c, rfl, ⟨hc, hg⟩, hr, hb2⟩
    go_wp2_with fail
    refine (without_is g c ys.length ys w2 hr rfl (by omega)).mono ?_
    rintro e w3 ⟨v, rfl, hown, hb3⟩
    go_wp2_with fail
    go_ret
    have hb := hb1.trans (hb2.mono hb1.size)
    refine ⟨v, rfl, ?_, hb.trans (hb3.mono hb.size)⟩
    unfold wordsB
    rw [hys]
    refine ⟨hown.1, ?_⟩
    rcases hown.2 with h0 | ⟨g, cap, cur, hv, hg, r⟩
    · exact .inl h0
    · exact .inr ⟨g, cap, cur, hv, Nat.le_trans hb.size hg, r⟩


theorem own_nextL {w w1 : World} {base : Nat} {e : TypeId} {size : Nat} {v : Value} {n : Nat} {xs : List Value} (h : w.ownsRow base e size v n xs) (hb : Below w.heap.size w w1) : w1.ownsRow base e size v n xs := by
  refine ⟨h.1, ?_⟩
  rcases h.2 with h2 | ⟨g, cap, cur, hv, hg, hc, hr⟩
  · exact .inl h2
  · exact .inr ⟨g, cap, cur, hv, hg, (hb.block g (Array.getElem?_eq_some_iff.1 hc).1).trans hc, hr⟩
theorem own_anyL {w : World} {base : Nat} {e : TypeId} {size n : Nat} {v : Value} {xs : List Value} (h : w.ownsRow base e size v n xs) : ∃ A c, v = .slice A n c ∧ Rd w A xs ∧ n ≤ c := by
  have hlen := h.1
  rcases h.2 with ⟨rfl, rfl⟩ | ⟨g, cap, cur, rfl, _, hc, hn, _, hs, ht⟩
  · refine ⟨none, 0, rfl, fun j u hu => ?_, Nat.le_refl _⟩
    rw [List.getElem?_eq_none (by omega)] at hu
    cases hu
  · refine ⟨_, _, rfl, fun j u hu => ⟨_, rfl, ?_⟩, hn⟩
    have hj : j < xs.length := by
      rcases Nat.lt_or_ge j xs.length with h | h
      · exact h
      · rw [List.getElem?_eq_none h] at hu
        cases hu
    have e1 : (⟨g, 0, none⟩ : Addr).add j = ⟨g, j, none⟩ := by
      simp only [Addr.add]
      split <;> simp_all
    rw [e1]
    have hb : Blk w g e cur := hc
    rw [hb.cell j, ← hu, ← ht, List.getElem?_take, if_pos (by omega)]
    simp
/-- Texts in memory lie one behind the other from some address on. -/
theorem rd_form {w : World} {A : Option Addr} {l : List (List UInt8)} (h : Rd w A (l.map sv)) (h0 : 0 < l.length) : ∃ g b, A = some ⟨g, b, none⟩ ∧ ∀ j x, l[j]? = some x → w.cell? ⟨g, b + j, none⟩ = some (.string (bs x)) := by
  have e0 : (l.map sv)[0]? = some (sv l[0]) := by rw [List.getElem?_map, List.getElem?_eq_getElem h0]; rfl
  obtain ⟨⟨g, b, sp⟩, rfl, hc⟩ := h 0 _ e0
  have hsp : sp = none := by simpa [Addr.add] using World.cell?_spot hc
  subst hsp
  exact ⟨g, b, rfl, fun j x hx => rd_at h j x hx⟩
theorem rd_sub {w : World} {g b k : Nat} {l : List (List UInt8)} (h : ∀ j x, l[j]? = some x → w.cell? ⟨g, b + j, none⟩ = some (.string (bs x))) : Rd w (some ⟨g, b + k, none⟩) ((l.drop k).map sv) := rd_of fun j x hx => by
  rw [List.getElem?_drop] at hx
  rw [Nat.add_assoc]
  exact h (k + j) x hx
theorem rd_take {w : World} {A : Option Addr} {l : List (List UInt8)} (h : Rd w A (l.map sv)) (k : Nat) : Rd w A ((l.take k).map sv) := fun j u hu => h j u (by
  rw [List.map_take, List.getElem?_take] at hu
  split at hu
  · exact hu
  · cases hu)
theorem alloc_sz (w : World) (o : Obj) : (w.alloc o).heap.size = w.heap.size + 1 := Array.size_push ..
def mvN (l : List (Int × Int)) : List Value := l.flatMap fun m => [iv m.1, iv m.2]
theorem mvN_snoc (l : List (Int × Int)) (x : Int × Int) : mvN (l ++ [x]) = mvN l ++ [iv x.1, iv x.2] := by simp [mvN]
/-- What is told of moves that are read. -/
def MovesG (R : Except Int (List (Int × Int))) (B : Nat) (v : Value) (er : Int) (w' : World) : Prop := match R with
  | .ok ms => er = 0 ∧ w'.ownsRow B 60 2 v ms.length (mvN ms)
  | .error k => er = k ∧ v = .slice none 0 0
theorem mvR_snoc : ∀ (a : List (List UInt8)) (x : List UInt8), mvR (a ++ [x]) = match mvR a, readT (bs x) with | some l, some m => some (l ++ [m]) | _, _ => none
  | [], x => by
    rw [List.nil_append, mvR, mvR]
    cases readT (bs x) <;> rfl
  | y :: a, x => by
    rw [List.cons_append, mvR, mvR, mvR_snoc a x]
    cases readT (bs y) <;> cases mvR a <;> cases readT (bs x) <;> rfl
theorem mvR_app_none : ∀ {a b : List (List UInt8)}, mvR a = none → mvR (a ++ b) = none
  | [], b, h => by cases h
  | y :: a, b, h => by
    rw [List.cons_append, mvR]
    rw [mvR] at h
    cases hy : readT (bs y) with
    | none => rfl
    | some m =>
      rw [hy] at h
      cases ha : mvR a with
      | none => rw [mvR_app_none ha]
      | some l => rw [ha] at h; cases h
theorem info_mv : (Tryz.prog.info? 60).map (fun i => (i.zero, i.size, i.bytes)) = some (some (.agg #[.int .i64 0, .int .i64 0]), 2, 16) := by kernel_rfl
set_option maxRecDepth 100000 in
set_option maxHeartbeats 4000000 in
theorem readMoves_any (A : Option Addr) (n c : Nat) (l : List (List UInt8)) {w : World} {a0 a1 a2 : Addr} (hE : Errs w a0 a1 a2) (hr : Rd w A (l.map sv)) (hn : l.length = n) (hl : n ≤ 100000) : Calls Tryz.prog 43 #[.slice A n c] w fun e w' => ∃ v er, e = .returned (.tuple #[v, .int .i64 er]) ∧ MovesG (movesR l) w.heap.size v er w' ∧ Below w.heap.size w w' := by
  have H := Lib.hid hr
  have HN := Lib.hid hn
  have HE := Lib.hid hE
  clear hr hn hE
  obtain ⟨i0, hi, hz0, hz1, hz2⟩ := info_parts info_mv
  go_enter Tryz.func43, Tryz.ntmps43
  go_wp2_with fail
  go_loopw [11, 4] (fun i v wr => ∃ (k : Nat) (ms : List (Int × Int)), i = .int .i64 k ∧ k ≤ n ∧ ms.length = k ∧ mvR (l.take k) = some ms ∧ wr.ownsRow w.heap.size 60 2 v k (mvN ms) ∧ Below w.heap.size w wr) (fun i _ _ => n - (intOf i).toNat)
  case atStart => exact ⟨0, [], rfl, Nat.zero_le _, rfl, rfl, World.ownsRow_nil w w.heap.size 60 2, Below.refl _ _⟩
  case round =>
    obtain ⟨k, ms, rfl, hk, hms, hrd, hown, hB⟩ := hrel
    have hbs := hB.size
    by_cases hlt : k < n
    · have hkl : k < l.length := by rw [HN.out]; exact hlt
      obtain ⟨x, hx⟩ : ∃ x, l[k] = x := ⟨_, rfl⟩
      have hx? : l[k]? = some x := by rw [List.getElem?_eq_getElem hkl, hx]
      obtain ⟨g, b, rfl, hc⟩ := rd_form H.out (by omega)
      have e0 := hc k x hx?
      replace e0 := (hB.cell (cell_lt e0)).trans e0
      have bk : (k : Int) < (n : Int) := by omega
      have htk : l.take (k + 1) = l.take k ++ [x] := by rw [List.take_add_one, hx?]; rfl
      have hp := iparse_any (HE.out.next hB) (bs x)
      unfold parseM at hp
      have HTK := Lib.hid htk
      have HRD := Lib.hid hrd
      have HX := Lib.hid hx?
      clear hx htk hrd hc hx?
      cases hm : readT (bs x) with
      | none =>
        rw [hm] at hp
        have HP := Lib.hid hp
        have HM : Hid (movesR l = .error 6) := by
          show _ = _
          unfold movesR
          have : mvR l = none := by
            rw [← List.take_append_drop (k + 1) l]
            apply mvR_app_none
            rw [HTK.out, mvR_snoc, HRD.out, hm]
          rw [this]
        clear hp hm
        go_wp2_with fail
        refine HP.out.mono ?_
        rintro e w1 ⟨rfl, hb1⟩
        go_wp2_with fail
        go_ret2
        have hB2 := (hB.trans (hb1.mono hbs)).alloc (Nat.le_trans hbs hb1.size) (.cells #[.int .i64 0, .int .i64 0] 60)
        refine ⟨_, _, rfl, ?_, hB2⟩
        unfold MovesG
        rw [HM.out]
        exact ⟨rfl, rfl⟩
      | some m =>
        obtain ⟨x0, x1⟩ := m
        rw [hm] at hp
        have HP := Lib.hid hp
        have HM : Hid (mvR (l.take (k + 1)) = some (ms ++ [(x0, x1)])) := by
          show _ = _
          rw [HTK.out, mvR_snoc, HRD.out, hm]
        clear hp hm
        go_wp2_with fail
        refine HP.out.mono ?_
        rintro e w1 ⟨rfl, hb1⟩
        have hB1 := (hB.trans (hb1.mono hbs)).alloc (Nat.le_trans hbs hb1.size) (.cells #[.int .i64 x0, .int .i64 x1] 60)
        have hown1 := own_nextL (own_nextL hown hb1) ((Below.refl _ _).alloc (Nat.le_refl _) (.cells #[.int .i64 x0, .int .i64 x1] 60))
        have hcell := cell_two_new (w1.alloc (.cells #[.int .i64 x0, .int .i64 x1] 60)) (.int .i64 x0) (.int .i64 x1) 60
        rw [alloc_sz] at hcell
        have HB1 := Lib.hid hB1
        have HO1 := Lib.hid hown1
        have HCL := Lib.hid hcell
        have hk0 : ∀ u ∈ [iv x0, iv x1], u.oneCell' = true := by simp [Value.oneCell']
        have hk1 : k + 1 ≤ maxLen := by unfold maxLen; omega
        have hk2 : (k + 1) * 16 ≤ 140737488355328 := by omega
        have hk3 := Nat.le_trans hB1.size (Nat.le_of_lt (Nat.lt_of_lt_of_eq (Nat.lt_succ_self _) (alloc_sz (w1.alloc (.cells #[.int .i64 x0, .int .i64 x1] 60)) (.cells #[.int .i64 x0, .int .i64 x1] 60)).symm))
        clear hB1 hown1 hcell hown
        go_wp2_with (at_builtin; refine wpList_append_own _ rfl _ _ 24 rfl w.heap.size 60 i0 (.agg #[.int .i64 0, .int .i64 0]) 2 16 Tryz.underlying24 hi hz0 hz1 hz2 rfl (by decide) _ _ _ rfl (HO1.out.alloc _) ⟨w1.heap.size + 1, 0, none⟩ 1 1 [iv x0, iv x1] rfl rfl HCL.out hk0 hk1 hk2 hk3 ?_; intro v' w2 hown' hgrow _)
        go_roundw
        case rel => exact ⟨k + 1, ms ++ [(x0, x1)], by go_num, by omega, by simp [hms], HM.out, by rw [mvN_snoc]; exact hown', below_app HB1.out HB1.out.size HO1.out hgrow⟩
        case measure => simp [intOf]; omega
    · obtain rfl : k = n := by omega
      have hall : l.take k = l := List.take_of_length_le (by rw [HN.out]; exact Nat.le_refl _)
      rw [hall] at hrd
      have bk : ¬ (k : Int) < (k : Int) := by omega
      obtain ⟨A', c', rfl, _, _⟩ := own_anyL hown
      by_cases hbig : 1024 < k
      · have HM : Hid (movesR l = .error 8) := by
          show _ = _
          unfold movesR
          rw [hrd]
          exact if_pos (by omega)
        have b1 : (1024 : Int) < (k : Int) := by omega
        go_wp2_with fail
        go_ret2
        refine ⟨_, _, rfl, ?_, hB⟩
        unfold MovesG
        rw [HM.out]
        exact ⟨rfl, rfl⟩
      · have HM : Hid (movesR l = .ok ms) := by
          show _ = _
          unfold movesR
          rw [hrd]
          exact if_neg (by omega)
        have b1 : ¬ (1024 : Int) < (k : Int) := by omega
        go_wp2_with fail
        go_ret2
        refine ⟨_, _, rfl, ?_, hB⟩
        unfold MovesG
        rw [HM.out]
        exact ⟨rfl, by rw [hms]; exact hown⟩
end Go.Proofs.YtpogpjebhnoncabGreatDoor
