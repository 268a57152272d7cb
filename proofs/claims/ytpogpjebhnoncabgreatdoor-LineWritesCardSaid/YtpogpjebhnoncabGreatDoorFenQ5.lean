/- What the code reads of a text: the two counts. -/
import Derived.Test.YtpogpjebhnoncabGreatDoorFenQ4
namespace Go.Proofs.YtpogpjebhnoncabGreatDoor
open Go.RowKit Go.Shelf
open M (S)

theorem numR_yes {t : List UInt8} {u : Nat} (h : F.numL t = some u) : numR t = .tuple #[.int .i64 (u : Int), .nilIface] := by rw [numR, h]
theorem numR_no {t : List UInt8} (h : F.numL t = none) : numR t = .tuple #[.int .i64 0, refV 6] := by rw [numR, h]
theorem readNumber_is (t : List UInt8) (v : Value) (w : World) (hE : Env w) (ht : t.length ≤ 4294967281) (h : numR t = v) : Calls Tryz.prog 148 #[.string (bs t)] w (Gives w v) := by subst h; exact readNumber_any t w hE ht
/-- What readCounts answers. -/
def CountsR (d1 d2 ck fl : List UInt8) (v : Value) : Prop := match (if d1 = [45] ∧ d2 = [45] then F.numL ck else none), F.numL fl with
  | some x, some y => v = .tuple #[.int .i64 (x : Int), .int .i64 (y : Int), .nilIface]
  | _, _ => ∃ u, v = .tuple #[.int .i64 0, .int .i64 0, u] ∧ Err 6 1 u
def GivesC (w : World) (d1 d2 ck fl : List UInt8) : Ending → World → Prop := fun e w' => ∃ v, e = .returned v ∧ CountsR d1 d2 ck fl v ∧ Below w.heap.size w w'
set_option maxHeartbeats 2000000 in
theorem readCounts_any (d1 d2 ck fl : List UInt8) (g b c : Nat) (w : World) (hE : Env w) (h1 : ck.length ≤ 4294967281) (h2 : fl.length ≤ 4294967281) (hr : Rd w (some ⟨g, b, none⟩) ([d1, d2, ck, fl].map sv)) : Calls Tryz.prog 125 #[.slice (some ⟨g, b, none⟩) 4 c] w (GivesC w d1 d2 ck fl) := by
  unfold GivesC
  have cell : ∀ (w : World) (j : Nat) (x : List UInt8), Rd w (some ⟨g, b, none⟩) ([d1, d2, ck, fl].map sv) → [d1, d2, ck, fl][j]? = some x → w.cell? ⟨g, b + j, none⟩ = some (.string (bs x)) := fun w j x hr hx => by
    obtain ⟨ad', he, hc⟩ := hr j (sv x) (by rw [List.getElem?_map, hx]; rfl)
    cases he
    rw [← hc]
    congr 1
    by_cases h0 : j = 0
    · subst h0
      rfl
    · simp [Addr.add, h0]
  have HC := Lib.hid cell
  have c0 : w.cell? ⟨g, b, none⟩ = some (.string (bs d1)) := cell w 0 d1 hr rfl
  have c1 := cell w 1 d2 hr rfl
  have c2 := cell w 2 ck hr rfl
  have b1 := bs_eq d1 [45]
  have b2 := bs_eq d2 [45]
  clear cell
  by_cases e1 : d1 = [45] ∧ d2 = [45]
  · have K : ∀ v, CountsR d1 d2 ck fl v = match F.numL ck, F.numL fl with | some x, some y => v = .tuple #[.int .i64 (x : Int), .int .i64 (y : Int), .nilIface] | _, _ => ∃ u, v = .tuple #[.int .i64 0, .int .i64 0, u] ∧ Err 6 1 u := fun v => by rw [CountsR, if_pos e1]
    have HK := Lib.hid K
    rw [decide_eq_true e1.1] at b1
    rw [decide_eq_true e1.2] at b2
    clear K e1
    cases hk : F.numL ck with
    | none =>
      have HY := Lib.hid (numR_no hk)
      have HK1 := Lib.hid hk
      clear hk
      go_enter Tryz.func125, Tryz.ntmps125
      go_wp2_with fail
      refine (readNumber_is ck _ _ hE h1 HY.out).mono ?_
      rintro e w1 ⟨rfl, hb⟩
      unfold refV
      go_wp2
      go_ret3
      refine ⟨_, rfl, ?_, hb⟩
      rw [HK.out, HK1.out]
      exact ⟨_, rfl, .inr ⟨_, _, rfl, rfl⟩⟩
    | some x =>
      have HY := Lib.hid (numR_yes hk)
      have HK1 := Lib.hid hk
      clear hk
      cases hf : F.numL fl with
      | none =>
        have HZ := Lib.hid (numR_no hf)
        have HK2 := Lib.hid hf
        clear hf
        go_enter Tryz.func125, Tryz.ntmps125
        go_wp2_with fail
        refine (readNumber_is ck _ _ hE h1 HY.out).mono ?_
        rintro e w1 ⟨rfl, hb⟩
        have c3 := HC.out w1 3 fl (hr.next hb) rfl
        go_wp2_with fail
        refine (readNumber_is fl _ _ (hE.next hb) h2 HZ.out).mono ?_
        rintro e w2 ⟨rfl, hb2⟩
        unfold refV
        go_wp2
        go_ret3
        refine ⟨_, rfl, ?_, hb.trans (hb2.mono hb.size)⟩
        rw [HK.out, HK1.out, HK2.out]
        exact ⟨_, rfl, .inr ⟨_, _, rfl, rfl⟩⟩
      | some y =>
        have HZ := Lib.hid (numR_yes hf)
        have HK2 := Lib.hid hf
        clear hf
        go_enter Tryz.func125, Tryz.ntmps125
        go_wp2_with fail
        refine (readNumber_is ck _ _ hE h1 HY.out).mono ?_
        rintro e w1 ⟨rfl, hb⟩
        have c3 := HC.out w1 3 fl (hr.next hb) rfl
        go_wp2_with fail
        refine (readNumber_is fl _ _ (hE.next hb) h2 HZ.out).mono ?_
        rintro e w2 ⟨rfl, hb2⟩
        go_wp2
        go_ret3
        refine ⟨_, rfl, ?_, hb.trans (hb2.mono hb.size)⟩
        rw [HK.out, HK1.out, HK2.out]
        rfl
  · have K : ∀ u, Err 6 1 u → CountsR d1 d2 ck fl (.tuple #[.int .i64 0, .int .i64 0, u]) := fun u hu => by
      rw [CountsR, if_neg e1]
      exact ⟨_, rfl, hu⟩
    have HK := Lib.hid K
    clear K
    by_cases e2 : d1 = [45]
    · have e3 : ¬ d2 = [45] := fun e => e1 ⟨e2, e⟩
      rw [decide_eq_true e2] at b1
      rw [decide_eq_false e3] at b2
      clear e1 e2 e3
      go_enter Tryz.func125, Tryz.ntmps125
      go_wp2_with fail
      refine (malformed_any _).mono ?_
      rintro e w1 ⟨rfl, hb⟩
      go_wp2
      go_ret3
      exact ⟨_, rfl, HK.out _ (.inl rfl), hb⟩
    · rw [decide_eq_false e2] at b1
      clear e1 e2 b2
      go_enter Tryz.func125, Tryz.ntmps125
      go_wp2_with fail
      refine (malformed_any _).mono ?_
      rintro e w1 ⟨rfl, hb⟩
      go_wp2
      go_ret3
      exact ⟨_, rfl, HK.out _ (.inl rfl), hb⟩
end Go.Proofs.YtpogpjebhnoncabGreatDoor
