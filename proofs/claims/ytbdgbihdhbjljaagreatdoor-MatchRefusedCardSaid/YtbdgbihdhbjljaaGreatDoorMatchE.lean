/- What is banned, handed out: Banned. -/
import Derived.Test.YtbdgbihdhbjljaaGreatDoorMatchD
import Derived.Test.YtbdgbihdhbjljaaGreatDoorJudgeX
namespace Go.Proofs.YtbdgbihdhbjljaaGreatDoor
open Go.RowKit Go.Shelf
open M (S)

theorem mzL_one (l : List (Int × Int)) : ∀ u ∈ mzL l, u.oneCell' = true := by
  intro u hu
  unfold mzL at hu
  rw [List.mem_flatMap] at hu
  obtain ⟨x, _, hx⟩ := hu
  simp only [List.mem_cons, List.not_mem_nil, or_false] at hx
  rcases hx with rfl | rfl <;> rfl
theorem clone_start (w : World) : (w.alloc (.cells #[] 48)).ownsRow w.heap.size 48 2 (.slice (some ⟨w.heap.size, 0, none⟩) 0 0) 0 [] :=
  ⟨rfl, .inr ⟨w.heap.size, 0, _, rfl, Nat.le_refl _, Blk.new w 48 #[] rfl, Nat.le_refl _, Nat.zero_le _, rfl, rfl⟩⟩
theorem clone_below {w w' : World} {o : Obj} (h : (w.alloc o).grownBy w' (Value.ownBlock (.slice (some ⟨w.heap.size, 0, none⟩) 0 0))) : Below w.heap.size w w' :=
  (below_new w o).trans ⟨h.os, h.tape, h.output, h.size, fun k hk => h.block k (by rw [World.size_alloc]; omega) (by simp [Value.ownBlock]; omega)⟩
set_option maxRecDepth 100000 in
set_option maxHeartbeats 4000000 in
theorem mclone_any (A : Option Addr) (bs : List (Int × Int)) (n c : Nat) (w : World) (hr : Rd w A (mzL bs)) (hn : bs.length = n) (h9 : n ≤ 1000000) : Calls Tryz.prog 58 #[.slice A n c] w fun e w' => ∃ v', e = .returned v' ∧ w'.ownsRow w.heap.size 48 2 v' n (mzL bs) ∧ Below w.heap.size w w' := by
  cases A with
  | none =>
    have h0 : bs = [] := by
      cases bs with
      | nil => rfl
      | cons x l =>
        obtain ⟨ad, hA, _⟩ := hr 0 (iv x.1) rfl
        cases hA
    subst h0
    obtain rfl : n = 0 := hn.symm
    clear hr
    have he : ∀ w : World, (binOp .eql 24 (.slice none 0 c) (.slice none 0 0)).run Tryz.prog w = .ok (.bool true) w := fun _ => rfl
    go_enter Tryz.func58, Tryz.ntmps58
    go_wp2_with fail
    go_ret
    exact ⟨_, rfl, World.ownsRow_nil _ _ _ _, Below.refl _ _⟩
  | some ad =>
    have he : ∀ w : World, (binOp .eql 24 (.slice (some ad) n c) (.slice none 0 0)).run Tryz.prog w = .ok (.bool false) w := fun _ => rfl
    obtain ⟨i1, hj, hy0, hy1, hy2⟩ := info_parts info_move
    have HN0 := Lib.hid (clone_start w)
    have HLN : Hid ((mzL bs).length = n * 2) := by show _ = _; rw [mzL_len, hn]
    have hrd : ∀ j u, (mzL bs)[j]? = some u → (w.alloc (.cells #[] 48)).cell? (ad.add j) = some u := fun j u hu => by
      obtain ⟨ad', hA, hc⟩ := (hr.next (below_new w (.cells #[] 48))) j u hu
      cases hA
      exact hc
    have HRD := Lib.hid hrd
    have HONE := Lib.hid (mzL_one bs)
    have HML : Hid (0 + n ≤ maxLen) := by show _ ≤ _; unfold maxLen; omega
    have HBY : Hid ((0 + n) * 16 ≤ 140737488355328) := by show _ ≤ _; omega
    have HSZ : Hid (w.heap.size ≤ (w.alloc (.cells #[] 48)).heap.size) := by show _ ≤ _; rw [World.size_alloc]; exact Nat.le_succ _
    clear hr hn hrd
    go_enter Tryz.func58, Tryz.ntmps58
    go_wp2_with (at_builtin; refine wpList_append_own_at _ rfl _ _ 24 rfl w.heap.size 48 i1 (.agg #[.int .i64 0, .int .i64 0]) 2 16 Tryz.underlying24 hj hy0 hy1 hy2 rfl (by decide) _ 0 [] rfl HN0.out ad n c (mzL bs) rfl HLN.out HRD.out HONE.out HML.out HBY.out HSZ.out ?_; intro v1 w5 hown hgrow _ hat; have HO := Lib.hid hown; have HG := Lib.hid (clone_below hgrow); clear hown hgrow hat)
    go_ret
    refine ⟨_, rfl, ?_, HG.out⟩
    have h := HO.out
    rw [Nat.zero_add, List.nil_append] at h
    exact h
set_option maxHeartbeats 1000000 in
theorem mbanned_nil (W : World) : Calls Tryz.prog 25 #[.pointer none] W (Gives W (.slice none 0 0)) := by
  unfold Gives
  go_enter Tryz.func25, Tryz.ntmps25
  go_wp2
  go_ret
  exact ⟨rfl, Below.refl _ _⟩
set_option maxHeartbeats 1000000 in
theorem mbanned_any {W : World} {mb : Nat} {p : Ps} {k r : Int} {n : Nat} {A : Option Addr} {c : Nat} {bs : List (Int × Int)} (h : MAt W mb p k r n A c bs) (h9 : bs.length ≤ 1000000) : Calls Tryz.prog 25 #[.pointer (some ⟨mb, 0, none⟩)] W fun e w' => ∃ v', e = .returned v' ∧ w'.ownsRow W.heap.size 48 2 v' bs.length (mzL bs) ∧ Below W.heap.size W w' := by
  obtain ⟨_, _, _, _, _, _, _, d7⟩ := m_cells h.blk
  have HC := Lib.hid (mclone_any A bs bs.length c W h.rd rfl h9)
  clear h
  go_enter Tryz.func25, Tryz.ntmps25
  go_wp2_with fail
  refine HC.out.mono ?_
  rintro e w1 ⟨v', rfl, ho, hb⟩
  have HO := Lib.hid ho
  have HB := Lib.hid hb
  clear ho hb
  go_wp2_with fail
  go_ret
  exact ⟨_, rfl, HO.out, HB.out⟩
end Go.Proofs.YtbdgbihdhbjljaaGreatDoor
