/- What may be banned, and what is left: Ban, Moves, Banned. -/
import Derived.Test.YtbdgbihdhbjljaaGreatDoorMatchB
namespace Go.Proofs.YtbdgbihdhbjljaaGreatDoor
open Go.RowKit Go.Shelf
open M (S)

/-- The moves that may be made. -/
def allI (p : Ps) : List (Int × Int) := (legalV p.s p.y p.z p.u).map fun m => ((m.1 : Int), (m.2 : Int))
theorem mvs_mz (l : List (Nat × Nat)) : mvs l = mzL (l.map fun m => ((m.1 : Int), (m.2 : Int))) := by
  induction l with
  | nil => rfl
  | cons x l ih =>
    show iv x.1 :: iv x.2 :: mvs l = iv x.1 :: iv x.2 :: mzL (l.map fun m => ((m.1 : Int), (m.2 : Int)))
    rw [ih]
theorem allI_len (p : Ps) : (allI p).length ≤ 8100 := by
  unfold allI
  rw [List.length_map]
  exact legalV_len _ _ _ _
def inI (xs : List (Int × Int)) (x : Int × Int) : Bool := xs.any fun y => (y.1 == x.1) && (y.2 == x.2)
/-- Those that are banned. -/
def banL (p : Ps) (xs : List (Int × Int)) : List (Int × Int) := (allI p).filter fun x => inI xs x
theorem ban_two (p : Ps) (xs : List (Int × Int)) : ((allI p).filter fun x => !(!inI xs x)) = banL p xs := by unfold banL; simp only [Bool.not_not]
/-- Those that are left. -/
def leftL (p : Ps) (bs : List (Int × Int)) : List (Int × Int) := (allI p).filter fun x => !inI bs x
theorem Wish.later {g : FuncId} {lb : Array Value} {p : Int × Int → Bool} {B : Nat} {w w' : World} (h : Wish g lb p B w) (hb : Below B w w') : Wish g lb p B w' := fun W a b hB => h W a b (hb.trans hB)
theorem own_down {w : World} {B B' : Nat} {e : TypeId} {v : Value} {n : Nat} {l : List (Nat × Nat)} (h : w.ownsRow B e 2 v n (mvs l)) (hB : B' ≤ B) : w.ownsRow B' e 2 v n (mzL (l.map fun m => ((m.1 : Int), (m.2 : Int)))) := by
  rw [mvs_mz] at h
  refine ⟨h.1, ?_⟩
  rcases h.2 with h0 | ⟨g, cap, cur, rfl, hg, r⟩
  · exact .inl h0
  · exact .inr ⟨g, cap, cur, rfl, Nat.le_trans hB hg, r⟩
set_option maxHeartbeats 1000000 in
theorem mdelete_own (g : FuncId) (lb : Array Value) (eg : ∀ args w, (callFunc g args).run Tryz.prog w = .ok (.enter g args) w) (v : Value) (n : Nat) (xs : List (Int × Int)) (p : Int × Int → Bool) (B : Nat) (w : World) (hp : Wish g lb p B w) (hrow : w.ownsRow B 48 2 v n (mzL xs)) (hn : xs.length = n) (h9 : n ≤ 1000000) (hBw : B ≤ w.heap.size) :
    Calls Tryz.prog 52 #[v, .func (.func g) #[] lb] w fun e w' => ∃ v', e = .returned v' ∧ w'.ownsRow B 48 2 v' (xs.filter fun x => !p x).length (mzL (xs.filter fun x => !p x)) ∧ Below B w w' := by
  rcases hrow.2 with ⟨rfl, rfl⟩ | ⟨gb, cap, cur, rfl, hgb, hc, h1, h2, h3, h4⟩
  · have hx : xs = [] := List.length_eq_zero_iff.1 hn
    subst hx
    have HI := Lib.hid (mindexf_any g lb eg none 0 0 [] p B w hp hBw (rd_nil _ _) rfl (Nat.zero_le _))
    clear hp hrow
    go_enter Tryz.func52, Tryz.ntmps52
    go_wp2_with fail
    refine HI.out.mono ?_
    rintro e w1 ⟨o, rfl, ho, hb⟩
    cases o with
    | none =>
      have HB1 : Hid (Below B w w1) := hb.mono hBw
      clear hb ho
      go_wp2_with fail
      go_ret
      exact ⟨_, rfl, World.ownsRow_nil _ _ _ _, HB1.out⟩
    | some q => exact absurd ho.1 (by simp)
  · exact (mdelete_any g lb eg gb n cap xs p B w hp hrow hn h9).mono fun e w' ⟨he, ho, hb⟩ => ⟨_, he, ho, hb⟩
theorem own_far {w w' : World} {X : Nat → Prop} (h : Far X w w') {B : Nat} {e : TypeId} {size : Nat} {v : Value} {n : Nat} {xs : List Value} (ho : w.ownsRow B e size v n xs) (hx : ∀ g, B ≤ g → ¬ X g) : w'.ownsRow B e size v n xs := by
  refine ⟨ho.1, ?_⟩
  rcases ho.2 with h0 | ⟨g, cap, cur, hv, hg, hc, r⟩
  · exact .inl h0
  · exact .inr ⟨g, cap, cur, hv, hg, (h.block g (Array.getElem?_eq_some_iff.1 hc).1 (hx g hg)).trans hc, r⟩
set_option maxHeartbeats 1000000 in
theorem ban1_is {W : World} {mb bx : Nat} {p : Ps} {k r : Int} {n : Nat} {A : Option Addr} {c : Nat} {bs : List (Int × Int)} (h : MAt W mb p k r n A c bs) (hT : Tab W) (hb : Blk W bx 35 #[.pointer (some ⟨mb, 0, none⟩)]) (a b : Int) : Calls Tryz.prog 50 #[.agg #[.int .i64 a, .int .i64 b], .pointer (some ⟨bx, 0, none⟩)] W (Gives W (.bool (!isV p.s p.y p.z p.u a b))) := by
  unfold Gives
  obtain ⟨W0, hW0⟩ : ∃ W0, W.alloc (.cells #[.int .i64 a, .int .i64 b] 48) = W0 := ⟨_, rfl⟩
  have hB : Below W.heap.size W W0 := by rw [← hW0]; exact below_new _ _
  have bX : Blk W0 W.heap.size 48 #[.int .i64 a, .int .i64 b] := by rw [← hW0]; exact Blk.new _ _ _ rfl
  have x0 : W0.cell? ⟨W.heap.size, 0, none⟩ = some (.int .i64 a) := bX.cell 0
  have x1 : W0.cell? ⟨W.heap.size, 1, none⟩ = some (.int .i64 b) := bX.cell 1
  have b0 : W0.cell? ⟨bx, 0, none⟩ = some (.pointer (some ⟨mb, 0, none⟩)) := (hb.next hB).cell 0
  have HB := Lib.hid hB
  have HW := Lib.hid hW0
  have HM' := Lib.hid (fun W' (hb' : Below W0.heap.size W0 W') => mmay_is ((h.next hB).next hb') ((hT.next hB).next hb') a b)
  clear hW0 bX hb h hT hB
  go_enter Tryz.func50, Tryz.ntmps50
  go_wp2_with fail
  (try rw [HW.out])
  go_region_with ((go_at_call 51; refine (HM'.out W0.drew (Below.refl _ _).drew).mono ?_; rintro e w1 ⟨rfl, hb⟩))
  all_goals
    go_wp2
    go_ret
    exact ⟨rfl, HB.out.trans (((Below.refl _ _).drew.trans hb).mono HB.out.size)⟩
set_option maxHeartbeats 1000000 in
theorem ban2_is {W : World} {bl : Nat} {C : Option Addr} {xs : List (Int × Int)} {m d : Nat} (hr : Rd W C (mzL xs)) (hm : xs.length = m) (h9 : m ≤ 1000000) (hb : Blk W bl 24 #[.slice C m d]) (a b : Int) : Calls Tryz.prog 54 #[.agg #[.int .i64 a, .int .i64 b], .pointer (some ⟨bl, 0, none⟩)] W (Gives W (.bool (!inI xs (a, b)))) := by
  unfold Gives
  obtain ⟨W0, hW0⟩ : ∃ W0, W.alloc (.cells #[.int .i64 a, .int .i64 b] 48) = W0 := ⟨_, rfl⟩
  have hB : Below W.heap.size W W0 := by rw [← hW0]; exact below_new _ _
  have bX : Blk W0 W.heap.size 48 #[.int .i64 a, .int .i64 b] := by rw [← hW0]; exact Blk.new _ _ _ rfl
  have x0 : W0.cell? ⟨W.heap.size, 0, none⟩ = some (.int .i64 a) := bX.cell 0
  have x1 : W0.cell? ⟨W.heap.size, 1, none⟩ = some (.int .i64 b) := bX.cell 1
  have b0 : (W.alloc (.cells #[.int .i64 a, .int .i64 b] 48)).cell? ⟨bl, 0, none⟩ = some (.slice C m d) := by rw [hW0]; exact (hb.next hB).cell 0
  have HM' := Lib.hid (fun W' (hb' : Below W0.heap.size W0 W') => mcontains_any C m d xs a b (inI xs (a, b)) W' ((hr.next hB).next hb') hm h9 rfl)
  have HB := Lib.hid hB
  have HW := Lib.hid hW0
  clear hW0 bX hb hr hm hB
  go_enter Tryz.func54, Tryz.ntmps54
  go_wp2_with fail
  (try rw [HW.out])
  refine (HM'.out W0 (Below.refl _ _)).mono ?_
  rintro e w1 ⟨rfl, hb⟩
  go_wp2
  go_ret
  exact ⟨rfl, HB.out.trans (hb.mono HB.out.size)⟩
theorem enters_ban1 : ∀ args w, (callFunc 50 args).run Tryz.prog w = .ok (.enter 50 args) w := enters_of Tryz.func50 (by kernel_rfl) rfl
theorem enters_ban2 : ∀ args w, (callFunc 54 args).run Tryz.prog w = .ok (.enter 54 args) w := enters_of Tryz.func54 (by kernel_rfl) rfl
theorem mdelete_ban (lb : Array Value) (v : Value) (n : Nat) (p : Ps) (xs : List (Int × Int)) (B : Nat) (w : World) (hp : Wish 54 lb (fun x => !inI xs x) B w) (hrow : w.ownsRow B 48 2 v n (mzL (allI p))) (hn : (allI p).length = n) (h9 : n ≤ 1000000) (hBw : B ≤ w.heap.size) :
    Calls Tryz.prog 52 #[v, .func (.func 54) #[] lb] w fun e w' => ∃ v', e = .returned v' ∧ w'.ownsRow B 48 2 v' (banL p xs).length (mzL (banL p xs)) ∧ Below B w w' :=
  (mdelete_own _ lb enters_ban2 v n (allI p) (fun x => !inI xs x) B w hp hrow hn h9 hBw).mono fun e w' ⟨v', he, ho, hb⟩ => ⟨v', he, by rw [← ban_two]; exact ho, hb⟩
set_option maxRecDepth 100000 in
set_option maxHeartbeats 4000000 in
theorem mban_any {W : World} {mb : Nat} {p : Ps} {k r : Int} {n : Nat} {A : Option Addr} {c : Nat} {bs : List (Int × Int)} (h : MAt W mb p k r n A c bs) (hT : Tab W) (C : Option Addr) (xs : List (Int × Int)) (m d : Nat) (hr : Rd W C (mzL xs)) (hm : xs.length = m) (h9 : m ≤ 1000000) (v : Bool) (hv : xs.any (fun x => !isV p.s p.y p.z p.u x.1 x.2) = v) : Calls Tryz.prog 22 #[.pointer (some ⟨mb, 0, none⟩), .slice C m d] W fun e w' => e = .returned (.int .i64 (if v then 7 else 0)) ∧ ((v = true ∧ Below W.heap.size W w') ∨ (v = false ∧ ∃ A' c', MAt w' mb p k r n A' c' (banL p xs) ∧ Far (· = mb) W w')) := by
  obtain ⟨W2, hW2⟩ : ∃ W2, (W.alloc (.cells #[.pointer (some ⟨mb, 0, none⟩)] 35)).alloc (.cells #[.slice C m d] 24) = W2 := ⟨_, rfl⟩
  have hB2 : Below W.heap.size W W2 := by rw [← hW2]; exact (below_new _ _).alloc (by rw [World.size_alloc]; exact Nat.le_succ _) _
  have b1 : Blk W2 W.heap.size 35 #[.pointer (some ⟨mb, 0, none⟩)] := by rw [← hW2]; exact (Blk.new W 35 _ rfl).alloc _
  have b2 : Blk W2 (W.heap.size + 1) 24 #[.slice C m d] := by rw [← hW2]; exact Blk.new _ _ _ (by rw [World.size_alloc])
  have HM := Lib.hid (h.next hB2)
  have HT := Lib.hid (hT.next hB2)
  have HR := Lib.hid (hr.next hB2)
  have H1 := Lib.hid b1
  have H2 := Lib.hid b2
  have HB2 := Lib.hid hB2
  have HW2 := Lib.hid hW2
  have HV := Lib.hid hv
  have hw1 : Wish 50 #[.pointer (some ⟨W.heap.size, 0, none⟩)] (fun x => !isV p.s p.y p.z p.u x.1 x.2) W2.heap.size W2 := fun W' a b hb => ban1_is (HM.out.next hb) (HT.out.next hb) (H1.out.next hb) a b
  have hw2 : Wish 54 #[.pointer (some ⟨W.heap.size + 1, 0, none⟩)] (fun x => !inI xs x) W2.heap.size W2 := fun W' a b hb => ban2_is (HR.out.next hb) hm h9 (H2.out.next hb) a b
  have HF := Lib.hid (mcontainsf_any _ _ enters_ban1 C m d xs _ W2.heap.size v W2 hw1 (Nat.le_refl _) (hr.next hB2) hm h9 hv)
  have HW := Lib.hid hw2
  have HMM := Lib.hid hm
  clear h hT hr hm hB2 b1 b2 hW2 hv hw1 hw2
  go_enter Tryz.func22, Tryz.ntmps22
  go_wp2_with fail
  (try rw [HW2.out])
  refine HF.out.mono ?_
  rintro e w3 ⟨rfl, hb3⟩
  have HB3 := Lib.hid (HB2.out.trans (hb3.mono HB2.out.size))
  have HM3 := Lib.hid (HM.out.next hb3)
  have HT3 := Lib.hid (HT.out.next hb3)
  have HB23 := Lib.hid hb3
  have c1 : w3.cell? ⟨W.heap.size, 0, none⟩ = some (.pointer (some ⟨mb, 0, none⟩)) := (H1.out.next hb3).cell 0
  clear hb3
  cases v with
  | true =>
    go_wp2_with fail
    go_ret
    exact ⟨rfl, HB3.out⟩
  | false =>
    have ht3 : Below w3.heap.size w3 w3.drew := (Below.refl _ _).drew
    have hll : (allI p).length = (legalV p.s p.y p.z p.u).length := by unfold allI; rw [List.length_map]
    have hl9 : (legalV p.s p.y p.z p.u).length ≤ 1000000 := Nat.le_trans (legalV_len _ _ _ _) (by decide)
    have HLL := Lib.hid hll
    have HL9 := Lib.hid hl9
    have HM3d := Lib.hid (mall_is (HM3.out.next ht3) (HT3.out.next ht3) (legalV p.s p.y p.z p.u) (legalV p.s p.y p.z p.u).length rfl rfl)
    have hsz := ht3.size
    have HSZ : Hid (W2.heap.size ≤ w3.drew.heap.size) := Nat.le_trans HB23.out.size ht3.size
    have HTD := Lib.hid ht3
    clear hll hl9 ht3 hsz
    go_wp2_with fail
    go_region_with ((first
      | (go_at_call 53; refine HM3d.out.mono ?_; rintro e w4 ⟨v4, rfl, ho4, hb4⟩; have B4 : Hid (Below W2.heap.size W2 w4) := HB23.out.trans ((HTD.out.trans hb4).mono HB23.out.size); have HO4 := Lib.hid (own_down ho4 HSZ.out); have c1' : w4.cell? ⟨W.heap.size, 0, none⟩ = some (.pointer (some ⟨mb, 0, none⟩)) := (H1.out.next B4.out).cell 0)
      | (go_at_call 52; refine (mdelete_ban _ v4 (legalV p.s p.y p.z p.u).length p xs W2.heap.size w4 (HW.out.later B4.out) HO4.out HLL.out HL9.out B4.out.size).mono ?_; rintro e w5 ⟨v5, rfl, ho5, hb5⟩; have B5 : Hid (Below W2.heap.size W2 w5) := B4.out.trans hb5; have HO5 := Lib.hid ho5; have c1'' : w5.cell? ⟨W.heap.size, 0, none⟩ = some (.pointer (some ⟨mb, 0, none⟩)) := (H1.out.next B5.out).cell 0; obtain ⟨A5, c5, rfl, hr5, _⟩ := own_any ho5; obtain ⟨d0, d1, d2, d3, d4, d5, d6, d7⟩ := m_cells (HM.out.next B5.out).blk; have f7 := (HM.out.next B5.out).blk.frozen 7)))
    all_goals
      have hset := (Far.set (X := fun g => g = mb) (w := w5) (p := ⟨mb, 7, none⟩) rfl (.slice A5 (banL p xs).length c5))
      have HFAR : Hid (Far (fun g => g = mb) W (w5.setCell ⟨mb, 7, none⟩ (.slice A5 (banL p xs).length c5))) := (Far.of (HB2.out.trans (B5.out.mono HB2.out.size))).trans hset
      have hmb := HM.out.blk.lt
      have HMAT : Hid (MAt (w5.setCell ⟨mb, 7, none⟩ (.slice A5 (banL p xs).length c5)) mb p k r n A5 c5 (banL p xs)) := ⟨(HM.out.next B5.out).blk.set_ 7 (.slice A5 (banL p xs).length c5), by
        obtain ⟨A6, c6, he6, hr6, _⟩ := own_any (own_far hset HO5.out (fun g hg e => by have e : g = mb := e; omega))
        cases he6
        exact hr6⟩
      clear hset hmb c1 c1' c1'' d0 d1 d2 d3 d4 d5 d6 d7 f7
      go_wp2_with fail
      go_ret
      exact ⟨rfl, ⟨A5, c5, HMAT.out⟩, HFAR.out⟩
end Go.Proofs.YtbdgbihdhbjljaaGreatDoor
