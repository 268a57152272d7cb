/- The document's own examples of layer 16 hold. -/
import Derived.Test.YtnkbilikkbaeeaaGreatDoorChaseM
import Derived.Test.YtnkbilikkbaeeaaGreatDoorChaseL
namespace Go.Proofs.YtnkbilikkbaeeaaGreatDoor
open Go.RowKit Go.Shelf
open M (S)

structure Live16 (w W : World) (st : ByteArray) (gp gx : Nat) (A : Option Addr) (c : Nat) : Prop where
  bP : Blk W gp 36 #[.string st, .int .i64 1, .int .i64 0, .int .i64 1]
  bX : Blk W gx 40 #[.bool false, .slice A 1 c]
  hr : Rd W A ([36].map iv)
  hT : Tab W
  hB : Below w.heap.size w W
theorem Live16.next {w W W' : World} {st : ByteArray} {gp gx : Nat} {A : Option Addr} {c : Nat} (h : Live16 w W st gp gx A c) (hb : Below W.heap.size W W') : Live16 w W' st gp gx A c := ⟨h.bP.next hb, h.bX.next hb, h.hr.next hb, h.hT.next hb, h.hB.trans (hb.mono h.hB.size)⟩
theorem rd_36 {W : World} {g : Nat} (h : Blk W g 3 #[.int .i64 36]) : Rd W (some ⟨g, 0, none⟩) ([36].map iv) := rd_lit (xs := [36]) h
theorem own_nil {w : World} {base : Nat} {e : TypeId} {v : Value} (h : w.ownsRow base e 1 v 0 []) : ∃ A c, v = .slice A 0 c := own_slice h
theorem rparse_16 (t : List UInt8) (v : Value) (w : World) (ht : t.length ≤ 1000) (h : parseV t = v) : Calls Tryz.prog 44 #[.string (bs t)] w (Gives w v) := by subst h; exact rparse_any t w ht
theorem hunt_parse (w : World) : Calls Tryz.prog 44 #[.string ⟨#[52, 107, 52, 47, 57, 47, 57, 47, 57, 47, 57, 47, 110, 55, 82, 47, 57, 47, 57, 47, 57, 47, 51, 75, 53, 32, 98]⟩] w (Gives w (.tuple #[.agg #[.string huntS, .int .i64 1, .int .i64 0, .int .i64 1], .int .i64 0])) :=
  rparse_16 huntT _ w (by decide) (by rw [parse_yes huntF huntC, posVP]; simp only [bs_back])
set_option maxRecDepth 100000 in
set_option maxHeartbeats 8000000 in
theorem live16_any (w : World) (hT : Tab w) : Calls Tryz.prog 15 #[] w (Gives w (.bool true)) := by
  unfold Gives
  have H0 := Lib.hid hunt_ply.1
  have H1 := Lib.hid hunt_ply.2
  have H2 := Lib.hid hunt_well
  have H3 := Lib.hid hunt_threat1
  have H4 := Lib.hid hunt_threat2
  have H5 := Lib.hid hunt_all0
  have H6 := Lib.hid hunt_all1
  have HP : Hid (∀ W, Calls Tryz.prog 44 #[.string ⟨#[52, 107, 52, 47, 57, 47, 57, 47, 57, 47, 57, 47, 110, 55, 82, 47, 57, 47, 57, 47, 57, 47, 51, 75, 53, 32, 98]⟩] W (Gives W (.tuple #[.agg #[.string huntS, .int .i64 1, .int .i64 0, .int .i64 1], .int .i64 0]))) := hunt_parse
  generalize huntS = st at H0 H1 H2 H3 H4 H5 H6 HP
  go_enter Tryz.func15, Tryz.ntmps15
  go_wp2_with fail
  refine (HP.out _).mono ?_
  rintro e w1 ⟨rfl, hb⟩
  have hB := hb
  replace hT := hT.next hb
  clear hb
  go_wp2_with fail
  obtain ⟨V, hV⟩ : ∃ V, w1.alloc (.cells #[.string st, .int .i64 1, .int .i64 0, .int .i64 1] 36) = V := ⟨_, rfl⟩
  have bP : Blk V w1.heap.size 36 #[.string st, .int .i64 1, .int .i64 0, .int .i64 1] := by rw [← hV]; exact Blk.new _ _ _ rfl
  have hbV : Below w1.heap.size w1 V := by rw [← hV]; exact below_new _ _
  rw [hV]
  clear hV
  replace hT := hT.next hbV
  replace hB := hB.trans (hbV.mono hB.size)
  generalize w1.heap.size = gp at bP ⊢
  clear hbV
  refine (cof_is st 1 0 1 false [36] 0 _ hT H0.out H1.out H2.out).mono ?_
  rintro e w2 ⟨A, c, rfl, hr, hb⟩
  replace bP := bP.next hb
  replace hT := hT.next hb
  replace hB := hB.trans (hb.mono hB.size)
  clear hb
  go_wp2_with fail
  obtain ⟨U, hU⟩ : ∃ U, w2.alloc (.cells #[.bool false, .slice A 1 c] 40) = U := ⟨_, rfl⟩
  have bX : Blk U w2.heap.size 40 #[.bool false, .slice A 1 c] := by rw [← hU]; exact Blk.new _ _ _ rfl
  have hbU : Below w2.heap.size w2 U := by rw [← hU]; exact below_new _ _
  try simp only [List.length_cons, List.length_nil, Nat.zero_add]
  rw [hU]
  clear hU
  have hL : Live16 w U st gp w2.heap.size A c := ⟨bP.next hbU, bX, hr.next hbU, hT.next hbU, hB.trans (hbU.mono hB.size)⟩
  generalize w2.heap.size = gx at hL ⊢
  clear bP bX hr hT hB hbU
  refine (cof_is ⟨#[]⟩ 0 0 0 false [] 1 _ hL.hT none_ply.1 none_ply.2 none_well).mono ?_
  rintro e w3 ⟨A3, c3, rfl, hr3, hb⟩
  replace hL := hL.next hb
  clear hb hr3
  have p0 : w3.cell? ⟨gp, 0, none⟩ = some (.string st) := hL.bP.cell 0
  have x0 : w3.cell? ⟨gx, 0, none⟩ = some (.bool false) := hL.bX.cell 0
  have x1 : w3.cell? ⟨gx, 1, none⟩ = some (.slice A 1 c) := hL.bX.cell 1
  have gp3 := hL.bP.lt
  have gx3 := hL.bX.lt
  go_wp2_with fail
  have bA : Blk ((w3.alloc (.cells #[.bool false, .slice A3 0 c3] 40)).alloc (.cells #[.int .i64 36] 3)) (w3.heap.size + 1) 3 #[.int .i64 36] := Blk.new _ _ _ (by simp)
  replace hL := (hL.next (below_new _ (.cells #[.bool false, .slice A3 0 c3] 40))).next (below_new _ (.cells #[.int .i64 36] 3))
  refine (ints_true A _ [36] 1 c 1 _ hL.hr (rd_36 bA) rfl (by decide)).mono ?_
  rintro e w4 ⟨rfl, hb⟩
  clear bA x0 x1 gp3 gx3
  replace hL := hL.next hb
  clear hb p0
  have p0 : w4.cell? ⟨gp, 0, none⟩ = some (.string st) := hL.bP.cell 0
  go_wp2_with fail
  refine (threat_is st 44 36 true _ hL.hT H3.out).mono ?_
  rintro e w5 ⟨rfl, hb⟩
  replace hL := hL.next hb
  clear hb p0
  have p0 : w5.cell? ⟨gp, 0, none⟩ = some (.string st) := hL.bP.cell 0
  go_wp2_with fail
  refine (threat_is st 44 37 false _ hL.hT H4.out).mono ?_
  rintro e w6 ⟨rfl, hb⟩
  replace hL := hL.next hb
  clear hb p0
  have p0 : w6.cell? ⟨gp, 0, none⟩ = some (.string st) := hL.bP.cell 0
  go_wp2_with fail
  have hA := chall_is st 0 w6 hL.hT
  rw [H5.out] at hA
  refine hA.mono ?_
  rintro e w7 ⟨v7, rfl, ho7, hb⟩
  obtain ⟨A7, c7, rfl⟩ := own_slice ho7
  have hr7 := Rd.own ho7
  clear ho7 hA
  replace hL := hL.next hb
  clear hb p0
  have p0 : w7.cell? ⟨gp, 0, none⟩ = some (.string st) := hL.bP.cell 0
  go_wp2_with fail
  have bA : Blk (w7.alloc (.cells #[.int .i64 36] 3)) w7.heap.size 3 #[.int .i64 36] := Blk.new _ _ _ rfl
  replace hL := hL.next (below_new _ (.cells #[.int .i64 36] 3))
  refine (ints_true A7 _ [36] 1 c7 1 _ (hr7.next (below_new _ _)) (rd_36 bA) rfl (by decide)).mono ?_
  rintro e w8 ⟨rfl, hb⟩
  clear bA hr7
  replace hL := hL.next hb
  clear hb p0
  have p0 : w8.cell? ⟨gp, 0, none⟩ = some (.string st) := hL.bP.cell 0
  go_wp2_with fail
  have hA := chall_is st 1 w8 hL.hT
  rw [H6.out] at hA
  refine hA.mono ?_
  rintro e w9 ⟨v9, rfl, ho9, hb⟩
  obtain ⟨A9, c9, rfl⟩ := own_slice ho9
  clear hA ho9
  go_wp2
  go_ret
  exact ⟨rfl, (hL.next hb).hB⟩
end Go.Proofs.YtnkbilikkbaeeaaGreatDoor
