/- What the document says of positions when all captures are done, told by the code: live21. -/
import Derived.Test.YtbdgbihdhbjljaaGreatDoorQuietD
import Derived.Test.YtbdgbihdhbjljaaGreatDoorQuietL
namespace Go.Proofs.YtbdgbihdhbjljaaGreatDoor
open Go.RowKit Go.Shelf
open M (S)

theorem rparse_21 (t : List UInt8) (v : Value) (w : World) (ht : t.length ≤ 1000) (h : parseV t = v) : Calls Tryz.prog 60 #[.string (bs t)] w (Gives w v) := by subst h; exact rparse_any t w ht
theorem tak_parse (w : World) : Calls Tryz.prog 60 #[.string ⟨#[52, 107, 52, 47, 57, 47, 57, 47, 57, 47, 57, 47, 110, 55, 82, 47, 57, 47, 57, 47, 57, 47, 51, 75, 53, 32, 119]⟩] w (Gives w (.tuple #[.agg #[.string takS, .int .i64 0, .int .i64 0, .int .i64 1], .int .i64 0])) :=
  rparse_21 takT _ w (by decide) (by rw [parse_yes takF takC, posVP]; simp only [bs_back])
theorem mat_parse (w : World) : Calls Tryz.prog 60 #[.string ⟨#[51, 107, 53, 47, 57, 47, 57, 47, 57, 47, 57, 47, 57, 47, 57, 47, 57, 47, 51, 114, 53, 47, 114, 51, 75, 52, 32, 119]⟩] w (Gives w (.tuple #[.agg #[.string matS, .int .i64 0, .int .i64 0, .int .i64 1], .int .i64 0])) :=
  rparse_21 matT _ w (by decide) (by rw [parse_yes matF matC, posVP]; simp only [bs_back])
theorem two_parse (w : World) : Calls Tryz.prog 60 #[.string ⟨#[52, 107, 52, 47, 57, 47, 57, 47, 57, 47, 57, 47, 57, 47, 57, 47, 57, 47, 57, 47, 51, 75, 53, 32, 119]⟩] w (Gives w (.tuple #[.agg #[.string twoS, .int .i64 0, .int .i64 0, .int .i64 1], .int .i64 0])) :=
  rparse_21 twoT _ w (by decide) (by rw [parse_yes twoF twoC, posVP]; simp only [bs_back])
theorem qof_tak (w : World) (hT : Tab w) : Calls Tryz.prog 34 #[.agg #[.string takS, .int .i64 0, .int .i64 0, .int .i64 1]] w (Gives w (.int .i64 204)) := qof_is takS 0 0 1 204 w hT (fun _ => tak_few) tak_quiet
theorem qof_mat (w : World) (hT : Tab w) : Calls Tryz.prog 34 #[.agg #[.string matS, .int .i64 0, .int .i64 0, .int .i64 1]] w (Gives w (.int .i64 (-10000))) := qof_is matS 0 0 1 (-10000) w hT (fun _ => mat_few) mat_quiet
theorem qof_two (w : World) (hT : Tab w) : Calls Tryz.prog 34 #[.agg #[.string twoS, .int .i64 0, .int .i64 0, .int .i64 1]] w (Gives w (.int .i64 0)) := qof_is twoS 0 0 1 0 w hT (fun _ => twos_few) twos_quiet
theorem qof_nil (w : World) (hT : Tab w) : Calls Tryz.prog 34 #[.agg #[.string ⟨#[]⟩, .int .i64 0, .int .i64 0, .int .i64 0]] w (Gives w (.int .i64 0)) := qof_is ⟨#[]⟩ 0 0 0 0 w hT (fun h => absurd h nil_quiet) (by unfold quietV; rw [if_neg nil_quiet])
theorem qwin_tak (low high v : Int) (w : World) (hT : Tab w) (h1 : i64lo ≤ low) (h2 : high ≤ i64hi) (h : (if high ≤ low then low else min (max 204 low) high) = v) : Calls Tryz.prog 36 #[.agg #[.string takS, .int .i64 0, .int .i64 0, .int .i64 1], .int .i64 low, .int .i64 high] w (Gives w (.int .i64 v)) := qwindow_is takS 0 0 1 low high v w hT (fun _ => tak_few) h1 h2 (by unfold windowV; rw [tak_quiet]; exact h)
theorem rof_tak (w : World) : Calls Tryz.prog 61 #[.agg #[.string takS, .int .i64 0, .int .i64 0, .int .i64 1]] w (Gives w (.int .i64 109)) := rof14_is takS 0 0 1 109 w tak_of
theorem rpiece_tak (w : World) : Calls Tryz.prog 62 #[.int .u8 110, .int .i64 36] w (Says w (.int .i64 95)) := rpiece14_is 110 36 95 w tak_piece
/-- Where the three positions lie. -/
structure Q21 (w W : World) (g1 g2 g3 : Nat) : Prop where
  b : Below w.heap.size w W
  t : Blk W g1 23 #[.string takS, .int .i64 0, .int .i64 0, .int .i64 1]
  m : Blk W g2 23 #[.string matS, .int .i64 0, .int .i64 0, .int .i64 1]
  n : Blk W g3 23 #[.string twoS, .int .i64 0, .int .i64 0, .int .i64 1]
theorem Q21.next {w W W' : World} {g1 g2 g3 : Nat} (h : Q21 w W g1 g2 g3) (hb : Below W.heap.size W W') : Q21 w W' g1 g2 g3 := ⟨h.b.trans (hb.mono h.b.size), h.t.next hb, h.m.next hb, h.n.next hb⟩
set_option maxRecDepth 100000 in
set_option maxHeartbeats 16000000 in
theorem live21_any (w : World) (hT : Tab w) : Calls Tryz.prog 33 #[] w (Gives w (.bool true)) := by
  unfold Gives
  have HT := Lib.hid hT
  clear hT
  go_enter Tryz.func33, Tryz.ntmps33
  go_wp2_with fail
  refine (tak_parse w).mono ?_
  rintro e w1 ⟨rfl, hb1⟩
  have ha1 := hb1.alloc (o := .cells #[.string takS, .int .i64 0, .int .i64 0, .int .i64 1] 23) hb1.size
  have HA1 := Lib.hid ha1
  have HX1 := Lib.hid (Blk.new w1 23 #[.string takS, .int .i64 0, .int .i64 0, .int .i64 1] rfl)
  clear hb1 ha1
  go_wp2_with fail
  refine (mat_parse _).mono ?_
  rintro e w2 ⟨rfl, hb2⟩
  have ha2 := (HA1.out.trans (hb2.mono HA1.out.size)).alloc (o := .cells #[.string matS, .int .i64 0, .int .i64 0, .int .i64 1] 23) (HA1.out.trans (hb2.mono HA1.out.size)).size
  have HA2 := Lib.hid ha2
  have HX2 := Lib.hid ((HX1.out.next hb2).alloc (.cells #[.string matS, .int .i64 0, .int .i64 0, .int .i64 1] 23))
  have HY2 := Lib.hid (Blk.new w2 23 #[.string matS, .int .i64 0, .int .i64 0, .int .i64 1] rfl)
  clear hb2 ha2
  go_wp2_with fail
  refine (two_parse _).mono ?_
  rintro e w3 ⟨rfl, hb3⟩
  have ha3 := (HA2.out.trans (hb3.mono HA2.out.size)).alloc (o := .cells #[.string twoS, .int .i64 0, .int .i64 0, .int .i64 1] 23) (HA2.out.trans (hb3.mono HA2.out.size)).size
  have HQ0 : Hid (Q21 w (w3.alloc (.cells #[.string twoS, .int .i64 0, .int .i64 0, .int .i64 1] 23)) w1.heap.size w2.heap.size w3.heap.size) := ⟨ha3, (HX2.out.next hb3).alloc _, (HY2.out.next hb3).alloc _, Blk.new w3 23 #[.string twoS, .int .i64 0, .int .i64 0, .int .i64 1] rfl⟩
  clear hb3 ha3
  obtain ⟨p0, p1, p2, p3⟩ := vpos_cells HQ0.out.t
  obtain ⟨q0, q1, q2, q3⟩ := vpos_cells HQ0.out.m
  obtain ⟨r0, r1, r2, r3⟩ := vpos_cells HQ0.out.n
  go_wp2_with fail
  refine (qof_tak _ (HT.out.next HQ0.out.b)).mono ?_
  rintro e w4 ⟨rfl, hb⟩
  have HQ1 := Lib.hid (HQ0.out.next hb)
  clear hb p0 p1 p2 p3 q0 q1 q2 q3 r0 r1 r2 r3
  obtain ⟨p0, p1, p2, p3⟩ := vpos_cells HQ1.out.t
  obtain ⟨q0, q1, q2, q3⟩ := vpos_cells HQ1.out.m
  obtain ⟨r0, r1, r2, r3⟩ := vpos_cells HQ1.out.n
  go_wp2_with fail
  refine (rof_tak _).mono ?_
  rintro e w5 ⟨rfl, hb⟩
  have HQ2 := Lib.hid (HQ1.out.next hb)
  clear hb p0 p1 p2 p3 q0 q1 q2 q3 r0 r1 r2 r3
  obtain ⟨p0, p1, p2, p3⟩ := vpos_cells HQ2.out.t
  obtain ⟨q0, q1, q2, q3⟩ := vpos_cells HQ2.out.m
  obtain ⟨r0, r1, r2, r3⟩ := vpos_cells HQ2.out.n
  go_wp2_with fail
  refine (rpiece_tak _).mono ?_
  rintro e w6 ⟨rfl, rfl⟩
  clear p0 p1 p2 p3 q0 q1 q2 q3 r0 r1 r2 r3
  obtain ⟨p0, p1, p2, p3⟩ := vpos_cells HQ2.out.t
  obtain ⟨q0, q1, q2, q3⟩ := vpos_cells HQ2.out.m
  obtain ⟨r0, r1, r2, r3⟩ := vpos_cells HQ2.out.n
  go_wp2_with fail
  refine (qof_mat _ (HT.out.next HQ2.out.b)).mono ?_
  rintro e w7 ⟨rfl, hb⟩
  have HQ3 := Lib.hid (HQ2.out.next hb)
  clear hb p0 p1 p2 p3 q0 q1 q2 q3 r0 r1 r2 r3
  obtain ⟨p0, p1, p2, p3⟩ := vpos_cells HQ3.out.t
  obtain ⟨q0, q1, q2, q3⟩ := vpos_cells HQ3.out.m
  obtain ⟨r0, r1, r2, r3⟩ := vpos_cells HQ3.out.n
  go_wp2_with fail
  refine (qof_two _ (HT.out.next HQ3.out.b)).mono ?_
  rintro e w8 ⟨rfl, hb⟩
  have HQ4 := Lib.hid (HQ3.out.next hb)
  clear hb p0 p1 p2 p3 q0 q1 q2 q3 r0 r1 r2 r3
  obtain ⟨p0, p1, p2, p3⟩ := vpos_cells HQ4.out.t
  obtain ⟨q0, q1, q2, q3⟩ := vpos_cells HQ4.out.m
  obtain ⟨r0, r1, r2, r3⟩ := vpos_cells HQ4.out.n
  go_wp2_with fail
  refine (qwin_tak 209 213 209 _ (HT.out.next HQ4.out.b) (by decide) (by decide) (by decide)).mono ?_
  rintro e w9 ⟨rfl, hb⟩
  have HQ5 := Lib.hid (HQ4.out.next hb)
  clear hb p0 p1 p2 p3 q0 q1 q2 q3 r0 r1 r2 r3
  obtain ⟨p0, p1, p2, p3⟩ := vpos_cells HQ5.out.t
  obtain ⟨q0, q1, q2, q3⟩ := vpos_cells HQ5.out.m
  obtain ⟨r0, r1, r2, r3⟩ := vpos_cells HQ5.out.n
  go_wp2_with fail
  refine (qwin_tak 195 199 199 _ (HT.out.next HQ5.out.b) (by decide) (by decide) (by decide)).mono ?_
  rintro e w10 ⟨rfl, hb⟩
  have HQ6 := Lib.hid (HQ5.out.next hb)
  clear hb p0 p1 p2 p3 q0 q1 q2 q3 r0 r1 r2 r3
  obtain ⟨p0, p1, p2, p3⟩ := vpos_cells HQ6.out.t
  obtain ⟨q0, q1, q2, q3⟩ := vpos_cells HQ6.out.m
  obtain ⟨r0, r1, r2, r3⟩ := vpos_cells HQ6.out.n
  go_wp2_with fail
  refine (qwin_tak 203 205 204 _ (HT.out.next HQ6.out.b) (by decide) (by decide) (by decide)).mono ?_
  rintro e w11 ⟨rfl, hb⟩
  have HQ7 := Lib.hid (HQ6.out.next hb)
  clear hb p0 p1 p2 p3 q0 q1 q2 q3 r0 r1 r2 r3
  obtain ⟨p0, p1, p2, p3⟩ := vpos_cells HQ7.out.t
  obtain ⟨q0, q1, q2, q3⟩ := vpos_cells HQ7.out.m
  obtain ⟨r0, r1, r2, r3⟩ := vpos_cells HQ7.out.n
  go_wp2_with fail
  refine (qwin_tak 3 3 3 _ (HT.out.next HQ7.out.b) (by decide) (by decide) (by decide)).mono ?_
  rintro e w12 ⟨rfl, hb⟩
  have HQ8 := Lib.hid (HQ7.out.next hb)
  clear hb p0 p1 p2 p3 q0 q1 q2 q3 r0 r1 r2 r3
  obtain ⟨p0, p1, p2, p3⟩ := vpos_cells HQ8.out.t
  obtain ⟨q0, q1, q2, q3⟩ := vpos_cells HQ8.out.m
  obtain ⟨r0, r1, r2, r3⟩ := vpos_cells HQ8.out.n
  go_wp2_with fail
  refine (qof_nil _ (HT.out.next HQ8.out.b)).mono ?_
  rintro e w13 ⟨rfl, hb⟩
  have HQ9 := Lib.hid (HQ8.out.next hb)
  clear hb p0 p1 p2 p3 q0 q1 q2 q3 r0 r1 r2 r3
  go_wp2_with fail
  go_ret
  exact ⟨rfl, HQ9.out.b⟩
end Go.Proofs.YtbdgbihdhbjljaaGreatDoor
