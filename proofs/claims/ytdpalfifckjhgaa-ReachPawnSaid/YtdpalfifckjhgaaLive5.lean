/- The document's own examples of layer 5 hold. -/
import Derived.Test.YtdpalfifckjhgaaReachF
import Derived.Test.YtdpalfifckjhgaaReachG
namespace Go.Proofs.Ytdpalfifckjhgaa
open Go.RowKit Go.Shelf
open M (S)

structure Live5 (s : ByteArray) : Prop where
  l1 : allL s 1 = [18, 20]
  l19 : allL s 19 = [10, 18, 20, 21, 22, 23, 24, 28, 37, 46, 55, 82]
  l27 : allL s 27 = [36]
  l40 : allL s 40 = []
  c22 : canI s 2 22 = true
  c12 : canI s 2 12 = false
  b0 : betweenV s 19 82 = 1
  b1 : betweenV s 0 10 = -1
  b2 : betweenV s 0 8 = 7
theorem lit_1 (W : World) : Rd (W.alloc (.cells #[.int .i64 18, .int .i64 20] 3)) (some ⟨W.heap.size, 0, none⟩) (([18, 20] : List Int).map iv) := rd_lit (xs := [18, 20]) (Blk.new _ _ _ rfl)
theorem lit_19 (W : World) : Rd (W.alloc (.cells #[.int .i64 10, .int .i64 18, .int .i64 20, .int .i64 21, .int .i64 22, .int .i64 23, .int .i64 24, .int .i64 28, .int .i64 37, .int .i64 46, .int .i64 55, .int .i64 82] 3)) (some ⟨W.heap.size, 0, none⟩) (([10, 18, 20, 21, 22, 23, 24, 28, 37, 46, 55, 82] : List Int).map iv) := rd_lit (xs := [10, 18, 20, 21, 22, 23, 24, 28, 37, 46, 55, 82]) (Blk.new _ _ _ rfl)
theorem lit_27 (W : World) : Rd (W.alloc (.cells #[.int .i64 36] 3)) (some ⟨W.heap.size, 0, none⟩) (([36] : List Int).map iv) := rd_lit (xs := [36]) (Blk.new _ _ _ rfl)
theorem live5_set : Live5 startS := by
  constructor <;> decide +kernel
set_option maxRecDepth 100000 in
set_option maxHeartbeats 4000000 in
theorem live5_any (w : World) : Calls Try.prog 9 #[] w (Gives w (.bool true)) := by
  unfold Gives
  have hL := live5_set
  go_enter Try.func9, Try.ntmps9
  go_wp2_with fail
  have hlit : (⟨#[82, 78, 66, 65, 75, 65, 66, 78, 82, 46, 46, 46, 46, 46, 46, 46, 46, 46, 46, 67, 46, 46, 46, 46, 46, 67, 46, 80, 46, 80, 46, 80, 46, 80, 46, 80, 46, 46, 46, 46, 46, 46, 46, 46, 46, 46, 46, 46, 46, 46, 46, 46, 46, 46, 112, 46, 112, 46, 112, 46, 112, 46, 112, 46, 99, 46, 46, 46, 46, 46, 99, 46, 46, 46, 46, 46, 46, 46, 46, 46, 46, 114, 110, 98, 97, 107, 97, 98, 110, 114]⟩ : ByteArray) = startS := rfl
  simp only [List.append_eq, List.cons_append, List.nil_append] at hlit ⊢
  simp only [hlit]
  clear hlit
  generalize startS = st at hL ⊢
  have HL := Lib.hid hL
  clear hL
  refine (all_is st 1 [18, 20] 2 _ HL.out.l1 (by decide)).mono ?_
  rintro e w1 ⟨A1, k1, rfl, hr, hb⟩
  have hB := hb
  clear hb
  have rd := hr
  clear hr
  go_wp2_with fail
  refine (ints_true _ _ [18, 20] 2 _ _ _ (rd.next ((Below.refl _ _).alloc (Nat.le_refl _) _)) (lit_1 _) rfl (by decide)).mono ?_
  rintro e w2 ⟨rfl, hb⟩
  replace hb := below_made hb
  replace rd := rd.next hb
  replace hB := hB.trans (hb.mono hB.size)
  clear hb
  clear rd
  go_wp2_with fail
  refine (all_is st 19 [10, 18, 20, 21, 22, 23, 24, 28, 37, 46, 55, 82] 12 _ HL.out.l19 (by decide)).mono ?_
  rintro e w3 ⟨A3, k3, rfl, hr, hb⟩
  replace hB := hB.trans (hb.mono hB.size)
  clear hb
  have rd := hr
  clear hr
  go_wp2_with fail
  refine (ints_true _ _ [10, 18, 20, 21, 22, 23, 24, 28, 37, 46, 55, 82] 12 _ _ _ (rd.next ((Below.refl _ _).alloc (Nat.le_refl _) _)) (lit_19 _) rfl (by decide)).mono ?_
  rintro e w4 ⟨rfl, hb⟩
  replace hb := below_made hb
  replace rd := rd.next hb
  replace hB := hB.trans (hb.mono hB.size)
  clear hb
  clear rd
  go_wp2_with fail
  refine (all_is st 27 [36] 1 _ HL.out.l27 (by decide)).mono ?_
  rintro e w5 ⟨A5, k5, rfl, hr, hb⟩
  replace hB := hB.trans (hb.mono hB.size)
  clear hb
  have rd := hr
  clear hr
  go_wp2_with fail
  refine (ints_true _ _ [36] 1 _ _ _ (rd.next ((Below.refl _ _).alloc (Nat.le_refl _) _)) (lit_27 _) rfl (by decide)).mono ?_
  rintro e w6 ⟨rfl, hb⟩
  replace hb := below_made hb
  replace rd := rd.next hb
  replace hB := hB.trans (hb.mono hB.size)
  clear hb
  clear rd
  go_wp2_with fail
  refine (all_is st 40 [] 0 _ HL.out.l40 rfl).mono ?_
  rintro e w7 ⟨A7, k7, rfl, hr, hb⟩
  replace hB := hB.trans (hb.mono hB.size)
  clear hb
  clear hr
  go_wp2_with fail
  refine (can_is5 st 2 22 true _ HL.out.c22).mono ?_
  rintro e w8 ⟨rfl, hb⟩
  replace hB := hB.trans (hb.mono hB.size)
  clear hb
  go_wp2_with fail
  refine (can_is5 st 2 12 false _ HL.out.c12).mono ?_
  rintro e w9 ⟨rfl, hb⟩
  replace hB := hB.trans (hb.mono hB.size)
  clear hb
  go_wp2_with fail
  refine (between_is5 st 19 82 _ _ HL.out.b0).mono ?_
  rintro e w10' ⟨rfl, rfl⟩
  go_wp2_with fail
  refine (between_is5 st 0 10 _ _ HL.out.b1).mono ?_
  rintro e w11' ⟨rfl, rfl⟩
  go_wp2_with fail
  refine (between_is5 st 0 8 _ _ HL.out.b2).mono ?_
  rintro e w12' ⟨rfl, rfl⟩
  go_wp2
  go_ret
  exact ⟨rfl, hB⟩
end Go.Proofs.Ytdpalfifckjhgaa
