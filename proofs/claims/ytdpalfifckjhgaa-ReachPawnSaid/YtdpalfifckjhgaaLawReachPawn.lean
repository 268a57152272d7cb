/- A pawn never goes back; on its own side of the river it goes ahead alone: the call answers true. -/
import Derived.Test.YtdpalfifckjhgaaLive5
namespace Go.Proofs.Ytdpalfifckjhgaa.rpawn
open Go.RowKit Go.Shelf
open M (S)

set_option maxRecDepth 100000 in
set_option maxHeartbeats 4000000 in
theorem large (s : ByteArray) (a : Int) (c : Nat) (w : World) (hs : 200 < s.size) (HC : Hid (atB s a = c)) : Calls Try.prog 8 #[.string s, .int .i64 a] w (Gives w (.bool true)) := by
  unfold Gives
  have hd : decide (200 < (s.size : Int)) = true := by simp; omega
  clear hs
  go_enter Try.func8, Try.ntmps8
  go_wp2_with fail
  refine (at_is s a _ _ HC.out).mono ?_
  rintro e w1' ⟨rfl, rfl⟩
  go_wp2_with fail
  refine (live5_any _).mono ?_
  rintro e w2 ⟨rfl, hb⟩
  have hB := hb
  clear hb
  go_wp2
  go_ret
  exact ⟨rfl, hB⟩
set_option maxRecDepth 100000 in
set_option maxHeartbeats 4000000 in
theorem other (s : ByteArray) (a : Int) (c k : Nat) (w : World) (hs : s.size ≤ 200) (HC : Hid (atB s a = c)) (HK : Hid (kindN c = k)) (hk : ((k : Int) != 80) = true) : Calls Try.prog 8 #[.string s, .int .i64 a] w (Gives w (.bool true)) := by
  unfold Gives
  have hd : decide (200 < (s.size : Int)) = false := by simp; omega
  clear hs
  go_enter Try.func8, Try.ntmps8
  go_wp2_with fail
  refine (at_is s a _ _ HC.out).mono ?_
  rintro e w1' ⟨rfl, rfl⟩
  go_wp2_with fail
  refine (kind_is c _ _ HK.out).mono ?_
  rintro e w2' ⟨rfl, rfl⟩
  go_wp2_with fail
  refine (live5_any _).mono ?_
  rintro e w3 ⟨rfl, hb⟩
  have hB := hb
  clear hb
  go_wp2
  go_ret
  exact ⟨rfl, hB⟩
/-- What is so of each of the squares that a pawn reaches: ahead on its file, or aside beyond the river. -/
structure Pawn (s : ByteArray) (a : Int) (side : Int) (L : List Int) : Prop where
  here : ∀ u ∈ L, (rankI u - rankI a = (if side = 1 then -1 else 1) ∧ fileI u = fileI a) ∨ (rankI u - rankI a = 0 ∧ overB a side = true)
  ranks : ∀ u ∈ L, 0 ≤ rankI u ∧ rankI u ≤ 9
  few : L.length ≤ 3
theorem pawn_of {s : ByteArray} {a : Int} (hk : kindN (atB s a) = 80) : Pawn s a (sideN (atB s a)) (allL s a) ∧ (sideN (atB s a) = 0 ∨ sideN (atB s a) = 1) ∧ 0 ≤ rankI a ∧ rankI a ≤ 9 := by
  have hall : isB s = true ∧ sqI a = true := by
    unfold atB at hk
    split at hk
    · rename_i h
      exact h
    · exact absurd hk (by decide)
  obtain ⟨hi, ha⟩ := hall
  obtain ⟨a0, a1⟩ := sqI_in ha
  obtain ⟨m, rfl⟩ : ∃ m : Nat, a = m := ⟨a.toNat, by omega⟩
  have hm : m < 90 := by omega
  have hya : atB s (m : Int) = bAt s m := by unfold atB; rw [if_pos ⟨hi, ha⟩]; rfl
  rw [hya] at hk ⊢
  have hside : sideN (bAt s m) = 0 ∨ sideN (bAt s m) = 1 := by
    by_cases h0 : 0 ≤ sideN (bAt s m)
    · exact side_cases01 h0
    · have := kind_none h0
      omega
  have hall2 : allL s m = trues (fun b => canB s m b) 90 := by unfold allL; rw [hi, ha]; rfl
  have hra : rankI (m : Int) = ((m / 9 : Nat) : Int) := rank_sq hm
  refine ⟨?_, hside, by omega, by omega⟩
  rw [hall2]
  have key : ∀ u ∈ trues (fun b => canB s m b) 90, ∃ k : Nat, u = k ∧ k < 90 ∧ canB s m k = true := fun u hu => by
    unfold trues at hu
    obtain ⟨k, hk1, rfl⟩ := List.mem_map.1 hu
    obtain ⟨h1, h2⟩ := List.mem_filter.1 hk1
    exact ⟨k, rfl, List.mem_range.1 h1, h2⟩
  refine ⟨fun u hu => ?_, fun u hu => ?_, pawn_few hk⟩
  · obtain ⟨k, rfl, hk90, hc⟩ := key u hu
    rw [rank_sq hk90, hra, file_sq hk90, file_sq hm]
    rcases pawn_goes hk hc with ⟨e, h⟩ | ⟨e, h⟩ | ⟨ho, h1, h2⟩
    · rw [e, if_neg (by decide)]
      exact .inl ⟨by omega, by omega⟩
    · rw [e, if_pos rfl]
      exact .inl ⟨by omega, by omega⟩
    · exact .inr ⟨by omega, ho⟩
  · obtain ⟨k, rfl, hk90, _⟩ := key u hu
    rw [rank_sq hk90]
    omega
theorem one_keep {w0 : World} {p : Addr} {v : Value} {W W' : World} (h : W.cell? p = some v ∧ Below w0.heap.size w0 W) (hb : Below W.heap.size W W') : W'.cell? p = some v ∧ Below w0.heap.size w0 W' :=
  ⟨(hb.cell (cell_lt h.1)).trans h.1, h.2.trans (hb.mono h.2.size)⟩
theorem fileb_is (n k : Int) (w : World) (h : fileI n = k) : Calls Try.prog 25 #[.int .i64 n] w (Gives w (.int .i64 k)) := (file_is n k w h).mono fun _ _ ⟨a, b⟩ => ⟨a, b ▸ Below.refl _ _⟩
theorem rankb_is (n k : Int) (w : World) (h : rankI n = k) : Calls Try.prog 23 #[.int .i64 n] w (Gives w (.int .i64 k)) := (rank_is n k w h).mono fun _ _ ⟨a, b⟩ => ⟨a, b ▸ Below.refl _ _⟩
theorem sideb_is (c : Nat) (k : Int) (w : World) (h : sideN c = k) : Calls Try.prog 22 #[.int .u8 (c : Int)] w (Gives w (.int .i64 k)) := (side_is c k w h).mono fun _ _ ⟨a, b⟩ => ⟨a, b ▸ Below.refl _ _⟩
set_option maxRecDepth 100000 in
set_option maxHeartbeats 4000000 in
theorem small0 (s : ByteArray) (a : Int) (c n : Nat) (fa ra : Int) (L : List Int) (w : World) (hs : s.size ≤ 200) (hm : n ≤ 3) (hr0 : 0 ≤ ra) (hr9 : ra ≤ 9) (HL : Hid (allL s a = L)) (HN : Hid (L.length = n)) (HC : Hid (atB s a = c)) (HK : Hid (kindN c = 80)) (HS : Hid (sideN c = 0)) (HP : Hid (Pawn s a 0 L)) (HF : Hid (fileI a = fa)) (HR : Hid (rankI a = ra)) : Calls Try.prog 8 #[.string s, .int .i64 a] w (Gives w (.bool true)) := by
  unfold Gives
  have hd : decide (200 < (s.size : Int)) = false := by simp; omega
  clear hs
  go_enter Try.func8, Try.ntmps8
  go_wp2_with fail
  refine (at_is s a c _ HC.out).mono ?_
  rintro e w1 ⟨rfl, rfl⟩
  go_wp2_with fail
  refine (kind_is c 80 _ HK.out).mono ?_
  rintro e w1 ⟨rfl, rfl⟩
  go_wp2_with fail
  refine (all_is s a L n _ HL.out HN.out).mono ?_
  rintro e w1 ⟨A, ck, rfl, hr, hb⟩
  have hB := hb
  clear hb
  go_wp2_with fail
  go_loopw [7, 8] (fun i _ wr => ∃ k : Nat, k ≤ n ∧ i = .int .i64 k ∧ Rd wr A (L.map iv) ∧ Below w.heap.size w wr) (fun i _ _ => n - (intOf i).toNat)
  case atStart => exact ⟨0, by omega, rfl, hr, hB⟩
  case round =>
    clear hr hB
    obtain ⟨k, hk, rfl, hr, hB⟩ := hrel
    by_cases hlt : k < n
    · have hkl : k < L.length := by rw [HN.out]; exact hlt
      obtain ⟨ad, rfl, hc⟩ := hr k (iv L[k]) (by simp [hkl])
      obtain ⟨u, hu⟩ : ∃ u, L[k] = u := ⟨_, rfl⟩
      have h1 := HP.out.here L[k] (List.getElem_mem _)
      have h2 := HP.out.ranks L[k] (List.getElem_mem _)
      rw [hu] at hc h1 h2
      obtain ⟨fu, hfu⟩ : ∃ f, fileI u = f := ⟨_, rfl⟩
      obtain ⟨ru, hru⟩ : ∃ f, rankI u = f := ⟨_, rfl⟩
      rw [hfu, hru, HF.out, HR.out] at h1
      rw [hru] at h2
      have FU := Lib.hid hfu
      have RU := Lib.hid hru
      have b1 : (k : Int) < (n : Int) := by omega
      clear hu hfu hru
      rcases h1 with ⟨h3, h4⟩ | ⟨h3, h4⟩
      · have i1 : IntKind.i64.wrap (ru - ra) = 1 := by rw [IntWalk.i64_in _ (by omega)]; simpa using h3
        have e4 : (fu != fa) = false := by rw [h4]; simp
        clear h3 h4
        go_wp2_with fail
        refine (rank_is u ru _ RU.out).mono ?_
        rintro e w2 ⟨rfl, rfl⟩
        go_wp2_with fail
        refine (rank_is a ra _ HR.out).mono ?_
        rintro e w2 ⟨rfl, rfl⟩
        go_wp2_with fail
        refine (side_is c 0 _ HS.out).mono ?_
        rintro e w2 ⟨rfl, rfl⟩
        go_wp2_with fail
        refine (file_is u fu _ FU.out).mono ?_
        rintro e w2 ⟨rfl, rfl⟩
        go_wp2_with fail
        refine (file_is a fa _ HF.out).mono ?_
        rintro e w2 ⟨rfl, rfl⟩
        go_wp2_with fail
        exact ⟨⟨k + 1, by omega, by go_num, hr, hB⟩, by simp [intOf]; omega⟩
      · have i1 : IntKind.i64.wrap (ru - ra) = 0 := by rw [IntWalk.i64_in _ (by omega)]; exact h3
        have HO := Lib.hid h4
        clear h3 h4
        go_wp2_with fail
        refine (rank_is u ru _ RU.out).mono ?_
        rintro e w2 ⟨rfl, rfl⟩
        go_wp2_with fail
        refine (rank_is a ra _ HR.out).mono ?_
        rintro e w2 ⟨rfl, rfl⟩
        go_wp2_with fail
        refine (side_is c 0 _ HS.out).mono ?_
        rintro e w2 ⟨rfl, rfl⟩
        go_wp2_with fail
        refine (side_is c 0 _ HS.out).mono ?_
        rintro e w2 ⟨rfl, rfl⟩
        go_wp2_with fail
        refine (over_is a 0 true _ HO.out).mono ?_
        rintro e w2 ⟨rfl, hb⟩
        go_wp2_with fail
        exact ⟨⟨k + 1, by omega, by go_num, hr.next hb, hB.trans (hb.mono hB.size)⟩, by simp [intOf]; omega⟩
    · obtain rfl : k = n := by omega
      have b1 : decide ((k : Int) < (k : Int)) = false := by simp
      have b2 : decide ((k : Int) ≤ 3) = true := by simp; omega
      go_wp2_with fail
      refine (live5_any _).mono ?_
      rintro e w3 ⟨rfl, hb⟩
      go_wp2
      go_ret
      exact ⟨rfl, hB.trans (hb.mono hB.size)⟩
set_option maxRecDepth 100000 in
set_option maxHeartbeats 4000000 in
theorem small1 (s : ByteArray) (a : Int) (c n : Nat) (fa ra : Int) (L : List Int) (w : World) (hs : s.size ≤ 200) (hm : n ≤ 3) (hr0 : 0 ≤ ra) (hr9 : ra ≤ 9) (HL : Hid (allL s a = L)) (HN : Hid (L.length = n)) (HC : Hid (atB s a = c)) (HK : Hid (kindN c = 80)) (HS : Hid (sideN c = 1)) (HP : Hid (Pawn s a 1 L)) (HF : Hid (fileI a = fa)) (HR : Hid (rankI a = ra)) : Calls Try.prog 8 #[.string s, .int .i64 a] w (Gives w (.bool true)) := by
  unfold Gives
  have hd : decide (200 < (s.size : Int)) = false := by simp; omega
  clear hs
  go_enter Try.func8, Try.ntmps8
  go_wp2_with fail
  refine (at_is s a c _ HC.out).mono ?_
  rintro e w1 ⟨rfl, rfl⟩
  go_wp2_with fail
  refine (kind_is c 80 _ HK.out).mono ?_
  rintro e w1 ⟨rfl, rfl⟩
  go_wp2_with fail
  refine (all_is s a L n _ HL.out HN.out).mono ?_
  rintro e w1 ⟨A, ck, rfl, hr, hb⟩
  have hB := hb
  clear hb
  go_wp2_with fail
  go_loopw [7, 8] (fun i _ wr => ∃ k : Nat, k ≤ n ∧ i = .int .i64 k ∧ Rd wr A (L.map iv) ∧ Below w.heap.size w wr) (fun i _ _ => n - (intOf i).toNat)
  case atStart => exact ⟨0, by omega, rfl, hr, hB⟩
  case round =>
    clear hr hB
    obtain ⟨k, hk, rfl, hr, hB⟩ := hrel
    by_cases hlt : k < n
    · have hkl : k < L.length := by rw [HN.out]; exact hlt
      obtain ⟨ad, rfl, hc⟩ := hr k (iv L[k]) (by simp [hkl])
      obtain ⟨u, hu⟩ : ∃ u, L[k] = u := ⟨_, rfl⟩
      have h1 := HP.out.here L[k] (List.getElem_mem _)
      have h2 := HP.out.ranks L[k] (List.getElem_mem _)
      rw [hu] at hc h1 h2
      obtain ⟨fu, hfu⟩ : ∃ f, fileI u = f := ⟨_, rfl⟩
      obtain ⟨ru, hru⟩ : ∃ f, rankI u = f := ⟨_, rfl⟩
      rw [hfu, hru, HF.out, HR.out] at h1
      rw [hru] at h2
      have FU := Lib.hid hfu
      have RU := Lib.hid hru
      have b1 : (k : Int) < (n : Int) := by omega
      clear hu hfu hru
      rcases h1 with ⟨h3, h4⟩ | ⟨h3, h4⟩
      · have i1 : IntKind.i64.wrap (ru - ra) = -1 := by rw [IntWalk.i64_in _ (by omega)]; simpa using h3
        have e4 : (fu != fa) = false := by rw [h4]; simp
        clear h3 h4
        go_wp2_with fail
        refine (rank_is u ru _ RU.out).mono ?_
        rintro e w2 ⟨rfl, rfl⟩
        go_wp2_with fail
        refine (rank_is a ra _ HR.out).mono ?_
        rintro e w2 ⟨rfl, rfl⟩
        go_wp2_with fail
        refine (side_is c 1 _ HS.out).mono ?_
        rintro e w2 ⟨rfl, rfl⟩
        go_wp2_with fail
        refine (file_is u fu _ FU.out).mono ?_
        rintro e w2 ⟨rfl, rfl⟩
        go_wp2_with fail
        refine (file_is a fa _ HF.out).mono ?_
        rintro e w2 ⟨rfl, rfl⟩
        go_wp2_with fail
        exact ⟨⟨k + 1, by omega, by go_num, hr, hB⟩, by simp [intOf]; omega⟩
      · have i1 : IntKind.i64.wrap (ru - ra) = 0 := by rw [IntWalk.i64_in _ (by omega)]; exact h3
        have HO := Lib.hid h4
        clear h3 h4
        go_wp2_with fail
        refine (rank_is u ru _ RU.out).mono ?_
        rintro e w2 ⟨rfl, rfl⟩
        go_wp2_with fail
        refine (rank_is a ra _ HR.out).mono ?_
        rintro e w2 ⟨rfl, rfl⟩
        go_wp2_with fail
        refine (side_is c 1 _ HS.out).mono ?_
        rintro e w2 ⟨rfl, rfl⟩
        go_wp2_with fail
        refine (side_is c 1 _ HS.out).mono ?_
        rintro e w2 ⟨rfl, rfl⟩
        go_wp2_with fail
        refine (over_is a 1 true _ HO.out).mono ?_
        rintro e w2 ⟨rfl, hb⟩
        go_wp2_with fail
        exact ⟨⟨k + 1, by omega, by go_num, hr.next hb, hB.trans (hb.mono hB.size)⟩, by simp [intOf]; omega⟩
    · obtain rfl : k = n := by omega
      have b1 : decide ((k : Int) < (k : Int)) = false := by simp
      have b2 : decide ((k : Int) ≤ 3) = true := by simp; omega
      go_wp2_with fail
      refine (live5_any _).mono ?_
      rintro e w3 ⟨rfl, hb⟩
      go_wp2
      go_ret
      exact ⟨rfl, hB.trans (hb.mono hB.size)⟩
theorem walk (s : ByteArray) (a : Int) (w : World) : Calls Try.prog 8 #[.string s, .int .i64 a] w (Gives w (.bool true)) := by
  by_cases hs : 200 < s.size
  · exact large s a _ w hs (rfl : atB s a = _)
  by_cases hk : kindN (atB s a) = 80
  · obtain ⟨hp, hside, h0, h9⟩ := pawn_of hk
    rcases hside with e | e
    · rw [e] at hp
      exact small0 s a _ _ _ _ _ w (by omega) hp.few h0 h9 (rfl : allL s a = _) rfl (rfl : atB s a = _) hk e hp (rfl : fileI a = _) (rfl : rankI a = _)
    · rw [e] at hp
      exact small1 s a _ _ _ _ _ w (by omega) hp.few h0 h9 (rfl : allL s a = _) rfl (rfl : atB s a = _) hk e hp (rfl : fileI a = _) (rfl : rankI a = _)
  · exact other s a _ _ w (by omega) (rfl : atB s a = _) (rfl : kindN (atB s a) = _) (by rw [bne_iff_ne]; omega)
end Go.Proofs.Ytdpalfifckjhgaa.rpawn
