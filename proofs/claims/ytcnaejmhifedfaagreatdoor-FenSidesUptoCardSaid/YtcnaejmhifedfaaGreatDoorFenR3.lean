/- What the document's plain answers of layer 4 come to: a text cut at a byte; a rank's squares. -/
import Derived.Test.YtcnaejmhifedfaaGreatDoorFenR1
namespace Go.Proofs.YtcnaejmhifedfaaGreatDoor
open Go.RowKit Go.Shelf
open M (S)

abbrev sv (l : List UInt8) : Value := .string (bs l)
theorem info_str : (Tryz.prog.info? 9).map (fun i => (i.zero, i.size, i.bytes)) = some (some (.string ⟨#[]⟩), 1, 16) := by kernel_rfl
/-- A call's answer is a slice of texts, those of l; it begins where a block begins. -/
def GivesA (w : World) (l : List (List UInt8)) (n : Nat) (e : Ending) (w' : World) : Prop := ∃ g c, e = .returned (.slice (some ⟨g, 0, none⟩) n c) ∧ (n ≤ c ∧ w.heap.size ≤ g) ∧ Rd w' (some ⟨g, 0, none⟩) (l.map sv) ∧ Below w.heap.size w w'
theorem rd_at {w : World} {g b : Nat} {l : List (List UInt8)} (hr : Rd w (some ⟨g, b, none⟩) (l.map sv)) (j : Nat) (x : List UInt8) (hx : l[j]? = some x) : w.cell? ⟨g, b + j, none⟩ = some (.string (bs x)) := by
  obtain ⟨ad', he, hc⟩ := hr j (sv x) (by rw [List.getElem?_map, hx]; rfl)
  cases he
  rw [← hc]
  congr 1
  by_cases h0 : j = 0
  · subst h0
    rfl
  · simp [Addr.add, h0]
theorem rd_of {w : World} {g b : Nat} {l : List (List UInt8)} (h : ∀ j x, l[j]? = some x → w.cell? ⟨g, b + j, none⟩ = some (.string (bs x))) : Rd w (some ⟨g, b, none⟩) (l.map sv) := fun j u hu => by
  rw [List.getElem?_map] at hu
  obtain ⟨x, hx, rfl⟩ := Option.map_eq_some_iff.1 hu
  refine ⟨_, rfl, ?_⟩
  rw [← h j x hx]
  congr 1
  by_cases h0 : j = 0
  · subst h0
    rfl
  · simp [Addr.add, h0]
/-- A call's answer is a slice of texts, those of l. -/
def GivesT (w : World) (l : List (List UInt8)) (n : Nat) (e : Ending) (w' : World) : Prop := ∃ A c, e = .returned (.slice A n c) ∧ Rd w' A (l.map sv) ∧ Below w.heap.size w w'
theorem extract_bs (s : ByteArray) (a b : Nat) : s.extract a b = bs ((s.data.toList.drop a).take (b - a)) := by
  obtain ⟨⟨l⟩⟩ := s
  unfold bs
  rw [ByteArray.extract_mk]
theorem byte_at (s : ByteArray) (k : Nat) (h : k < s.size) : s.data.toList.drop k = UInt8.ofNat (bAt s k) :: s.data.toList.drop (k + 1) := by
  have hl : k < s.data.toList.length := by simpa using h
  rw [List.drop_eq_getElem_cons hl, ← bAt_list s k hl]
  simp
theorem take_step {l : List UInt8} {a k : Nat} {x : UInt8} {t : List UInt8} (hak : a ≤ k) (h : l.drop k = x :: t) : (l.drop a).take (k + 1 - a) = (l.drop a).take (k - a) ++ [x] := by
  have hx : l[k]? = some x := by
    rw [← List.head?_drop, h]
    rfl
  have hk : (l.drop a)[k - a]? = some x := by
    rw [List.getElem?_drop, show a + (k - a) = k by omega, hx]
  have hlt := (List.getElem?_eq_some_iff.1 hk).1
  rw [show k + 1 - a = (k - a) + 1 by omega, List.take_succ_eq_append_getElem hlt]
  congr 2
  exact (List.getElem?_eq_some_iff.1 hk).2
theorem drop_split {l : List UInt8} {a k : Nat} (hak : a ≤ k) : l.drop a = (l.drop a).take (k - a) ++ l.drop k := by
  conv => lhs; rw [← List.take_append_drop (k - a) (l.drop a)]
  rw [List.drop_drop, show a + (k - a) = k by omega]
theorem own_at {w : World} {base : Nat} {e : TypeId} {v : Value} {n : Nat} {xs : List Value} (h : w.ownsRow base e 1 v n xs) (hn : 0 < n) : ∃ g c, v = .slice (some ⟨g, 0, none⟩) n c ∧ n ≤ c ∧ base ≤ g := by
  rcases h.2 with ⟨rfl, rfl⟩ | ⟨g, cap, cur, rfl, hg, _, hc, _⟩
  · exact absurd hn (Nat.lt_irrefl _)
  · exact ⟨_, _, rfl, hc, hg⟩
set_option maxRecDepth 100000 in
set_option maxHeartbeats 4000000 in
theorem rcut_at (s : ByteArray) (c : Nat) (w : World) (hc : c < 256) (hs : s.size ≤ 1048576) : Calls Tryz.prog 16 #[.string s, .int .u8 (c : Int)] w (GivesA w (F.cutL (UInt8.ofNat c) s.data.toList) (F.cutL (UInt8.ofNat c) s.data.toList).length) := by
  obtain ⟨i0, hi, hz0, hz1, hz2⟩ := info_parts info_str
  obtain ⟨T, hT⟩ : ∃ T, F.cutL (UInt8.ofNat c) s.data.toList = T := ⟨_, rfl⟩
  rw [hT]
  have HT := Lib.hid hT
  clear hT
  go_enter Tryz.func16, Tryz.ntmps16
  go_wp2_with fail
  go_loopw [5, 6, 7] (fun v a i wr => ∃ (k m : Nat) (d : List (List UInt8)), k ≤ s.size ∧ m ≤ k ∧ d.length ≤ k ∧ i = .int .i64 k ∧ a = .int .i64 m ∧ wr.ownsRow w.heap.size 9 1 v d.length (d.map sv) ∧ T = d ++ F.cutL (UInt8.ofNat c) (s.data.toList.drop m) ∧ UInt8.ofNat c ∉ (s.data.toList.drop m).take (k - m) ∧ Below w.heap.size w wr) (fun _ _ i _ => s.size - (intOf i).toNat)
  case atStart => exact ⟨0, 0, [], by omega, by omega, by simp, rfl, rfl, by simpa using World.ownsRow_nil w w.heap.size 9 1, by rw [List.nil_append, List.drop_zero]; exact HT.out.symm, by simp, Below.refl _ _⟩
  case round =>
    obtain ⟨k, m, d, hk, hm, hd, rfl, rfl, hown, hcut, hno, hB⟩ := hrel
    have hbs := hB.size
    have HC := Lib.hid hcut
    have HN := Lib.hid hno
    clear hcut hno
    by_cases hlt : k < s.size
    · obtain ⟨x, hx⟩ : ∃ x, bAt s k = x := ⟨_, rfl⟩
      have hbk : s[k].toNat = x := (bAt_eq s k hlt).trans hx
      have hx256 : x < 256 := by rw [← hx]; exact bAt_lt _ _
      have hat := byte_at s k hlt
      rw [hx] at hat
      have HA := Lib.hid hat
      clear hx hat
      by_cases hxc : x = c
      · have e0 : ((x : Int) == (c : Int)) = true := by rw [beq_iff_eq]; omega
        have hex := extract_bs s m k
        have hnext : T = (d ++ [(s.data.toList.drop m).take (k - m)]) ++ F.cutL (UInt8.ofNat c) (s.data.toList.drop (k + 1)) := by
          rw [HC.out, List.append_assoc]
          congr 1
          conv => lhs; rw [drop_split (l := s.data.toList) hm, HA.out, hxc]
          exact F.cutL_app HN.out _
        obtain ⟨p, hp⟩ : ∃ p, (s.data.toList.drop m).take (k - m) = p := ⟨_, rfl⟩
        rw [hp] at hex hnext
        have HX := Lib.hid hnext
        clear hnext hp hxc
        go_wp2_with (at_builtin; refine wpList_append_own _ rfl _ _ 33 rfl w.heap.size 9 i0 (.string ⟨#[]⟩) 1 16 Tryz.underlying33 hi hz0 hz1 hz2 rfl (by decide) _ _ _ rfl (hown.alloc _) ⟨wr.heap.size, 0, none⟩ 1 1 [sv p] rfl rfl (cell_one_new _ _ _) (by simp [Value.oneCell']) (by unfold maxLen; omega) (by omega) (by simp; omega) ?_; intro v' w1 hown' hgrow _)
        go_roundw
        case rel => exact ⟨k + 1, k + 1, d ++ [p], by omega, by omega, by simp; omega, by go_num, by go_num, by simpa using hown', HX.out, by simp, below_app hB hbs hown hgrow⟩
        case measure => simp [intOf]; omega
      · have e0 : ((x : Int) == (c : Int)) = false := by rw [beq_eq_false_iff_ne]; omega
        have hne : UInt8.ofNat c ≠ UInt8.ofNat x := fun h => by
          have := congrArg UInt8.toNat h
          rw [F.u8_of _ hc, F.u8_of _ hx256] at this
          exact hxc this.symm
        have HN2 : Hid (UInt8.ofNat c ∉ (s.data.toList.drop m).take (k + 1 - m)) := by
          show _ ∉ _
          rw [take_step hm HA.out, List.mem_append, List.mem_singleton, not_or]
          exact ⟨HN.out, hne⟩
        clear hxc hne
        go_wp2
        go_roundw
        case rel => exact ⟨k + 1, m, d, by omega, by omega, by omega, by go_num, rfl, hown, HC.out, HN2.out, hB⟩
        case measure => simp [intOf]; omega
    · obtain rfl : k = s.size := by omega
      have hex := extract_bs s m s.size
      obtain ⟨p, hp⟩ : ∃ p, (s.data.toList.drop m).take (s.size - m) = p := ⟨_, rfl⟩
      have hpd : s.data.toList.drop m = p := by
        rw [← hp, List.take_of_length_le]
        have : s.data.toList.length = s.size := by simp
        rw [List.length_drop, this]
        exact Nat.le_refl _
      rw [hp] at hex
      have HX : Hid (T = d ++ [p]) := by
        show _ = _
        have hno := HN.out
        rw [hp] at hno
        rw [HC.out, hpd, F.cutL_no hno]
      clear hp hpd
      go_wp2_with (at_builtin; refine wpList_append_own _ rfl _ _ 33 rfl w.heap.size 9 i0 (.string ⟨#[]⟩) 1 16 Tryz.underlying33 hi hz0 hz1 hz2 rfl (by decide) _ _ _ rfl (hown.alloc _) ⟨wr.heap.size, 0, none⟩ 1 1 [sv p] rfl rfl (cell_one_new _ _ _) (by simp [Value.oneCell']) (by unfold maxLen; omega) (by omega) (by simp; omega) ?_; intro v' w1 hown' hgrow _)
      have hlen : d.length + 1 = T.length := by rw [HX.out]; simp
      rw [hlen] at hown'
      obtain ⟨g', c', rfl, hnc⟩ := own_at hown' (by omega)
      have hrd := Rd.own hown'
      have hbel := below_app hB hbs hown hgrow
      have hre : (d.map sv ++ [sv p]) = T.map sv := by rw [HX.out]; simp
      rw [hre] at hrd
      clear hgrow hown' hre hlen
      go_ret
      exact ⟨g', c', rfl, hnc, hrd, hbel⟩
theorem rcut_any (s : ByteArray) (c : Nat) (w : World) (hc : c < 256) (hs : s.size ≤ 1048576) : Calls Tryz.prog 16 #[.string s, .int .u8 (c : Int)] w (GivesT w (F.cutL (UInt8.ofNat c) s.data.toList) (F.cutL (UInt8.ofNat c) s.data.toList).length) :=
  (rcut_at s c w hc hs).mono fun _ _ ⟨_, k, he, _, hr, hb⟩ => ⟨_, k, he, hr, hb⟩
end Go.Proofs.YtcnaejmhifedfaaGreatDoor
