/- What Parse answers: a position's command, and all. -/
import Derived.Test.YtpogpjebhnoncabGreatDoorLineE
import Derived.Test.YtpogpjebhnoncabGreatDoorLineF
namespace Go.Proofs.YtpogpjebhnoncabGreatDoor
open Go.RowKit Go.Shelf Go.Proofs.YtpogpjebhnoncabGreatDoor.Ln
open M (S)

theorem ends_le {l : List (List UInt8)} {n : Nat} (h : endsN l n = true) : n ≤ l.length := by
  unfold endsN at h
  rw [Bool.or_eq_true, beq_iff_eq, beq_iff_eq] at h
  rcases h with h | h
  · omega
  · have := (List.getElem?_eq_some_iff.1 h).1
    omega
theorem place_cases {l : List (List UInt8)} (h : placeN l ≠ 0) : placeN l ≤ l.length ∧ ((∃ r, l = startW :: r ∧ placeN l = 1) ∨ (∃ r, l = fenW :: r ∧ (placeN l = 3 ∨ placeN l = 7))) := by
  cases l with
  | nil => exact absurd rfl h
  | cons x r =>
    rw [placeN] at h ⊢
    by_cases h1 : x = startW
    · rw [if_pos h1] at h ⊢
      by_cases h2 : endsN (x :: r) 1 = true
      · rw [if_pos h2]
        exact ⟨ends_le h2, .inl ⟨r, by rw [h1], rfl⟩⟩
      · rw [if_neg h2] at h
        exact absurd rfl h
    · rw [if_neg h1] at h ⊢
      by_cases h2 : x = fenW
      · rw [if_pos h2] at h ⊢
        by_cases h3 : endsN (x :: r) 3 = true
        · rw [if_pos h3]
          exact ⟨ends_le h3, .inr ⟨r, by rw [h2], .inl rfl⟩⟩
        · rw [if_neg h3] at h ⊢
          by_cases h4 : endsN (x :: r) 7 = true
          · rw [if_pos h4]
            exact ⟨ends_le h4, .inr ⟨r, by rw [h2], .inr rfl⟩⟩
          · rw [if_neg h4] at h
            exact absurd rfl h
      · rw [if_neg h2] at h
        exact absurd rfl h
theorem join_le (n : Nat) : ∀ l : List (List UInt8), (∀ x ∈ l, x.length ≤ n) → (Lib.join l [32]).length ≤ (n + 1) * l.length
  | [], _ => by rw [Lib.join_nil]; simp
  | x :: r, h => by
    have hs := join_sum (x :: r) (by simp)
    have key : ∀ l : List (List UInt8), (∀ x ∈ l, x.length ≤ n) → sumL l ≤ (n + 1) * l.length := fun l => by
      induction l with
      | nil => intro _; exact Nat.le_refl _
      | cons y t ih =>
        intro h
        have h1 := ih fun z hz => h z (List.mem_cons_of_mem _ hz)
        have h2 := h y List.mem_cons_self
        show y.length + 1 + sumL t ≤ _
        rw [List.length_cons, Nat.mul_add]
        omega
    have := key (x :: r) h
    omega
/-- What a position's words tell, as a value. -/
theorem place_value (l : List (List UInt8)) (n : Nat) : ∃ (s : ByteArray) (a b c k : Int), (∀ p, placeR l n = .ok p → s = bs p.cells ∧ a = p.side ∧ b = p.clock ∧ c = p.full ∧ k = 0) ∧ (∀ e, placeR l n = .error e → k = e ∧ e ≠ 0) ∧ (l.head? = some startW → s = bs startL ∧ a = 0 ∧ b = 0 ∧ c = 1 ∧ k = 0) ∧ (l.head? ≠ some startW → parseV (Lib.join ((l.take n).drop 1) [32]) = .tuple #[.agg #[.string s, .int .i64 a, .int .i64 b, .int .i64 c], .int .i64 k]) := by
  by_cases h : l.head? = some startW
  · have e : placeR l n = .ok startP := if_pos h
    refine ⟨bs startL, 0, 0, 1, 0, fun p hp => ?_, fun e' he => ?_, fun _ => ⟨rfl, rfl, rfl, rfl, rfl⟩, fun h' => absurd h h'⟩
    · rw [e] at hp
      injection hp with hp
      subst hp
      exact ⟨rfl, rfl, rfl, rfl, rfl⟩
    · rw [e] at he
      cases he
  · have e : placeR l n = posR (Lib.join ((l.take n).drop 1) [32]) := if_neg h
    obtain ⟨T, hT⟩ : ∃ T, Lib.join ((l.take n).drop 1) [32] = T := ⟨_, rfl⟩
    rw [hT] at e ⊢
    unfold posR at e
    cases hf : F.formL T with
    | none =>
      rw [hf] at e
      refine ⟨⟨#[]⟩, 0, 0, 0, 6, fun p hp => (by rw [e] at hp; cases hp), fun e' he => ?_, fun h' => absurd h' h, fun _ => parse_none hf⟩
      rw [e] at he
      injection he with he
      exact ⟨he, by rw [← he]; decide⟩
    | some p =>
      rw [hf] at e
      by_cases h0 : (checkP p : Int) = 0
      · simp only [if_pos h0] at e
        refine ⟨bs p.cells, p.side, p.clock, p.full, 0, fun q hq => ?_, fun e' he => (by rw [e] at he; cases he), fun h' => absurd h' h, fun _ => parse_yes hf h0⟩
        rw [e] at hq
        injection hq with hq
        subst hq
        exact ⟨rfl, rfl, rfl, rfl, rfl⟩
      · simp only [if_neg h0] at e
        refine ⟨⟨#[]⟩, 0, 0, 0, (checkP p : Nat), fun q hq => (by rw [e] at hq; cases hq), fun e' he => ?_, fun h' => absurd h' h, fun _ => parse_no hf h0⟩
        rw [e] at he
        injection he with he
        exact ⟨he, by rw [← he]; exact h0⟩
theorem readPlace_is (g b c : Nat) (l : List (List UInt8)) (n : Nat) (s : ByteArray) (x y z k : Int) (w : World) (hE : Env w) (hc : ∀ j u, l[j]? = some u → w.cell? ⟨g, b + j, none⟩ = some (.string (bs u))) (hn0 : placeN l = n) (h0 : n ≠ 0) (hnc : n ≤ c) (hl : ∀ u ∈ l, u.length ≤ 100000) (h1 : l.head? = some startW → s = bs startL ∧ x = 0 ∧ y = 0 ∧ z = 1 ∧ k = 0) (h2 : l.head? ≠ some startW → parseV (Lib.join ((l.take n).drop 1) [32]) = .tuple #[.agg #[.string s, .int .i64 x, .int .i64 y, .int .i64 z], .int .i64 k]) : Calls Tryz.prog 45 #[.slice (some ⟨g, b, none⟩) n c] w (Gives w (.tuple #[.agg #[.string s, .int .i64 x, .int .i64 y, .int .i64 z], .int .i64 k])) := by
  subst hn0
  obtain ⟨hle, hcase⟩ := place_cases h0
  rcases hcase with ⟨r, rfl, h3⟩ | ⟨r, rfl, h3⟩
  · obtain ⟨rfl, rfl, rfl, rfl, rfl⟩ := h1 rfl
    exact readPlace_start g b _ c w (hc 0 startW rfl) (by omega)
  · have hne : ¬ (fenW :: r).head? = some startW := fun e => absurd (Option.some.inj e) (by decide)
    obtain ⟨q, hq⟩ : ∃ q, placeN (fenW :: r) = q + 1 := ⟨placeN (fenW :: r) - 1, by omega⟩
    have ht : (fenW :: r).take (placeN (fenW :: r)) = fenW :: r.take q := by rw [hq]; rfl
    have hlen : (fenW :: r.take q).length = placeN (fenW :: r) := by
      rw [← ht, List.length_take]
      omega
    have hv := h2 hne
    rw [ht] at hv
    refine readPlace_fen g b _ c fenW (r.take q) _ s x y z k w hE (fun j u hu => ?_) hlen hnc (fun e => ?_) (by decide) rfl ?_ hv (by omega)
    · refine hc j u ?_
      rw [← ht, List.getElem?_take] at hu
      split at hu
      · exact hu
      · cases hu
    · rw [e, List.length_cons, List.length_nil] at hlen
      omega
    · have := join_le 100000 (r.take q) fun u hu => hl u (List.mem_cons_of_mem _ (List.mem_of_mem_take hu))
      rw [List.length_cons] at hlen
      have h6 : (r.take q).length ≤ 6 := by omega
      have : (100000 + 1) * (r.take q).length ≤ (100000 + 1) * 6 := Nat.mul_le_mul_left _ h6
      omega
theorem movesR_err {l : List (List UInt8)} {k : Int} (h : movesR l = .error k) : (k != 0) = true := by
  have : k = 6 ∨ k = 8 := by
    unfold movesR at h
    split at h
    · injection h with h; exact .inl h.symm
    · split at h
      · injection h with h; exact .inr h.symm
      · cases h
  rcases this with rfl | rfl <;> rfl
theorem two_new {w W : World} {t : TypeId} {cs : Array Value} (hb : Below (w.alloc (.cells cmdZ 29)).heap.size (w.alloc (.cells cmdZ 29)) W) : Below w.heap.size w (W.alloc (.cells cs t)) ∧ Blk (W.alloc (.cells cs t)) w.heap.size 29 cmdZ ∧ Blk (W.alloc (.cells cs t)) W.heap.size t cs ∧ w.heap.size < W.heap.size := by
  obtain ⟨bR, hB⟩ := cmd_start hb
  exact ⟨hB.alloc hB.size _, bR.alloc _, Blk.new _ _ _ rfl, bR.lt⟩
set_option maxRecDepth 100000 in
set_option maxHeartbeats 4000000 in
theorem readSet_is (A : Option Addr) (n c : Nat) (l : List (List UInt8)) {w : World} {a0 a1 a2 : Addr} (hE : Env w) (hR : Errs w a0 a1 a2) (hr : Rd w A (l.map sv)) (hn : l.length = n) (hnc : n ≤ c) (hl9 : n ≤ 100000) (hl : ∀ u ∈ l, u.length ≤ 100000) : Calls Tryz.prog 27 #[.slice A n c] w (CmdG (setR l) w) := by
  have hA : Below w.heap.size w (w.alloc (.cells cmdZ 29)) := (by repeat (first | exact Below.refl _ _ | (refine Below.setCell ?_ (by first | omega | (simp; done) | (simp; omega) | (simp at *; omega)) _) | (refine Below.alloc ?_ (by first | omega | (simp; done) | (simp; omega) | (simp at *; omega)) _) | refine Below.drew ?_ | (refine below_drewN ?_ _) | (refine Below.trans ?_ (Below.mono (by assumption) (by first | omega | (simp; done) | (simp; omega) | (simp at *; omega))))))
  obtain ⟨m, hm⟩ : ∃ m, placeN l = m := ⟨_, rfl⟩
  have hpl := placeLen_is A n c l _ (hr.next hA) hn m hm
  by_cases h0 : m = 0
  · have HB : Hid (setR l = .error 9) := by show _ = _; unfold setR; rw [hm, if_pos h0]
    subst h0
    clear hr hm hl
    go_enter Tryz.func27, Tryz.ntmps27
    go_wp2_with fail
    refine hpl.mono ?_
    rintro e w1 ⟨rfl, hb1⟩
    obtain ⟨bR, hB1⟩ := cmd_start hb1
    obtain ⟨r0, r1, r2, r3, r4, r5, r6⟩ := c_cells bR
    obtain ⟨f0, f1, f2, f3, f4, f5, f6⟩ := c_frozen bR
    clear hb1
    go_wp2_with fail
    refine bodyPost_ret (cmd_end rfl bR _ _ _ _ _ _ _ _ rfl) rfl ?_
    exact cmdG_err HB.out (below_cmd hB1 (Nat.le_refl _) _ _ _ _ _ _ _)
  · have h0' : placeN l ≠ 0 := by rw [hm]; exact h0
    obtain ⟨hle, hcase⟩ := place_cases h0'
    rw [hm] at hle
    obtain ⟨s, x, y, z, k, k1, k2, k3, k4⟩ := place_value l m
    have hpos : 0 < l.length := by omega
    obtain ⟨g, b, rfl, hc⟩ := rd_form hr hpos
    have m0 : ((m : Int) == 0) = false := by rw [beq_eq_false_iff_ne]; omega
    have m1 : (0 : Int) ≤ (m : Int) := by omega
    have m2 : (m : Int) ≤ (c : Int) := by omega
    have HPL := Lib.hid fun (W : World) (hW : Below w.heap.size w W) => readPlace_is g b c l m s x y z k W (hE.next hW) (fun j u hu => (hW.cell (cell_lt (hc j u hu))).trans (hc j u hu)) hm h0 (by omega) hl k3 k4
    cases hp : placeR l m with
    | error e =>
      obtain ⟨rfl, hk⟩ := k2 e hp
      have hk' : (k != 0) = true := by rw [bne_iff_ne]; exact hk
      have HB : Hid (setR l = .error k) := by show _ = _; unfold setR; rw [hm, if_neg h0, hp]
      clear k1 k2 k3 k4 hp hk hc hr hcase hl
      go_enter Tryz.func27, Tryz.ntmps27
      go_wp2_with fail
      refine hpl.mono ?_
      rintro e w1 ⟨rfl, hb1⟩
      have hB1 := (cmd_start hb1).2
      go_wp2_with fail
      refine (HPL.out w1 hB1).mono ?_
      rintro e w2 ⟨rfl, hb2⟩
      go_upto_region 5 with (fail)
      have hb := hb1.trans (hb2.mono hb1.size)
      obtain ⟨hB2, bR, bP, hlt⟩ := two_new (t := 23) (cs := #[.string s, .int .i64 x, .int .i64 y, .int .i64 z]) hb
      generalize w2.alloc (.cells #[.string s, .int .i64 x, .int .i64 y, .int .i64 z] 23) = V at hB2 bR bP ⊢
      obtain ⟨r0, r1, r2, r3, r4, r5, r6⟩ := c_cells bR
      obtain ⟨f0, f1, f2, f3, f4, f5, f6⟩ := c_frozen bR
      clear hb1 hb2 hb hB1
      go_wp2_with fail
      refine bodyPost_ret (cmd_end rfl bR _ _ _ _ _ _ _ _ rfl) rfl ?_
      exact cmdG_err HB.out (below_cmd hB2 (Nat.le_refl _) _ _ _ _ _ _ _)
    | ok p =>
      obtain ⟨rfl, rfl, rfl, rfl, rfl⟩ := k1 p hp
      by_cases hlen : n ≤ m
      · have HB : Hid (setR l = .ok ⟨3, p, [], 0⟩) := by show _ = _; unfold setR; rw [hm, if_neg h0, hp, hn]; exact if_pos hlen
        have n0 : ¬ (m : Int) < (n : Int) := by omega
        clear k1 k2 k3 k4 hp hc hr hcase hl
        go_enter Tryz.func27, Tryz.ntmps27
        go_wp2_with fail
        refine hpl.mono ?_
        rintro e w1 ⟨rfl, hb1⟩
        have hB1 := (cmd_start hb1).2
        go_wp2_with fail
        refine (HPL.out w1 hB1).mono ?_
        rintro e w2 ⟨rfl, hb2⟩
        go_upto_region 5 with (fail)
        have hb := hb1.trans (hb2.mono hb1.size)
        obtain ⟨hB2, bR, bP, hlt⟩ := two_new (t := 23) (cs := #[.string (bs p.cells), .int .i64 p.side, .int .i64 p.clock, .int .i64 p.full]) hb
        generalize w2.alloc (.cells #[.string (bs p.cells), .int .i64 p.side, .int .i64 p.clock, .int .i64 p.full] 23) = V at hB2 bR bP ⊢
        obtain ⟨r0, r1, r2, r3, r4, r5, r6⟩ := c_cells bR
        obtain ⟨f0, f1, f2, f3, f4, f5, f6⟩ := c_frozen bR
        obtain ⟨p0, p1, p2, p3⟩ := pos_cells bP
        clear hb1 hb2 hb hB1
        go_wp2_with fail
        refine bodyPost_ret (cmd_end rfl bR _ _ _ _ _ _ _ _ rfl) rfl ?_
        exact cmdG_ok (c := ⟨3, p, [], 0⟩) HB.out (below_cmd hB2 (Nat.le_refl _) _ _ _ _ _ _ _) (World.ownsRow_nil _ w.heap.size 60 2)
      · have n0 : (m : Int) < (n : Int) := by omega
        have w1' : IntKind.i64.wrap ((m : Int) + 1) = ((m + 1 : Nat) : Int) := by rw [IntWalk.i64_in _ (by omega)]; rfl
        have n3 : (m : Int) + 1 ≤ (n : Int) := by omega
        have n4 : (n : Int) ≤ (c : Int) := by omega
        have n5 : (0 : Int) ≤ (m : Int) + 1 := by omega
        have HB : Hid (setR l = match movesR (l.drop (m + 1)) with | .error e => .error e | .ok ms => .ok ⟨3, p, ms, 0⟩) := by show _ = _; unfold setR; rw [hm, if_neg h0, hp, hn]; exact if_neg hlen
        have HC := Lib.hid hc
        have HN := Lib.hid hn
        clear k1 k2 k3 k4 hp hc hr hcase hl hn
        go_enter Tryz.func27, Tryz.ntmps27
        go_wp2_with fail
        refine hpl.mono ?_
        rintro e w1 ⟨rfl, hb1⟩
        have hB1 := (cmd_start hb1).2
        go_wp2_with fail
        refine (HPL.out w1 hB1).mono ?_
        rintro e w2 ⟨rfl, hb2⟩
        go_upto_region 5 with (fail)
        have hb := hb1.trans (hb2.mono hb1.size)
        obtain ⟨hB2, bR, bP, hlt⟩ := two_new (t := 23) (cs := #[.string (bs p.cells), .int .i64 p.side, .int .i64 p.clock, .int .i64 p.full]) hb
        generalize w2.alloc (.cells #[.string (bs p.cells), .int .i64 p.side, .int .i64 p.clock, .int .i64 p.full] 23) = V at hB2 bR bP ⊢
        clear hb1 hb2 hb hB1
        by_cases hcm : c = m + 1
        · have hcm2 : (c : Int) = (m : Int) + 1 := by omega
          have hmv := readMoves_any (some ⟨g, b, none⟩) (n - (m + 1)) 0 (l.drop (m + 1)) (hR.next hB2) (by rw [List.drop_of_length_le (by rw [HN.out]; omega)]; exact fun j u h => (by cases h)) (by rw [List.length_drop, HN.out]) (by omega)
          go_wp2_with fail
          refine hmv.mono ?_
          rintro e w3 ⟨v, er, rfl, hG, hb3⟩
          have hlt3 := bR.lt
          replace bR := bR.next hb3
          replace bP := bP.next hb3
          have hB3 := hB2.trans (hb3.mono hB2.size)
          obtain ⟨r0, r1, r2, r3, r4, r5, r6⟩ := c_cells bR
          obtain ⟨f0, f1, f2, f3, f4, f5, f6⟩ := c_frozen bR
          obtain ⟨p0, p1, p2, p3⟩ := pos_cells bP
          unfold MovesG at hG
          have HB2 := HB.out
          clear hb3 hB2 hmv HC HB
          cases hR2 : movesR (l.drop (m + 1)) with
          | error k =>
            rw [hR2] at hG HB2
            obtain ⟨rfl, rfl⟩ := hG
            have hk := movesR_err hR2
            have HB := Lib.hid HB2
            clear hR2 HB2
            go_wp2_with fail
            refine bodyPost_ret (cmd_end rfl bR _ _ _ _ _ _ _ _ rfl) rfl ?_
            exact cmdG_err HB.out (below_cmd hB3 (Nat.le_refl _) _ _ _ _ _ _ _)
          | ok ms =>
            rw [hR2] at hG HB2
            obtain ⟨rfl, hown⟩ := hG
            obtain ⟨A2, c2, rfl, _, _⟩ := own_anyL hown
            have HO := Lib.hid hown
            have HB := Lib.hid HB2
            clear hR2 HB2 hown
            go_wp2_with fail
            refine bodyPost_ret (cmd_end rfl bR _ _ _ _ _ _ _ _ rfl) rfl ?_
            refine cmdG_ok (c := ⟨3, p, ms, 0⟩) HB.out (below_cmd hB3 (Nat.le_refl _) _ _ _ _ _ _ _) ?_
            exact own_baseL (own_setC (own_setC (own_setC (own_setC (own_setC (own_setC (own_setC HO.out hlt3) hlt3) hlt3) hlt3) hlt3) hlt3) hlt3) (Nat.le_of_lt hlt3)
        · have hcm2 : ¬ (c : Int) = (m : Int) + 1 := by omega
          have hmv := readMoves_any (some ⟨g, b + (m + 1), none⟩) (n - (m + 1)) (c - (m + 1)) (l.drop (m + 1)) (hR.next hB2) (rd_sub fun j u hu => (hB2.cell (cell_lt (HC.out j u hu))).trans (HC.out j u hu)) (by rw [List.length_drop, HN.out]) (by omega)
          go_wp2_with fail
          refine hmv.mono ?_
          rintro e w3 ⟨v, er, rfl, hG, hb3⟩
          have hlt3 := bR.lt
          replace bR := bR.next hb3
          replace bP := bP.next hb3
          have hB3 := hB2.trans (hb3.mono hB2.size)
          obtain ⟨r0, r1, r2, r3, r4, r5, r6⟩ := c_cells bR
          obtain ⟨f0, f1, f2, f3, f4, f5, f6⟩ := c_frozen bR
          obtain ⟨p0, p1, p2, p3⟩ := pos_cells bP
          unfold MovesG at hG
          have HB2 := HB.out
          clear hb3 hB2 hmv HC HB
          cases hR2 : movesR (l.drop (m + 1)) with
          | error k =>
            rw [hR2] at hG HB2
            obtain ⟨rfl, rfl⟩ := hG
            have hk := movesR_err hR2
            have HB := Lib.hid HB2
            clear hR2 HB2
            go_wp2_with fail
            refine bodyPost_ret (cmd_end rfl bR _ _ _ _ _ _ _ _ rfl) rfl ?_
            exact cmdG_err HB.out (below_cmd hB3 (Nat.le_refl _) _ _ _ _ _ _ _)
          | ok ms =>
            rw [hR2] at hG HB2
            obtain ⟨rfl, hown⟩ := hG
            obtain ⟨A2, c2, rfl, _, _⟩ := own_anyL hown
            have HO := Lib.hid hown
            have HB := Lib.hid HB2
            clear hR2 HB2 hown
            go_wp2_with fail
            refine bodyPost_ret (cmd_end rfl bR _ _ _ _ _ _ _ _ rfl) rfl ?_
            refine cmdG_ok (c := ⟨3, p, ms, 0⟩) HB.out (below_cmd hB3 (Nat.le_refl _) _ _ _ _ _ _ _) ?_
            exact own_baseL (own_setC (own_setC (own_setC (own_setC (own_setC (own_setC (own_setC HO.out hlt3) hlt3) hlt3) hlt3) hlt3) hlt3) hlt3) (Nat.le_of_lt hlt3)
end Go.Proofs.YtpogpjebhnoncabGreatDoor
