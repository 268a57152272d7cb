/- The commands of one word, as they lie in a map; the parts of Parse. -/
import Derived.Test.YtpogpjebhnoncabGreatDoorLineD
import Derived.WideMake
import Derived.Maps.OwnOps
namespace Go.Proofs.YtpogpjebhnoncabGreatDoor
open Go.RowKit Go.Shelf Go.Proofs.YtpogpjebhnoncabGreatDoor.Ln
open M (S)

theorem run_put {P : Program} {w : World} {mty kt et : TypeId} {r clock : Nat} {es : Array MapEntry} {s : ByteArray} {val : Value} (hm : P.underlying mty = some (.map kt et)) (hk : P.underlying kt = some .string) (hb : w.heap[r]? = some (.map es clock)) (hf : Instr.findNow .string (.string s) es.toList 0 = some none) :
    (Instr.mapUpdate mty (.map (some r)) (.string s) val).run P w = .ok () { w with heap := w.heap.setIfInBounds r (.map (es.push { key := .string s, val := val, born := clock }) (clock + 1)) } := by
  have hc : (Instr.checkKey false 10000 kt (.string s)).run P w = .ok () w := MapKept.run_checkKey (k := .string s) hk (by simp [MapKept.IsKey]) false 9999
  simp [Instr.mapUpdate, run_underlying hm, MapKept.run_getObj_map hb, hc, MapKept.run_findKey hk hf, MapKept.run_setObj_map _ hb, Result.andThen]
theorem run_look {P : Program} {w : World} {mty kt et : TypeId} {r clock i : Nat} {es : Array MapEntry} {s : ByteArray} {val : Value} (hm : P.underlying mty = some (.map kt et)) (hk : P.underlying kt = some .string) (hb : w.heap[r]? = some (.map es clock)) (hf : Instr.findNow .string (.string s) es.toList 0 = some (some (i, val))) :
    (Instr.lookup mty (.map (some r)) (.string s) true).run P w = .ok (.tuple #[val, .bool true]) w := by
  have hc : ∀ x, (Instr.checkKey x 10000 kt (.string s)).run P w = .ok () w := fun x => MapKept.run_checkKey (k := .string s) hk (by simp [MapKept.IsKey]) x 9999
  simp [Instr.lookup, run_underlying hm, MapKept.run_getObj_map hb, hc, MapKept.run_findKey hk hf, Result.andThen]
theorem run_look_no {P : Program} {w : World} {mty kt et : TypeId} {r clock : Nat} {es : Array MapEntry} {s : ByteArray} {z : Value} (hm : P.underlying mty = some (.map kt et)) (hk : P.underlying kt = some .string) (hz : (zeroValue et).run P w = .ok z w) (hb : w.heap[r]? = some (.map es clock)) (hf : Instr.findNow .string (.string s) es.toList 0 = some none) :
    (Instr.lookup mty (.map (some r)) (.string s) true).run P w = .ok (.tuple #[z, .bool false]) w := by
  have hc : ∀ x, (Instr.checkKey x 10000 kt (.string s)).run P w = .ok () w := fun x => MapKept.run_checkKey (k := .string s) hk (by simp [MapKept.IsKey]) x 9999
  simp [Instr.lookup, run_underlying hm, MapKept.run_getObj_map hb, hc, MapKept.run_findKey hk hf, hz, Result.andThen]
def mapW (w : World) (b : Nat) (es : Array MapEntry) (n : Nat) : World := { w with heap := w.heap.setIfInBounds b (.map es n) }
theorem mapW_at {w : World} {b : Nat} (h : b < w.heap.size) (es : Array MapEntry) (n : Nat) : (mapW w b es n).heap[b]? = some (.map es n) := by
  show (w.heap.setIfInBounds b _)[b]? = _
  rw [Array.getElem?_setIfInBounds_self, if_pos h]
theorem mapW_mapW (w : World) (b : Nat) (es fs : Array MapEntry) (n m : Nat) : mapW (mapW w b es n) b fs m = mapW w b fs m := by
  unfold mapW
  simp only [Array.setIfInBounds_setIfInBounds]
/-- The commands of one word. -/
def ent (s : List UInt8) (k : Int) (n : Nat) : MapEntry := { key := .string (bs s), val := .int .i64 k, born := n }
def bareE : Nat → Array MapEntry
  | 0 => #[]
  | 1 => #[ent ucciW 1 0]
  | 2 => #[ent ucciW 1 0, ent readyW 2 1]
  | 3 => #[ent ucciW 1 0, ent readyW 2 1, ent probeW 6 2]
  | 4 => #[ent ucciW 1 0, ent readyW 2 1, ent probeW 6 2, ent stopW 7 3]
  | _ => #[ent ucciW 1 0, ent readyW 2 1, ent probeW 6 2, ent stopW 7 3, ent quitW 8 4]
theorem below_mapW {w : World} (es : Array MapEntry) (n : Nat) : Below w.heap.size w (mapW (w.alloc (.map #[] 0)) w.heap.size es n) := by
  have h := (Below.refl w.heap.size w).alloc (Nat.le_refl _) (.map #[] 0)
  refine ⟨h.os, h.tape, h.output, ?_, fun k hk => ?_⟩
  · show _ ≤ (Array.setIfInBounds _ _ _).size
    rw [Array.size_setIfInBounds]
    exact h.size
  · show (Array.setIfInBounds _ _ _)[k]? = _
    rw [Array.getElem?_setIfInBounds_ne (by omega)]
    exact h.block k hk
set_option maxRecDepth 100000 in
set_option maxHeartbeats 4000000 in
theorem bare_is (w : World) : Calls Tryz.prog 28 #[] w fun e w' => e = .returned (.map (some w.heap.size)) ∧ w'.heap[w.heap.size]? = some (.map (bareE 5) 5) ∧ Below w.heap.size w w' := by
  have hmm := @run_makeMap Tryz.prog
  obtain ⟨W0, hW0⟩ : ∃ W0, w.alloc (.map #[] 0) = W0 := ⟨_, rfl⟩
  have hlt : w.heap.size < W0.heap.size := by rw [← hW0, alloc_sz]; exact Nat.lt_succ_self _
  have hb0 : W0.heap[w.heap.size]? = some (.map #[] 0) := by rw [← hW0]; exact Array.getElem?_push_size ..
  have f1 := run_put (val := .int .i64 1) (s := ⟨#[117, 99, 99, 105]⟩) Tryz.underlying52 Tryz.underlying9 hb0 rfl
  have f2 := run_put (val := .int .i64 2) (s := ⟨#[105, 115, 114, 101, 97, 100, 121]⟩) Tryz.underlying52 Tryz.underlying9 (mapW_at hlt (bareE 1) 1) rfl
  have f3 := run_put (val := .int .i64 6) (s := ⟨#[112, 114, 111, 98, 101]⟩) Tryz.underlying52 Tryz.underlying9 (mapW_at hlt (bareE 2) 2) rfl
  have f4 := run_put (val := .int .i64 7) (s := ⟨#[115, 116, 111, 112]⟩) Tryz.underlying52 Tryz.underlying9 (mapW_at hlt (bareE 3) 3) rfl
  have f5 := run_put (val := .int .i64 8) (s := ⟨#[113, 117, 105, 116]⟩) Tryz.underlying52 Tryz.underlying9 (mapW_at hlt (bareE 4) 4) rfl
  replace f1 : _ = Result.ok () (mapW W0 w.heap.size (bareE 1) 1) := f1
  replace f2 : _ = Result.ok () (mapW (mapW W0 w.heap.size (bareE 1) 1) w.heap.size (bareE 2) 2) := f2
  replace f3 : _ = Result.ok () (mapW (mapW W0 w.heap.size (bareE 2) 2) w.heap.size (bareE 3) 3) := f3
  replace f4 : _ = Result.ok () (mapW (mapW W0 w.heap.size (bareE 3) 3) w.heap.size (bareE 4) 4) := f4
  replace f5 : _ = Result.ok () (mapW (mapW W0 w.heap.size (bareE 4) 4) w.heap.size (bareE 5) 5) := f5
  rw [mapW_mapW] at f2 f3 f4 f5
  have hfin := mapW_at hlt (bareE 5) 5
  have hbel := below_mapW (w := w) (bareE 5) 5
  rw [hW0] at hbel
  subst hW0
  go_enter Tryz.func28, Tryz.ntmps28
  go_wp2_with fail
  go_ret
  exact ⟨rfl, hfin, hbel⟩
-- which word is which
theorem same_bs (a b : List UInt8) : Instr.sameNow .string (.string (bs a)) (.string (bs b)) = some (decide (a = b)) := by
  show some ((bs a).data == (bs b).data) = _
  congr 1
  rw [Bool.eq_iff_iff, beq_iff_eq, decide_eq_true_eq]
  exact ⟨fun h => by rw [← bs_data a, ← bs_data b, h], fun h => by rw [h]⟩
theorem find_bare (x : List UInt8) : Instr.findNow .string (.string (bs x)) (bareE 5).toList 0 = if bareK x = 0 then some none else some (some ((if bareK x = 1 then 0 else if bareK x = 2 then 1 else if bareK x = 6 then 2 else if bareK x = 7 then 3 else 4), .int .i64 (bareK x))) := by
  show Instr.findNow .string (.string (bs x)) [ent ucciW 1 0, ent readyW 2 1, ent probeW 6 2, ent stopW 7 3, ent quitW 8 4] 0 = _
  unfold bareK
  by_cases h1 : x = ucciW
  · subst h1; rfl
  · by_cases h2 : x = readyW
    · subst h2; rfl
    · by_cases h3 : x = probeW
      · subst h3; rfl
      · by_cases h4 : x = stopW
        · subst h4; rfl
        · by_cases h5 : x = quitW
          · subst h5; rfl
          · simp only [Instr.findNow, ent, same_bs, decide_eq_false h1, decide_eq_false h2, decide_eq_false h3, decide_eq_false h4, decide_eq_false h5, if_neg h1, if_neg h2, if_neg h3, if_neg h4, if_neg h5]; rfl
/-- What is told of a command that is read. -/
def CmdG (R : Except Int Cmd) (w : World) (e : Ending) (w' : World) : Prop := Below w.heap.size w w' ∧ match R with
  | .ok c => ∃ v, e = .returned (.tuple #[.agg #[.int .i64 c.k, .string (bs c.p.cells), .int .i64 c.p.side, .int .i64 c.p.clock, .int .i64 c.p.full, v, .int .i64 c.d], .int .i64 0]) ∧ w'.ownsRow w.heap.size 60 2 v c.l.length (mvN c.l)
  | .error k => e = .returned (.tuple #[.agg cmdZ, .int .i64 k])
theorem own_setC {w : World} {B g i : Nat} {u : Value} {e : TypeId} {size : Nat} {v : Value} {n : Nat} {xs : List Value} (h : w.ownsRow B e size v n xs) (hg : g < B) : (w.setCell ⟨g, i, none⟩ u).ownsRow B e size v n xs := by
  refine ⟨h.1, ?_⟩
  rcases h.2 with h0 | ⟨k, cap, cur, hv, hk, hc, r⟩
  · exact .inl h0
  · exact .inr ⟨k, cap, cur, hv, hk, (Below.heap_setCell w ⟨g, i, none⟩ u k (by simp only; omega)).trans hc, r⟩
theorem own_baseL {w : World} {B B' : Nat} {e : TypeId} {size : Nat} {v : Value} {n : Nat} {xs : List Value} (h : w.ownsRow B e size v n xs) (hB : B' ≤ B) : w.ownsRow B' e size v n xs := by
  refine ⟨h.1, ?_⟩
  rcases h.2 with h0 | ⟨g, cap, cur, hv, hg, r⟩
  · exact .inl h0
  · exact .inr ⟨g, cap, cur, hv, Nat.le_trans hB hg, r⟩
/-- The end of a reading: the command's seven cells are stored, and handed back. -/
theorem cmd_end {fn : Func} {p u : Tmp} (h : fn.results = #[.cell p 29, .tmp u]) {w W : World} (hb : Blk W w.heap.size 29 cmdZ) (v0 v1 v2 v3 v4 v5 v6 : Value) (tmps : Array Value) (hp : tmps.getD p undef = .pointer (some ⟨w.heap.size, 0, none⟩)) :
    (results fn tmps).run Tryz.prog (((((((W.setCell ⟨w.heap.size, 0, none⟩ v0).setCell ⟨w.heap.size, 1, none⟩ v1).setCell ⟨w.heap.size, 2, none⟩ v2).setCell ⟨w.heap.size, 3, none⟩ v3).setCell ⟨w.heap.size, 4, none⟩ v4).setCell ⟨w.heap.size, 5, none⟩ v5).setCell ⟨w.heap.size, 6, none⟩ v6) = .ok (.tuple #[.agg #[v0, v1, v2, v3, v4, v5, v6], tmps.getD u undef]) (((((((W.setCell ⟨w.heap.size, 0, none⟩ v0).setCell ⟨w.heap.size, 1, none⟩ v1).setCell ⟨w.heap.size, 2, none⟩ v2).setCell ⟨w.heap.size, 3, none⟩ v3).setCell ⟨w.heap.size, 4, none⟩ v4).setCell ⟨w.heap.size, 5, none⟩ v5).setCell ⟨w.heap.size, 6, none⟩ v6) :=
  res_cmd h tmps _ hp (blk_cmd hb v0 v1 v2 v3 v4 v5 v6)
theorem cmdG_err {R : Except Int Cmd} {k : Int} (hR : R = .error k) {w W : World} (hB : Below w.heap.size w W) : CmdG R w (.returned (.tuple #[.agg cmdZ, .int .i64 k])) W := by
  unfold CmdG
  rw [hR]
  exact ⟨hB, rfl⟩
theorem cmdG_ok {R : Except Int Cmd} {c : Cmd} (hR : R = .ok c) {w W : World} (hB : Below w.heap.size w W) {v : Value} (ho : W.ownsRow w.heap.size 60 2 v c.l.length (mvN c.l)) : CmdG R w (.returned (.tuple #[.agg #[.int .i64 c.k, .string (bs c.p.cells), .int .i64 c.p.side, .int .i64 c.p.clock, .int .i64 c.p.full, v, .int .i64 c.d], .int .i64 0])) W := by
  unfold CmdG
  rw [hR]
  exact ⟨hB, v, rfl, ho⟩
set_option maxRecDepth 100000 in
set_option maxHeartbeats 4000000 in
theorem readBan_is (A : Option Addr) (n c : Nat) (l : List (List UInt8)) {w : World} {a0 a1 a2 : Addr} (hE : Errs w a0 a1 a2) (hr : Rd w A (l.map sv)) (hn : l.length = n) (hl : n ≤ 100000) : Calls Tryz.prog 26 #[.slice A n c] w (CmdG (banR l) w) := by
  have hA : Below w.heap.size w (w.alloc (.cells cmdZ 29)) := (by repeat (first | exact Below.refl _ _ | (refine Below.setCell ?_ (by first | omega | (simp; done) | (simp; omega) | (simp at *; omega)) _) | (refine Below.alloc ?_ (by first | omega | (simp; done) | (simp; omega) | (simp at *; omega)) _) | refine Below.drew ?_ | (refine below_drewN ?_ _) | (refine Below.trans ?_ (Below.mono (by assumption) (by first | omega | (simp; done) | (simp; omega) | (simp at *; omega))))))
  have hm := readMoves_any A n c l (hE.next hA) (hr.next hA) hn hl
  clear hr hE hn
  cases hR : movesR l with
  | error k =>
    have hB : banR l = .error k := by unfold banR; rw [hR]
    have HB := Lib.hid hB
    rw [hR] at hm
    have hk : (k != 0) = true := by
      have : k = 6 ∨ k = 8 := by
        unfold movesR at hR
        split at hR
        · injection hR with hR; exact .inl hR.symm
        · split at hR
          · injection hR with hR; exact .inr hR.symm
          · cases hR
      rcases this with rfl | rfl <;> rfl
    clear hR hB
    go_enter Tryz.func26, Tryz.ntmps26
    go_wp2_with fail
    refine hm.mono ?_
    rintro e w1 ⟨v, er, rfl, ⟨rfl, rfl⟩, hb1⟩
    obtain ⟨bR, hB1⟩ := cmd_start hb1
    obtain ⟨r0, r1, r2, r3, r4, r5, r6⟩ := c_cells bR
    obtain ⟨f0, f1, f2, f3, f4, f5, f6⟩ := c_frozen bR
    clear hb1
    go_wp2_with fail
    refine bodyPost_ret (cmd_end rfl bR _ _ _ _ _ _ _ _ rfl) rfl ?_
    exact cmdG_err HB.out (below_cmd hB1 (Nat.le_refl _) _ _ _ _ _ _ _)
  | ok ms =>
    have hB : banR l = .ok ⟨4, zeroP, ms, 0⟩ := by unfold banR; rw [hR]
    have HB := Lib.hid hB
    rw [hR] at hm
    clear hR hB
    go_enter Tryz.func26, Tryz.ntmps26
    go_wp2_with fail
    refine hm.mono ?_
    rintro e w1 ⟨v, er, rfl, ⟨rfl, hown⟩, hb1⟩
    obtain ⟨A2, c2, rfl, _, _⟩ := own_anyL hown
    obtain ⟨bR, hB1⟩ := cmd_start hb1
    obtain ⟨r0, r1, r2, r3, r4, r5, r6⟩ := c_cells bR
    obtain ⟨f0, f1, f2, f3, f4, f5, f6⟩ := c_frozen bR
    have HO := Lib.hid hown
    clear hb1 hown
    go_wp2_with fail
    refine bodyPost_ret (cmd_end rfl bR _ _ _ _ _ _ _ _ rfl) rfl ?_
    refine cmdG_ok (c := ⟨4, zeroP, ms, 0⟩) HB.out (below_cmd hB1 (Nat.le_refl _) _ _ _ _ _ _ _) ?_
    have hlt : w.heap.size < (w.alloc (.cells cmdZ 29)).heap.size := by rw [alloc_sz]; exact Nat.lt_succ_self _
    exact own_baseL (own_setC (own_setC (own_setC (own_setC (own_setC (own_setC (own_setC HO.out hlt) hlt) hlt) hlt) hlt) hlt) hlt) (Nat.le_of_lt hlt)
theorem dep_bad {b : List UInt8} (h : ∀ v, Lib.atoiAll b ≠ .ok v) : depthR b = none := by
  unfold depthR
  rw [num_not fun u _ h2 _ => h _ h2]
theorem dep_out {b : List UInt8} {v : Int} (h : Lib.atoiAll b = .ok v) (hv : ¬ (1 ≤ v ∧ v ≤ 64)) : depthR b = none := by
  unfold depthR
  cases hn : F.numL b with
  | none => rfl
  | some u =>
    have := ((num_iff b u).1 hn).1
    rw [h] at this
    injection this with this
    exact if_neg (by omega)
theorem dep_not {b : List UInt8} {v : Int} (h : Lib.atoiAll b = .ok v) (hv : Lib.decDigits v.toNat ≠ b) : depthR b = none := by
  unfold depthR
  cases hn : F.numL b with
  | none => rfl
  | some u =>
    obtain ⟨h1, _, h3⟩ := (num_iff b u).1 hn
    rw [h] at h1
    injection h1 with h1
    rw [h1, Int.toNat_natCast] at hv
    exact absurd h3 hv
theorem dep_yes {b : List UInt8} {v : Int} (h : Lib.atoiAll b = .ok v) (hv : 1 ≤ v ∧ v ≤ 64) (hb : Lib.decDigits v.toNat = b) : depthR b = some v.toNat := by
  unfold depthR
  rw [(num_iff b v.toNat).2 ⟨by rw [h, Int.toNat_of_nonneg (by omega)], by omega, hb⟩]
  exact if_pos (by omega)
theorem go_keep {g o : Nat} {b : List UInt8} {w W W' : World} (h : W.cell? ⟨g, o, none⟩ = some (.string (bs b)) ∧ Env W ∧ Blk W w.heap.size 29 cmdZ ∧ Below w.heap.size w W) (hb : Below W.heap.size W W') : W'.cell? ⟨g, o, none⟩ = some (.string (bs b)) ∧ Env W' ∧ Blk W' w.heap.size 29 cmdZ ∧ Below w.heap.size w W' :=
  ⟨(hb.cell (cell_lt h.1)).trans h.1, h.2.1.next hb, h.2.2.1.next hb, h.2.2.2.trans (hb.mono h.2.2.2.size)⟩
theorem goR_two (a b : List UInt8) : goR [a, b] = if a = depthW then (match depthR b with | some n => .ok ⟨5, zeroP, [], (n : Nat)⟩ | none => .error 9) else .error 9 := rfl
theorem goR_not {l : List (List UInt8)} (h : l.length ≠ 2) : goR l = .error 9 := by
  match l, h with
  | [], _ => rfl
  | [_], _ => rfl
  | [_, _], h => exact absurd rfl h
  | _ :: _ :: _ :: _, _ => rfl
set_option maxRecDepth 100000 in
set_option maxHeartbeats 4000000 in
theorem readGo_is (A : Option Addr) (n c : Nat) (l : List (List UInt8)) (w : World) (hE : Env w) (hr : Rd w A (l.map sv)) (hn : l.length = n) (hl : ∀ x ∈ l, x.length ≤ 100000) : Calls Tryz.prog 25 #[.slice A n c] w (CmdG (goR l) w) := by
  by_cases h2 : n = 2
  · subst h2
    match l, hn with
    | [a, b], _ =>
      obtain ⟨g, o, rfl, hc⟩ := rd_form hr (by simp)
      have hA : Below w.heap.size w (w.alloc (.cells cmdZ 29)) := (by repeat (first | exact Below.refl _ _ | (refine Below.setCell ?_ (by first | omega | (simp; done) | (simp; omega) | (simp at *; omega)) _) | (refine Below.alloc ?_ (by first | omega | (simp; done) | (simp; omega) | (simp at *; omega)) _) | refine Below.drew ?_ | (refine below_drewN ?_ _) | (refine Below.trans ?_ (Below.mono (by assumption) (by first | omega | (simp; done) | (simp; omega) | (simp at *; omega))))))
      have e0 := hc 0 a rfl
      have e1 := hc 1 b rfl
      rw [Nat.add_zero] at e0
      replace e0 := (hA.cell (cell_lt e0)).trans e0
      replace e1 := (hA.cell (cell_lt e1)).trans e1
      have hbl := hl b (by simp)
      by_cases ha : a = depthW
      · have e2 : ((bs a).toList == [100, 101, 112, 116, 104]) = true := by rw [bs_eqR]; exact decide_eq_true ha
        have hA2 := hE.next hA
        have HG : Hid (goR [a, b] = match depthR b with | some n => .ok ⟨5, zeroP, [], (n : Nat)⟩ | none => .error 9) := (goR_two a b).trans (if_pos ha)
        have HBL := Lib.hid hbl
        have HE := Lib.hid hA2
        have hf1 : g < (w.alloc (.cells cmdZ 29)).heap.size := cell_lt e1
        clear hr hc ha hl hbl hA2
        by_cases hx : ∃ v, Lib.atoiAll b = .ok v
        · obtain ⟨v, hv⟩ := hx
          by_cases hd : 1 ≤ v ∧ v ≤ 64
          · have h1 : (decide (1 ≤ v) && decide (v ≤ 64)) = true := by simp; omega
            have HD := Lib.hid fun W => isDepth_is v true W h1
            have HV := Lib.hid hv
            have HI := Lib.hid fun (W : World) (hW : Env W) => itoa_any v W hW ⟨by omega, by omega⟩
            have hcmp : ((bs (Lib.decDigits v.toNat)).toList == (bs b).toList) = decide (Lib.decDigits v.toNat = b) := by
              rw [ByteArray.toList_eq, ByteArray.toList_eq, bs_data, bs_data, Bool.eq_iff_iff]
              simp
            have HR : Hid (goR [a, b] = if Lib.decDigits v.toNat = b then .ok ⟨5, zeroP, [], v⟩ else .error 9) := by
              show _ = _
              by_cases hb : Lib.decDigits v.toNat = b
              · rw [HG.out, dep_yes hv hd hb, if_pos hb]
                show Except.ok _ = Except.ok _
                rw [Int.toNat_of_nonneg (by omega)]
              · rw [HG.out, dep_not hv hb, if_neg hb]
            obtain ⟨dg, hdg⟩ : ∃ dg, Lib.decDigits v.toNat = dg := ⟨_, rfl⟩
            rw [hdg] at hcmp HI HR
            clear hd h1 hv hdg HG
            go_enter Tryz.func25, Tryz.ntmps25
            go_wp2_with fail
            refine (atoi_ok b v _ (by have := HBL.out; omega) HV.out).mono ?_
            rintro e w1 ⟨rfl, hb1⟩
            have e3 := (hb1.cell (cell_lt e1)).trans e1
            have hE1 := HE.out.next hb1
            obtain ⟨bR, hB1⟩ := cmd_start hb1
            clear hb1
            go_wp2_with fail
            have hS : w1.drew.cell? ⟨g, o + 1, none⟩ = some (.string (bs b)) ∧ Env w1.drew ∧ Blk w1.drew w.heap.size 29 cmdZ ∧ Below w.heap.size w w1.drew := ⟨e3, hE1.next (Below.refl _ _).drew, bR.next (Below.refl _ _).drew, hB1.drew⟩
            clear e3 hE1 bR hB1
            go_region_held3 (fun W => W.cell? ⟨g, o + 1, none⟩ = some (.string (bs b)) ∧ Env W ∧ Blk W w.heap.size 29 cmdZ ∧ Below w.heap.size w W)
              (first | exact hS | with_reducible assumption | exact go_keep (by assumption) hb2 | exact go_keep (by assumption) (Below.refl _ _))
              (first | (go_at_call 33; refine (HD.out _).mono ?_; rintro e w2 ⟨rfl, rfl⟩) | (go_at_call 34; refine (HI.out _ (by first | exact hS.2.1 | (rename_i hSS; exact hSS.2.1))).mono ?_; rintro e w2 ⟨rfl, hb2⟩))
            all_goals
              rename_i hH
              obtain ⟨_, _, bR2, hB2⟩ := hH
              clear hS
              obtain ⟨r0, r1, r2, r3, r4, r5, r6⟩ := c_cells bR2
              obtain ⟨f0, f1, f2, f3, f4, f5, f6⟩ := c_frozen bR2
              by_cases hdb : dg = b
              · have HB := Lib.hid (HR.out.trans (if_pos hdb))
                have hd1 : (!decide (dg = b)) = false := by rw [decide_eq_true hdb]; rfl
                rw [hd1]
                clear hdb hd1 hcmp
                go_wp2_with fail
                refine bodyPost_ret (cmd_end rfl bR2 _ _ _ _ _ _ _ _ rfl) rfl ?_
                exact cmdG_ok (c := ⟨5, zeroP, [], v⟩) HB.out (below_cmd hB2 (Nat.le_refl _) _ _ _ _ _ _ _) (World.ownsRow_nil _ w.heap.size 60 2)
              · have HB := Lib.hid (HR.out.trans (if_neg hdb))
                have hd1 : (!decide (dg = b)) = true := by rw [decide_eq_false hdb]; rfl
                rw [hd1]
                clear hdb hd1 hcmp
                go_wp2_with fail
                refine bodyPost_ret (cmd_end rfl bR2 _ _ _ _ _ _ _ _ rfl) rfl ?_
                exact cmdG_err HB.out (below_cmd hB2 (Nat.le_refl _) _ _ _ _ _ _ _)
          · have HB : Hid (goR [a, b] = .error 9) := by show _ = _; rw [HG.out, dep_out hv hd]
            have h1 : (decide (1 ≤ v) && decide (v ≤ 64)) = false := by simp; omega
            have HD := Lib.hid fun W => isDepth_is v false W h1
            have HV := Lib.hid hv
            clear hd h1 hv
            go_enter Tryz.func25, Tryz.ntmps25
            go_wp2_with fail
            refine (atoi_ok b v _ (by have := HBL.out; omega) HV.out).mono ?_
            rintro e w1 ⟨rfl, hb1⟩
            obtain ⟨bR, hB1⟩ := cmd_start hb1
            clear hb1
            go_wp2_with fail
            go_quiet ((go_at_call 33; exact Calls.quiet_of_same ((HD.out _).mono fun e w' (h : Says _ _ e w') => (⟨h.1, h.2.symm⟩ : e = .returned (.bool false) ∧ w' = _))))
            have bR2 := bR.next (below_drewN (Below.refl _ _) nq)
            obtain ⟨r0, r1, r2, r3, r4, r5, r6⟩ := c_cells bR2
            obtain ⟨f0, f1, f2, f3, f4, f5, f6⟩ := c_frozen bR2
            go_wp2_with fail
            refine bodyPost_ret (cmd_end rfl bR2 _ _ _ _ _ _ _ _ rfl) rfl ?_
            exact cmdG_err HB.out (below_cmd (below_drewN hB1 nq) (Nat.le_refl _) _ _ _ _ _ _ _)
        · have HB : Hid (goR [a, b] = .error 9) := by show _ = _; rw [HG.out, dep_bad fun v hv => hx ⟨v, hv⟩]
          have HV := Lib.hid fun v hv => hx ⟨v, hv⟩
          clear hx
          go_enter Tryz.func25, Tryz.ntmps25
          go_wp2_with fail
          refine (atoi_bad b _ HE.out (by have := HBL.out; omega) HV.out).mono ?_
          rintro e w1 ⟨q, te, pe, rfl, hb1⟩
          obtain ⟨bR, hB1⟩ := cmd_start hb1
          clear hb1
          go_wp2_with fail
          go_quiet (fail)
          have bR2 := bR.next (below_drewN (Below.refl _ _) nq)
          obtain ⟨r0, r1, r2, r3, r4, r5, r6⟩ := c_cells bR2
          obtain ⟨f0, f1, f2, f3, f4, f5, f6⟩ := c_frozen bR2
          go_wp2_with fail
          refine bodyPost_ret (cmd_end rfl bR2 _ _ _ _ _ _ _ _ rfl) rfl ?_
          exact cmdG_err HB.out (below_cmd (below_drewN hB1 nq) (Nat.le_refl _) _ _ _ _ _ _ _)
      · have e2 : ((bs a).toList == [100, 101, 112, 116, 104]) = false := by rw [bs_eqR]; exact decide_eq_false ha
        have HB := Lib.hid ((goR_two a b).trans (if_neg ha))
        have bR : Blk (w.alloc (.cells cmdZ 29)) w.heap.size 29 cmdZ := Blk.new _ _ _ rfl
        clear hr hc ha hbl hl e1
        go_enter Tryz.func25, Tryz.ntmps25
        go_wp2_with fail
        refine bodyPost_ret (res_cmd rfl _ _ rfl (Blk.new _ _ _ rfl)) rfl ?_
        exact cmdG_err HB.out hA
  · have e0 : ((n : Int) != 2) = true := by rw [bne_iff_ne]; omega
    have HB := Lib.hid (goR_not (l := l) (by rw [hn]; exact h2))
    clear hr hn h2 hl
    go_enter Tryz.func25, Tryz.ntmps25
    go_wp2_with fail
    refine bodyPost_ret (res_cmd rfl _ _ rfl (Blk.new _ _ _ rfl)) rfl ?_
    exact cmdG_err HB.out (by repeat (first | exact Below.refl _ _ | (refine Below.setCell ?_ (by first | omega | (simp; done) | (simp; omega) | (simp at *; omega)) _) | (refine Below.alloc ?_ (by first | omega | (simp; done) | (simp; omega) | (simp at *; omega)) _) | refine Below.drew ?_ | (refine below_drewN ?_ _) | (refine Below.trans ?_ (Below.mono (by assumption) (by first | omega | (simp; done) | (simp; omega) | (simp at *; omega))))))
end Go.Proofs.YtpogpjebhnoncabGreatDoor
