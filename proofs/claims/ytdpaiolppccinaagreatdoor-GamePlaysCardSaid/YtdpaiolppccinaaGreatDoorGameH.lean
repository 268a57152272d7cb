/- The document's own game: all its positions, and the moves between them. -/
import Derived.Test.YtdpaiolppccinaaGreatDoorGameG
import Derived.Test.YtdpaiolppccinaaGreatDoorRefLM
import Derived.Test.YtdpaiolppccinaaGreatDoorPseudoN
namespace Go.Proofs.YtdpaiolppccinaaGreatDoor
open Go.RowKit Go.Shelf
open M (S)

def Po.cs (p : Po) : List Value := [.string p.s, .int .i64 p.y, .int .i64 p.z, .int .i64 p.u]
def posL (l : List Po) : List Value := l.flatMap Po.cs
theorem posL_len (l : List Po) : (posL l).length = l.length * 4 := by
  induction l with
  | nil => rfl
  | cons x l ih =>
    show (x.cs ++ posL l).length = _
    rw [List.length_append, ih, List.length_cons]
    show 4 + l.length * 4 = _
    omega
theorem posL_snoc (l : List Po) (x : Po) : posL (l ++ [x]) = posL l ++ x.cs := by simp [posL]
theorem posL_last (l : List Po) (x : Po) (i : Nat) (hi : i < 4) : (posL (l ++ [x]))[l.length * 4 + i]? = x.cs[i]? := by
  rw [posL_snoc, List.getElem?_append_right (by rw [posL_len]; omega), posL_len]
  congr 1
  omega
/-- Its block, and its two rows. -/
structure DAt (w : World) (kb : Nat) (vL vM : Value) (st : List Stp) (now : Po) : Prop where
  blk : Blk w kb 44 #[vL, vM]
  rl : w.ownsRow 0 23 4 vL (st.length + 1) (posL (st.map Stp.p ++ [now]))
  rm : w.ownsRow 0 34 2 vM st.length (mvz (st.map Stp.mv))
  nl : vL.ownBlock ≠ some kb
  nm : vM.ownBlock ≠ some kb
  ne : ∀ k, vL.ownBlock = some k → vM.ownBlock ≠ some k
def OfD (kb : Nat) (vL vM : Value) (k : Nat) : Prop := k = kb ∨ vL.ownBlock = some k ∨ vM.ownBlock = some k
theorem DAt.far {w w' : World} {kb : Nat} {vL vM : Value} {st : List Stp} {now : Po} (h : DAt w kb vL vM st now) {X : Nat → Prop} (hf : Far X w w') (hx : ∀ k, OfD kb vL vM k → ¬ X k) : DAt w' kb vL vM st now :=
  ⟨hf.blk h.blk (hx kb (.inl rfl)), row_next h.rl fun k hk e => hf.block k hk (hx k (.inr (.inl e))), row_next h.rm fun k hk e => hf.block k hk (hx k (.inr (.inr e))), h.nl, h.nm, h.ne⟩
theorem DAt.next {w w' : World} {kb : Nat} {vL vM : Value} {st : List Stp} {now : Po} (h : DAt w kb vL vM st now) (hb : Below w.heap.size w w') : DAt w' kb vL vM st now :=
  h.far (X := fun _ => False) (Far.of hb) (fun _ _ x => x)
theorem row_own {w : World} {base : Nat} {e : TypeId} {size : Nat} {v : Value} {n : Nat} {xs : List Value} (h : w.ownsRow base e size v n xs) {k : Nat} (hk : v.ownBlock = some k) : k < w.heap.size := by
  rcases h.2 with ⟨rfl, _⟩ | ⟨g, cap, cur, rfl, _, hc, _⟩
  · cases hk
  · have : g = k := by simpa [Value.ownBlock] using hk
    rw [← this]
    exact (Array.getElem?_eq_some_iff.1 hc).1
theorem DAt.own {w : World} {kb : Nat} {vL vM : Value} {st : List Stp} {now : Po} (h : DAt w kb vL vM st now) {k : Nat} (hk : OfD kb vL vM k) : k < w.heap.size := by
  rcases hk with rfl | e | e
  · exact h.blk.lt
  · exact row_own h.rl e
  · exact row_own h.rm e
/-- How a call on it ends. -/
def GoesD (w : World) (kb : Nat) (vL vM : Value) (st : List Stp) (now : Po) (r : Value) (e : Ending) (w' : World) : Prop :=
  e = .returned r ∧ ∃ vL' vM', DAt w' kb vL' vM' st now ∧ (∀ k, OfD kb vL' vM' k → OfD kb vL vM k ∨ w.heap.size ≤ k) ∧ Far (OfD kb vL vM) w w'
theorem GoesD.same {w : World} {kb : Nat} {vL vM : Value} {st : List Stp} {now : Po} {r : Value} {e : Ending} {w' : World} (h : DAt w kb vL vM st now) (he : e = .returned r) (hb : Below w.heap.size w w') : GoesD w kb vL vM st now r e w' :=
  ⟨he, vL, vM, h.next hb, fun _ h => .inl h, Far.of hb⟩
/-- Where its last position lies. -/
theorem DAt.last {w : World} {kb : Nat} {vL vM : Value} {st : List Stp} {now : Po} (h : DAt w kb vL vM st now) : ∃ gl c, vL = .slice (some ⟨gl, 0, none⟩) (st.length + 1) c ∧ gl < w.heap.size ∧ w.cell? ⟨gl, st.length * 4, none⟩ = some (.string now.s) ∧ w.cell? ⟨gl, st.length * 4 + 1, none⟩ = some (.int .i64 now.y) ∧ w.cell? ⟨gl, st.length * 4 + 2, none⟩ = some (.int .i64 now.z) ∧ w.cell? ⟨gl, st.length * 4 + 3, none⟩ = some (.int .i64 now.u) := by
  obtain ⟨gl, c, rfl, _, hl⟩ := h.rl.form (by omega)
  have hc : ∀ i u, i < 4 → now.cs[i]? = some u → w.cell? ⟨gl, st.length * 4 + i, none⟩ = some u := fun i u hi hu => row_cell h.rl (by
    have := posL_last (st.map Stp.p) now i hi
    rw [List.length_map] at this
    rw [this, hu])
  exact ⟨gl, c, rfl, (row_base h.rl).2, hc 0 _ (by decide) rfl, hc 1 _ (by decide) rfl, hc 2 _ (by decide) rfl, hc 3 _ (by decide) rfl⟩
theorem DAt.moves {w : World} {kb : Nat} {vL vM : Value} {st : List Stp} {now : Po} (h : DAt w kb vL vM st now) : ∃ A c, vM = .slice A st.length c ∧ ((A = none ∧ st.map Stp.mv = []) ∨ ∃ g', A = some ⟨g', 0, none⟩ ∧ Rd w (some ⟨g', 0, none⟩) (mvz (st.map Stp.mv))) := by
  have hr := h.rm
  rcases h.rm.2 with ⟨rfl, h0⟩ | ⟨g', cap, cur, rfl, _⟩
  · exact ⟨none, 0, by rw [h0], .inl ⟨rfl, by rw [List.eq_nil_of_length_eq_zero h0]; rfl⟩⟩
  · exact ⟨_, _, rfl, .inr ⟨g', rfl, Rd.owns hr⟩⟩
/-- The game and the document's own one. -/
structure Duo (n₀ : Nat) (w : World) (g kb : Nat) (v vL vM : Value) (st : List Stp) (now : Po) (sd : List Stp) (nd : Po) (wr : World) : Prop where
  at_ : GAt n₀ wr g v st now
  dat : DAt wr kb vL vM sd nd
  sep : ∀ k, OfG g v k → ¬ OfD kb vL vM k
  low : ∀ k, OfD kb vL vM k → w.heap.size ≤ k
  bel : Below w.heap.size w wr
  hg : w.heap.size ≤ g
  hn : w.heap.size ≤ n₀
theorem Duo.next {n₀ : Nat} {w : World} {g kb : Nat} {v vL vM : Value} {st : List Stp} {now : Po} {sd : List Stp} {nd : Po} {wr w' : World} (h : Duo n₀ w g kb v vL vM st now sd nd wr) (hb : Below wr.heap.size wr w') : Duo n₀ w g kb v vL vM st now sd nd w' :=
  ⟨h.at_.next hb, h.dat.next hb, h.sep, h.low, h.bel.trans (hb.mono h.bel.size), h.hg, h.hn⟩
theorem Duo.game {n₀ : Nat} {w : World} {g kb : Nat} {v vL vM : Value} {st : List Stp} {now : Po} {sd : List Stp} {nd : Po} {wr w' : World} (h : Duo n₀ w g kb v vL vM st now sd nd wr) {v' : Value} {st' : List Stp} {now' : Po} (hg : GAt n₀ w' g v' st' now') (ho : ∀ k, v'.ownBlock = some k → v.ownBlock = some k ∨ wr.heap.size ≤ k) (hf : Far (OfG g v) wr w') : Duo n₀ w g kb v' vL vM st' now' sd nd w' := by
  refine ⟨hg, h.dat.far hf fun k hk hx => h.sep k hx hk, ?_, h.low, h.bel.trans (hf.below (OfG.low h.at_ h.hg h.hn) h.bel.size), h.hg, h.hn⟩
  rintro k (e | e) hd
  · exact h.sep k (.inl e) hd
  · rcases ho k e with e | e
    · exact h.sep k (.inr e) hd
    · have := h.dat.own hd
      omega
theorem Duo.doc {n₀ : Nat} {w : World} {g kb : Nat} {v vL vM : Value} {st : List Stp} {now : Po} {sd : List Stp} {nd : Po} {wr w' : World} (h : Duo n₀ w g kb v vL vM st now sd nd wr) {vL' vM' : Value} {sd' : List Stp} {nd' : Po} (hd : DAt w' kb vL' vM' sd' nd') (ho : ∀ k, OfD kb vL' vM' k → OfD kb vL vM k ∨ wr.heap.size ≤ k) (hf : Far (OfD kb vL vM) wr w') : Duo n₀ w g kb v vL' vM' st now sd' nd' w' := by
  refine ⟨h.at_.far hf (h.sep g (.inl rfl)) fun k e => h.sep k (.inr e), hd, ?_, ?_, h.bel.trans (hf.below h.low h.bel.size), h.hg, h.hn⟩
  · intro k hk hd
    rcases ho k hd with e | e
    · exact h.sep k hk e
    · rcases hk with rfl | e'
      · have := h.at_.blk.lt
        omega
      · have := (h.at_.own e').2
        omega
  · intro k hk
    rcases ho k hk with e | e
    · exact h.low k e
    · exact Nat.le_trans h.bel.size e
theorem dcells {W : World} {kb : Nat} {t : TypeId} {a b : Value} (h : Blk W kb t #[a, b]) : W.cell? ⟨kb, 0, none⟩ = some a ∧ W.cell? ⟨kb, 1, none⟩ = some b ∧ W.frozen? ⟨kb, 0, none⟩ = false ∧ W.frozen? ⟨kb, 1, none⟩ = false := ⟨h.cell 0, h.cell 1, h.frozen 0, h.frozen 1⟩
theorem rmake_isH (s : ByteArray) (side clock full a b : Int) (v : Value) (w : World) (h : makeV s side clock full a b = v) : Calls Tryz.prog 25 #[.agg #[.string s, .int .i64 side, .int .i64 clock, .int .i64 full], .agg #[.int .i64 a, .int .i64 b]] w (Gives w v) := by
  subst h
  exact rmake_any s side clock full a b w (Lib.hid fun W => rapply_is s side clock full a b _ W rfl)
theorem row_pre {w : World} {base : Nat} {e : TypeId} {size g c n m : Nat} {xs ys : List Value} (h : w.ownsRow base e size (.slice (some ⟨g, 0, none⟩) m c) m (xs ++ ys)) (hn : xs.length = n * size) (hm : n ≤ m) : w.ownsRow base e size (.slice (some ⟨g, 0, none⟩) n c) n xs := by
  refine ⟨hn, ?_⟩
  rcases h.2 with ⟨h0, _⟩ | ⟨g', cap, cur, hv, hb, hc, h1, h2, h3, ht⟩
  · cases h0
  · injection hv with e1 e2 e3
    subst e3
    refine .inr ⟨g', c, cur, by rw [e1], hb, hc, by omega, h2, h3, ?_⟩
    have : cur.toList.take (n * size) = (cur.toList.take (m * size)).take (n * size) := by rw [List.take_take, Nat.min_eq_left (Nat.mul_le_mul_right _ hm)]
    rw [this, ht, List.take_append_of_le_length (by rw [hn]; exact Nat.le_refl _), List.take_of_length_le (by rw [hn]; exact Nat.le_refl _)]
/-- The same moves twice: one list in a block, the other one in a block or nowhere. -/
theorem same_any (B1 : Nat) (A : Option Addr) (l : List (Int × Int)) (n c d : Nat) (w : World) (hx : Rd w (some ⟨B1, 0, none⟩) (mvz l)) (hy : (A = none ∧ l = []) ∨ ∃ g', A = some ⟨g', 0, none⟩ ∧ Rd w (some ⟨g', 0, none⟩) (mvz l)) (hn : l.length = n) (hm : n ≤ 1000000) :
    Calls Tryz.prog 14 #[.slice (some ⟨B1, 0, none⟩) n c, .slice A n d] w (Gives w (.bool true)) := by
  rcases hy with ⟨rfl, rfl⟩ | ⟨g', rfl, hy⟩
  · subst hn
    unfold Gives
    simp only [List.length_nil]
    go_enter Tryz.func14, Tryz.ntmps14
    go_wp2
    go_loopw [5] (fun i wr => i = .int .i64 0 ∧ Below w.heap.size w wr) (fun _ _ => 0)
    case atStart => exact ⟨rfl, Below.refl _ _⟩
    case round =>
      obtain ⟨rfl, hB⟩ := hrel
      go_wp2
      go_ret
      exact ⟨rfl, hB⟩
  · exact same_mvz B1 g' l n c d w hx hy hn hm
theorem own_new {w : World} {e : TypeId} {size g : Nat} {xs : List Value} (h : Blk w g e xs.toArray) (hs : xs.length = size) : w.ownsRow 0 e size (.slice (some ⟨g, 0, none⟩) 1 1) 1 xs :=
  ⟨by rw [hs, Nat.one_mul], .inr ⟨g, 1, xs.toArray, rfl, Nat.zero_le _, h, Nat.le_refl _, by unfold maxLen; omega, by simp [hs], by simp [List.take_of_length_le (Nat.le_of_eq hs)]⟩⟩
set_option maxHeartbeats 2000000 in
theorem rnew_bad (s : ByteArray) (y z u k : Int) (w : World) (hk : wellN s y z u = k) (h0 : (k != 0) = true) :
    Calls Tryz.prog 6 #[.agg #[.string s, .int .i64 y, .int .i64 z, .int .i64 u]] w (Gives w (.tuple #[.pointer none, .int .i64 k])) := by
  unfold Gives
  obtain ⟨W0, hW0⟩ : ∃ W0, w.alloc (.cells #[.string s, .int .i64 y, .int .i64 z, .int .i64 u] 23) = W0 := ⟨_, rfl⟩
  have hB : Below w.heap.size w W0 := by rw [← hW0]; exact (by repeat (first | exact Below.refl _ _ | (refine Below.setCell ?_ (by first | omega | (simp; done) | (simp; omega) | (simp at *; omega)) _) | (refine Below.alloc ?_ (by first | omega | (simp; done) | (simp; omega) | (simp at *; omega)) _) | refine Below.drew ?_ | (refine below_drewN ?_ _) | (refine Below.trans ?_ (Below.mono (by assumption) (by first | omega | (simp; done) | (simp; omega) | (simp at *; omega))))))
  have bP : Blk W0 w.heap.size 23 #[.string s, .int .i64 y, .int .i64 z, .int .i64 u] := by rw [← hW0]; exact Blk.new _ _ _ rfl
  obtain ⟨p0, p1, p2, p3⟩ := ppos_cells bP
  have HW := Lib.hid hW0
  have HK := Lib.hid hk
  clear hW0 hk
  go_enter Tryz.func6, Tryz.ntmps6
  go_wp2_with fail
  rw [HW.out]
  go_wp2_with fail
  refine (rwell_is s y z u k _ HK.out).mono ?_
  rintro e w1 ⟨rfl, hb⟩
  go_wp2
  go_ret2
  exact ⟨rfl, hB.trans (hb.mono hB.size)⟩
set_option maxHeartbeats 2000000 in
theorem rnew_is (s : ByteArray) (y z u : Int) (w : World) (hk : wellN s y z u = 0) :
    Calls Tryz.prog 6 #[.agg #[.string s, .int .i64 y, .int .i64 z, .int .i64 u]] w fun e w' => ∃ kb gl, e = .returned (.tuple #[.pointer (some ⟨kb, 0, none⟩), .int .i64 0]) ∧ w.heap.size ≤ kb ∧ w.heap.size ≤ gl ∧ DAt w' kb (.slice (some ⟨gl, 0, none⟩) 1 1) (.slice none 0 0) [] ⟨s, y, z, u⟩ ∧ Below w.heap.size w w' := by
  obtain ⟨W0, hW0⟩ : ∃ W0, w.alloc (.cells #[.string s, .int .i64 y, .int .i64 z, .int .i64 u] 23) = W0 := ⟨_, rfl⟩
  have hB : Below w.heap.size w W0 := by rw [← hW0]; exact (by repeat (first | exact Below.refl _ _ | (refine Below.setCell ?_ (by first | omega | (simp; done) | (simp; omega) | (simp at *; omega)) _) | (refine Below.alloc ?_ (by first | omega | (simp; done) | (simp; omega) | (simp at *; omega)) _) | refine Below.drew ?_ | (refine below_drewN ?_ _) | (refine Below.trans ?_ (Below.mono (by assumption) (by first | omega | (simp; done) | (simp; omega) | (simp at *; omega))))))
  have bP : Blk W0 w.heap.size 23 #[.string s, .int .i64 y, .int .i64 z, .int .i64 u] := by rw [← hW0]; exact Blk.new _ _ _ rfl
  obtain ⟨p0, p1, p2, p3⟩ := ppos_cells bP
  have HW := Lib.hid hW0
  have HK := Lib.hid hk
  clear hW0 hk
  go_enter Tryz.func6, Tryz.ntmps6
  go_wp2_with fail
  rw [HW.out]
  go_wp2_with fail
  refine (rwell_is s y z u 0 _ HK.out).mono ?_
  rintro e w1 ⟨rfl, hb⟩
  have hB1 := hB.trans (hb.mono hB.size)
  obtain ⟨q0, q1, q2, q3⟩ := ppos_cells (bP.next hb)
  go_wp2_with fail
  go_ret2
  have hs := hB1.size
  obtain ⟨W2, hW2⟩ : ∃ W2, w1.alloc (.cells #[.string s, .int .i64 y, .int .i64 z, .int .i64 u] 23) = W2 := ⟨_, rfl⟩
  have b2 : Blk W2 w1.heap.size 23 #[.string s, .int .i64 y, .int .i64 z, .int .i64 u] := by rw [← hW2]; exact Blk.new _ _ _ rfl
  have hz2 : W2.heap.size = w1.heap.size + 1 := by rw [← hW2]; simp
  have hB2 : Below w.heap.size w W2 := by rw [← hW2]; exact hB1.alloc hs _
  rw [hW2]
  refine ⟨W2.heap.size, w1.heap.size, by rw [hz2]; rfl, by omega, hs, ⟨Blk.new _ _ _ rfl, own_new (b2.alloc _) rfl, ⟨rfl, .inl ⟨rfl, rfl⟩⟩, ?_, ?_, ?_⟩, hB2.alloc hB2.size _⟩
  · intro e
    have : w1.heap.size = W2.heap.size := by simpa [Value.ownBlock] using e
    omega
  · intro e
    cases e
  · intro k _ e
    cases e
theorem res_pos {fn : Func} {p : Tmp} (h : fn.results = #[.cell p 23]) (tmps : Array Value) (w : World) {g : Nat} {a b c d : Value} (hp : tmps.getD p undef = .pointer (some ⟨g, 0, none⟩)) (hb : Blk w g 23 #[a, b, c, d]) :
    (results fn tmps).run Tryz.prog w = .ok (.agg #[a, b, c, d]) w :=
  results_cell_row h tmps w g 23 #[a, b, c, d] (0, 0) _ hp hb Tryz.underlying23 rfl (by kernel_rfl)
set_option maxRecDepth 100000 in
set_option maxHeartbeats 4000000 in
theorem rnow_is {w : World} {kb : Nat} {vL vM : Value} {st : List Stp} {now : Po} (h : DAt w kb vL vM st now) (hl : st.length ≤ 1024) : Calls Tryz.prog 11 #[.pointer (some ⟨kb, 0, none⟩)] w (Gives w (.agg #[.string now.s, .int .i64 now.y, .int .i64 now.z, .int .i64 now.u])) := by
  unfold Gives
  obtain ⟨W0, hW0⟩ : ∃ W0, w.alloc (.cells #[.string ⟨#[]⟩, .int .i64 0, .int .i64 0, .int .i64 0] 23) = W0 := ⟨_, rfl⟩
  have hB : Below w.heap.size w W0 := by rw [← hW0]; exact (by repeat (first | exact Below.refl _ _ | (refine Below.setCell ?_ (by first | omega | (simp; done) | (simp; omega) | (simp at *; omega)) _) | (refine Below.alloc ?_ (by first | omega | (simp; done) | (simp; omega) | (simp at *; omega)) _) | refine Below.drew ?_ | (refine below_drewN ?_ _) | (refine Below.trans ?_ (Below.mono (by assumption) (by first | omega | (simp; done) | (simp; omega) | (simp at *; omega))))))
  have h0 := h.next hB
  have bR : Blk W0 w.heap.size 23 #[.string ⟨#[]⟩, .int .i64 0, .int .i64 0, .int .i64 0] := by rw [← hW0]; exact Blk.new _ _ _ rfl
  obtain ⟨p0, p1, p2, p3⟩ := ppos_cells bR
  obtain ⟨f0, f1, f2, f3⟩ := ppos_frozen bR
  obtain ⟨gl, c, rfl, hgl, c0, c1, c2, c3⟩ := h0.last
  obtain ⟨d0, _, _, _⟩ := dcells h0.blk
  obtain ⟨n, hn⟩ : ∃ n, st.length = n := ⟨_, rfl⟩
  rw [hn] at d0 c0 c1 c2 c3
  have hn4 : n ≤ 1024 := by omega
  have i1 : IntKind.i64.wrap (n : Int) = (n : Int) := IntWalk.i64_in _ (by omega)
  have i2 : (0 : Int) ≤ (n : Int) ∧ (n : Int) < (n : Int) + 1 := ⟨Int.natCast_nonneg n, by omega⟩
  have HW := Lib.hid hW0
  clear hW0 h h0 hn hl hn4
  go_enter Tryz.func11, Tryz.ntmps11
  go_wp2_with fail
  rw [HW.out]
  go_region_with (fail)
  all_goals
    obtain ⟨W4, hW4⟩ : ∃ W4, ((((W0.setCell ⟨w.heap.size, 0, none⟩ (.string now.s)).setCell ⟨w.heap.size, 1, none⟩ (.int .i64 now.y)).setCell ⟨w.heap.size, 2, none⟩ (.int .i64 now.z)).setCell ⟨w.heap.size, 3, none⟩ (.int .i64 now.u)).drew = W4 := ⟨_, rfl⟩
    have bR4 : Blk W4 w.heap.size 23 #[.string now.s, .int .i64 now.y, .int .i64 now.z, .int .i64 now.u] := by rw [← hW4]; exact ((((bR.set_ 0 (.string now.s)).set_ 1 (.int .i64 now.y)).set_ 2 (.int .i64 now.z)).set_ 3 (.int .i64 now.u)).next (Below.refl _ _).drew
    have hB4 : Below w.heap.size w W4 := by rw [← hW4]; exact ((((hB.setCell (p := ⟨w.heap.size, 0, none⟩) (Nat.le_refl _) _).setCell (p := ⟨w.heap.size, 1, none⟩) (Nat.le_refl _) _).setCell (p := ⟨w.heap.size, 2, none⟩) (Nat.le_refl _) _).setCell (p := ⟨w.heap.size, 3, none⟩) (Nat.le_refl _) _).drew
    rw [hW4]
    go_wp2_with fail
    exact bodyPost_ret (res_pos rfl _ _ rfl bR4) rfl ⟨rfl, hB4⟩
theorem runmake_end {w : World} {kb : Nat} {vL vM : Value} {now : Po} (h : DAt w kb vL vM [] now) : Calls Tryz.prog 8 #[.pointer (some ⟨kb, 0, none⟩)] w (Gives w (.int .i64 10)) := by
  unfold Gives
  obtain ⟨A, c, rfl, _⟩ := h.moves
  obtain ⟨_, d1, _, _⟩ := dcells h.blk
  simp only [List.length_nil] at d1
  clear h
  go_enter Tryz.func8, Tryz.ntmps8
  go_wp2
  go_ret
  exact ⟨rfl, Below.refl _ _⟩
set_option maxRecDepth 100000 in
set_option maxHeartbeats 4000000 in
theorem runmake_is {w : World} {kb : Nat} {vL vM : Value} {st : List Stp} {x : Stp} {now : Po} (h : DAt w kb vL vM (st ++ [x]) now) (hl : st.length ≤ 1024) : Calls Tryz.prog 8 #[.pointer (some ⟨kb, 0, none⟩)] w (GoesD w kb vL vM st x.p (.int .i64 0)) := by
  unfold GoesD
  obtain ⟨gl, cL, rfl, _, _⟩ := h.rl.form (by omega)
  obtain ⟨gm, cM, rfl, _, _⟩ := h.rm.form (by simp)
  obtain ⟨n, hn⟩ : ∃ n, st.length = n := ⟨_, rfl⟩
  have e1 : (st ++ [x]).length = n + 1 := by simp [hn]
  have hrl := h.rl
  have hrm := h.rm
  rw [e1] at h hrl hrm
  rw [show (st ++ [x]).map Stp.p ++ [now] = (st.map Stp.p ++ [x.p]) ++ [now] by simp, posL_snoc] at hrl
  rw [show (st ++ [x]).map Stp.mv = st.map Stp.mv ++ [x.mv] by simp, mvz_snoc] at hrm
  have hcL := row_cap hrl
  have hcM := row_cap hrm
  have rl' := row_pre (n := n + 1) hrl (by rw [posL_len]; simp [hn]) (by omega)
  have rm' := row_pre (n := n) hrm (by rw [mvz_len]; simp [hn]) (by omega)
  rw [e1]
  obtain ⟨d0, d1, f0, f1⟩ := dcells h.blk
  have hn0 : ((n : Int) + 1 == 0) = false := by rw [beq_eq_false_iff_ne]; omega
  obtain ⟨N, hN⟩ : ∃ N, n + 1 = N := ⟨_, rfl⟩
  have i1 : IntKind.i64.wrap (n : Int) = (n : Int) := IntWalk.i64_in _ (by omega)
  have i3 : (0 : Int) ≤ (n : Int) ∧ (n : Int) ≤ (cM : Int) := ⟨Int.natCast_nonneg n, by omega⟩
  have i4 : n ≤ cM := by omega
  rw [hN] at d0 rl' hcL
  have j1 : IntKind.i64.wrap (N : Int) = (N : Int) := IntWalk.i64_in _ (by omega)
  have j3 : (0 : Int) ≤ (N : Int) ∧ (N : Int) ≤ (cL : Int) := ⟨Int.natCast_nonneg N, by omega⟩
  have j4 : N ≤ cL := by omega
  have hne0 := h.nl
  have hne1 := h.nm
  have hne2 := h.ne
  obtain ⟨W1, hW1⟩ : ∃ W1, (w.setCell ⟨kb, 0, none⟩ (.slice (some ⟨gl, 0, none⟩) N cL)).drew = W1 := ⟨_, rfl⟩
  have b1 : Blk W1 kb 44 #[.slice (some ⟨gl, 0, none⟩) N cL, .slice (some ⟨gm, 0, none⟩) (n + 1) cM] := by rw [← hW1]; exact (h.blk.set_ 0 (.slice (some ⟨gl, 0, none⟩) N cL)).next (Below.refl _ _).drew
  have HNN := Lib.hid hN
  obtain ⟨W2, hW2⟩ : ∃ W2, (W1.setCell ⟨kb, 1, none⟩ (.slice (some ⟨gm, 0, none⟩) n cM)).drew = W2 := ⟨_, rfl⟩
  have b2 : Blk W2 kb 44 #[.slice (some ⟨gl, 0, none⟩) N cL, .slice (some ⟨gm, 0, none⟩) n cM] := by rw [← hW2]; exact (b1.set_ 1 (.slice (some ⟨gm, 0, none⟩) n cM)).next (Below.refl _ _).drew
  have hfar : Far (fun k => k = kb) w W2 := by
    rw [← hW2, ← hW1]
    exact (((Far.set (X := fun k => k = kb) (p := ⟨kb, 0, none⟩) rfl _).trans (Far.of (Below.refl _ _).drew)).trans (Far.set (X := fun k => k = kb) (p := ⟨kb, 1, none⟩) rfl _)).trans (Far.of (Below.refl _ _).drew)
  have hnl : gl ≠ kb := fun e => hne0 (by rw [e]; rfl)
  have hnm : gm ≠ kb := fun e => hne1 (by rw [e]; rfl)
  have hD : DAt W2 kb (.slice (some ⟨gl, 0, none⟩) N cL) (.slice (some ⟨gm, 0, none⟩) n cM) st x.p := by
    refine ⟨b2, ?_, ?_, fun e => hne0 e, fun e => hne1 e, fun k e => hne2 k e⟩
    · rw [hn, hN]
      refine row_next rl' fun k hk e => hfar.block k hk ?_
      have : gl = k := by simpa [Value.ownBlock] using e
      omega
    · rw [hn]
      refine row_next rm' fun k hk e => hfar.block k hk ?_
      have : gm = k := by simpa [Value.ownBlock] using e
      omega
  have HEND : Hid (DAt W2 kb (.slice (some ⟨gl, 0, none⟩) N cL) (.slice (some ⟨gm, 0, none⟩) n cM) st x.p ∧ Far (fun k => k = kb) w W2) := ⟨hD, hfar⟩
  obtain ⟨e0, e1, g0, g1⟩ := dcells b1
  clear h hrl hrm hN hD hfar b1 b2 rl' rm' hne0 hne1 hne2 hnl hnm hn hcL hcM
  go_enter Tryz.func8, Tryz.ntmps8
  go_wp2_with fail
  go_region_with (fail)
  all_goals
    clear d0 d1 f0 f1
    go_wp2_with fail
    go_region_with (fail)
  all_goals
    go_wp2_with fail
    go_ret
    obtain ⟨hD, hf⟩ := HEND.out
    refine ⟨rfl, _, _, hD, ?_, hf.mono fun k _ e => .inl e⟩
    rintro k (e | e | e)
    · exact .inl (.inl e)
    · exact .inl (.inr (.inl e))
    · exact .inl (.inr (.inr e))
/-- A position is put behind its positions; the move is not put yet. -/
structure HalfD (w : World) (kb : Nat) (vL vM : Value) (st : List Stp) (now q : Po) : Prop where
  blk : Blk w kb 44 #[vL, vM]
  rl : w.ownsRow 0 23 4 vL (st.length + 1 + 1) (posL (st.map Stp.p ++ [now]) ++ q.cs)
  rm : w.ownsRow 0 34 2 vM st.length (mvz (st.map Stp.mv))
  nl : vL.ownBlock ≠ some kb
  nm : vM.ownBlock ≠ some kb
  ne : ∀ k, vL.ownBlock = some k → vM.ownBlock ≠ some k
theorem HalfD.next {w w' : World} {kb : Nat} {vL vM : Value} {st : List Stp} {now q : Po} (h : HalfD w kb vL vM st now q) (hb : Below w.heap.size w w') : HalfD w' kb vL vM st now q :=
  ⟨h.blk.next hb, row_next h.rl fun k hk _ => hb.block k hk, row_next h.rm fun k hk _ => hb.block k hk, h.nl, h.nm, h.ne⟩
theorem slice_own {g n c k : Nat} (e : (Value.slice (some ⟨g, 0, none⟩) n c).ownBlock = some k) : g = k := by simpa [Value.ownBlock] using e
theorem half_of {W5 w6 : World} {kb : Nat} {vL vM : Value} {st : List Stp} {now q : Po} (h : DAt W5 kb vL vM st now) {g2 n2 cap2 : Nat} (hown : w6.ownsRow 0 23 4 (.slice (some ⟨g2, 0, none⟩) n2 cap2) (st.length + 1 + 1) (posL (st.map Stp.p ++ [now]) ++ q.cs)) (hgrow : W5.grownBy w6 vL.ownBlock) (hat : vL.ownBlock = some g2 ∨ g2 = W5.heap.size) :
    HalfD (w6.setCell ⟨kb, 0, none⟩ (.slice (some ⟨g2, 0, none⟩) n2 cap2)) kb (.slice (some ⟨g2, 0, none⟩) n2 cap2) vM st now q ∧ Far (OfD kb vL vM) W5 (w6.setCell ⟨kb, 0, none⟩ (.slice (some ⟨g2, 0, none⟩) n2 cap2)) := by
  have hkb := h.blk.lt
  have bG : Blk w6 kb 44 #[vL, vM] := blk_far hgrow h.blk fun e => h.nl e.symm
  have hg2 : g2 ≠ kb := by
    rcases hat with e | e
    · exact fun e' => h.nl (by rw [e, e'])
    · omega
  refine ⟨⟨bG.set_ 0 _, row_next hown fun k _ e => Below.heap_setCell w6 ⟨kb, 0, none⟩ _ k (by rw [← slice_own e]; exact hg2), row_next h.rm fun k hk e => ?_, fun e => hg2 (slice_own e), h.nm, fun k e e' => ?_⟩, (Far.grown hgrow fun k e => .inr (.inl e.symm)).trans (Far.set (p := ⟨kb, 0, none⟩) (Or.inl rfl) _)⟩
  · have hk2 : k ≠ kb := fun e' => h.nm (by rw [e, e'])
    rw [Below.heap_setCell w6 ⟨kb, 0, none⟩ _ k hk2]
    exact hgrow.block k hk fun e' => h.ne k e'.symm e
  · have := slice_own e
    subst this
    rcases hat with e2 | e2
    · exact h.ne g2 e2 e'
    · have := row_own h.rm e'
      omega
theorem full_of {W8 w9 : World} {kb : Nat} {vL vM : Value} {st : List Stp} {now q : Po} {a b : Int} (h : HalfD W8 kb vL vM st now q) {g3 n3 cap3 : Nat} (hown : w9.ownsRow 0 34 2 (.slice (some ⟨g3, 0, none⟩) n3 cap3) (st.length + 1) (mvz (st.map Stp.mv) ++ [.int .i64 a, .int .i64 b])) (hgrow : W8.grownBy w9 vM.ownBlock) (hat : vM.ownBlock = some g3 ∨ g3 = W8.heap.size) :
    DAt (w9.setCell ⟨kb, 1, none⟩ (.slice (some ⟨g3, 0, none⟩) n3 cap3)) kb vL (.slice (some ⟨g3, 0, none⟩) n3 cap3) (st ++ [⟨a, b, now⟩]) q ∧ Far (OfD kb vL vM) W8 (w9.setCell ⟨kb, 1, none⟩ (.slice (some ⟨g3, 0, none⟩) n3 cap3)) := by
  have hkb := h.blk.lt
  have bG : Blk w9 kb 44 #[vL, vM] := blk_far hgrow h.blk fun e => h.nm e.symm
  have hg3 : g3 ≠ kb := by
    rcases hat with e | e
    · exact fun e' => h.nm (by rw [e, e'])
    · omega
  refine ⟨⟨bG.set_ 1 _, ?_, ?_, h.nl, fun e => hg3 (slice_own e), fun k e e' => ?_⟩, (Far.grown hgrow fun k e => .inr (.inr e.symm)).trans (Far.set (p := ⟨kb, 1, none⟩) (Or.inl rfl) _)⟩
  · rw [show (st ++ [Stp.mk a b now]).map Stp.p ++ [q] = (st.map Stp.p ++ [now]) ++ [q] by simp, posL_snoc, List.length_append]
    refine row_next h.rl fun k hk e => ?_
    have hk2 : k ≠ kb := fun e' => h.nl (by rw [e, e'])
    rw [Below.heap_setCell w9 ⟨kb, 1, none⟩ _ k hk2]
    exact hgrow.block k hk fun e' => h.ne k e e'.symm
  · rw [show (st ++ [Stp.mk a b now]).map Stp.mv = st.map Stp.mv ++ [(a, b)] by simp [Stp.mv], mvz_snoc, List.length_append]
    exact row_next hown fun k _ e => Below.heap_setCell w9 ⟨kb, 1, none⟩ _ k (by rw [← slice_own e]; exact hg3)
  · have := slice_own e'
    subst this
    rcases hat with e2 | e2
    · exact h.ne g3 e e2
    · have := row_own h.rl e
      omega
theorem info_pos : (Tryz.prog.info? 23).map (fun i => (i.zero, i.size, i.bytes)) = some (some (.agg #[.string ⟨#[]⟩, .int .i64 0, .int .i64 0, .int .i64 0]), 4, 40) := by kernel_rfl
theorem info_mov : (Tryz.prog.info? 34).map (fun i => (i.zero, i.size, i.bytes)) = some (some (.agg #[.int .i64 0, .int .i64 0]), 2, 16) := by kernel_rfl
theorem rk_keep {W0 w : World} {kb : Nat} {vL vM : Value} {st : List Stp} {now : Po} {a b : Int} (h : Below W0.heap.size W0 W0 ∧ W0.cell? ⟨w.heap.size, 0, none⟩ = some (.int .i64 a) ∧ W0.cell? ⟨w.heap.size, 1, none⟩ = some (.int .i64 b) ∧ DAt W0 kb vL vM st now) {W : World} (hb : Below W0.heap.size W0 W) : Below W0.heap.size W0 W ∧ W.cell? ⟨w.heap.size, 0, none⟩ = some (.int .i64 a) ∧ W.cell? ⟨w.heap.size, 1, none⟩ = some (.int .i64 b) ∧ DAt W kb vL vM st now := by
  obtain ⟨_, h1, h2, h3⟩ := h
  exact ⟨hb, (hb.cell (p := ⟨w.heap.size, 0, none⟩) (cell_lt h1)).trans h1, (hb.cell (p := ⟨w.heap.size, 1, none⟩) (cell_lt h2)).trans h2, h3.next hb⟩
set_option maxRecDepth 100000 in
set_option maxHeartbeats 8000000 in
theorem rgmake_any {w : World} {kb : Nat} {vL vM : Value} {st : List Stp} {now : Po} (h : DAt w kb vL vM st now) (a b : Int) (hl : st.length < 1024) (q : ByteArray) (y z u k : Int) (t : Nat) (ok : Bool)
    (hV : makeV now.s now.y now.z now.u a b = .tuple #[.agg #[.string q, .int .i64 y, .int .i64 z, .int .i64 u], .int .u8 t, .int .i64 k]) (hok : (k == 0) = ok) :
    Calls Tryz.prog 10 #[.pointer (some ⟨kb, 0, none⟩), .agg #[.int .i64 a, .int .i64 b]] w fun e w' => if ok then GoesD w kb vL vM (st ++ [⟨a, b, now⟩]) ⟨q, y, z, u⟩ (.int .i64 0) e w' else Gives w (.int .i64 7) e w' := by
  obtain ⟨gl, cL, rfl, _, _⟩ := h.rl.form (by omega)
  obtain ⟨A, c, rfl, _⟩ := h.moves
  obtain ⟨W0, hW0⟩ : ∃ W0, w.alloc (.cells #[.int .i64 a, .int .i64 b] 34) = W0 := ⟨_, rfl⟩
  have hB : Below w.heap.size w W0 := by rw [← hW0]; exact (by repeat (first | exact Below.refl _ _ | (refine Below.setCell ?_ (by first | omega | (simp; done) | (simp; omega) | (simp at *; omega)) _) | (refine Below.alloc ?_ (by first | omega | (simp; done) | (simp; omega) | (simp at *; omega)) _) | refine Below.drew ?_ | (refine below_drewN ?_ _) | (refine Below.trans ?_ (Below.mono (by assumption) (by first | omega | (simp; done) | (simp; omega) | (simp at *; omega))))))
  have bM : Blk W0 w.heap.size 34 #[.int .i64 a, .int .i64 b] := by rw [← hW0]; exact Blk.new _ _ _ rfl
  have hW0s : w.heap.size < W0.heap.size := bM.lt
  have h0 := h.next hB
  obtain ⟨n, hn⟩ : ∃ n, st.length = n := ⟨_, rfl⟩
  have hc := (dcells h0.blk).2.1
  rw [hn] at hc
  have hcw : (w.alloc (.cells #[.int .i64 a, .int .i64 b] 34)).cell? ⟨kb, 1, none⟩ = some (.slice A n c) := by rw [hW0]; exact hc
  have hlt : decide (1024 ≤ (n : Int)) = false := by simp; omega
  have hS0 : Below W0.heap.size W0 W0 ∧ W0.cell? ⟨w.heap.size, 0, none⟩ = some (.int .i64 a) ∧ W0.cell? ⟨w.heap.size, 1, none⟩ = some (.int .i64 b) ∧ DAt W0 kb (.slice (some ⟨gl, 0, none⟩) (st.length + 1) cL) (.slice A st.length c) st now := ⟨Below.refl _ _, bM.cell 0, bM.cell 1, h0⟩
  have hS1 : Below W0.heap.size W0 W0.drew ∧ W0.drew.cell? ⟨w.heap.size, 0, none⟩ = some (.int .i64 a) ∧ W0.drew.cell? ⟨w.heap.size, 1, none⟩ = some (.int .i64 b) ∧ DAt W0.drew kb (.slice (some ⟨gl, 0, none⟩) (st.length + 1) cL) (.slice A st.length c) st now := rk_keep hS0 (Below.refl _ _).drew
  have HMK : Hid (∀ W, Calls Tryz.prog 25 #[.agg #[.string now.s, .int .i64 now.y, .int .i64 now.z, .int .i64 now.u], .agg #[.int .i64 a, .int .i64 b]] W (Gives W (.tuple #[.agg #[.string q, .int .i64 y, .int .i64 z, .int .i64 u], .int .u8 t, .int .i64 k]))) := fun W => rmake_isH now.s now.y now.z now.u a b _ W hV
  have HBZ : Hid (Blk (W0.alloc (.cells #[.string ⟨#[]⟩, .int .i64 0, .int .i64 0, .int .i64 0] 23)).drew W0.heap.size 23 #[.string ⟨#[]⟩, .int .i64 0, .int .i64 0, .int .i64 0]) := (Blk.new W0 23 #[.string ⟨#[]⟩, .int .i64 0, .int .i64 0, .int .i64 0] rfl).next (Below.refl _ _).drew
  have HNL : Hid (st.length ≤ 1024) := by show _ ≤ _; omega
  have HW := Lib.hid hW0
  have HN := Lib.hid hn
  have HOK := Lib.hid hok
  clear hW0 hn hV hok h0
  go_enter Tryz.func10, Tryz.ntmps10
  go_wp2_with fail
  rw [HW.out]
  clear hc hcw
  refine wp_region_held_drew (S := fun W => Below W0.heap.size W0 W ∧ W.cell? ⟨w.heap.size, 0, none⟩ = some (.int .i64 a) ∧ W.cell? ⟨w.heap.size, 1, none⟩ = some (.int .i64 b) ∧ DAt W kb (.slice (some ⟨gl, 0, none⟩) (st.length + 1) cL) (.slice A st.length c) st now) (by kernel_rfl) (hS1) (fun hHeld => ?_)
  refine wpAnyH_take (i := 0) (oi := { dst := some 15, op := Op.move (Operand.tmp 0), type := 30, pos := "ref.go:33", after := #[], guard := none }) (v := ?_) rfl (by kernel_rfl) (by kernel_rfl) (by kernel_rfl) (fun _ _ _ h => h) (Or.inl ⟨by rfl, ?_⟩) (by assumption) ?_
  case refine_2 =>
    intro w hSw
    (try dsimp only at hSw)
    (try go_simp)
    all_goals (with_reducible rfl)
  (try dsimp only [Act.put]); (try simp only [List.setIfInBounds_toArray, List.set_cons_zero, List.set_cons_succ])
  refine wpAnyH_take (i := 2) (oi := { dst := some 17, op := Op.load 34 (Operand.tmp 3), type := 34, pos := "ref.go:33", after := #[], guard := none }) (v := ?_) rfl (by kernel_rfl) (by kernel_rfl) (by kernel_rfl) (fun _ _ _ h => h) (Or.inl ⟨by rfl, ?_⟩) (by assumption) ?_
  case refine_2 =>
    intro w hSw
    (try dsimp only at hSw)
    (try go_simp)
    all_goals (with_reducible rfl)
  (try dsimp only [Act.put]); (try simp only [List.setIfInBounds_toArray, List.set_cons_zero, List.set_cons_succ])
  refine wpAnyH_ready (rs := [1, 8]) (by kernel_rfl) (by simp) (AllReadyH.cons (o := { dst := some 16, op := Op.call { callee := Callee.value (Operand.func 11), args := #[Operand.tmp 15], argTypes := #[30] }, type := 23, pos := "ref.go:33", after := #[{ on := 0, ground := Ground.data }], guard := none }) rfl (fun K hK => ?rd1) (AllReadyH.cons (o := { dst := some 5, op := Op.alloc 23, type := 0, pos := "ref.go:33", after := #[], guard := none }) rfl (fun K hK => ?rd2) AllReadyH.nil))
  case' rd1 =>
    go_simp
    refine (rnow_is (by first | exact hHeld.2.2.2 | exact hS1.2.2.2) HNL.out).mono ?_; rintro e w2 ⟨rfl, hb⟩; have hz2 : W0.heap.size ≤ w2.heap.size := Nat.le_trans (by first | exact hHeld.1.size | exact hS1.1.size) hb.size; (try have bz := HBZ.out.next hb)
    refine hK.out _ _ ?_ (fun hHeld => ?_)
    · first | exact rk_keep hS0 (hHeld.1.trans (hb.mono hHeld.1.size)) | exact rk_keep hS0 (hS1.1.trans (hb.mono hS1.1.size))
    clear hK K
    refine wpAnyH_ready (rs := [3, 8]) (by kernel_rfl) (by simp) (AllReadyH.cons (o := { dst := some 18, op := Op.call { callee := Callee.value (Operand.func 25), args := #[Operand.tmp 16, Operand.tmp 17], argTypes := #[23, 34] }, type := 62, pos := "ref.go:33", after := #[{ on := 1, ground := Ground.data }, { on := 2, ground := Ground.data }, { on := 1, ground := Ground.chain }], guard := none }) rfl (fun K hK => ?rd3) (AllReadyH.cons (o := { dst := some 5, op := Op.alloc 23, type := 0, pos := "ref.go:33", after := #[], guard := none }) rfl (fun K hK => ?rd4) AllReadyH.nil))
    case' rd3 =>
      go_simp
      refine (HMK.out _).mono ?_; rintro e w3 ⟨rfl, hb⟩; have hB3 : Below W0.heap.size W0 w3 := hHeld.1.trans (hb.mono hHeld.1.size); (try (have bz := (by first | exact bz.next hb | exact (Blk.new w2 23 #[.string ⟨#[]⟩, .int .i64 0, .int .i64 0, .int .i64 0] rfl).next hb); obtain ⟨z0, z1, z2, z3⟩ := ppos_cells bz; obtain ⟨f0, f1, f2, f3⟩ := ppos_frozen bz))
      refine hK.out _ _ ?_ (fun hHeld => ?_)
      · first | exact rk_keep hS0 (hHeld.1.trans (hb.mono hHeld.1.size)) | exact rk_keep hS0 (hS1.1.trans (hb.mono hS1.1.size))
      clear hK K
      refine wpAnyH_take (i := 4) (oi := { dst := some 14, op := Op.move (Operand.tmp 18), type := 62, pos := "ref.go:33", after := #[{ on := 3, ground := Ground.data }], guard := none }) (v := ?_) rfl (by kernel_rfl) (by kernel_rfl) (by kernel_rfl) (fun _ _ _ h => h) (Or.inl ⟨by rfl, ?_⟩) (by assumption) ?_
      case refine_2 =>
        intro w hSw
        (try dsimp only at hSw)
        (try go_simp)
        all_goals (with_reducible rfl)
      (try dsimp only [Act.put]); (try simp only [List.setIfInBounds_toArray, List.set_cons_zero, List.set_cons_succ])
      refine wpAnyH_take (i := 5) (oi := { dst := some 19, op := Op.extract (Operand.tmp 14) 0, type := 23, pos := "ref.go:33", after := #[{ on := 4, ground := Ground.data }], guard := none }) (v := ?_) rfl (by kernel_rfl) (by kernel_rfl) (by kernel_rfl) (fun _ _ _ h => h) (Or.inl ⟨by rfl, ?_⟩) (by assumption) ?_
      case refine_2 =>
        intro w hSw
        (try dsimp only at hSw)
        (try go_simp)
        all_goals (with_reducible rfl)
      (try dsimp only [Act.put]); (try simp only [List.setIfInBounds_toArray, List.set_cons_zero, List.set_cons_succ])
      refine wpAnyH_take (i := 6) (oi := { dst := some 20, op := Op.extract (Operand.tmp 14) 1, type := 5, pos := "ref.go:33", after := #[{ on := 4, ground := Ground.data }, { on := 9, ground := Ground.gcOnly Departure.lateStores }], guard := none }) (v := ?_) rfl (by kernel_rfl) (by kernel_rfl) (by kernel_rfl) (fun _ _ _ h => h) (Or.inl ⟨by rfl, ?_⟩) (by assumption) ?_
      case refine_2 =>
        intro w hSw
        (try dsimp only at hSw)
        (try go_simp)
        all_goals (with_reducible rfl)
      (try dsimp only [Act.put]); (try simp only [List.setIfInBounds_toArray, List.set_cons_zero, List.set_cons_succ])
      refine wpAnyH_take (i := 7) (oi := { dst := some 21, op := Op.extract (Operand.tmp 14) 2, type := 27, pos := "ref.go:33", after := #[{ on := 4, ground := Ground.data }, { on := 10, ground := Ground.gcOnly Departure.lateStores }], guard := none }) (v := ?_) rfl (by kernel_rfl) (by kernel_rfl) (by kernel_rfl) (fun _ _ _ h => h) (Or.inl ⟨by rfl, ?_⟩) (by assumption) ?_
      case refine_2 =>
        intro w hSw
        (try dsimp only at hSw)
        (try go_simp)
        all_goals (with_reducible rfl)
      (try dsimp only [Act.put]); (try simp only [List.setIfInBounds_toArray, List.set_cons_zero, List.set_cons_succ])
      refine wpAnyH_ready (rs := [8]) (by kernel_rfl) (by simp) (AllReadyH.cons (o := { dst := some 5, op := Op.alloc 23, type := 0, pos := "ref.go:33", after := #[], guard := none }) rfl (fun K hK => ?_) AllReadyH.nil)
      go_simp
      refine hK.out _ _ ?_ (fun hHeld => ?_)
      · first | exact rk_keep hS0 (((Below.refl _ W0).alloc (Nat.le_refl _) _).drew) | exact rk_keep hS0 (hHeld.1.alloc hHeld.1.size _)
      clear hK K
      (try dsimp only [Act.put]); (try simp only [List.setIfInBounds_toArray, List.set_cons_zero, List.set_cons_succ])
      refine wpAnyH_ready (rs := [9]) (by kernel_rfl) (by simp) (AllReadyH.cons (o := { dst := none, op := Op.store 23 (Operand.tmp 5) (Operand.tmp 19), type := 0, pos := "ref.go:33", after := #[{ on := 8, ground := Ground.data }, { on := 5, ground := Ground.data }, { on := 3, ground := Ground.chain }, { on := 0, ground := Ground.phase }, { on := 1, ground := Ground.phase }, { on := 2, ground := Ground.phase }, { on := 3, ground := Ground.phase }, { on := 4, ground := Ground.phase }, { on := 5, ground := Ground.phase }, { on := 6, ground := Ground.textOnly Departure.lateStores }, { on := 7, ground := Ground.textOnly Departure.lateStores }, { on := 8, ground := Ground.phase }], guard := none }) rfl (fun K hK => ?_) AllReadyH.nil)
      go_simp
      refine hK.out _ _ ?_ (fun hHeld => ?_)
      · first | exact rk_keep hS0 ((((hHeld.1.setCell (p := ⟨W0.heap.size, 0, none⟩) (Nat.le_refl _) _).setCell (p := ⟨W0.heap.size, 1, none⟩) (Nat.le_refl _) _).setCell (p := ⟨W0.heap.size, 2, none⟩) (Nat.le_refl _) _).setCell (p := ⟨W0.heap.size, 3, none⟩) (Nat.le_refl _) _) | exact rk_keep hS0 ((((hHeld.1.setCell (p := ⟨w2.heap.size, 0, none⟩) hz2 _).setCell (p := ⟨w2.heap.size, 1, none⟩) hz2 _).setCell (p := ⟨w2.heap.size, 2, none⟩) hz2 _).setCell (p := ⟨w2.heap.size, 3, none⟩) hz2 _) | exact rk_keep hS0 (hB3.alloc hB3.size _)
      clear hK K
      (try dsimp only [Act.put]); (try simp only [List.setIfInBounds_toArray, List.set_cons_zero, List.set_cons_succ])
      refine wpAnyH_take (i := 10) (oi := { dst := some 6, op := Op.assign (Operand.tmp 20), type := 5, pos := "ref.go:33", after := #[{ on := 6, ground := Ground.data }, { on := 9, ground := Ground.chain }, { on := 0, ground := Ground.phase }, { on := 1, ground := Ground.phase }, { on := 2, ground := Ground.phase }, { on := 3, ground := Ground.phase }, { on := 4, ground := Ground.phase }, { on := 5, ground := Ground.phase }, { on := 6, ground := Ground.phase }, { on := 7, ground := Ground.textOnly Departure.lateStores }, { on := 8, ground := Ground.phase }, { on := 9, ground := Ground.phase }], guard := none }) (v := ?_) rfl (by kernel_rfl) (by kernel_rfl) (by kernel_rfl) (fun _ _ _ h => h) (Or.inl ⟨by rfl, ?_⟩) (by assumption) ?_
      case refine_2 =>
        intro w hSw
        (try dsimp only at hSw)
        (try go_simp)
        all_goals (with_reducible rfl)
      (try dsimp only [Act.put]); (try simp only [List.setIfInBounds_toArray, List.set_cons_zero, List.set_cons_succ])
      refine wpAnyH_take (i := 11) (oi := { dst := some 7, op := Op.assign (Operand.tmp 21), type := 27, pos := "ref.go:33", after := #[{ on := 7, ground := Ground.data }, { on := 10, ground := Ground.chain }, { on := 0, ground := Ground.phase }, { on := 1, ground := Ground.phase }, { on := 2, ground := Ground.phase }, { on := 3, ground := Ground.phase }, { on := 4, ground := Ground.phase }, { on := 5, ground := Ground.phase }, { on := 6, ground := Ground.phase }, { on := 7, ground := Ground.phase }, { on := 8, ground := Ground.phase }, { on := 9, ground := Ground.phase }, { on := 10, ground := Ground.phase }], guard := none }) (v := ?_) rfl (by kernel_rfl) (by kernel_rfl) (by kernel_rfl) (fun _ _ _ h => h) (Or.inl ⟨by rfl, ?_⟩) (by assumption) ?_
      case refine_2 =>
        intro w hSw
        (try dsimp only at hSw)
        (try go_simp)
        all_goals (with_reducible rfl)
      (try dsimp only [Act.put]); (try simp only [List.setIfInBounds_toArray, List.set_cons_zero, List.set_cons_succ])
      refine wpAnyH_done (by kernel_rfl) ?_ _
    case' rd4 =>
      go_simp
      refine hK.out _ _ ?_ (fun hHeld => ?_)
      · first | exact rk_keep hS0 (((Below.refl _ W0).alloc (Nat.le_refl _) _).drew) | exact rk_keep hS0 (hHeld.1.alloc hHeld.1.size _)
      clear hK K
      (try dsimp only [Act.put]); (try simp only [List.setIfInBounds_toArray, List.set_cons_zero, List.set_cons_succ])
      refine wpAnyH_ready (rs := [3]) (by kernel_rfl) (by simp) (AllReadyH.cons (o := { dst := some 18, op := Op.call { callee := Callee.value (Operand.func 25), args := #[Operand.tmp 16, Operand.tmp 17], argTypes := #[23, 34] }, type := 62, pos := "ref.go:33", after := #[{ on := 1, ground := Ground.data }, { on := 2, ground := Ground.data }, { on := 1, ground := Ground.chain }], guard := none }) rfl (fun K hK => ?_) AllReadyH.nil)
      go_simp
      refine (HMK.out _).mono ?_; rintro e w3 ⟨rfl, hb⟩; have hB3 : Below W0.heap.size W0 w3 := hHeld.1.trans (hb.mono hHeld.1.size); (try (have bz := (by first | exact bz.next hb | exact (Blk.new w2 23 #[.string ⟨#[]⟩, .int .i64 0, .int .i64 0, .int .i64 0] rfl).next hb); obtain ⟨z0, z1, z2, z3⟩ := ppos_cells bz; obtain ⟨f0, f1, f2, f3⟩ := ppos_frozen bz))
      refine hK.out _ _ ?_ (fun hHeld => ?_)
      · first | exact rk_keep hS0 (hHeld.1.trans (hb.mono hHeld.1.size)) | exact rk_keep hS0 (hS1.1.trans (hb.mono hS1.1.size))
      clear hK K
      refine wpAnyH_take (i := 4) (oi := { dst := some 14, op := Op.move (Operand.tmp 18), type := 62, pos := "ref.go:33", after := #[{ on := 3, ground := Ground.data }], guard := none }) (v := ?_) rfl (by kernel_rfl) (by kernel_rfl) (by kernel_rfl) (fun _ _ _ h => h) (Or.inl ⟨by rfl, ?_⟩) (by assumption) ?_
      case refine_2 =>
        intro w hSw
        (try dsimp only at hSw)
        (try go_simp)
        all_goals (with_reducible rfl)
      (try dsimp only [Act.put]); (try simp only [List.setIfInBounds_toArray, List.set_cons_zero, List.set_cons_succ])
      refine wpAnyH_take (i := 5) (oi := { dst := some 19, op := Op.extract (Operand.tmp 14) 0, type := 23, pos := "ref.go:33", after := #[{ on := 4, ground := Ground.data }], guard := none }) (v := ?_) rfl (by kernel_rfl) (by kernel_rfl) (by kernel_rfl) (fun _ _ _ h => h) (Or.inl ⟨by rfl, ?_⟩) (by assumption) ?_
      case refine_2 =>
        intro w hSw
        (try dsimp only at hSw)
        (try go_simp)
        all_goals (with_reducible rfl)
      (try dsimp only [Act.put]); (try simp only [List.setIfInBounds_toArray, List.set_cons_zero, List.set_cons_succ])
      refine wpAnyH_take (i := 6) (oi := { dst := some 20, op := Op.extract (Operand.tmp 14) 1, type := 5, pos := "ref.go:33", after := #[{ on := 4, ground := Ground.data }, { on := 9, ground := Ground.gcOnly Departure.lateStores }], guard := none }) (v := ?_) rfl (by kernel_rfl) (by kernel_rfl) (by kernel_rfl) (fun _ _ _ h => h) (Or.inl ⟨by rfl, ?_⟩) (by assumption) ?_
      case refine_2 =>
        intro w hSw
        (try dsimp only at hSw)
        (try go_simp)
        all_goals (with_reducible rfl)
      (try dsimp only [Act.put]); (try simp only [List.setIfInBounds_toArray, List.set_cons_zero, List.set_cons_succ])
      refine wpAnyH_take (i := 7) (oi := { dst := some 21, op := Op.extract (Operand.tmp 14) 2, type := 27, pos := "ref.go:33", after := #[{ on := 4, ground := Ground.data }, { on := 10, ground := Ground.gcOnly Departure.lateStores }], guard := none }) (v := ?_) rfl (by kernel_rfl) (by kernel_rfl) (by kernel_rfl) (fun _ _ _ h => h) (Or.inl ⟨by rfl, ?_⟩) (by assumption) ?_
      case refine_2 =>
        intro w hSw
        (try dsimp only at hSw)
        (try go_simp)
        all_goals (with_reducible rfl)
      (try dsimp only [Act.put]); (try simp only [List.setIfInBounds_toArray, List.set_cons_zero, List.set_cons_succ])
      refine wpAnyH_ready (rs := [9]) (by kernel_rfl) (by simp) (AllReadyH.cons (o := { dst := none, op := Op.store 23 (Operand.tmp 5) (Operand.tmp 19), type := 0, pos := "ref.go:33", after := #[{ on := 8, ground := Ground.data }, { on := 5, ground := Ground.data }, { on := 3, ground := Ground.chain }, { on := 0, ground := Ground.phase }, { on := 1, ground := Ground.phase }, { on := 2, ground := Ground.phase }, { on := 3, ground := Ground.phase }, { on := 4, ground := Ground.phase }, { on := 5, ground := Ground.phase }, { on := 6, ground := Ground.textOnly Departure.lateStores }, { on := 7, ground := Ground.textOnly Departure.lateStores }, { on := 8, ground := Ground.phase }], guard := none }) rfl (fun K hK => ?_) AllReadyH.nil)
      go_simp
      refine hK.out _ _ ?_ (fun hHeld => ?_)
      · first | exact rk_keep hS0 ((((hHeld.1.setCell (p := ⟨W0.heap.size, 0, none⟩) (Nat.le_refl _) _).setCell (p := ⟨W0.heap.size, 1, none⟩) (Nat.le_refl _) _).setCell (p := ⟨W0.heap.size, 2, none⟩) (Nat.le_refl _) _).setCell (p := ⟨W0.heap.size, 3, none⟩) (Nat.le_refl _) _) | exact rk_keep hS0 ((((hHeld.1.setCell (p := ⟨w2.heap.size, 0, none⟩) hz2 _).setCell (p := ⟨w2.heap.size, 1, none⟩) hz2 _).setCell (p := ⟨w2.heap.size, 2, none⟩) hz2 _).setCell (p := ⟨w2.heap.size, 3, none⟩) hz2 _) | exact rk_keep hS0 (hB3.alloc hB3.size _)
      clear hK K
      (try dsimp only [Act.put]); (try simp only [List.setIfInBounds_toArray, List.set_cons_zero, List.set_cons_succ])
      refine wpAnyH_take (i := 10) (oi := { dst := some 6, op := Op.assign (Operand.tmp 20), type := 5, pos := "ref.go:33", after := #[{ on := 6, ground := Ground.data }, { on := 9, ground := Ground.chain }, { on := 0, ground := Ground.phase }, { on := 1, ground := Ground.phase }, { on := 2, ground := Ground.phase }, { on := 3, ground := Ground.phase }, { on := 4, ground := Ground.phase }, { on := 5, ground := Ground.phase }, { on := 6, ground := Ground.phase }, { on := 7, ground := Ground.textOnly Departure.lateStores }, { on := 8, ground := Ground.phase }, { on := 9, ground := Ground.phase }], guard := none }) (v := ?_) rfl (by kernel_rfl) (by kernel_rfl) (by kernel_rfl) (fun _ _ _ h => h) (Or.inl ⟨by rfl, ?_⟩) (by assumption) ?_
      case refine_2 =>
        intro w hSw
        (try dsimp only at hSw)
        (try go_simp)
        all_goals (with_reducible rfl)
      (try dsimp only [Act.put]); (try simp only [List.setIfInBounds_toArray, List.set_cons_zero, List.set_cons_succ])
      refine wpAnyH_take (i := 11) (oi := { dst := some 7, op := Op.assign (Operand.tmp 21), type := 27, pos := "ref.go:33", after := #[{ on := 7, ground := Ground.data }, { on := 10, ground := Ground.chain }, { on := 0, ground := Ground.phase }, { on := 1, ground := Ground.phase }, { on := 2, ground := Ground.phase }, { on := 3, ground := Ground.phase }, { on := 4, ground := Ground.phase }, { on := 5, ground := Ground.phase }, { on := 6, ground := Ground.phase }, { on := 7, ground := Ground.phase }, { on := 8, ground := Ground.phase }, { on := 9, ground := Ground.phase }, { on := 10, ground := Ground.phase }], guard := none }) (v := ?_) rfl (by kernel_rfl) (by kernel_rfl) (by kernel_rfl) (fun _ _ _ h => h) (Or.inl ⟨by rfl, ?_⟩) (by assumption) ?_
      case refine_2 =>
        intro w hSw
        (try dsimp only at hSw)
        (try go_simp)
        all_goals (with_reducible rfl)
      (try dsimp only [Act.put]); (try simp only [List.setIfInBounds_toArray, List.set_cons_zero, List.set_cons_succ])
      refine wpAnyH_done (by kernel_rfl) ?_ _
  case' rd2 =>
    go_simp
    refine hK.out _ _ ?_ (fun hHeld => ?_)
    · first | exact rk_keep hS0 (((Below.refl _ W0).alloc (Nat.le_refl _) _).drew) | exact rk_keep hS0 (hHeld.1.alloc hHeld.1.size _)
    clear hK K
    (try dsimp only [Act.put]); (try simp only [List.setIfInBounds_toArray, List.set_cons_zero, List.set_cons_succ])
    refine wpAnyH_ready (rs := [1]) (by kernel_rfl) (by simp) (AllReadyH.cons (o := { dst := some 16, op := Op.call { callee := Callee.value (Operand.func 11), args := #[Operand.tmp 15], argTypes := #[30] }, type := 23, pos := "ref.go:33", after := #[{ on := 0, ground := Ground.data }], guard := none }) rfl (fun K hK => ?_) AllReadyH.nil)
    go_simp
    refine (rnow_is (by first | exact hHeld.2.2.2 | exact hS1.2.2.2) HNL.out).mono ?_; rintro e w2 ⟨rfl, hb⟩; have hz2 : W0.heap.size ≤ w2.heap.size := Nat.le_trans (by first | exact hHeld.1.size | exact hS1.1.size) hb.size; (try have bz := HBZ.out.next hb)
    refine hK.out _ _ ?_ (fun hHeld => ?_)
    · first | exact rk_keep hS0 (hHeld.1.trans (hb.mono hHeld.1.size)) | exact rk_keep hS0 (hS1.1.trans (hb.mono hS1.1.size))
    clear hK K
    refine wpAnyH_ready (rs := [3]) (by kernel_rfl) (by simp) (AllReadyH.cons (o := { dst := some 18, op := Op.call { callee := Callee.value (Operand.func 25), args := #[Operand.tmp 16, Operand.tmp 17], argTypes := #[23, 34] }, type := 62, pos := "ref.go:33", after := #[{ on := 1, ground := Ground.data }, { on := 2, ground := Ground.data }, { on := 1, ground := Ground.chain }], guard := none }) rfl (fun K hK => ?_) AllReadyH.nil)
    go_simp
    refine (HMK.out _).mono ?_; rintro e w3 ⟨rfl, hb⟩; have hB3 : Below W0.heap.size W0 w3 := hHeld.1.trans (hb.mono hHeld.1.size); (try (have bz := (by first | exact bz.next hb | exact (Blk.new w2 23 #[.string ⟨#[]⟩, .int .i64 0, .int .i64 0, .int .i64 0] rfl).next hb); obtain ⟨z0, z1, z2, z3⟩ := ppos_cells bz; obtain ⟨f0, f1, f2, f3⟩ := ppos_frozen bz))
    refine hK.out _ _ ?_ (fun hHeld => ?_)
    · first | exact rk_keep hS0 (hHeld.1.trans (hb.mono hHeld.1.size)) | exact rk_keep hS0 (hS1.1.trans (hb.mono hS1.1.size))
    clear hK K
    refine wpAnyH_take (i := 4) (oi := { dst := some 14, op := Op.move (Operand.tmp 18), type := 62, pos := "ref.go:33", after := #[{ on := 3, ground := Ground.data }], guard := none }) (v := ?_) rfl (by kernel_rfl) (by kernel_rfl) (by kernel_rfl) (fun _ _ _ h => h) (Or.inl ⟨by rfl, ?_⟩) (by assumption) ?_
    case refine_2 =>
      intro w hSw
      (try dsimp only at hSw)
      (try go_simp)
      all_goals (with_reducible rfl)
    (try dsimp only [Act.put]); (try simp only [List.setIfInBounds_toArray, List.set_cons_zero, List.set_cons_succ])
    refine wpAnyH_take (i := 5) (oi := { dst := some 19, op := Op.extract (Operand.tmp 14) 0, type := 23, pos := "ref.go:33", after := #[{ on := 4, ground := Ground.data }], guard := none }) (v := ?_) rfl (by kernel_rfl) (by kernel_rfl) (by kernel_rfl) (fun _ _ _ h => h) (Or.inl ⟨by rfl, ?_⟩) (by assumption) ?_
    case refine_2 =>
      intro w hSw
      (try dsimp only at hSw)
      (try go_simp)
      all_goals (with_reducible rfl)
    (try dsimp only [Act.put]); (try simp only [List.setIfInBounds_toArray, List.set_cons_zero, List.set_cons_succ])
    refine wpAnyH_take (i := 6) (oi := { dst := some 20, op := Op.extract (Operand.tmp 14) 1, type := 5, pos := "ref.go:33", after := #[{ on := 4, ground := Ground.data }, { on := 9, ground := Ground.gcOnly Departure.lateStores }], guard := none }) (v := ?_) rfl (by kernel_rfl) (by kernel_rfl) (by kernel_rfl) (fun _ _ _ h => h) (Or.inl ⟨by rfl, ?_⟩) (by assumption) ?_
    case refine_2 =>
      intro w hSw
      (try dsimp only at hSw)
      (try go_simp)
      all_goals (with_reducible rfl)
    (try dsimp only [Act.put]); (try simp only [List.setIfInBounds_toArray, List.set_cons_zero, List.set_cons_succ])
    refine wpAnyH_take (i := 7) (oi := { dst := some 21, op := Op.extract (Operand.tmp 14) 2, type := 27, pos := "ref.go:33", after := #[{ on := 4, ground := Ground.data }, { on := 10, ground := Ground.gcOnly Departure.lateStores }], guard := none }) (v := ?_) rfl (by kernel_rfl) (by kernel_rfl) (by kernel_rfl) (fun _ _ _ h => h) (Or.inl ⟨by rfl, ?_⟩) (by assumption) ?_
    case refine_2 =>
      intro w hSw
      (try dsimp only at hSw)
      (try go_simp)
      all_goals (with_reducible rfl)
    (try dsimp only [Act.put]); (try simp only [List.setIfInBounds_toArray, List.set_cons_zero, List.set_cons_succ])
    refine wpAnyH_ready (rs := [9]) (by kernel_rfl) (by simp) (AllReadyH.cons (o := { dst := none, op := Op.store 23 (Operand.tmp 5) (Operand.tmp 19), type := 0, pos := "ref.go:33", after := #[{ on := 8, ground := Ground.data }, { on := 5, ground := Ground.data }, { on := 3, ground := Ground.chain }, { on := 0, ground := Ground.phase }, { on := 1, ground := Ground.phase }, { on := 2, ground := Ground.phase }, { on := 3, ground := Ground.phase }, { on := 4, ground := Ground.phase }, { on := 5, ground := Ground.phase }, { on := 6, ground := Ground.textOnly Departure.lateStores }, { on := 7, ground := Ground.textOnly Departure.lateStores }, { on := 8, ground := Ground.phase }], guard := none }) rfl (fun K hK => ?_) AllReadyH.nil)
    go_simp
    refine hK.out _ _ ?_ (fun hHeld => ?_)
    · first | exact rk_keep hS0 ((((hHeld.1.setCell (p := ⟨W0.heap.size, 0, none⟩) (Nat.le_refl _) _).setCell (p := ⟨W0.heap.size, 1, none⟩) (Nat.le_refl _) _).setCell (p := ⟨W0.heap.size, 2, none⟩) (Nat.le_refl _) _).setCell (p := ⟨W0.heap.size, 3, none⟩) (Nat.le_refl _) _) | exact rk_keep hS0 ((((hHeld.1.setCell (p := ⟨w2.heap.size, 0, none⟩) hz2 _).setCell (p := ⟨w2.heap.size, 1, none⟩) hz2 _).setCell (p := ⟨w2.heap.size, 2, none⟩) hz2 _).setCell (p := ⟨w2.heap.size, 3, none⟩) hz2 _) | exact rk_keep hS0 (hB3.alloc hB3.size _)
    clear hK K
    (try dsimp only [Act.put]); (try simp only [List.setIfInBounds_toArray, List.set_cons_zero, List.set_cons_succ])
    refine wpAnyH_take (i := 10) (oi := { dst := some 6, op := Op.assign (Operand.tmp 20), type := 5, pos := "ref.go:33", after := #[{ on := 6, ground := Ground.data }, { on := 9, ground := Ground.chain }, { on := 0, ground := Ground.phase }, { on := 1, ground := Ground.phase }, { on := 2, ground := Ground.phase }, { on := 3, ground := Ground.phase }, { on := 4, ground := Ground.phase }, { on := 5, ground := Ground.phase }, { on := 6, ground := Ground.phase }, { on := 7, ground := Ground.textOnly Departure.lateStores }, { on := 8, ground := Ground.phase }, { on := 9, ground := Ground.phase }], guard := none }) (v := ?_) rfl (by kernel_rfl) (by kernel_rfl) (by kernel_rfl) (fun _ _ _ h => h) (Or.inl ⟨by rfl, ?_⟩) (by assumption) ?_
    case refine_2 =>
      intro w hSw
      (try dsimp only at hSw)
      (try go_simp)
      all_goals (with_reducible rfl)
    (try dsimp only [Act.put]); (try simp only [List.setIfInBounds_toArray, List.set_cons_zero, List.set_cons_succ])
    refine wpAnyH_take (i := 11) (oi := { dst := some 7, op := Op.assign (Operand.tmp 21), type := 27, pos := "ref.go:33", after := #[{ on := 7, ground := Ground.data }, { on := 10, ground := Ground.chain }, { on := 0, ground := Ground.phase }, { on := 1, ground := Ground.phase }, { on := 2, ground := Ground.phase }, { on := 3, ground := Ground.phase }, { on := 4, ground := Ground.phase }, { on := 5, ground := Ground.phase }, { on := 6, ground := Ground.phase }, { on := 7, ground := Ground.phase }, { on := 8, ground := Ground.phase }, { on := 9, ground := Ground.phase }, { on := 10, ground := Ground.phase }], guard := none }) (v := ?_) rfl (by kernel_rfl) (by kernel_rfl) (by kernel_rfl) (fun _ _ _ h => h) (Or.inl ⟨by rfl, ?_⟩) (by assumption) ?_
    case refine_2 =>
      intro w hSw
      (try dsimp only at hSw)
      (try go_simp)
      all_goals (with_reducible rfl)
    (try dsimp only [Act.put]); (try simp only [List.setIfInBounds_toArray, List.set_cons_zero, List.set_cons_succ])
    refine wpAnyH_done (by kernel_rfl) ?_ _
  all_goals
    first
    | (obtain ⟨W4, hW4⟩ : ∃ x, ((((w3.setCell ⟨W0.heap.size, 0, none⟩ (.string q)).setCell ⟨W0.heap.size, 1, none⟩ (.int .i64 y)).setCell ⟨W0.heap.size, 2, none⟩ (.int .i64 z)).setCell ⟨W0.heap.size, 3, none⟩ (.int .i64 u)) = x := ⟨_, rfl⟩
       have bQ : Blk W4 W0.heap.size 23 #[.string q, .int .i64 y, .int .i64 z, .int .i64 u] := by rw [← hW4]; exact (((bz.set_ 0 (.string q)).set_ 1 (.int .i64 y)).set_ 2 (.int .i64 z)).set_ 3 (.int .i64 u)
       have hgq : w.heap.size < W0.heap.size := hW0s
       have hb4 : Below W0.heap.size W0 W4 := by rw [← hW4]; exact hHeld.1
       rw [hW4]
       clear hW4
       clear bz z0 z1 z2 z3 f0 f1 f2 f3
       generalize W0.heap.size = gq at bQ hgq ⊢)
    | (obtain ⟨W4, hW4⟩ : ∃ x, ((((w3.setCell ⟨w2.heap.size, 0, none⟩ (.string q)).setCell ⟨w2.heap.size, 1, none⟩ (.int .i64 y)).setCell ⟨w2.heap.size, 2, none⟩ (.int .i64 z)).setCell ⟨w2.heap.size, 3, none⟩ (.int .i64 u)) = x := ⟨_, rfl⟩
       have bQ : Blk W4 w2.heap.size 23 #[.string q, .int .i64 y, .int .i64 z, .int .i64 u] := by rw [← hW4]; exact (((bz.set_ 0 (.string q)).set_ 1 (.int .i64 y)).set_ 2 (.int .i64 z)).set_ 3 (.int .i64 u)
       have hgq : w.heap.size < w2.heap.size := Nat.lt_of_lt_of_le hW0s hz2
       have hb4 : Below W0.heap.size W0 W4 := by rw [← hW4]; exact hHeld.1
       rw [hW4]
       clear hW4
       clear bz z0 z1 z2 z3 f0 f1 f2 f3
       generalize w2.heap.size = gq at bQ hgq ⊢)
    | (obtain ⟨W4, hW4⟩ : ∃ x, w3.alloc (.cells #[.string q, .int .i64 y, .int .i64 z, .int .i64 u] 23) = x := ⟨_, rfl⟩
       have bQ : Blk W4 w3.heap.size 23 #[.string q, .int .i64 y, .int .i64 z, .int .i64 u] := by rw [← hW4]; exact Blk.new _ _ _ rfl
       have hgq : w.heap.size < w3.heap.size := Nat.lt_of_lt_of_le hW0s hB3.size
       have hb4 : Below W0.heap.size W0 W4 := by rw [← hW4]; exact hHeld.1
       rw [hW4]
       clear hW4
       generalize w3.heap.size = gq at bQ hgq ⊢)
    have hSd := rk_keep hS0 hb4
    clear hHeld hS1 HBZ hb hB3
    have hB4 := hB.trans (hb4.mono hB.size)
    cases ok
    · have e0 : (k != 0) = true := by have := HOK.out; rw [beq_eq_false_iff_ne] at this; rw [bne_iff_ne]; exact this
      clear bQ hSd
      go_wp2_with fail
      go_ret
      exact ⟨rfl, hB4⟩
    · have hk : k = 0 := by have := HOK.out; rwa [beq_iff_eq] at this
      subst hk
      obtain ⟨_, _, _, D4⟩ := hSd
      obtain ⟨n0, n1, n2, n3⟩ := ppos_cells bQ
      have bm := bM.next hb4
      obtain ⟨W5, hW5⟩ : ∃ x, (W4.alloc (.cells #[.string q, .int .i64 y, .int .i64 z, .int .i64 u] 23)).drew = x := ⟨_, rfl⟩
      have hb5 : Below W4.heap.size W4 W5 := by rw [← hW5]; exact ((Below.refl _ W4).alloc (Nat.le_refl _) _).drew
      have bN : Blk W5 W4.heap.size 23 #[.string q, .int .i64 y, .int .i64 z, .int .i64 u] := by rw [← hW5]; exact (Blk.new W4 23 #[.string q, .int .i64 y, .int .i64 z, .int .i64 u] rfl).next (Below.refl _ _).drew
      have D5 := D4.next hb5
      have bm5 := bm.next hb5
      have hB5 := hB4.trans (hb5.mono hB4.size)
      obtain ⟨d0, d1, _, _⟩ := dcells D4.blk
      obtain ⟨e0, e1, _, _⟩ := dcells D5.blk
      obtain ⟨i0, hi, hz0, hz1, hz2⟩ := info_parts6 info_pos
      have HONE : Hid (∀ x ∈ Po.cs ⟨q, y, z, u⟩, x.oneCell' = true) := by
        show ∀ x ∈ _, _
        intro x hx
        simp only [Po.cs, List.mem_cons, List.not_mem_nil, or_false] at hx
        rcases hx with rfl | rfl | rfl | rfl <;> rfl
      have HL : Hid (st.length + 1 + 1 ≤ maxLen) := by show _ ≤ _; unfold maxLen; omega
      have HBY : Hid ((st.length + 1 + 1) * 40 ≤ 140737488355328) := by show _ ≤ _; omega
      have HNE : Hid (some kb ≠ (Value.slice (some ⟨gl, 0, none⟩) (st.length + 1) cL).ownBlock) := fun e => h.nl e.symm
      have HNO : Hid (¬ OfD kb (.slice (some ⟨gl, 0, none⟩) (st.length + 1) cL) (.slice A st.length c) w.heap.size) := fun e => by have := h.own e; omega
      have HB5 := Lib.hid hB5
      clear hS0 HMK HOK bQ bm bM hb4 hb5 hB4 hB5 hB D4
      go_wp2_with fail
      go_region_law (refine step_append_lies _ rfl (.tmp 28) (.tmp 30) 41 rfl 0 23 i0 _ 4 40 Tryz.underlying41 hi hz0 hz1 hz2 rfl (by decide) _ (st.length + 1) (posL (st.map Stp.p ++ [now])) rfl D5.rl ⟨W4.heap.size, 0, none⟩ 1 1 (Po.cs ⟨q, y, z, u⟩) rfl rfl (World.news_of_block bN) HONE.out (by decide) HL.out HBY.out (Nat.zero_le _) _ rfl ?_; intro g2 cap2 w6 hown2 hgrow hat hlt2; have bG := blk_far hgrow D5.blk HNE.out; have c2 := (dcells bG).1; have f2 := (dcells bG).2.2.1)
      all_goals
        have hwl : w.heap.size ≤ W5.heap.size := HB5.out.size
        obtain ⟨hH, hF⟩ := half_of (q := ⟨q, y, z, u⟩) D5 hown2 hgrow hat
        obtain ⟨W7, hW7⟩ : ∃ x, w6.setCell ⟨kb, 0, none⟩ (.slice (some ⟨g2, 0, none⟩) (st.length + 1 + 1) cap2) = x := ⟨_, rfl⟩
        rw [hW7] at hH hF ⊢
        have bm7 := hF.blk bm5 HNO.out
        have m0 := bm7.cell 0
        have m1 := bm7.cell 1
        obtain ⟨W8, hW8⟩ : ∃ x, (W7.alloc (.cells #[.int .i64 a, .int .i64 b] 34)).drew = x := ⟨_, rfl⟩
        have hb8 : Below W7.heap.size W7 W8 := by rw [← hW8]; exact ((Below.refl _ W7).alloc (Nat.le_refl _) _).drew
        have bN8 : Blk W8 W7.heap.size 34 #[.int .i64 a, .int .i64 b] := by rw [← hW8]; exact (Blk.new W7 34 #[.int .i64 a, .int .i64 b] rfl).next (Below.refl _ _).drew
        have H8 := hH.next hb8
        have hF8 : Far (fun k => OfD kb (.slice (some ⟨gl, 0, none⟩) (st.length + 1) cL) (.slice A st.length c) k ∨ w.heap.size ≤ k) w W8 := ((Far.of HB5.out).trans (hF.mono fun k _ e => .inl e)).trans (Far.of hb8)
        have hat0 : ∀ k, g2 = k → OfD kb (.slice (some ⟨gl, 0, none⟩) (st.length + 1) cL) (.slice A st.length c) k ∨ w.heap.size ≤ k := by
          rintro k rfl
          rcases hat with e | e
          · exact .inl (.inr (.inl e))
          · exact .inr (by omega)
        have hws : w.heap.size ≤ W8.heap.size := hF8.size
        have HF8 := Lib.hid (And.intro hF8 hat0)
        clear hF8 hat0 hat hF hown2 hgrow hb8 D5 bN bm5 n0 n1 n2 n3 c2 f2 bG hW7
        obtain ⟨d0, d1, _, _⟩ := dcells hH.blk
        obtain ⟨e0, e1, _, _⟩ := dcells H8.blk
        obtain ⟨i1, hi1, hy0, hy1, hy2⟩ := info_parts6 info_mov
        have HONE2 : Hid (∀ x ∈ [Value.int .i64 a, Value.int .i64 b], x.oneCell' = true) := by
          show ∀ x ∈ _, _
          intro x hx
          simp only [List.mem_cons, List.not_mem_nil, or_false] at hx
          rcases hx with rfl | rfl <;> rfl
        have HL2 : Hid (st.length + 1 ≤ maxLen) := by show _ ≤ _; unfold maxLen; omega
        have HBY2 : Hid ((st.length + 1) * 16 ≤ 140737488355328) := by show _ ≤ _; omega
        have HNE2 : Hid (some kb ≠ (Value.slice A st.length c).ownBlock) := fun e => H8.nm e.symm
        clear hH
        go_wp2_with fail
        go_region_law (refine step_append_lies _ rfl (.tmp 38) (.tmp 40) 42 rfl 0 34 i1 _ 2 16 Tryz.underlying42 hi1 hy0 hy1 hy2 rfl (by decide) _ st.length (mvz (st.map Stp.mv)) rfl H8.rm ⟨W7.heap.size, 0, none⟩ 1 1 [.int .i64 a, .int .i64 b] rfl rfl (World.news_of_block bN8) HONE2.out (by decide) HL2.out HBY2.out (Nat.zero_le _) _ rfl ?_; intro g3 cap3 w9 hown3 hgrow3 hat3 hlt3; have bG := blk_far hgrow3 H8.blk HNE2.out; have c2 := (dcells bG).2.1; have f2 := (dcells bG).2.2.2)
        all_goals
          obtain ⟨hD, hF2⟩ := full_of (a := a) (b := b) H8 hown3 hgrow3 hat3
          go_wp2
          go_ret
          refine ⟨rfl, _, _, hD, ?_, (HF8.out.1.trans (hF2.mono fun k _ e => ?_)).mono fun k hk e => e.resolve_right (by omega)⟩
          · rintro k (e | e | e)
            · exact .inl (.inl e)
            · exact HF8.out.2 k (slice_own e)
            · have := slice_own e
              subst this
              rcases hat3 with e | e
              · exact .inl (.inr (.inr e))
              · exact .inr (by omega)
          · rcases e with e | e | e
            · exact .inl (.inl e)
            · exact HF8.out.2 k (slice_own e)
            · exact .inl (.inr (.inr e))
end Go.Proofs.YtdpaiolppccinaaGreatDoor
