/-
  The walk of the function within TopLine that looks at bits as they come: what frames a decoder's events tell is put behind those that were told. A decoder and the row of frames lie in blocks of their own.
-/
import Derived.Test.YtdcohbdndkphnabDoorTopSmall
namespace Go.Proofs.YtdcohbdndkphnabDoor
open Go.RowKit
set_option linter.unusedVariables false
set_option linter.unusedSimpArgs false

theorem info_fr : (Tryd.prog.info? 28).map (fun i => (i.zero, i.size, i.bytes)) = some (some (.agg #[.int .i64 0, .int .i64 0, .bool false, .int .i64 0, .bool false, .int .i64 0, .int .i64 0, .string ByteArray.empty]), 8, 72) := by kernel_rfl

def frCells (l : List Xm.Fr) : List Value := l.flatMap fun f => [.int .i64 f.sapi, .int .i64 f.tei, .bool f.c, .int .i64 f.k, .bool f.pf, .int .i64 f.ns, .int .i64 f.nr, .string f.info]
theorem frCells_append (a b : List Xm.Fr) : frCells (a ++ b) = frCells a ++ frCells b := by simp [frCells]
theorem frCells_length (l : List Xm.Fr) : (frCells l).length = l.length * 8 := by
  induction l with
  | nil => rfl
  | cons f l ih => rw [show f :: l = [f] ++ l from rfl, frCells_append, List.length_append, ih]; simp [frCells]; omega
theorem frCells_one (l : List Xm.Fr) : ∀ u ∈ frCells l, u.oneCell' = true := by
  intro u hu
  simp only [frCells, List.mem_flatMap, List.mem_cons, List.not_mem_nil, or_false] at hu
  obtain ⟨e, _, h⟩ := hu
  rcases h with h | h | h | h | h | h | h | h <;> subst h <;> rfl
theorem fr_new {w : World} (f : Xm.Fr) : ∀ (j : Nat) (u : Value), (frCells [f])[j]? = some u → (w.alloc (.cells #[.int .i64 f.sapi, .int .i64 f.tei, .bool f.c, .int .i64 f.k, .bool f.pf, .int .i64 f.ns, .int .i64 f.nr, .string f.info] 28)).cell? ((⟨w.heap.size, 0, none⟩ : Addr).add j) = some u := by
  intro j u hj
  have hl : j < 8 := by
    rcases Nat.lt_or_ge j 8 with h | h
    · exact h
    · rw [List.getElem?_eq_none (by rw [frCells_length]; simpa using h)] at hj; cases hj
  rcases eight_cases j hl with rfl | rfl | rfl | rfl | rfl | rfl | rfl | rfl
  all_goals (simp [frCells] at hj; subst hj; simp [Addr.add])

/-- what a decoder meets is small -/
theorem ended_small (c : List Int) : ∀ y ∈ Hm.endedE c, y.2.size ≤ 266 := by
  intro y hy
  unfold Hm.endedE at hy
  split at hy
  · simp at hy
  · split at hy
    · simp at hy; subst hy; exact Nat.zero_le _
    · rename_i h1 h2
      simp at hy
      subst hy
      show (strOfNums _).size ≤ 266
      rw [strOfNums_size, Bm.octs_length, List.length_take]
      omega
theorem step_small (st : Hm.St) (c : Int) : ∀ y ∈ (Hm.stepS st c).2, y.2.size ≤ 266 := by
  intro y hy
  unfold Hm.stepS at hy
  split at hy
  · unfold Hm.zeroS at hy
    split at hy
    · exact ended_small _ y hy
    · split at hy <;> simp at hy
  · split at hy
    · unfold Hm.oneS at hy
      split at hy
      · simp at hy
      · split at hy
        · simp at hy
        · simp at hy; subst hy; exact Nat.zero_le _
    · simp at hy
theorem feed_small (l : List Int) : ∀ (st : Hm.St), ∀ y ∈ (Hm.feedS st l).2, y.2.size ≤ 266 := by
  induction l with
  | nil => intro st y hy; simp [Hm.feedS] at hy
  | cons c l ih =>
    intro st y hy
    simp only [Hm.feedS, List.mem_append] at hy
    rcases hy with hy | hy
    · exact step_small st c y hy
    · exact ih _ y hy

/-- the decoder in block D, that P points at; the frames that were told, that Q holds -/
structure Hears (base : Nat) (w : World) (P Q D : Nat) (v gv : Value) (st : Hm.St) (gs : List Xm.Fr) : Prop where
  p : w.cell? ⟨P, 0, none⟩ = some (.pointer (some ⟨D, 0, none⟩))
  q : w.cell? ⟨Q, 0, none⟩ = some gv
  qf : w.frozen? ⟨Q, 0, none⟩ = false
  dec : Dec w base D v st
  own : w.ownsRow base 28 8 gv gs.length (frCells gs)
  geP : base ≤ P
  geQ : base ≤ Q
  pq : P ≠ Q
  pd : P ≠ D
  qd : Q ≠ D
  vp : v.ownBlock ≠ some P
  vq : v.ownBlock ≠ some Q
  gp : gv.ownBlock ≠ some P
  gq : gv.ownBlock ≠ some Q
  gd : gv.ownBlock ≠ some D
  vg : ∀ k, v.ownBlock = some k → gv.ownBlock ≠ some k

theorem Hears.kept {base P Q D : Nat} {w w' : World} {v gv : Value} {st : Hm.St} {gs : List Xm.Fr} {T : Nat → Prop} (h : Hears base w P Q D v gv st gs) (hk : Kept w w' T) (hP : ¬ T P) (hQ : ¬ T Q) (hD : ¬ T D) (hv : ∀ k, v.ownBlock = some k → ¬ T k) (hg : ∀ k, gv.ownBlock = some k → ¬ T k) : Hears base w' P Q D v gv st gs :=
  ⟨(hk.cell (p := ⟨P, 0, none⟩) (cell_lt h.p) hP).trans h.p, (hk.cell (p := ⟨Q, 0, none⟩) (cell_lt h.q) hQ).trans h.q, (hk.frozen (p := ⟨Q, 0, none⟩) (cell_lt h.q) hQ).trans h.qf, h.dec.kept hk hD hv, hk.owns h.own hg,
    h.geP, h.geQ, h.pq, h.pd, h.qd, h.vp, h.vq, h.gp, h.gq, h.gd, h.vg⟩
theorem Hears.below {base P Q D : Nat} {w w' : World} {v gv : Value} {st : Hm.St} {gs : List Xm.Fr} (h : Hears base w P Q D v gv st gs) (hb : Below w.heap.size w w') : Hears base w' P Q D v gv st gs :=
  h.kept (T := fun _ => False) (Kept.of_below hb (fun k hk h' => by omega)) (fun x => x) (fun x => x) (fun x => x) (fun _ _ x => x) (fun _ _ x => x)

/-- bits were fed to the decoder -/
theorem Hears.fed {base P Q D : Nat} {w w' : World} {v gv mv v' : Value} {st : Hm.St} {gs : List Xm.Fr} {r : Hm.St × List Hm.Ev} (h : Hears base w P Q D v gv st gs) (hF : Feeding base D v w w' r mv v') : Hears base w' P Q D v' gv r.1 gs := by
  have lP := cell_lt h.p
  have lQ := cell_lt h.q
  have lD := h.dec.lt
  have nP : ¬ touch D v P := fun hx => by rcases hx with hx | hx; exact h.pd hx; exact h.vp hx
  have nQ : ¬ touch D v Q := fun hx => by rcases hx with hx | hx; exact h.qd hx; exact h.vq hx
  have nG : ∀ k, gv.ownBlock = some k → ¬ touch D v k := fun k hk hx => by
    rcases hx with rfl | hx
    · exact h.gd hk
    · exact h.vg k hx hk
  refine ⟨(hF.kept.cell (p := ⟨P, 0, none⟩) lP nP).trans h.p, (hF.kept.cell (p := ⟨Q, 0, none⟩) lQ nQ).trans h.q, (hF.kept.frozen (p := ⟨Q, 0, none⟩) lQ nQ).trans h.qf, hF.dec, hF.kept.owns h.own nG, h.geP, h.geQ, h.pq, h.pd, h.qd, ?_, ?_, h.gp, h.gq, h.gd, ?_⟩
  · intro e
    rcases hF.fresh P e with e' | e'
    · exact h.vp e'
    · omega
  · intro e
    rcases hF.fresh Q e with e' | e'
    · exact h.vq e'
    · omega
  · intro k hk hg
    rcases hF.fresh k hk with e' | e'
    · exact h.vg k e' hg
    · have := (h.own.lt k hg).2; omega

/-- one more frame -/
theorem Hears.push {base P Q D g cap : Nat} {w w1 : World} {v gv : Value} {st : Hm.St} {gs : List Xm.Fr} {o : Obj} (h : Hears base w P Q D v gv st gs) (f : Xm.Fr) (hg : (w.alloc o).grownBy w1 gv.ownBlock)
    (ho : w1.ownsRow base 28 8 (.slice (some ⟨g, 0, none⟩) (gs.length + 1) cap) (gs.length + 1) (frCells gs ++ frCells [f])) (hw : gv.ownBlock = some g ∨ (w.alloc o).heap.size ≤ g) :
    Hears base (w1.setCell ⟨Q, 0, none⟩ (.slice (some ⟨g, 0, none⟩) (gs.length + 1) cap)) P Q D v (.slice (some ⟨g, 0, none⟩) (gs.length + 1) cap) st (gs ++ [f]) ∧
      w1.cell? ⟨Q, 0, none⟩ = some gv ∧ w1.frozen? ⟨Q, 0, none⟩ = false ∧ Kept w w1 (fun k => gv.ownBlock = some k) := by
  have lP := cell_lt h.p
  have lQ := cell_lt h.q
  have lD := h.dec.lt
  have hs : (w.alloc o).heap.size = w.heap.size + 1 := by simp
  have hk1 : Kept w w1 (fun k => gv.ownBlock = some k) := ((Kept.refl w (fun k => gv.ownBlock = some k)).alloc o).trans (Kept.of_grown (T := fun k => gv.ownBlock = some k) hg (fun k e => e)) (fun _ _ h => h)
  have hq1 := (hk1.cell (p := ⟨Q, 0, none⟩) lQ h.gq).trans h.q
  have hf1 := (hk1.frozen (p := ⟨Q, 0, none⟩) lQ h.gq).trans h.qf
  have gne : ∀ k, k < w.heap.size → gv.ownBlock ≠ some k → g ≠ k := by
    intro k hk hn e
    rcases hw with h' | h'
    · exact hn (by rw [h', e])
    · omega
  have gP := gne P lP h.gp
  have gQ := gne Q lQ h.gq
  have gD := gne D lD h.gd
  have hk2 : Kept w1 (w1.setCell ⟨Q, 0, none⟩ (.slice (some ⟨g, 0, none⟩) (gs.length + 1) cap)) (fun k => k = Q) := Kept.setCell (T := fun k => k = Q) (Kept.refl w1 _) (p := ⟨Q, 0, none⟩) (fun _ => rfl) _
  have hsz := hk1.size
  refine ⟨⟨?_, ?_, ?_, ?_, ?_, h.geP, h.geQ, h.pq, h.pd, h.qd, h.vp, h.vq, ?_, ?_, ?_, ?_⟩, hq1, hf1, hk1⟩
  · exact (hk2.cell (p := ⟨P, 0, none⟩) (by show P < _; omega) h.pq).trans ((hk1.cell (p := ⟨P, 0, none⟩) lP h.gp).trans h.p)
  · exact World.cell?_setCell_same' w1 ⟨Q, 0, none⟩ _ (by rw [hq1]; rfl)
  · simpa using hf1
  · exact (h.dec.kept hk1 h.gd (fun k hk hx => h.vg k hk hx)).kept hk2 (fun e => h.qd e.symm) (fun k hk e => h.vq (by rw [hk, e]))
  · rw [List.length_append, frCells_append]
    exact hk2.owns ho (fun k hk e => by simp [Value.ownBlock] at hk; exact gQ (hk.trans e))
  · simp [Value.ownBlock]; exact gP
  · simp [Value.ownBlock]; exact gQ
  · simp [Value.ownBlock]; exact gD
  · intro k hk hx
    simp [Value.ownBlock] at hx
    subst hx
    rcases hw with h' | h'
    · exact h.vg g hk h'
    · have := (h.dec.own.lt g hk).2; omega

/-- while the events of one piece are looked at: i of them are -/
structure Looking (base : Nat) (w1 wr : World) (P Q D : Nat) (v1 gv mv : Value) (st : Hm.St) (gs : List Xm.Fr) (evs : List Hm.Ev) (lo : Nat) : Prop where
  hears : Hears base wr P Q D v1 gv st gs
  row : wr.ownsRow lo 53 2 mv evs.length (evCells evs)
  bel : Below base w1 wr
  apart : ∀ k, gv.ownBlock = some k → mv.ownBlock ≠ some k

theorem Looking.below {base P Q D lo : Nat} {w1 wr w' : World} {v1 gv mv : Value} {st : Hm.St} {gs : List Xm.Fr} {evs : List Hm.Ev} (h : Looking base w1 wr P Q D v1 gv mv st gs evs lo) (hb : Below wr.heap.size wr w') (hbase : base ≤ wr.heap.size) : Looking base w1 w' P Q D v1 gv mv st gs evs lo :=
  ⟨h.hears.below hb, (Kept.of_below (T := fun _ => False) hb (fun k hk h' => by omega)).owns h.row (fun _ _ x => x), h.bel.trans (hb.mono hbase), h.apart⟩

theorem Looking.push {base P Q D lo g cap : Nat} {w1 w w2 : World} {v1 gv mv : Value} {st : Hm.St} {gs : List Xm.Fr} {evs : List Hm.Ev} {o : Obj} (h : Looking base w1 w P Q D v1 gv mv st gs evs lo) (hlo : Q < lo) (hbase : base ≤ w.heap.size) (f : Xm.Fr) (hg : (w.alloc o).grownBy w2 gv.ownBlock)
    (ho : w2.ownsRow base 28 8 (.slice (some ⟨g, 0, none⟩) (gs.length + 1) cap) (gs.length + 1) (frCells gs ++ frCells [f])) (hw : gv.ownBlock = some g ∨ (w.alloc o).heap.size ≤ g) :
    Looking base w1 (w2.setCell ⟨Q, 0, none⟩ (.slice (some ⟨g, 0, none⟩) (gs.length + 1) cap)) P Q D v1 (.slice (some ⟨g, 0, none⟩) (gs.length + 1) cap) mv st (gs ++ [f]) evs lo ∧ w2.cell? ⟨Q, 0, none⟩ = some gv ∧ w2.frozen? ⟨Q, 0, none⟩ = false := by
  obtain ⟨h1, h2, h3, hk1⟩ := h.hears.push f hg ho hw
  have hk2 : Kept w2 (w2.setCell ⟨Q, 0, none⟩ (.slice (some ⟨g, 0, none⟩) (gs.length + 1) cap)) (fun k => k = Q) := Kept.setCell (T := fun k => k = Q) (Kept.refl w2 _) (p := ⟨Q, 0, none⟩) (fun _ => rfl) _
  have hs : (w.alloc o).heap.size = w.heap.size + 1 := by simp
  refine ⟨⟨h1, ?_, ?_, ?_⟩, h2, h3⟩
  · refine hk2.owns (hk1.owns h.row (fun k hk hx => h.apart k hx hk)) (fun k hk e => ?_)
    have := (h.row.lt k hk).1
    omega
  · have hb1 : Below base w w2 := hk1.below hbase (fun k hx => (h.hears.own.lt k hx).1)
    exact (h.bel.trans hb1).setCell (p := ⟨Q, 0, none⟩) h.hears.geQ _
  · intro k hk hm
    simp [Value.ownBlock] at hk
    subst hk
    rcases hw with h' | h'
    · exact h.apart g h' hm
    · have := (h.row.lt g hm).2; omega

theorem fr_shape {w : World} {base n : Nat} {v : Value} {xs : List Value} (h : w.ownsRow base 28 8 v n xs) : ∃ x cap, v = .slice x n cap := by
  rcases h.2 with ⟨rfl, rfl⟩ | ⟨g, cap, cur, rfl, _⟩
  · exact ⟨_, _, rfl⟩
  · exact ⟨_, _, rfl⟩

set_option maxHeartbeats 2000000 in
set_option maxRecDepth 100000 in
theorem look_any (b : ByteArray) (w0 w : World) (base P Q D : Nat) (v gv : Value) (st : Hm.St) (gs : List Xm.Fr) (h : Hears base w P Q D v gv st gs) (hL : Laws6 w0) (hb0 : Below w0.heap.size w0 w) (h0 : w0.heap.size ≤ base) (hbase : base ≤ w.heap.size)
    (hb : b.size ≤ 100000) (ho : st.ones + b.size ≤ 1000000000) (hn : gs.length ≤ 1000000000) :
    Calls Tryd.prog 17 #[.string b, .pointer (some ⟨P, 0, none⟩), .pointer (some ⟨Q, 0, none⟩)] w fun e w' => ∃ v' gv', e = .returned (.tuple #[]) ∧ Hears base w' P Q D v' gv' (Hm.feedS st (Bm.nums b)).1 (gs ++ Tm.heard (Hm.feedS st (Bm.nums b)).2) ∧ Below base w w' := by
  obtain ⟨i0, hi, hz0, hz1, hz2⟩ := info_parts info_fr
  have hP := h.p
  have lP := cell_lt h.p
  have lQ := cell_lt h.q
  have hsm := feed_small (Bm.nums b) st
  have hlen := Hm.feed_length st (Bm.nums b)
  rw [Bm.nums_length] at hlen
  have HN : Hid (gs.length ≤ 1000000000) := hn
  clear hn
  go_enter Tryd.func17, Tryd.ntmps17
  go_wp2_with fail
  refine (feed_any b st base D v w h.dec hbase (by omega) ho).mono ?_
  rintro e w1 ⟨mv, v1, rfl, hF⟩
  generalize hR : Hm.feedS st (Bm.nums b) = R at hsm hlen hF
  have HR : Hid (Hm.feedS st (Bm.nums b) = R) := hR
  clear hR
  obtain ⟨st1, evs⟩ := R
  simp only at hsm hlen hF
  have hH1 := h.fed hF
  have hbel1 : Below base w w1 := hF.below' h.dec hbase
  have hrow := hF.row
  have hb1 : base ≤ w1.heap.size := Nat.le_trans hbase hF.kept.size
  have hap0 : ∀ k, gv.ownBlock = some k → mv.ownBlock ≠ some k := by
    intro k hk hm
    have h1 := (h.own.lt k hk).2
    have h2 := (hrow.lt k hm).1
    omega
  obtain ⟨mx, mcap, hmv⟩ := row_shape hrow
  subst hmv
  have HS : Hid (∀ y ∈ evs, y.2.size ≤ 266) := hsm
  clear hF hsm h hP
  simp only at hH1 hrow
  go_wp2
  go_loopw [12] (fun c wr => ∃ (i : Nat) (gv1 : Value), i ≤ evs.length ∧ c = .int .i64 i ∧ Looking base w1 wr P Q D v1 gv1 (.slice mx evs.length mcap) st1 (gs ++ Tm.heard (evs.take i)) evs w.heap.size) (fun c _ => evs.length - (intOf c).toNat)
  case atStart => exact ⟨0, gv, Nat.zero_le _, rfl, by simpa [Tm.heard] using hH1, hrow, Below.refl _ _, hap0⟩
  case round =>
    obtain ⟨i, gv1, hin, rfl, hLk⟩ := hrel
    have hbr : base ≤ wr.heap.size := Nat.le_trans hb1 hLk.bel.size
    by_cases hlt : i < evs.length
    · obtain ⟨g, hg, hc0, hc1, hgl⟩ := row_ev hLk.row rfl i hlt
      subst hg
      have hsz := HS.out evs[i] (List.getElem_mem hlt)
      have HT := Tm.heard_take evs i hlt
      obtain ⟨y, hy⟩ : ∃ y, y = evs[i] := ⟨_, rfl⟩
      rw [← hy] at hc0 hc1 hsz HT
      have HTT : Hid (Tm.heard (evs.take (i + 1)) = Tm.heard (evs.take i) ++ (Tm.hear1 y).toList) := HT
      clear HT hy
      obtain ⟨yk, yo⟩ := y
      simp only at hc0 hc1 hsz
      have hbw : Below w0.heap.size w0 wr := hb0.trans ((hbel1.trans hLk.bel).mono h0)
      have hqe : Below wr.heap.size wr (wr.alloc (.cells #[.int .i64 yk, .string yo] 53)) := (Below.refl _ _).alloc (Nat.le_refl _) _
      have ke : (wr.alloc (.cells #[.int .i64 yk, .string yo] 53)).cell? ⟨wr.heap.size, 0, none⟩ = some (.int .i64 yk) := by simp
      have hze : wr.heap.size < (wr.alloc (.cells #[.int .i64 yk, .string yo] 53)).heap.size := by simp
      have hG := fget_any yo false (wr.alloc (.cells #[.int .i64 yk, .string yo] 53)) (by omega) (hL.later (hbw.trans (hqe.mono hbw.size)))
      go_wp2_with fail
      refine hG.mono ?_
      rintro e w2 ⟨rfl, hb2⟩
      clear hG
      have hq2 := hqe.trans (hb2.mono hqe.size)
      have ke2 := (hb2.cell (p := ⟨wr.heap.size, 0, none⟩) hze).trans ke
      have hzz : wr.heap.size < w2.heap.size := Nat.lt_of_lt_of_le hze hb2.size
      have hLk2 := hLk.below hq2 hbr
      clear hb2 hqe ke hze hc0 hc1 hgl
      generalize hGR : Xm.getRes yo false = GR
      obtain ⟨⟨sapi, tei, c, k, pf, ns, nr, info⟩, e0⟩ := GR
      simp only [fgetV, frV]
      have hq3 : Below w2.heap.size w2 (w2.alloc (.cells #[.int .i64 sapi, .int .i64 tei, .bool c, .int .i64 k, .bool pf, .int .i64 ns, .int .i64 nr, .string info] 28)) := (Below.refl _ _).alloc (Nat.le_refl _) _
      have hb2r : base ≤ w2.heap.size := Nat.le_trans hbr (by omega)
      have hLk3 := hLk2.below hq3 hb2r
      have hF3 := frc_new w2 sapi tei c k pf ns nr info 28
      by_cases hyes : yk = 0 ∧ e0 = 0
      · obtain ⟨rfl, rfl⟩ := hyes
        have HH : Hid (Tm.heard (evs.take (i + 1)) = Tm.heard (evs.take i) ++ [⟨sapi, tei, c, k, pf, ns, nr, info⟩]) := by
          show _ = _
          rw [HTT.out, Tm.hear1, hGR, if_pos ⟨rfl, rfl⟩]; rfl
        clear HTT hGR
        have hown := hLk3.hears.own
        have hgl : (gs ++ Tm.heard (evs.take i)).length ≤ 2000000000 := by
          have h1 := HN.out
          have h2 : (Tm.heard (evs.take i)).length ≤ evs.length := by
            unfold Tm.heard
            refine Nat.le_trans (List.length_filterMap_le _ _) ?_
            rw [List.length_take]; omega
          rw [List.length_append]; omega
        generalize hgg : gs ++ Tm.heard (evs.take i) = G at hLk hLk2 hLk3 hown hgl
        obtain ⟨gx, gcap, hgv⟩ := fr_shape hown
        subst hgv
        have cq := hLk3.hears.q
        have lq := cell_lt cq
        have cq2 := hLk2.hears.q
        have lq2 := cell_lt cq2
        have fq2 := hLk2.hears.qf
        have hb3r : base ≤ (w2.alloc (.cells #[.int .i64 sapi, .int .i64 tei, .bool c, .int .i64 k, .bool pf, .int .i64 ns, .int .i64 nr, .string info] 28)).heap.size := Nat.le_trans hb2r hq3.size
        have HGG : Hid (gs ++ Tm.heard (evs.take i) = G) := hgg
        clear hgg
        go_wp2_with (at_builtin; refine wpList_append_at _ rfl _ _ 41 rfl base 28 i0 (.agg #[.int .i64 0, .int .i64 0, .bool false, .int .i64 0, .bool false, .int .i64 0, .int .i64 0, .string ByteArray.empty]) 8 72 Tryd.underlying41 hi hz0 hz1 hz2 rfl (by decide) _ _ _ rfl (hown.alloc _) ⟨w2.heap.size + 1, 0, none⟩ 1 1 (frCells [⟨sapi, tei, c, k, pf, ns, nr, info⟩]) rfl rfl ?c2 (frCells_one _) ?c3 ?c4 ?c5 (by decide) ?_)
        case c2 =>
          have := fr_new (w := w2.alloc (.cells #[.int .i64 sapi, .int .i64 tei, .bool c, .int .i64 k, .bool pf, .int .i64 ns, .int .i64 nr, .string info] 28)) ⟨sapi, tei, c, k, pf, ns, nr, info⟩
          rw [show (w2.alloc (.cells #[.int .i64 sapi, .int .i64 tei, .bool c, .int .i64 k, .bool pf, .int .i64 ns, .int .i64 nr, .string info] 28)).heap.size = w2.heap.size + 1 from by simp] at this
          exact this
        case c3 => unfold maxLen; omega
        case c4 => omega
        case c5 => simp; omega
        intro g' cap' w4 ho4 hg4 hw4
        obtain ⟨hLk4, cq4, fq4⟩ := hLk3.push lQ hb3r ⟨sapi, tei, c, k, pf, ns, nr, info⟩ hg4 ho4 (by simpa using hw4)
        clear hg4 ho4 hw4 hown
        go_wp2
        go_roundw
        case rel => exact ⟨i + 1, _, by omega, by go_num, by rw [HH.out, ← List.append_assoc, HGG.out]; exact hLk4⟩
        case measure => simp [intOf]; omega
      · have HH : Hid (Tm.heard (evs.take (i + 1)) = Tm.heard (evs.take i)) := by
          show _ = _
          rw [HTT.out, Tm.hear1, hGR, if_neg hyes]; simp
        clear HTT hGR
        by_cases hk0 : yk = 0
        · have te : (e0 == 0) = false := by simp; exact fun h => hyes ⟨hk0, h⟩
          subst hk0
          clear hyes
          go_wp2
          go_roundw
          case rel => exact ⟨i + 1, _, by omega, by go_num, by rw [HH.out]; exact hLk3⟩
          case measure => simp [intOf]; omega
        · have tk : (yk == 0) = false := by simpa using hk0
          clear hyes hk0
          go_wp2
          go_roundw
          case rel => exact ⟨i + 1, _, by omega, by go_num, by rw [HH.out]; exact hLk3⟩
          case measure => simp [intOf]; omega
    · have e : i = evs.length := by omega
      subst e
      go_wp2
      go_end0
      refine ⟨v1, gv1, rfl, ?_, hbel1.trans hLk.bel⟩
      have := hLk.hears
      rw [List.take_length] at this
      rw [HR.out]
      exact this
end Go.Proofs.YtdcohbdndkphnabDoor
