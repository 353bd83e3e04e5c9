/-
  Two flows, a counter and a row of truth values behind a variable: what the law FlowCarries holds; and its function that tells whether one is lost.
-/
import Derived.Test.YtejhhgpfkobjoaaFlowWakes
import Derived.Test.YtejhhgpfkobjoaaFlowCaryMath
import Derived.OpenShut
import Derived.Deep.Slices
import Derived.Deep.CutBlock
namespace Go.Proofs.Ytejhhgpfkobjoaa
open Go.RowKit Go.ChangeShapes Go.WideShapes
set_option linter.unusedVariables false
set_option linter.unusedSimpArgs false

/-! ### a slice of truth values that came in -/
def RowBo (w : World) (a : Option Addr) (len cap : Nat) (bs : List Bool) : Prop :=
  bs.length = len ∧ len ≤ cap ∧ cap ≤ maxLen ∧ (len = 0 ∨ ∃ b off, a = some ⟨b, off, none⟩ ∧ b < w.heap.size ∧ ∀ i, i < len → w.cell? ⟨b, off + i, none⟩ = some (.bool (bs.getD i false)))
theorem bo_plain (b off i : Nat) : (⟨b, off, none⟩ : Addr).add i = ⟨b, off + i, none⟩ := by unfold Addr.add; split <;> simp_all
set_option maxRecDepth 100000 in
theorem open_FlowCarries2 {H : Type} {enc : TypeId × Value → H} {w : World} {a : Option Addr} {len cap : Nat} {d : DataW H} {p : List MemPlace}
    (h : DataW.Trod enc Try.prog w 0 (fun _ => true) true 37 (.slice a len cap) d p) : ∃ bs, RowBo w a len cap bs := by
  obtain ⟨fuel, hf⟩ := h
  have cb : Try.prog.cellsOf 4 = 1 := by kernel_rfl
  rcases Deep.open_slice Try.underlying37 hf with ⟨hcs, _⟩ | ⟨x, l, c, m, n, D, Pl, hcs, _, hl, hm, hmm, _, hx⟩
  · simp [Value.cells] at hcs
    obtain ⟨rfl, rfl, rfl⟩ := hcs
    exact ⟨[], rfl, Nat.le_refl _, Nat.zero_le _, Or.inl rfl⟩
  · simp [Value.cells] at hcs
    obtain ⟨rfl, rfl, rfl⟩ := hcs
    have hmc : m = cap := by rw [hmm]; rfl
    subst hmc
    rw [cb] at hx
    have each : ∀ i, i < m → ∃ q : Bool, w.cell? (x.add (i * 1)) = some (.bool q) := by
      intro i hi
      obtain ⟨cs', h1, h2⟩ := hx i hi
      obtain ⟨_, hlen, hcell⟩ := World.cells?_some h1
      match cs', hlen with
      | [v0], _ =>
        have e0 := hcell 0 (by decide)
        rw [Deep.add_add] at e0
        obtain ⟨a0, ea, _⟩ := DataW.trod_bool Try.underlying4 h2
        simp at ea
        subst ea
        exact ⟨a0, by simpa using e0⟩
    obtain ⟨q, hq⟩ := Deep.choose_lt each
    refine ⟨(List.range len).map q, by simp, hl, hm, ?_⟩
    by_cases h0 : len = 0
    · exact Or.inl h0
    · obtain ⟨b, off, spot⟩ := x
      have hc := hq 0 (by omega)
      have hspot : spot = none := by simpa [Addr.add] using World.cell?_spot hc
      subst hspot
      have hadd : ∀ i, (⟨b, off, none⟩ : Addr).add i = ⟨b, off + i, none⟩ := bo_plain b off
      refine Or.inr ⟨b, off, rfl, cell_lt (by rw [hadd] at hc; exact hc), fun i hi => ?_⟩
      have h1 := hq i (by omega)
      rw [hadd, Nat.mul_one] at h1
      have e : ((List.range len).map q).getD i false = q i := by simp [List.getD, hi]
      rw [e]
      exact h1

/-! ### the two flows, the row behind block S -/
structure Car0 (B : Nat) (W0 w : World) (Ca Cb S : Nat) (la : Option Addr) (ll lc : Nat) (σ τ : Wm.St) : Prop where
  qu : ∃ G H, Fl w Ca G σ ∧ Fl w Cb H τ ∧ (∀ k, qtch Ca G k → B ≤ k ∧ k ≠ S) ∧ (∀ k, qtch Cb H k → B ≤ k ∧ k ≠ S) ∧ ∀ k, qtch Ca G k → ¬ qtch Cb H k
  oka : σ.Ok
  okb : τ.Ok
  lo : w.cell? ⟨S, 0, none⟩ = some (.slice la ll lc)
  ls : S < w.heap.size
  bs : B ≤ S
  bel : Below B W0 w
/-- and the counter in block T -/
structure Cary (B : Nat) (W0 w : World) (Ca Cb T S : Nat) (la : Option Addr) (ll lc : Nat) (σ τ : Wm.St) (x : Nat) : Prop where
  qu : ∃ G H, Fl w Ca G σ ∧ Fl w Cb H τ ∧ (∀ k, qtch Ca G k → B ≤ k ∧ k ≠ S ∧ k ≠ T) ∧ (∀ k, qtch Cb H k → B ≤ k ∧ k ≠ S ∧ k ≠ T) ∧ ∀ k, qtch Ca G k → ¬ qtch Cb H k
  oka : σ.Ok
  okb : τ.Ok
  lo : w.cell? ⟨S, 0, none⟩ = some (.slice la ll lc)
  ls : S < w.heap.size
  bs : B ≤ S
  at' : w.cell? ⟨T, 0, none⟩ = some (.int .i64 x)
  af : w.frozen? ⟨T, 0, none⟩ = false
  lt : T < w.heap.size
  bt : B ≤ T
  st : S ≠ T
  bel : Below B W0 w
section
variable {B : Nat} {W0 w w' : World} {Ca Cb T S : Nat} {la : Option Addr} {ll lc : Nat} {σ τ : Wm.St} {x : Nat}
theorem Car0.hs (h : Car0 B W0 w Ca Cb S la ll lc σ τ) : B ≤ w.heap.size := by have := h.bs; have := h.ls; omega
theorem Cary.hs (h : Cary B W0 w Ca Cb T S la ll lc σ τ x) : B ≤ w.heap.size := by have := h.bs; have := h.ls; omega
theorem Car0.below (h : Car0 B W0 w Ca Cb S la ll lc σ τ) (hb : Below w.heap.size w w') : Car0 B W0 w' Ca Cb S la ll lc σ τ := by
  obtain ⟨G, H, h1, h2, h3, h4, h5⟩ := h.qu
  exact ⟨⟨G, H, h1.below hb, h2.below hb, h3, h4, h5⟩, h.oka, h.okb, (hb.cell (p := ⟨S, 0, none⟩) h.ls).trans h.lo, Nat.lt_of_lt_of_le h.ls hb.size, h.bs, h.bel.trans (hb.mono h.hs)⟩
theorem Cary.below (h : Cary B W0 w Ca Cb T S la ll lc σ τ x) (hb : Below w.heap.size w w') : Cary B W0 w' Ca Cb T S la ll lc σ τ x := by
  obtain ⟨G, H, h1, h2, h3, h4, h5⟩ := h.qu
  exact ⟨⟨G, H, h1.below hb, h2.below hb, h3, h4, h5⟩, h.oka, h.okb, (hb.cell (p := ⟨S, 0, none⟩) h.ls).trans h.lo, Nat.lt_of_lt_of_le h.ls hb.size, h.bs, (hb.cell (p := ⟨T, 0, none⟩) h.lt).trans h.at', (hb.frozen (p := ⟨T, 0, none⟩) h.lt).trans h.af, Nat.lt_of_lt_of_le h.lt hb.size, h.bt, h.st, h.bel.trans (hb.mono h.hs)⟩
theorem Car0.first (h : Car0 B W0 w Ca Cb S la ll lc σ τ) : ∃ G, Fl w Ca G σ ∧ ∀ w' σ', Mvf w w' Ca G σ' → σ'.Ok → Car0 B W0 w' Ca Cb S la ll lc σ' τ := by
  obtain ⟨G, H, h1, h2, h3, h4, h5⟩ := h.qu
  have hbs := h.hs
  refine ⟨G, h1, fun w' σ' hm ok => ?_⟩
  obtain ⟨G', hq', hk, hf⟩ := hm
  have hS : ¬ qtch Ca G S := fun hx => (h3 S hx).2 rfl
  refine ⟨⟨G', H, hq', h2.kept hk (fun hx => h5 Cb hx (Or.inl rfl)) (fun B hB hx => h5 B hx (Or.inr hB)), fun k hk' => ?_, h4, fun k hk' hk2 => ?_⟩, ok, h.okb, (hk.cell (p := ⟨S, 0, none⟩) h.ls hS).trans h.lo, Nat.lt_of_lt_of_le h.ls hk.size, h.bs, h.bel.trans (hk.below hbs (fun k hk' => (h3 k hk').1))⟩
  · rcases hk' with rfl | hk'
    · exact h3 k (Or.inl rfl)
    · rcases hf k hk' with h' | h'
      · exact h3 k (Or.inr h')
      · exact ⟨by omega, by have := h.ls; omega⟩
  · rcases hk' with rfl | hk'
    · exact h5 k (Or.inl rfl) hk2
    · rcases hf k hk' with h' | h'
      · exact h5 k (Or.inr h') hk2
      · have := h2.tlt hk2; omega
theorem Cary.first (h : Cary B W0 w Ca Cb T S la ll lc σ τ x) : ∃ G, Fl w Ca G σ ∧ ∀ w' σ', Mvf w w' Ca G σ' → σ'.Ok → Cary B W0 w' Ca Cb T S la ll lc σ' τ x := by
  obtain ⟨G, H, h1, h2, h3, h4, h5⟩ := h.qu
  have hbs := h.hs
  refine ⟨G, h1, fun w' σ' hm ok => ?_⟩
  obtain ⟨G', hq', hk, hf⟩ := hm
  have hS : ¬ qtch Ca G S := fun hx => (h3 S hx).2.1 rfl
  have hT : ¬ qtch Ca G T := fun hx => (h3 T hx).2.2 rfl
  refine ⟨⟨G', H, hq', h2.kept hk (fun hx => h5 Cb hx (Or.inl rfl)) (fun B hB hx => h5 B hx (Or.inr hB)), fun k hk' => ?_, h4, fun k hk' hk2 => ?_⟩, ok, h.okb, (hk.cell (p := ⟨S, 0, none⟩) h.ls hS).trans h.lo, Nat.lt_of_lt_of_le h.ls hk.size, h.bs, (hk.cell (p := ⟨T, 0, none⟩) h.lt hT).trans h.at', (hk.frozen (p := ⟨T, 0, none⟩) h.lt hT).trans h.af, Nat.lt_of_lt_of_le h.lt hk.size, h.bt, h.st, h.bel.trans (hk.below hbs (fun k hk' => (h3 k hk').1))⟩
  · rcases hk' with rfl | hk'
    · exact h3 k (Or.inl rfl)
    · rcases hf k hk' with h' | h'
      · exact h3 k (Or.inr h')
      · exact ⟨by omega, by have := h.ls; omega, by have := h.lt; omega⟩
  · rcases hk' with rfl | hk'
    · exact h5 k (Or.inl rfl) hk2
    · rcases hf k hk' with h' | h'
      · exact h5 k (Or.inr h') hk2
      · have := h2.tlt hk2; omega
theorem Cary.second (h : Cary B W0 w Ca Cb T S la ll lc σ τ x) : ∃ H, Fl w Cb H τ ∧ ∀ w' τ', Mvf w w' Cb H τ' → τ'.Ok → Cary B W0 w' Ca Cb T S la ll lc σ τ' x := by
  obtain ⟨G, H, h1, h2, h3, h4, h5⟩ := h.qu
  have hbs := h.hs
  refine ⟨H, h2, fun w' τ' hm ok => ?_⟩
  obtain ⟨H', hq', hk, hf⟩ := hm
  have hS : ¬ qtch Cb H S := fun hx => (h4 S hx).2.1 rfl
  have hT : ¬ qtch Cb H T := fun hx => (h4 T hx).2.2 rfl
  refine ⟨⟨G, H', h1.kept hk (fun hx => h5 Ca (Or.inl rfl) hx) (fun B hB hx => h5 B (Or.inr hB) hx), hq', h3, fun k hk' => ?_, fun k hk' hk2 => ?_⟩, h.oka, ok, (hk.cell (p := ⟨S, 0, none⟩) h.ls hS).trans h.lo, Nat.lt_of_lt_of_le h.ls hk.size, h.bs, (hk.cell (p := ⟨T, 0, none⟩) h.lt hT).trans h.at', (hk.frozen (p := ⟨T, 0, none⟩) h.lt hT).trans h.af, Nat.lt_of_lt_of_le h.lt hk.size, h.bt, h.st, h.bel.trans (hk.below hbs (fun k hk' => (h4 k hk').1))⟩
  · rcases hk' with rfl | hk'
    · exact h4 k (Or.inl rfl)
    · rcases hf k hk' with h' | h'
      · exact h4 k (Or.inr h')
      · exact ⟨by omega, by have := h.ls; omega, by have := h.lt; omega⟩
  · rcases hk2 with rfl | hk2
    · exact h5 k hk' (Or.inl rfl)
    · rcases hf k hk2 with h' | h'
      · exact h5 k hk' (Or.inr h')
      · have := h1.tlt hk'; omega
/-- the counter is made -/
theorem Car0.count {W : World} {Ty : TypeId} (h : Car0 B W0 w Ca Cb S la ll lc σ τ) (hW : W = w.alloc (.cells #[.int .i64 0] Ty)) : Cary B W0 W Ca Cb w.heap.size S la ll lc σ τ 0 := by
  subst hW
  have hb : Below w.heap.size w (w.alloc (.cells #[.int .i64 0] Ty)) := (Below.refl _ _).alloc (Nat.le_refl _) _
  have h' := h.below hb
  obtain ⟨G, H, h1, h2, h3, h4, h5⟩ := h.qu
  exact ⟨⟨G, H, h1.below hb, h2.below hb, fun k hk => ⟨(h3 k hk).1, (h3 k hk).2, by have := h1.tlt hk; omega⟩, fun k hk => ⟨(h4 k hk).1, (h4 k hk).2, by have := h2.tlt hk; omega⟩, h5⟩, h.oka, h.okb, h'.lo, h'.ls, h.bs, by simp, by simp, by simp, h.hs, by have := h.ls; omega, h'.bel⟩
theorem Cary.counted (h : Cary B W0 w Ca Cb T S la ll lc σ τ x) : Cary B W0 (w.setCell ⟨T, 0, none⟩ (.int .i64 ((x : Int) + 1))) Ca Cb T S la ll lc σ τ (x + 1) := by
  have hk : Kept w (w.setCell ⟨T, 0, none⟩ (.int .i64 ((x : Int) + 1))) (fun k => k = T) := (Kept.refl w (fun k => k = T)).setCell (p := ⟨T, 0, none⟩) (fun _ => rfl) _
  obtain ⟨G, H, h1, h2, h3, h4, h5⟩ := h.qu
  refine ⟨⟨G, H, h1.kept hk (fun e => (h3 Ca (Or.inl rfl)).2.2 e) (fun B hB e => (h3 B (Or.inr hB)).2.2 e), h2.kept hk (fun e => (h4 Cb (Or.inl rfl)).2.2 e) (fun B hB e => (h4 B (Or.inr hB)).2.2 e), h3, h4, h5⟩, h.oka, h.okb, (hk.cell (p := ⟨S, 0, none⟩) h.ls h.st).trans h.lo, Nat.lt_of_lt_of_le h.ls hk.size, h.bs, ?_, by rw [World.frozen?_setCell]; exact h.af, Nat.lt_of_lt_of_le h.lt hk.size, h.bt, h.st, h.bel.trans (hk.below h.hs (fun k e => by rw [e]; exact h.bt))⟩
  exact World.cell?_setCell_same' w ⟨T, 0, none⟩ _ (by rw [h.at']; rfl)

/-! ### the calls -/
theorem car0_push (s : ByteArray) (h : Car0 B W0 w Ca Cb S la ll lc σ τ) (hs : s.size ≤ 9223372036854775807) :
    Calls Try.prog 15 #[.pointer (some ⟨Ca, 0, none⟩), .string s] w fun e w' => e = .returned (.int .i64 (Qm.pushN σ.mo σ.L s)) ∧ Car0 B W0 w' Ca Cb S la ll lc (Wm.pushT σ s) τ := by
  obtain ⟨G, hq, hm⟩ := h.first
  exact (fpush_any Ca G σ s w hq hs).mono fun e w' hx => ⟨hx.1, hm _ _ hx.2 (Wm.pushT_ok h.oka s)⟩
theorem cary_take (h : Cary B W0 w Ca Cb T S la ll lc σ τ x) :
    Calls Try.prog 17 #[.pointer (some ⟨Ca, 0, none⟩)] w fun e w' => e = .returned (.tuple #[.int .i64 (Wm.takeN σ), .string (Wm.takeS σ), .bool (Wm.takeB σ)]) ∧ Cary B W0 w' Ca Cb T S la ll lc (Wm.takeT σ) τ x := by
  obtain ⟨G, hq, hm⟩ := h.first
  exact (ftake_any Ca G σ w hq h.oka).mono fun e w' hx => ⟨hx.1, hm _ _ hx.2 (Wm.takeT_ok h.oka)⟩
theorem cary_ack (nr : Int) (h : Cary B W0 w Ca Cb T S la ll lc σ τ x) (h0 : -9223372036854775808 ≤ nr) (h1 : nr ≤ 9223372036854775807) :
    Calls Try.prog 18 #[.pointer (some ⟨Ca, 0, none⟩), .int .i64 nr] w fun e w' => e = .returned (.tuple #[.int .i64 (Wm.ackN σ nr), .int .i64 (Wm.ackE σ nr)]) ∧ Cary B W0 w' Ca Cb T S la ll lc (Wm.ackT σ nr) τ x := by
  obtain ⟨G, hq, hm⟩ := h.first
  exact (fack_any Ca G σ nr w hq h.oka h0 h1).mono fun e w' hx => ⟨hx.1, hm _ _ hx.2 (Wm.ackT_ok h.oka nr)⟩
theorem cary_back (h : Cary B W0 w Ca Cb T S la ll lc σ τ x) :
    Calls Try.prog 19 #[.pointer (some ⟨Ca, 0, none⟩)] w fun e w' => e = .returned (.tuple #[]) ∧ Cary B W0 w' Ca Cb T S la ll lc (Wm.backT σ) τ x := by
  obtain ⟨G, hq, hm⟩ := h.first
  exact (fback_any Ca G σ w hq).mono fun e w' hx => ⟨hx.1, hm _ _ hx.2 (Wm.backT_ok h.oka)⟩
theorem cary_view (h : Cary B W0 w Ca Cb T S la ll lc σ τ x) :
    Calls Try.prog 14 #[.pointer (some ⟨Ca, 0, none⟩)] w fun e w' => e = .returned (vwV σ) ∧ Cary B W0 w' Ca Cb T S la ll lc σ τ x := by
  obtain ⟨G, hq, hm⟩ := h.first
  exact (fview_any Ca G σ w hq).mono fun e w' hx => ⟨hx.1, h.below hx.2⟩
theorem cary_view2 (h : Cary B W0 w Ca Cb T S la ll lc σ τ x) :
    Calls Try.prog 14 #[.pointer (some ⟨Cb, 0, none⟩)] w fun e w' => e = .returned (vwV τ) ∧ Cary B W0 w' Ca Cb T S la ll lc σ τ x := by
  obtain ⟨G, hq, hm⟩ := h.second
  exact (fview_any Cb G τ w hq).mono fun e w' hx => ⟨hx.1, h.below hx.2⟩
theorem cary_come (ns : Int) (h : Cary B W0 w Ca Cb T S la ll lc σ τ x) (h0 : -9223372036854775808 ≤ ns) (h1 : ns ≤ 9223372036854775807) :
    Calls Try.prog 20 #[.pointer (some ⟨Cb, 0, none⟩), .int .i64 ns] w fun e w' => e = .returned (.int .i64 (Wm.comeN τ ns)) ∧ Cary B W0 w' Ca Cb T S la ll lc σ (Wm.comeT τ ns) x := by
  obtain ⟨G, hq, hm⟩ := h.second
  exact (fcome_any Cb G τ ns w hq h.okb h0 h1).mono fun e w' hx => ⟨hx.1, hm _ _ hx.2 (Wm.comeT_ok h.okb ns)⟩
end

/-- is the one of that number lost? -/
def drp (bs : List Bool) (ll x : Nat) : Bool := decide (x + 1 ≤ ll ∧ x + 1 ≤ 500) && bs.getD x false
theorem drp_lt {bs : List Bool} {ll x : Nat} (h : drp bs ll x = true) : x < 500 := by
  unfold drp at h
  simp at h
  omega

set_option maxHeartbeats 2000000 in
set_option maxRecDepth 100000 in
theorem drop_any {B : Nat} {W0 w : World} {Ca Cb T S : Nat} {la : Option Addr} {ll lc : Nat} {σ τ : Wm.St} {x : Nat} (bs : List Bool) (h : Cary B W0 w Ca Cb T S la ll lc σ τ x) (hB : W0.heap.size ≤ B) (hr : RowBo W0 la ll lc bs) (hx : x ≤ 2000) :
    Calls Try.prog 16 #[.pointer (some ⟨T, 0, none⟩), .pointer (some ⟨S, 0, none⟩)] w fun e w' => e = .returned (.bool (drp bs ll x)) ∧ Cary B W0 w' Ca Cb T S la ll lc σ τ (x + 1) := by
  have HE : Hid (Cary B W0 (w.setCell ⟨T, 0, none⟩ (.int .i64 ((x : Int) + 1))) Ca Cb T S la ll lc σ τ (x + 1)) := h.counted
  have hlc : ll ≤ lc := hr.2.1
  have hcm : lc ≤ 9223372036854775807 := by have := hr.2.2.1; unfold maxLen at this; exact this
  have h1 := h.at'
  have h2 := h.af
  have h3 := h.lt
  have hst := h.st
  have z1 := HE.out.lo
  have z2 := HE.out.ls
  have z3 := HE.out.at'
  have z4 := HE.out.lt
  have e1 : ((x + 1 : Nat) : Int) = (x : Int) + 1 := by omega
  rw [e1] at z3
  obtain ⟨W, hW⟩ : ∃ W, W = w.setCell ⟨T, 0, none⟩ (.int .i64 ((x : Int) + 1)) := ⟨_, rfl⟩
  rw [← hW] at HE z1 z2 z3 z4
  by_cases hin : x + 1 ≤ ll ∧ x + 1 ≤ 500
  · have hcell : ∃ b off, la = some ⟨b, off, none⟩ ∧ b < W.heap.size ∧ W.cell? ⟨b, off + x, none⟩ = some (.bool (bs.getD x false)) := by
      rcases hr.2.2.2 with h0 | ⟨b, off, e, hlt, hc⟩
      · omega
      · have hbel := HE.out.bel
        exact ⟨b, off, e, Nat.lt_of_lt_of_le hlt hbel.size, (hbel.cell (p := ⟨b, off + x, none⟩) (Nat.lt_of_lt_of_le hlt hB)).trans (hc x (by omega))⟩
    obtain ⟨b, off, rfl, hbl, hcl⟩ := hcell
    have HD : Hid (drp bs ll x = bs.getD x false) := by
      show _ = _
      unfold drp
      rw [decide_eq_true hin]
      rfl
    generalize bs.getD x false = y at hcl HD
    obtain ⟨hin1, hin2⟩ := hin
    clear h hr e1
    go_enter Try.func16, Try.ntmps16
    go_upto_region 2 with fail
    rw [← hW]
    clear hW h1 h2 h3
    go_wp2
    go_ret
    exact ⟨by rw [HD.out]; rfl, HE.out⟩
  · have HD : Hid (drp bs ll x = false) := by
      show _ = _
      unfold drp
      rw [decide_eq_false hin]
      rfl
    by_cases hin1 : x + 1 ≤ ll
    · have hin2 : ¬ x + 1 ≤ 500 := fun h' => hin ⟨hin1, h'⟩
      clear h hr hin e1
      go_enter Try.func16, Try.ntmps16
      go_upto_region 2 with fail
      rw [← hW]
      clear hW h1 h2 h3
      go_wp2
      go_ret
      exact ⟨by rw [HD.out]; rfl, HE.out⟩
    · clear h hr hin e1
      go_enter Try.func16, Try.ntmps16
      go_upto_region 2 with fail
      rw [← hW]
      clear hW h1 h2 h3
      go_wp2
      go_ret
      exact ⟨by rw [HD.out]; rfl, HE.out⟩
end Go.Proofs.Ytejhhgpfkobjoaa
