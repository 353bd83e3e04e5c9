/-
  A region that draws its order and calls a clock and the reference's clock once each: what holds of memory, by which of the two has come; and what its other operations do.
-/
import Derived.Test.YtalpfcckdjipoaaPlaysOwn
import Derived.Test.YtalpfcckdjipoaaPlaysOps
namespace Go.Proofs.Ytalpfcckdjipoaa
open Go.RowKit Go.Maps
set_option linter.unusedVariables false
set_option linter.unusedSimpArgs false

theorem Clk.mono {w : World} {C n n' : Nat} {m : Option Nat} {L : List Km.Tmr} (h : Clk w C m n L) (hn : n ≤ n') : Clk w C m n' L := by
  refine ⟨h.lt, h.c, h.f, h.ok, ?_⟩
  rcases h.map with h' | ⟨B, h1, h2, h3⟩
  · exact Or.inl h'
  · exact Or.inr ⟨B, h1, h2, h3.mono hn⟩
theorem Mvd.mono {w w' : World} {C n n' : Nat} {m : Option Nat} {L : List Km.Tmr} (h : Mvd w w' C m n L) (hn : n ≤ n') : Mvd w w' C m n' L := by
  obtain ⟨m', h1, h2, h3⟩ := h
  exact ⟨m', h1.mono hn, h2, h3⟩
theorem Pl.mono {b C R n n' : Nat} {w : World} {m G : Option Nat} {L M : List Km.Tmr} (h : Pl b w C m R G n L M) (hn : n ≤ n') : Pl b w C m R G n' L M :=
  ⟨⟨h.clk.clk.mono hn, h.clk.c, h.clk.m⟩, h.ref, h.r, h.g, h.gl, h.apart⟩

/-- x: the clock's call has come; y: the reference's has -/
structure Pj (x y : Bool) (b : Nat) (W0 : World) (C R N s : Nat) (q : ActV) (L L' : List Km.Tmr) (w : World) : Prop where
  act : ActIn q w s
  bel : Below b W0 w
  bs : b ≤ s
  ord : y = true → x = true
  rs : R < s
  pl : ∃ mc G, (x = false → ∀ k, tch C mc k → k < s) ∧ Pl b w C mc R G (if x = true then N + 1 else N) (if x = true then L' else L) (if y = true then L' else L)
theorem Pj.clk {y : Bool} {b C R N s : Nat} {W0 w : World} {q : ActV} {L L' : List Km.Tmr} (h : Pj false y b W0 C R N s q L L' w) :
    ∃ mc, Clk w C mc N L ∧ ∀ n' w', n' ≤ N + 1 → Mvd w w' C mc n' L' → Pj true y b W0 C R N s q L L' w' := by
  obtain ⟨mc, G, h1, h2⟩ := h.pl
  have hy : y = false := by cases y with
    | false => rfl
    | true => exact absurd (h.ord rfl) (by decide)
  subst hy
  simp only [Bool.false_eq_true, if_false] at h2
  have hs := h.act.lt
  have hbs := h.bs
  refine ⟨mc, h2.clk.clk, fun n' w' hn hm => ?_⟩
  obtain ⟨m', k1, k2, k3⟩ := h2.clkMoved (hm.mono hn) (by omega)
  have h1' := h1 rfl
  refine ⟨h.act.kept k3 (fun e => by have := h1' _ e; omega) (fun e => by have := h1' _ e; omega), h.bel.trans k2, h.bs, fun e => rfl, h.rs, m', G, fun e => (by cases e), ?_⟩
  simpa using k1
theorem Pj.ref {b C R N s : Nat} {W0 w : World} {q : ActV} {L L' : List Km.Tmr} (h : Pj true false b W0 C R N s q L L' w) :
    ∃ G, Rf w R G L ∧ ∀ w', RfM w w' R G L' → Pj true true b W0 C R N s q L L' w' := by
  obtain ⟨mc, G, h1, h2⟩ := h.pl
  simp only [Bool.false_eq_true, if_false, if_true] at h2
  have hs := h.act.lt
  have hbs := h.bs
  have hrs := h.rs
  refine ⟨G, h2.ref, fun w' hm => ?_⟩
  obtain ⟨G', k1, k2, k3⟩ := h2.refMoved hm (by omega)
  refine ⟨h.act.kept k3 (fun e => by omega) (fun e => by omega), h.bel.trans k2, h.bs, fun e => rfl, h.rs, mc, G', fun e => (by cases e), ?_⟩
  simpa using k1

/-- the same, by what has come up -/
def PjJ (ic jc : Nat) (b : Nat) (W0 : World) (C R N s : Nat) (q : ActV) (L L' : List Km.Tmr) (l : Array Bool) (w : World) : Prop := Pj (l.getD ic false) (l.getD jc false) b W0 C R N s q L L' w
theorem PjJ.pj {ic jc b C R N s : Nat} {W0 w : World} {q : ActV} {L L' : List Km.Tmr} {l : Array Bool} (h : PjJ ic jc b W0 C R N s q L L' l w) : Pj (l.getD ic false) (l.getD jc false) b W0 C R N s q L L' w := h
theorem PjJ.act {ic jc b C R N s : Nat} {W0 w : World} {q : ActV} {L L' : List Km.Tmr} {l : Array Bool} (h : PjJ ic jc b W0 C R N s q L L' l w) : ActIn q w s := h.pj.act
theorem PjJ.same {ic jc b C R N s i : Nat} {W0 w : World} {q : ActV} {L L' : List Km.Tmr} {l : Array Bool} (h : PjJ ic jc b W0 C R N s q L L' l w) (h1 : i ≠ ic) (h2 : i ≠ jc) : PjJ ic jc b W0 C R N s q L L' (l.setIfInBounds i true) w := by
  unfold PjJ at *
  rw [getD_set_ne false h1, getD_set_ne false h2]
  exact h
theorem not_yet {md : Region.Mode} {ops : Array Oper} {l : Array Bool} {i : Nat} (h : i ∈ Region.ready md ops l) : l.getD i false = false ∧ (l.setIfInBounds i true).getD i false = true := by
  have hl := (mem_ready.1 h).1
  have hlt := unlisted_lt hl
  refine ⟨?_, by simp [hlt]⟩
  simp [hlt] at hl ⊢
  exact hl
theorem PjJ.clk {md : Region.Mode} {ops : Array Oper} {ic jc b C R N s : Nat} {W0 w : World} {q : ActV} {L L' : List Km.Tmr} {l : Array Bool} (h : PjJ ic jc b W0 C R N s q L L' l w) (hr : ic ∈ Region.ready md ops l) (hne : ic ≠ jc) :
    ∃ mc, Clk w C mc N L ∧ ∀ n' w', n' ≤ N + 1 → Mvd w w' C mc n' L' → PjJ ic jc b W0 C R N s q L L' (l.setIfInBounds ic true) w' := by
  obtain ⟨e1, e2⟩ := not_yet hr
  unfold PjJ at h
  rw [e1] at h
  obtain ⟨mc, h1, h2⟩ := h.clk
  refine ⟨mc, h1, fun n' w' hn hm => ?_⟩
  unfold PjJ
  rw [e2, getD_set_ne false hne]
  exact h2 n' w' hn hm
theorem PjJ.ref {md : Region.Mode} {ops : Array Oper} {ic jc b C R N s : Nat} {W0 w : World} {q : ActV} {L L' : List Km.Tmr} {l : Array Bool} (h : PjJ ic jc b W0 C R N s q L L' l w) (hr : jc ∈ Region.ready md ops l) (hic : l.getD ic false = true) (hne : jc ≠ ic) :
    ∃ G, Rf w R G L ∧ ∀ w', RfM w w' R G L' → PjJ ic jc b W0 C R N s q L L' (l.setIfInBounds jc true) w' := by
  obtain ⟨e1, e2⟩ := not_yet hr
  unfold PjJ at h
  rw [e1, hic] at h
  obtain ⟨G, h1, h2⟩ := h.ref
  refine ⟨G, h1, fun w' hm => ?_⟩
  unfold PjJ
  rw [e2, getD_set_ne false hne, hic]
  exact h2 w' hm
/-- at the start -/
theorem pjJ_start {ic jc K b C R N s : Nat} {W0 w : World} {mc G : Option Nat} {q : ActV} {L : List Km.Tmr} (L' : List Km.Tmr) (hP : Pl b w C mc R G N L L) (ha : ActIn q w s) (hb : Below b W0 w) (hbs : b ≤ s) (hr : R < s) (ht : ∀ k, tch C mc k → k < s) : PjJ ic jc b W0 C R N s q L L' (Array.replicate K false) w := by
  unfold PjJ
  rw [rep_getD', rep_getD']
  exact ⟨ha, hb, hbs, fun e => (by cases e), hr, mc, G, fun _ => ht, by simpa using hP⟩
theorem Pj.below {x y : Bool} {b C R N s : Nat} {W0 w w' : World} {q : ActV} {L L' : List Km.Tmr} (h : Pj x y b W0 C R N s q L L' w) (hb : Below w.heap.size w w') : Pj x y b W0 C R N s q L L' w' := by
  obtain ⟨mc, G, h1, h2⟩ := h.pl
  have hs := h.act.lt
  have hbs := h.bs
  exact ⟨h.act.below hb, h.bel.trans (hb.mono (by omega)), h.bs, h.ord, h.rs, mc, G, h1, h2.below hb⟩
theorem PjJ.done {ic jc K b C R N s : Nat} {W0 w : World} {q : ActV} {L L' : List Km.Tmr} {l : Array Bool} (h : PjJ ic jc b W0 C R N s q L L' l w) (hall : ∀ i, i < K → l.getD i false = true) (hi : ic < K) (hj : jc < K) : Pj true true b W0 C R N s q L L' w := by
  have := h.pj
  rw [hall ic hi, hall jc hj] at this
  exact this

/-! ### both Due: the rows that they give aren't known ahead -/
def dueD : Nat → Option Nat
  | 0 => some 92 | 1 => some 93 | 2 => some 94 | 3 => some 95 | 4 => some 96 | 5 => some 97 | 6 => some 98 | 7 => some 99 | 8 => some 10 | 9 => some 11 | _ => none
def dueV (C R s : Nat) (q : ActV) (vs : Value × Value) : Nat → Value
  | 0 => .pointer (some ⟨C, 0, none⟩) | 1 => .pointer (some ⟨s, 3, none⟩) | 2 => .int .i64 q.n | 3 => vs.1 | 4 => .pointer (some ⟨R, 0, none⟩) | 5 => .pointer (some ⟨s, 3, none⟩) | 6 => .int .i64 q.n | 7 => vs.2 | 8 => vs.1 | 9 => vs.2 | _ => undef
theorem dueV_fst {C R s : Nat} {q : ActV} {vs : Value × Value} {v : Value} {l : Array Bool} (h3 : l.getD 3 false = false) (h8 : l.getD 8 false = false) : ∀ j, j < 10 → l.getD j false = true → dueV C R s q (v, vs.2) j = dueV C R s q vs j := by
  intro j hj hl
  match j, hj with
  | 0, _ | 1, _ | 2, _ | 4, _ | 5, _ | 6, _ | 7, _ | 9, _ => rfl
  | 3, _ => rw [h3] at hl; cases hl
  | 8, _ => rw [h8] at hl; cases hl
theorem dueV_snd {C R s : Nat} {q : ActV} {vs : Value × Value} {v : Value} {l : Array Bool} (h7 : l.getD 7 false = false) (h9 : l.getD 9 false = false) : ∀ j, j < 10 → l.getD j false = true → dueV C R s q (vs.1, v) j = dueV C R s q vs j := by
  intro j hj hl
  match j, hj with
  | 0, _ | 1, _ | 2, _ | 3, _ | 4, _ | 5, _ | 6, _ | 8, _ => rfl
  | 7, _ => rw [h7] at hl; cases hl
  | 9, _ => rw [h9] at hl; cases hl
structure PjD (b : Nat) (W0 : World) (C R N s : Nat) (q : ActV) (L : List Km.Tmr) (vs : Value × Value) (l : Array Bool) (w : World) : Prop where
  j : PjJ 3 7 b W0 C R N s q L (Km.restL q.n L) l w
  o1 : l.getD 8 false = true → l.getD 3 false = true
  o2 : l.getD 9 false = true → l.getD 7 false = true
  r1 : l.getD 3 false = true → w.ownsRow s 33 2 vs.1 ((Km.dueL q.n L).map (·.2)).length (flatDue ((Km.dueL q.n L).map (·.2)))
  r2 : l.getD 7 false = true → w.ownsRow s 42 3 vs.2 (Km.dueL q.n L).length (flatT (Km.dueL q.n L))
section
variable {b C R N s : Nat} {W0 w : World} {q : ActV} {L : List Km.Tmr} {vs : Value × Value} {l : Array Bool}
theorem PjD.same {i : Nat} (h : PjD b W0 C R N s q L vs l w) (h3 : i ≠ 3) (h7 : i ≠ 7) (h8 : i ≠ 8) (h9 : i ≠ 9) : PjD b W0 C R N s q L vs (l.setIfInBounds i true) w := by
  refine ⟨h.j.same h3 h7, ?_, ?_, ?_, ?_⟩
  · rw [getD_set_ne false h8, getD_set_ne false h3]; exact h.o1
  · rw [getD_set_ne false h9, getD_set_ne false h7]; exact h.o2
  · rw [getD_set_ne false h3]; exact h.r1
  · rw [getD_set_ne false h7]; exact h.r2
theorem PjD.eighth (h : PjD b W0 C R N s q L vs l w) (h3 : l.getD 3 false = true) : PjD b W0 C R N s q L vs (l.setIfInBounds 8 true) w := by
  refine ⟨h.j.same (by decide) (by decide), ?_, ?_, ?_, ?_⟩
  · intro _; rw [getD_set_ne false (by decide)]; exact h3
  · rw [getD_set_ne false (by decide), getD_set_ne false (by decide)]; exact h.o2
  · rw [getD_set_ne false (by decide)]; exact h.r1
  · rw [getD_set_ne false (by decide)]; exact h.r2
theorem PjD.ninth (h : PjD b W0 C R N s q L vs l w) (h7 : l.getD 7 false = true) : PjD b W0 C R N s q L vs (l.setIfInBounds 9 true) w := by
  refine ⟨h.j.same (by decide) (by decide), ?_, ?_, ?_, ?_⟩
  · rw [getD_set_ne false (by decide), getD_set_ne false (by decide)]; exact h.o1
  · intro _; rw [getD_set_ne false (by decide)]; exact h7
  · rw [getD_set_ne false (by decide)]; exact h.r1
  · rw [getD_set_ne false (by decide)]; exact h.r2
theorem PjD.clk {md : Region.Mode} {ops : Array Oper} (h : PjD b W0 C R N s q L vs l w) (hr : 3 ∈ Region.ready md ops l) :
    ∃ mc, Clk w C mc N L ∧ ∀ v w', w'.ownsRow w.heap.size 33 2 v ((Km.dueL q.n L).map (·.2)).length (flatDue ((Km.dueL q.n L).map (·.2))) → Clk w' C mc N (Km.restL q.n L) → Kept w w' (tch C mc) →
      (∀ j, j < 10 → l.getD j false = true → dueV C R s q (v, vs.2) j = dueV C R s q vs j) ∧ PjD b W0 C R N s q L (v, vs.2) (l.setIfInBounds 3 true) w' := by
  obtain ⟨e1, e2⟩ := not_yet hr
  obtain ⟨mc, h1, h2⟩ := h.j.clk hr (by decide)
  have h8 : l.getD 8 false = false := by
    cases e : l.getD 8 false with
    | false => rfl
    | true => have := h.o1 e; rw [e1] at this; cases this
  have h7 : l.getD 7 false = false := by
    cases e : l.getD 7 false with
    | false => rfl
    | true => have := h.j.pj.ord e; rw [e1] at this; cases this
  refine ⟨mc, h1, fun v w' ho hc hk => ⟨dueV_fst e1 h8, h2 N w' (by omega) ⟨mc, hc, hk, fun B hB => Or.inl hB⟩, ?_, ?_, ?_, ?_⟩⟩
  · rw [getD_set_ne false (by decide), h8]; intro e; cases e
  · rw [getD_set_ne false (by decide), getD_set_ne false (by decide)]; exact h.o2
  · intro _; exact own_down ho (by have := h.j.act.lt; omega)
  · rw [getD_set_ne false (by decide), h7]; intro e; cases e
theorem PjD.ref {md : Region.Mode} {ops : Array Oper} (h : PjD b W0 C R N s q L vs l w) (hr : 7 ∈ Region.ready md ops l) (hic : l.getD 3 false = true) :
    ∃ G, Rf w R G L ∧ ∀ v w', w'.ownsRow w.heap.size 42 3 v (Km.dueL q.n L).length (flatT (Km.dueL q.n L)) → RfM w w' R G (Km.restL q.n L) →
      (∀ j, j < 10 → l.getD j false = true → dueV C R s q (vs.1, v) j = dueV C R s q vs j) ∧ PjD b W0 C R N s q L (vs.1, v) (l.setIfInBounds 7 true) w' := by
  obtain ⟨e1, e2⟩ := not_yet hr
  obtain ⟨G, h1, h2⟩ := h.j.ref hr hic (by decide)
  have h9 : l.getD 9 false = false := by
    cases e : l.getD 9 false with
    | false => rfl
    | true => have := h.o2 e; rw [e1] at this; cases this
  have hrs := h.j.pj.rs
  refine ⟨G, h1, fun v w' ho hm => ⟨dueV_snd e1 h9, h2 w' hm, ?_, ?_, ?_, ?_⟩⟩
  · rw [getD_set_ne false (by decide), getD_set_ne false (by decide)]; exact h.o1
  · rw [getD_set_ne false (by decide), h9]; intro e; cases e
  · intro _
    obtain ⟨_, _, hk, _⟩ := hm
    exact hk.owns (h.r1 hic) (fun k hk' e => by have := own_base (h.r1 hic) k hk'; omega)
  · intro _; exact own_down ho (by have := h.j.act.lt; omega)
theorem pjD_start {K : Nat} (hJ : PjJ 3 7 b W0 C R N s q L (Km.restL q.n L) (Array.replicate K false) w) : PjD b W0 C R N s q L vs (Array.replicate K false) w :=
  ⟨hJ, fun e => by rw [rep_getD'] at e; (cases e), fun e => by rw [rep_getD'] at e; (cases e), fun e => by rw [rep_getD'] at e; (cases e), fun e => by rw [rep_getD'] at e; (cases e)⟩
end

/-! ### the tables of the other three -/
def stopD : Nat → Option Nat
  | 0 => some 67 | 1 => some 68 | 2 => some 69 | 3 => some 70 | 4 => some 71 | 5 => some 72 | 6 => some 73 | 7 => some 74 | 8 => some 75 | 9 => some 76 | _ => none
def stopV (C R s : Nat) (q : ActV) (x : Bool) : Nat → Value
  | 0 => .pointer (some ⟨C, 0, none⟩) | 1 => keyV (q.o, q.t) | 2 => .bool x | 3 => .pointer (some ⟨R, 0, none⟩) | 4 => .pointer (some ⟨s, 1, none⟩) | 5 => .int .i64 q.o | 6 => .pointer (some ⟨s, 2, none⟩) | 7 => .int .i64 q.t | 8 => .bool x | 9 => .bool false | _ => undef
def dropD : Nat → Option Nat
  | 0 => some 80 | 1 => some 81 | 2 => some 82 | 3 => some 83 | 4 => some 84 | 5 => some 85 | 6 => some 86 | 7 => some 87 | 8 => some 88 | _ => none
def dropV (C R s : Nat) (q : ActV) (x : Int) : Nat → Value
  | 0 => .pointer (some ⟨C, 0, none⟩) | 1 => .pointer (some ⟨s, 1, none⟩) | 2 => .int .i64 q.o | 3 => .int .i64 x | 4 => .pointer (some ⟨R, 0, none⟩) | 5 => .pointer (some ⟨s, 1, none⟩) | 6 => .int .i64 q.o | 7 => .int .i64 x | 8 => .bool false | _ => undef
def startD : Nat → Option Nat
  | 0 => some 46 | 1 => some 47 | 2 => some 48 | 3 => some 49 | 4 => some 50 | 5 => some 51 | 6 => some 52 | 7 => some 53 | 8 => some 54 | 9 => some 55 | 10 => some 56 | 11 => some 57 | 12 => some 58 | 13 => some 59 | 14 => some 60 | 15 => some 61 | 16 => some 62 | 17 => some 63 | _ => none
def startV (C R s : Nat) (q : ActV) (x : Int) : Nat → Value
  | 0 => .pointer (some ⟨C, 0, none⟩) | 1 => keyV (q.o, q.t) | 2 => .pointer (some ⟨s, 3, none⟩) | 3 => .int .i64 q.n | 4 => .pointer (some ⟨s, 4, none⟩) | 5 => .int .i64 q.p | 6 => .int .i64 x | 7 => .pointer (some ⟨R, 0, none⟩) | 8 => .pointer (some ⟨s, 1, none⟩) | 9 => .int .i64 q.o | 10 => .pointer (some ⟨s, 2, none⟩) | 11 => .int .i64 q.t | 12 => .pointer (some ⟨s, 3, none⟩) | 13 => .int .i64 q.n | 14 => .pointer (some ⟨s, 4, none⟩) | 15 => .int .i64 q.p | 16 => .int .i64 x | 17 => .bool false | _ => undef
theorem dueD_inj : ∀ i j d, i < 10 → j < 10 → dueD i = some d → dueD j = some d → i = j := by
  have h : ∀ i < 10, ∀ j < 10, dueD i = dueD j → i = j := by decide
  intro i j d hi hj h1 h2
  exact h i hi j hj (h1.trans h2.symm)
theorem dueD_lt : ∀ i d, i < 10 → dueD i = some d → d < 192 := by
  have h : ∀ i < 10, (dueD i).all (· < 192) = true := by decide
  intro i d hi hd
  have := h i hi
  rw [hd] at this
  simpa using this
theorem stopD_inj : ∀ i j d, i < 10 → j < 10 → stopD i = some d → stopD j = some d → i = j := by
  have h : ∀ i < 10, ∀ j < 10, stopD i = stopD j → i = j := by decide
  intro i j d hi hj h1 h2
  exact h i hi j hj (h1.trans h2.symm)
theorem stopD_lt : ∀ i d, i < 10 → stopD i = some d → d < 192 := by
  have h : ∀ i < 10, (stopD i).all (· < 192) = true := by decide
  intro i d hi hd
  have := h i hi
  rw [hd] at this
  simpa using this
theorem dropD_inj : ∀ i j d, i < 9 → j < 9 → dropD i = some d → dropD j = some d → i = j := by
  have h : ∀ i < 9, ∀ j < 9, dropD i = dropD j → i = j := by decide
  intro i j d hi hj h1 h2
  exact h i hi j hj (h1.trans h2.symm)
theorem dropD_lt : ∀ i d, i < 9 → dropD i = some d → d < 192 := by
  have h : ∀ i < 9, (dropD i).all (· < 192) = true := by decide
  intro i d hi hd
  have := h i hi
  rw [hd] at this
  simpa using this
theorem startD_inj : ∀ i j d, i < 18 → j < 18 → startD i = some d → startD j = some d → i = j := by
  have h : ∀ i < 18, ∀ j < 18, startD i = startD j → i = j := by decide
  intro i j d hi hj h1 h2
  exact h i hi j hj (h1.trans h2.symm)
theorem startD_lt : ∀ i d, i < 18 → startD i = some d → d < 192 := by
  have h : ∀ i < 18, (startD i).all (· < 192) = true := by decide
  intro i d hi hd
  have := h i hi
  rw [hd] at this
  simpa using this
end Go.Proofs.Ytalpfcckdjipoaa
