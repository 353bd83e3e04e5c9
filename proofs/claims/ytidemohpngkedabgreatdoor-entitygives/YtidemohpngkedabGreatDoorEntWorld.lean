/-
  An object in the world, told by labels on its blocks: what a call leaves of it. It names nothing of the program.
  The timers of an entity that run: a map from numbers to nothing that holds just 200 and 203, as they run.
  An entity in the world, the program's: its cells, its flow, its units, its timers, what it told; what each small step leaves of it.
-/
import Derived.Test.YtidemohpngkedabGreatDoorEntPlain
import Derived.Test.YtidemohpngkedabGreatDoorKept
import Derived.Maps.OwnSet
import Derived.Maps.OwnOps
import Derived.Test.YtidemohpngkedabGreatDoorFlowRow
import Derived.Deep.AppendLies
namespace Go.Proofs.YtidemohpngkedabGreatDoor
open Go.RowKit
set_option linter.unusedVariables false
set_option linter.unusedSimpArgs false

/-- it is e now; but for the blocks that were its own all is as it was; no block that was there is newly its own -/
def Mv (E : World → (Nat → Nat) → Em.St → Prop) (w w' : World) (lab : Nat → Nat) (e' : Em.St) : Prop :=
  ∃ lab', E w' lab' e' ∧ Kept w w' (fun k => lab k ≠ 0) ∧ ∀ k, k < w.heap.size → lab' k = lab k
/-- labels on what was made since -/
def fresh (lab : Nat → Nat) (s l : Nat) (k : Nat) : Nat := if k < s then lab k else l
theorem fresh_old {lab : Nat → Nat} {s l k : Nat} (h : k < s) : fresh lab s l k = lab k := if_pos h
theorem fresh_new {lab : Nat → Nat} {s l k : Nat} (h : s ≤ k) : fresh lab s l k = l := if_neg (by omega)

section
variable {E : World → (Nat → Nat) → Em.St → Prop} {w w1 w2 : World} {lab : Nat → Nat} {e1 e2 : Em.St}
theorem Mv.on {lab1 : Nat → Nat} (hk : Kept w w1 (fun k => lab k ≠ 0)) (hl : ∀ k, k < w.heap.size → lab1 k = lab k) (h2 : Mv E w1 w2 lab1 e2) : Mv E w w2 lab e2 := by
  obtain ⟨lab2, h, hk2, hl2⟩ := h2
  exact ⟨lab2, h, hk.trans hk2 (fun k hlt hx => by rw [← hl k hlt]; exact hx), fun k hlt => (hl2 k (Nat.lt_of_lt_of_le hlt hk.size)).trans (hl k hlt)⟩
theorem Mv.trans (h : Mv E w w1 lab e1) (h2 : ∀ lab1, E w1 lab1 e1 → Mv E w1 w2 lab1 e2) : Mv E w w2 lab e2 := by
  obtain ⟨lab1, h1, hk, hl⟩ := h
  exact Mv.on hk hl (h2 lab1 h1)
theorem Mv.call {f : Nat} {args : Array Value} {A : Ending} {w1 : World} (h : Mv E w w1 lab e1) (h2 : ∀ lab1, E w1 lab1 e1 → Calls Tryz.prog f args w1 fun e w' => e = A ∧ Mv E w1 w' lab1 e2) : Calls Tryz.prog f args w1 fun e w' => e = A ∧ Mv E w w' lab e2 := by
  obtain ⟨lab1, h1, hk, hl⟩ := h
  exact (h2 lab1 h1).mono fun e w' hx => ⟨hx.1, Mv.on hk hl hx.2⟩
/-- a call that leaves it -/
theorem Mv.look {f : Nat} {args : Array Value} {A : Ending} {w1 : World} (h : Mv E w w1 lab e1) (h2 : ∀ lab1, E w1 lab1 e1 → Calls Tryz.prog f args w1 fun e w' => e = A ∧ w1 = w') : Calls Tryz.prog f args w1 fun e w' => e = A ∧ w1 = w' := by
  obtain ⟨lab1, h1, hk, hl⟩ := h
  exact h2 lab1 h1
end
end Go.Proofs.YtidemohpngkedabGreatDoor

namespace Go.Proofs.YtidemohpngkedabGreatDoor
open Go.RowKit Go.Maps Go.WideMaps
set_option linter.unusedVariables false
set_option maxRecDepth 100000
set_option linter.unusedSimpArgs false

namespace Em
/-- does it run? -/
def runs (a b : Bool) (t : Int) : Bool := (decide (t = 200) && a) || (decide (t = 203) && b)
theorem runs_200 (a b : Bool) : runs a b 200 = a := by simp [runs]
theorem runs_203 (a b : Bool) : runs a b 203 = b := by simp [runs]
def upA (a : Bool) (t : Int) (v : Bool) : Bool := if t = 200 then v else a
def upB (b : Bool) (t : Int) (v : Bool) : Bool := if t = 203 then v else b
theorem runs_up (a b : Bool) (t t' : Int) (v : Bool) (ht : t = 200 ∨ t = 203) : runs (upA a t v) (upB b t v) t' = if t' = t then v else runs a b t' := by
  unfold runs upA upB
  rcases ht with rfl | rfl
  · by_cases h : t' = 200
    · subst h; simp
    · by_cases h2 : t' = 203
      · subst h2; simp
      · simp [h, h2]
  · by_cases h : t' = 200
    · subst h; simp
    · by_cases h2 : t' = 203
      · subst h2; simp
      · simp [h, h2]
def ct (a b : Bool) : Nat := (if a then 1 else 0) + (if b then 1 else 0)
theorem ct_le (a b : Bool) : ct a b ≤ 2 := by cases a <;> cases b <;> decide
theorem ct_put (a b : Bool) (t : Int) (ht : t = 200 ∨ t = 203) : ct (upA a t true) (upB b t true) = if runs a b t then ct a b else ct a b + 1 := by
  rcases ht with rfl | rfl <;> cases a <;> cases b <;> decide
theorem ct_del (a b : Bool) (t : Int) (ht : t = 200 ∨ t = 203) : ct (upA a t false) (upB b t false) + (if runs a b t then 1 else 0) = ct a b := by
  rcases ht with rfl | rfl <;> cases a <;> cases b <;> decide
theorem runs_key {a b : Bool} {t : Int} (h : runs a b t = true) : t = 200 ∨ t = 203 := by
  unfold runs at h
  simp at h
  omega
end Em

theorem elaw : Keyed Tryz.prog 3 := int_keyed Tryz.underlying3
theorem ezero (w : World) : (zeroValue 140).run Tryz.prog w = .ok (.agg #[]) w := by kernel_rfl
def ek (t : Int) : Lit := .int .i64 t
theorem ek_of {t : Int} (h0 : -9223372036854775808 ≤ t) (h1 : t ≤ 9223372036854775807) : keyOf Tryz.prog 3 (.int .i64 t) = some (ek t) :=
  keyOf_int_mk Tryz.underlying3 (by simp [Lit.wf, IntKind.min, IntKind.max, IntKind.signed, IntKind.bits]; omega)
theorem ek_key (t : Int) : WideAt.IsKeyLit (ek t) := trivial
theorem ek_ne {t t' : Int} (h : t ≠ t') : ek t ≠ ek t' := by
  intro e
  unfold ek at e
  injection e with _ e
  exact h e
theorem eowns_tight {w : World} {M : Nat} {k : TypeId} {R : Value → Option (DataW Unit × List MemPlace)} {n m : Nat} {D : DataW Unit} (h : w.ownsMap Tryz.prog k R M n D) (hm : Maps.size D ≤ m) : w.ownsMap Tryz.prog k R M m D := by
  obtain ⟨es, clock, h1, F, hs, rfl⟩ := h
  refine ⟨es, clock, h1, F, ?_, rfl⟩
  simpa [Maps.size, length_sorted] using hm

structure TmD (D : DataW Unit) (a b : Bool) : Prop where
  has : ∀ t : Int, Maps.has D (ek t) = Em.runs a b t
  size : Maps.size D = Em.ct a b
/-- block M is such a map -/
def TmIs (w : World) (M : Nat) (a b : Bool) : Prop := ∃ D, w.ownsMap Tryz.prog 3 unitElem M 2 D ∧ TmD D a b
section
variable {w w' : World} {M : Nat} {a b : Bool}
theorem TmIs.lt (h : TmIs w M a b) : M < w.heap.size := by obtain ⟨D, h, _⟩ := h; exact h.lt
theorem TmIs.of_block (h : TmIs w M a b) (hb : w'.heap[M]? = w.heap[M]?) : TmIs w' M a b := by
  obtain ⟨D, ⟨es, clock, h1, F, hs, hD⟩, hR⟩ := h
  exact ⟨D, ⟨es, clock, hb.trans h1, F, hs, hD⟩, hR⟩
theorem TmIs.kept {T : Nat → Prop} (h : TmIs w M a b) (hk : Kept w w' T) (hT : ¬ T M) : TmIs w' M a b := h.of_block (hk.block M h.lt hT)
theorem tmIs_made (w : World) : TmIs (w.alloc (.map #[] 0)) w.heap.size false false :=
  ⟨.map [], (World.ownsMap_made _ _ _ _).mono (Nat.zero_le _), fun t => by simp [Maps.has, Em.runs], rfl⟩
set_option maxRecDepth 100000 in
theorem TmIs.look (h : TmIs w M a b) {t : Int} (h0 : -9223372036854775808 ≤ t) (h1 : t ≤ 9223372036854775807) : (Instr.lookup 75 (.map (some M)) (.int .i64 t) true).run Tryz.prog w = .ok (.tuple #[.agg #[], .bool (Em.runs a b t)]) w := by
  obtain ⟨D, ho, hR⟩ := h
  obtain ⟨v, ps, hrun, hv⟩ := ho.look_ok elaw Tryz.underlying75 (ezero w) (zd := .agg []) (zp := []) unitElem_mk (ek_of h0 h1)
  obtain ⟨rfl, _⟩ := unitElem_inv hv
  rw [hR.has t] at hrun
  exact hrun
set_option maxRecDepth 100000 in
theorem TmIs.store (h : TmIs w M a b) {t : Int} (ht : t = 200 ∨ t = 203) : ∃ w', (Instr.mapUpdate 75 (.map (some M)) (.int .i64 t) (.agg #[])).run Tryz.prog w = .ok () w' ∧ TmIs w' M (Em.upA a t true) (Em.upB b t true) ∧ Kept w w' (fun k => k = M) := by
  obtain ⟨D, ho, hR⟩ := h
  have htd := ho.tidy elaw
  obtain ⟨w', hrun, ho', ht'⟩ := ho.store elaw Tryz.underlying75 (by unfold maxLen; omega) (ek_of (t := t) (by omega) (by omega)) unitElem_mk
  have hs : Maps.size (D.put (ek t) (.agg [])) = Em.ct (Em.upA a t true) (Em.upB b t true) := by
    rw [size_put htd, hR.has t, hR.size, Em.ct_put a b t ht]
  refine ⟨w', hrun, ⟨_, eowns_tight ho' (by rw [hs]; exact Em.ct_le _ _), fun t' => ?_, hs⟩, Kept.of_grown ht'.grown (fun k e => by injection e with e; exact e.symm)⟩
  rw [Em.runs_up a b t t' true ht]
  by_cases e : t' = t
  · rw [if_pos e, e, has_put_same ho.isMap (ek_key _)]
  · rw [if_neg e, has_put_other (ek_ne e), hR.has t']
set_option maxRecDepth 100000 in
theorem TmIs.drop (h : TmIs w M a b) {t : Int} (ht : t = 200 ∨ t = 203) (ty : TypeId) : ∃ w', (Builtin.delete_ #[75, 3] ty #[.map (some M), .int .i64 t]).run Tryz.prog w = .ok (.tuple #[]) w' ∧ TmIs w' M (Em.upA a t false) (Em.upB b t false) ∧ Kept w w' (fun k => k = M) := by
  obtain ⟨D, ho, hR⟩ := h
  have htd := ho.tidy elaw
  obtain ⟨w', hrun, ho', hk⟩ := ho.drop elaw Tryz.underlying75 (ek_of (t := t) (by omega) (by omega)) ty
  have h1 := size_del (k := ek t) htd
  have h2 := Em.ct_del a b t ht
  rw [hR.has t, hR.size] at h1
  have hs : Maps.size (D.del (ek t)) = Em.ct (Em.upA a t false) (Em.upB b t false) := by omega
  refine ⟨w', hrun, ⟨_, ho', fun t' => ?_, hs⟩, Kept.of_grown hk.grown (fun k e => by injection e with e; exact e.symm)⟩
  rw [Em.runs_up a b t t' false ht]
  by_cases e : t' = t
  · rw [if_pos e, e, has_del_same]
  · rw [if_neg e, has_del_other (ek_ne e), hR.has t']
end
end Go.Proofs.YtidemohpngkedabGreatDoor

namespace Go.Proofs.YtidemohpngkedabGreatDoor
open Go.RowKit
set_option linter.unusedVariables false
set_option maxRecDepth 100000
set_option linter.unusedSimpArgs false

/-- a frame's value, an effect's cells and value -/
def effL (x : Em.Eff) : List Value := [.int .i64 x.kind, .int .i64 x.f.sapi, .int .i64 x.f.tei, .bool x.f.c, .int .i64 x.f.k, .bool x.f.pf, .int .i64 x.f.ns, .int .i64 x.f.nr, .string x.f.info, .string x.data, .int .i64 x.timer]
def effV (x : Em.Eff) : Value := .agg #[.int .i64 x.kind, .int .i64 x.f.sapi, .int .i64 x.f.tei, .bool x.f.c, .int .i64 x.f.k, .bool x.f.pf, .int .i64 x.f.ns, .int .i64 x.f.nr, .string x.f.info, .string x.data, .int .i64 x.timer]
def frmV (f : Em.Fr) : Value := .agg #[.int .i64 f.sapi, .int .i64 f.tei, .bool f.c, .int .i64 f.k, .bool f.pf, .int .i64 f.ns, .int .i64 f.nr, .string f.info]
def effsL (l : List Em.Eff) : List Value := l.flatMap effL
theorem effsL_snoc (l : List Em.Eff) (x : Em.Eff) : effsL l ++ effL x = effsL (l ++ [x]) := by simp [effsL]
theorem effL_one (x : Em.Eff) : ∀ u ∈ effL x, u.oneCell' = true := by
  intro u hu
  simp [effL] at hu
  rcases hu with rfl | rfl | rfl | rfl | rfl | rfl | rfl | rfl | rfl | rfl | rfl <;> rfl
theorem eff_info : (Tryz.prog.info? 57).map (fun i => (i.zero, i.size, i.bytes)) = some (some (effV ⟨0, Em.fr0, ByteArray.empty, 0⟩), 11, 104) := by kernel_rfl

/-! ### parts -/
structure ECs (C : Nat) (w : World) (e : Em.St) : Prop where
  lt : C < w.heap.size
  c0 : w.cell? ⟨C, 0, none⟩ = some (.int .i64 e.state)
  c1 : w.cell? ⟨C, 1, none⟩ = some (.int .i64 e.tei)
  c3 : ∃ n, w.cell? ⟨C, 3, none⟩ = some (.int .i64 n) ∧ Em.mostOf n = e.most
  c4 : w.cell? ⟨C, 4, none⟩ = some (.int .i64 e.tries)
  c5 : w.cell? ⟨C, 5, none⟩ = some (.bool e.asked)
  f : ∀ j, j < 9 → w.frozen? ⟨C, j, none⟩ = false
def EFl (C : Nat) (w : World) (lab : Nat → Nat) (σ : Wm.St) : Prop := ∃ D G, w.cell? ⟨C, 2, none⟩ = some (.pointer (some ⟨D, 0, none⟩)) ∧ Fl w D G σ ∧ lab D = 2 ∧ ∀ B, G = some B → lab B = 2
def ETm (C : Nat) (w : World) (lab : Nat → Nat) (a b : Bool) : Prop := ∃ M, w.cell? ⟨C, 7, none⟩ = some (.map (some M)) ∧ TmIs w M a b ∧ lab M = 3
def EUn (C : Nat) (w : World) (lab : Nat → Nat) (L : List ByteArray) : Prop := ∃ a cap U, w.cell? ⟨C, 6, none⟩ = some (.slice a L.length cap) ∧ SRow w a cap U L ∧ ∀ B, U = some B → lab B = 4
def ETo (C : Nat) (w : World) (lab : Nat → Nat) (l : List Em.Eff) : Prop := ∃ a cap, w.cell? ⟨C, 8, none⟩ = some (.slice a l.length cap) ∧ w.ownsRow 0 57 11 (.slice a l.length cap) l.length (effsL l) ∧ ∀ B, (Value.slice a l.length cap).ownBlock = some B → lab B = 5
/-- an entity -/
structure En (C : Nat) (w : World) (lab : Nat → Nat) (e : Em.St) : Prop where
  cs : ECs C w e
  lC : lab C = 1
  fl : EFl C w lab e.fl
  tm : ETm C w lab e.t200 e.t203
  un : EUn C w lab e.units
  to : ETo C w lab e.out

section
variable {C : Nat} {w w' : World} {lab lab' : Nat → Nat} {e : Em.St} {T : Nat → Prop}
theorem ECs.kept (h : ECs C w e) (hk : Kept w w' T) (hT : ¬ T C) : ECs C w' e := by
  have hc : ∀ j, w'.cell? ⟨C, j, none⟩ = w.cell? ⟨C, j, none⟩ := fun j => hk.cell (p := ⟨C, j, none⟩) h.lt hT
  refine ⟨Nat.lt_of_lt_of_le h.lt hk.size, (hc 0).trans h.c0, (hc 1).trans h.c1, ?_, (hc 4).trans h.c4, (hc 5).trans h.c5, fun j hj => (hk.frozen (p := ⟨C, j, none⟩) h.lt hT).trans (h.f j hj)⟩
  rw [hc 3]
  exact h.c3
theorem ECs.as {e' : Em.St} (h : ECs C w e) (h0 : e'.state = e.state) (h1 : e'.tei = e.tei) (h2 : e'.most = e.most) (h3 : e'.tries = e.tries) (h4 : e'.asked = e.asked) : ECs C w e' :=
  ⟨h.lt, by rw [h0]; exact h.c0, by rw [h1]; exact h.c1, by rw [h2]; exact h.c3, by rw [h3]; exact h.c4, by rw [h4]; exact h.c5, h.f⟩
theorem ECs.other (h : ECs C w e) (j : Nat) (v : Value) (h0 : j ≠ 0) (h1 : j ≠ 1) (h3 : j ≠ 3) (h4 : j ≠ 4) (h5 : j ≠ 5) : ECs C (w.setCell ⟨C, j, none⟩ v) e := by
  have hc : ∀ i, i ≠ j → (w.setCell ⟨C, j, none⟩ v).cell? ⟨C, i, none⟩ = w.cell? ⟨C, i, none⟩ := fun i hi => World.cell?_setCell_other w _ _ _ (fun h => by injection h with _ h2; exact hi h2.symm)
  refine ⟨by simpa [World.setCell] using h.lt, (hc 0 h0.symm).trans h.c0, (hc 1 h1.symm).trans h.c1, ?_, (hc 4 h4.symm).trans h.c4, (hc 5 h5.symm).trans h.c5, fun i hi => ?_⟩
  · rw [hc 3 h3.symm]; exact h.c3
  · rw [World.frozen?_setCell]; exact h.f i hi
theorem EFl.kept {σ : Wm.St} (h : EFl C w lab σ) (hC : C < w.heap.size) (hk : Kept w w' T) (hT : ¬ T C) (hl : ∀ k, k < w.heap.size → lab k = 2 → ¬ T k ∧ lab' k = 2) : EFl C w' lab' σ := by
  obtain ⟨D, G, h1, h2, h3, h4⟩ := h
  have hG : ∀ B, G = some B → B < w.heap.size := fun B hB => h2.tlt (Or.inr hB)
  exact ⟨D, G, (hk.cell (p := ⟨C, 2, none⟩) hC hT).trans h1, h2.kept hk (hl D h2.lt h3).1 (fun B hB => (hl B (hG B hB) (h4 B hB)).1), (hl D h2.lt h3).2, fun B hB => (hl B (hG B hB) (h4 B hB)).2⟩
theorem ETm.kept {a b : Bool} (h : ETm C w lab a b) (hC : C < w.heap.size) (hk : Kept w w' T) (hT : ¬ T C) (hl : ∀ k, k < w.heap.size → lab k = 3 → ¬ T k ∧ lab' k = 3) : ETm C w' lab' a b := by
  obtain ⟨M, h1, h2, h3⟩ := h
  exact ⟨M, (hk.cell (p := ⟨C, 7, none⟩) hC hT).trans h1, h2.kept hk (hl M h2.lt h3).1, (hl M h2.lt h3).2⟩
theorem EUn.kept {L : List ByteArray} (h : EUn C w lab L) (hC : C < w.heap.size) (hk : Kept w w' T) (hT : ¬ T C) (hl : ∀ k, k < w.heap.size → lab k = 4 → ¬ T k ∧ lab' k = 4) : EUn C w' lab' L := by
  obtain ⟨a, cap, U, h1, h2, h3⟩ := h
  exact ⟨a, cap, U, (hk.cell (p := ⟨C, 6, none⟩) hC hT).trans h1, h2.kept hk (fun B hB => (hl B (h2.lt hB) (h3 B hB)).1), fun B hB => (hl B (h2.lt hB) (h3 B hB)).2⟩
theorem owns_blt {base : Nat} {ty : TypeId} {sz : Nat} {v : Value} {n : Nat} {xs : List Value} (h : w.ownsRow base ty sz v n xs) {B : Nat} (hB : v.ownBlock = some B) : B < w.heap.size := by
  rcases h.2 with ⟨rfl, _⟩ | ⟨g, cap, cur, rfl, _, hgg, _⟩
  · cases hB
  · have : g = B := by simpa [Value.ownBlock] using hB
    subst this
    exact (Array.getElem?_eq_some_iff.1 hgg).1
theorem ETo.kept {l : List Em.Eff} (h : ETo C w lab l) (hC : C < w.heap.size) (hk : Kept w w' T) (hT : ¬ T C) (hl : ∀ k, k < w.heap.size → lab k = 5 → ¬ T k ∧ lab' k = 5) : ETo C w' lab' l := by
  obtain ⟨a, cap, h1, h2, h3⟩ := h
  exact ⟨a, cap, (hk.cell (p := ⟨C, 8, none⟩) hC hT).trans h1, hk.owns h2 (fun B hB => (hl B (owns_blt h2 hB) (h3 B hB)).1), fun B hB => (hl B (owns_blt h2 hB) (h3 B hB)).2⟩
/-- all of it -/
theorem En.kept (h : En C w lab e) (hk : Kept w w' T) (hT : ∀ k, k < w.heap.size → lab k ≠ 0 → ¬ T k) (hl : ∀ k, k < w.heap.size → lab' k = lab k) : En C w' lab' e := by
  have hC : ¬ T C := hT C h.cs.lt (by rw [h.lC]; decide)
  have hx : ∀ l, l ≠ 0 → ∀ k, k < w.heap.size → lab k = l → ¬ T k ∧ lab' k = l := fun l h0 k hlt he => ⟨hT k hlt (by rw [he]; exact h0), by rw [hl k hlt]; exact he⟩
  exact ⟨h.cs.kept hk hC, by rw [hl C h.cs.lt]; exact h.lC, h.fl.kept h.cs.lt hk hC (hx 2 (by decide)), h.tm.kept h.cs.lt hk hC (hx 3 (by decide)), h.un.kept h.cs.lt hk hC (hx 4 (by decide)), h.to.kept h.cs.lt hk hC (hx 5 (by decide))⟩
theorem En.below (h : En C w lab e) (hb : Below w.heap.size w w') : En C w' lab e :=
  h.kept (T := fun _ => False) (Kept.of_below hb (fun k hk h' => by omega)) (fun _ _ _ x => x) (fun _ _ => rfl)
theorem En.relab (h : En C w lab e) (hl : ∀ k, k < w.heap.size → lab' k = lab k) : En C w lab' e :=
  h.kept (T := fun _ => False) (Kept.refl w _) (fun _ _ _ x => x) hl
theorem En.same (h : En C w lab e) (hb : Below w.heap.size w w') : Mv (En C) w w' lab e :=
  ⟨lab, h.below hb, Kept.of_below hb (fun k hk h' => by omega), fun _ _ => rfl⟩
theorem Mv.ahead {w1 w2 : World} {C : Nat} (hb : Below w.heap.size w w1) (h : Mv (En C) w1 w2 lab e) : Mv (En C) w w2 lab e :=
  Mv.on (Kept.of_below hb (fun k hk h' => by omega)) (fun _ _ => rfl) h
theorem Mv.then {w1 w2 : World} {C : Nat} (h : Mv (En C) w w1 lab e) (hb : Below w1.heap.size w1 w2) : Mv (En C) w w2 lab e :=
  h.trans fun lab1 h1 => h1.same hb

/-! ### stores into its own cells -/
theorem kept_cell (w : World) (C j : Nat) (v : Value) : Kept w (w.setCell ⟨C, j, none⟩ v) (fun k => k = C) := (Kept.refl w (fun k => k = C)).setCell (p := ⟨C, j, none⟩) (fun _ => rfl) _
theorem cell_oth (w : World) (C : Nat) {i j : Nat} (h : i ≠ j) (v : Value) : (w.setCell ⟨C, j, none⟩ v).cell? ⟨C, i, none⟩ = w.cell? ⟨C, i, none⟩ := World.cell?_setCell_other w _ _ _ (fun h' => by injection h' with _ h2; exact h h2.symm)
theorem EFl.oth {σ : Wm.St} (h : EFl C w lab σ) (hl : lab C = 1) (j : Nat) (hj : j ≠ 2) (v : Value) : EFl C (w.setCell ⟨C, j, none⟩ v) lab σ := by
  obtain ⟨D, G, h1, h2, h3, h4⟩ := h
  exact ⟨D, G, (cell_oth w C (Ne.symm hj) v).trans h1, h2.kept (kept_cell w C j v) (fun x => by subst x; omega) (fun B hB x => by subst x; have := h4 _ hB; omega), h3, h4⟩
theorem ETm.oth {a b : Bool} (h : ETm C w lab a b) (hl : lab C = 1) (j : Nat) (hj : j ≠ 7) (v : Value) : ETm C (w.setCell ⟨C, j, none⟩ v) lab a b := by
  obtain ⟨M, h1, h2, h3⟩ := h
  exact ⟨M, (cell_oth w C (Ne.symm hj) v).trans h1, h2.kept (kept_cell w C j v) (fun x => by subst x; omega), h3⟩
theorem EUn.oth {L : List ByteArray} (h : EUn C w lab L) (hl : lab C = 1) (j : Nat) (hj : j ≠ 6) (v : Value) : EUn C (w.setCell ⟨C, j, none⟩ v) lab L := by
  obtain ⟨a, cap, U, h1, h2, h3⟩ := h
  exact ⟨a, cap, U, (cell_oth w C (Ne.symm hj) v).trans h1, h2.kept (kept_cell w C j v) (fun B hB x => by subst x; have := h3 _ hB; omega), h3⟩
theorem ETo.oth {l : List Em.Eff} (h : ETo C w lab l) (hl : lab C = 1) (j : Nat) (hj : j ≠ 8) (v : Value) : ETo C (w.setCell ⟨C, j, none⟩ v) lab l := by
  obtain ⟨a, cap, h1, h2, h3⟩ := h
  exact ⟨a, cap, (cell_oth w C (Ne.symm hj) v).trans h1, (kept_cell w C j v).owns h2 (fun B hB x => by subst x; have := h3 _ hB; omega), h3⟩
theorem En.oth2 (h : En C w lab e) (j : Nat) (hj : j ≠ 2) (v : Value) : EFl C (w.setCell ⟨C, j, none⟩ v) lab e.fl := h.fl.oth h.lC j hj v
theorem En.oth7 (h : En C w lab e) (j : Nat) (hj : j ≠ 7) (v : Value) : ETm C (w.setCell ⟨C, j, none⟩ v) lab e.t200 e.t203 := h.tm.oth h.lC j hj v
theorem En.oth6 (h : En C w lab e) (j : Nat) (hj : j ≠ 6) (v : Value) : EUn C (w.setCell ⟨C, j, none⟩ v) lab e.units := h.un.oth h.lC j hj v
theorem En.oth8 (h : En C w lab e) (j : Nat) (hj : j ≠ 8) (v : Value) : ETo C (w.setCell ⟨C, j, none⟩ v) lab e.out := h.to.oth h.lC j hj v
theorem cell_same' (h : En C w lab e) {j : Nat} {u : Value} (hu : w.cell? ⟨C, j, none⟩ = some u) (v : Value) : (w.setCell ⟨C, j, none⟩ v).cell? ⟨C, j, none⟩ = some v :=
  World.cell?_setCell_same' w ⟨C, j, none⟩ _ (by rw [hu]; rfl)
theorem En.moved {e' : Em.St} {j : Nat} {v : Value} (h : En C w lab e) (h' : En C (w.setCell ⟨C, j, none⟩ v) lab e') : Mv (En C) w (w.setCell ⟨C, j, none⟩ v) lab e' :=
  ⟨lab, h', (kept_cell w C j v).mono (fun k _ x => by subst x; rw [h.lC]; decide), fun _ _ => rfl⟩
theorem En.setState (h : En C w lab e) (s : Int) : Mv (En C) w (w.setCell ⟨C, 0, none⟩ (.int .i64 s)) lab { e with state := s } :=
  h.moved ⟨⟨by simpa [World.setCell] using h.cs.lt, cell_same' h h.cs.c0 _, (cell_oth w C (by decide) _).trans h.cs.c1, by rw [cell_oth w C (by decide) _]; exact h.cs.c3, (cell_oth w C (by decide) _).trans h.cs.c4, (cell_oth w C (by decide) _).trans h.cs.c5, fun i hi => by rw [World.frozen?_setCell]; exact h.cs.f i hi⟩, h.lC, h.oth2 0 (by decide) _, h.oth7 0 (by decide) _, h.oth6 0 (by decide) _, h.oth8 0 (by decide) _⟩
theorem En.setTei (h : En C w lab e) (s : Int) : Mv (En C) w (w.setCell ⟨C, 1, none⟩ (.int .i64 s)) lab { e with tei := s } :=
  h.moved ⟨⟨by simpa [World.setCell] using h.cs.lt, (cell_oth w C (by decide) _).trans h.cs.c0, cell_same' h h.cs.c1 _, by rw [cell_oth w C (by decide) _]; exact h.cs.c3, (cell_oth w C (by decide) _).trans h.cs.c4, (cell_oth w C (by decide) _).trans h.cs.c5, fun i hi => by rw [World.frozen?_setCell]; exact h.cs.f i hi⟩, h.lC, h.oth2 1 (by decide) _, h.oth7 1 (by decide) _, h.oth6 1 (by decide) _, h.oth8 1 (by decide) _⟩
theorem En.setTries (h : En C w lab e) (s : Int) : Mv (En C) w (w.setCell ⟨C, 4, none⟩ (.int .i64 s)) lab { e with tries := s } :=
  h.moved ⟨⟨by simpa [World.setCell] using h.cs.lt, (cell_oth w C (by decide) _).trans h.cs.c0, (cell_oth w C (by decide) _).trans h.cs.c1, by rw [cell_oth w C (by decide) _]; exact h.cs.c3, cell_same' h h.cs.c4 _, (cell_oth w C (by decide) _).trans h.cs.c5, fun i hi => by rw [World.frozen?_setCell]; exact h.cs.f i hi⟩, h.lC, h.oth2 4 (by decide) _, h.oth7 4 (by decide) _, h.oth6 4 (by decide) _, h.oth8 4 (by decide) _⟩
theorem En.setAsked (h : En C w lab e) (s : Bool) : Mv (En C) w (w.setCell ⟨C, 5, none⟩ (.bool s)) lab { e with asked := s } :=
  h.moved ⟨⟨by simpa [World.setCell] using h.cs.lt, (cell_oth w C (by decide) _).trans h.cs.c0, (cell_oth w C (by decide) _).trans h.cs.c1, by rw [cell_oth w C (by decide) _]; exact h.cs.c3, (cell_oth w C (by decide) _).trans h.cs.c4, cell_same' h h.cs.c5 _, fun i hi => by rw [World.frozen?_setCell]; exact h.cs.f i hi⟩, h.lC, h.oth2 5 (by decide) _, h.oth7 5 (by decide) _, h.oth6 5 (by decide) _, h.oth8 5 (by decide) _⟩
theorem En.noUnits (h : En C w lab e) : Mv (En C) w (w.setCell ⟨C, 6, none⟩ (.slice none 0 0)) lab { e with units := [] } := by
  obtain ⟨a, cap, U, h1, h2, h3⟩ := h.un
  exact h.moved ⟨(h.cs.other 6 _ (by decide) (by decide) (by decide) (by decide) (by decide)).as rfl rfl rfl rfl rfl, h.lC, h.oth2 6 (by decide) _, h.oth7 6 (by decide) _, ⟨none, 0, none, cell_same' h h1 _, ⟨Nat.le_refl _, Nat.zero_le _, Or.inl ⟨rfl, rfl, rfl⟩⟩, fun B hB => by cases hB⟩, h.oth8 6 (by decide) _⟩
/-- all that it told is handed out -/
theorem En.handOut (h : En C w lab e) : Mv (En C) w (w.setCell ⟨C, 8, none⟩ (.slice none 0 0)) lab { e with out := [] } := by
  obtain ⟨a, cap, h1, h2, h3⟩ := h.to
  exact h.moved ⟨(h.cs.other 8 _ (by decide) (by decide) (by decide) (by decide) (by decide)).as rfl rfl rfl rfl rfl, h.lC, h.oth2 8 (by decide) _, h.oth7 8 (by decide) _, h.oth6 8 (by decide) _, ⟨none, 0, cell_same' h h1 _, World.ownsRow_nil _ _ _ _, fun B hB => by cases hB⟩⟩

/-! ### its flow, its timers, what it tells -/
theorem En.flow (h : En C w lab e) : ∃ D G, w.cell? ⟨C, 2, none⟩ = some (.pointer (some ⟨D, 0, none⟩)) ∧ D < w.heap.size ∧ Fl w D G e.fl ∧ ∀ w' σ', Mvf w w' D G σ' → Mv (En C) w w' lab { e with fl := σ' } := by
  obtain ⟨D, G, h1, h2, h3, h4⟩ := h.fl
  have hlC := h.lC
  refine ⟨D, G, h1, h2.lt, h2, fun w' σ' hm => ?_⟩
  obtain ⟨G', hq, hk, hf⟩ := hm
  have hG : ∀ B, G = some B → B < w.heap.size := fun B hB => h2.tlt (Or.inr hB)
  have hT : ∀ k, k < w.heap.size → qtch D G k → lab k = 2 := by
    rintro k hlt (rfl | hx)
    · exact h3
    · exact h4 k hx
  have hC : ¬ qtch D G C := fun x => by have := hT C h.cs.lt x; omega
  have hx : ∀ l, l ≠ 2 → ∀ k, k < w.heap.size → lab k = l → ¬ qtch D G k ∧ fresh lab w.heap.size 2 k = l := fun l hl k hlt he => ⟨fun x => hl (by rw [← he]; exact hT k hlt x), by rw [fresh_old hlt]; exact he⟩
  refine ⟨fresh lab w.heap.size 2, ⟨(h.cs.kept hk hC).as rfl rfl rfl rfl rfl, by rw [fresh_old h.cs.lt]; exact hlC, ⟨D, G', (hk.cell (p := ⟨C, 2, none⟩) h.cs.lt hC).trans h1, hq, by rw [fresh_old h2.lt]; exact h3, fun B hB => ?_⟩, h.tm.kept h.cs.lt hk hC (hx 3 (by decide)), h.un.kept h.cs.lt hk hC (hx 4 (by decide)), h.to.kept h.cs.lt hk hC (hx 5 (by decide))⟩, hk.mono (fun k hlt x => by rw [hT k hlt x]; decide), fun k hlt => fresh_old hlt⟩
  rcases hf B hB with h' | h'
  · rw [fresh_old (hG B h')]; exact h4 B h'
  · exact fresh_new h'
theorem En.timer (h : En C w lab e) : ∃ M, w.cell? ⟨C, 7, none⟩ = some (.map (some M)) ∧ M < w.heap.size ∧ TmIs w M e.t200 e.t203 ∧ ∀ w' a b, TmIs w' M a b → Kept w w' (fun k => k = M) → Mv (En C) w w' lab { e with t200 := a, t203 := b } := by
  obtain ⟨M, h1, h2, h3⟩ := h.tm
  have hlC := h.lC
  refine ⟨M, h1, h2.lt, h2, fun w' a b ht hk => ?_⟩
  have hC : ¬ C = M := fun x => by subst x; omega
  have hx : ∀ l, l ≠ 3 → ∀ k, k < w.heap.size → lab k = l → ¬ k = M ∧ lab k = l := fun l hl k hlt he => ⟨fun x => hl (by rw [← he, x]; exact h3), he⟩
  exact ⟨lab, ⟨(h.cs.kept hk hC).as rfl rfl rfl rfl rfl, hlC, h.fl.kept h.cs.lt hk hC (hx 2 (by decide)), ⟨M, (hk.cell (p := ⟨C, 7, none⟩) h.cs.lt hC).trans h1, ht, h3⟩, h.un.kept h.cs.lt hk hC (hx 4 (by decide)), h.to.kept h.cs.lt hk hC (hx 5 (by decide))⟩, hk.mono (fun k hlt x => by show lab k ≠ 0; rw [x, h3]; decide), fun _ _ => rfl⟩
theorem En.told {w1 : World} (h : En C w lab e) (x : Em.Eff) {a : Option Addr} {cap : Nat} (h1 : w.cell? ⟨C, 8, none⟩ = some (.slice a e.out.length cap)) (hlb : ∀ B, (Value.slice a e.out.length cap).ownBlock = some B → lab B = 5)
    (hk : Kept w w1 (fun k => (Value.slice a e.out.length cap).ownBlock = some k)) {g cap' : Nat} (ho : w1.ownsRow 0 57 11 (.slice (some ⟨g, 0, none⟩) (e.out.length + 1) cap') (e.out.length + 1) (effsL e.out ++ effL x))
    (hat : (Value.slice a e.out.length cap).ownBlock = some g ∨ w.heap.size ≤ g) (hg : g < w1.heap.size) : Mv (En C) w (w1.setCell ⟨C, 8, none⟩ (.slice (some ⟨g, 0, none⟩) (e.out.length + 1) cap')) lab (Em.add e x) := by
  have hlC := h.lC
  have hC : ¬ (Value.slice a e.out.length cap).ownBlock = some C := fun hx => by have := hlb C hx; omega
  have hx : ∀ l, l ≠ 5 → ∀ k, k < w.heap.size → lab k = l → ¬ (Value.slice a e.out.length cap).ownBlock = some k ∧ fresh lab w.heap.size 5 k = l := fun l hl k hlt he => ⟨fun hx => hl (by rw [← he]; exact hlb k hx), by rw [fresh_old hlt]; exact he⟩
  have hl' : fresh lab w.heap.size 5 C = 1 := by rw [fresh_old h.cs.lt]; exact hlC
  have hgl : fresh lab w.heap.size 5 g = 5 := by
    rcases Nat.lt_or_ge g w.heap.size with hlt | hge
    · rw [fresh_old hlt]
      rcases hat with h' | h'
      · exact hlb g h'
      · omega
    · exact fresh_new hge
  have hgC : g ≠ C := fun hx => by subst hx; rw [hl'] at hgl; omega
  have hcs := h.cs.kept hk hC
  refine ⟨fresh lab w.heap.size 5, ⟨(hcs.other 8 _ (by decide) (by decide) (by decide) (by decide) (by decide)).as rfl rfl rfl rfl rfl, hl', (h.fl.kept h.cs.lt hk hC (hx 2 (by decide))).oth hl' 8 (by decide) _, (h.tm.kept h.cs.lt hk hC (hx 3 (by decide))).oth hl' 8 (by decide) _, (h.un.kept h.cs.lt hk hC (hx 4 (by decide))).oth hl' 8 (by decide) _, ?_⟩, ?_, fun k hlt => fresh_old hlt⟩
  · refine ⟨some ⟨g, 0, none⟩, cap', ?_, ?_, ?_⟩
    · have hlen : (Em.add e x).out.length = e.out.length + 1 := by simp [Em.add]
      rw [hlen]
      exact World.cell?_setCell_same' w1 ⟨C, 8, none⟩ _ (by rw [hk.cell (p := ⟨C, 8, none⟩) h.cs.lt hC, h1]; rfl)
    · have hlen : (Em.add e x).out.length = e.out.length + 1 := by simp [Em.add]
      rw [hlen]
      have ho' : w1.ownsRow 0 57 11 (.slice (some ⟨g, 0, none⟩) (e.out.length + 1) cap') (e.out.length + 1) (effsL (Em.add e x).out) := by
        have he : effsL (Em.add e x).out = effsL e.out ++ effL x := (effsL_snoc _ _).symm
        rw [he]; exact ho
      exact (kept_cell w1 C 8 _).owns ho' (fun B hB hx => hgC ((show g = B by simpa [Value.ownBlock] using hB).trans hx))
    · intro B hB
      have : g = B := by simpa [Value.ownBlock] using hB
      rw [← this]; exact hgl
  · exact ((hk.mono (T' := fun k => lab k ≠ 0) (fun k _ hx => by rw [hlb k hx]; decide)).trans (kept_cell w1 C 8 _) (fun k _ hx => by show lab k ≠ 0; rw [hx, hlC]; decide))
end
end Go.Proofs.YtidemohpngkedabGreatDoor
