/-
  The walk of layer 14's frames: the program's and the document's frame. Nothing that was there is turned.
  The law's function 'frameOf': the frame of an act.
-/
import Derived.Test.YtidemohpngkedabGreatDoorCell8
import Derived.Test.YtidemohpngkedabGreatDoorRegionVals
import Derived.Test.YtidemohpngkedabGreatDoorEntPair
import Derived.Test.YtidemohpngkedabGreatDoorEntEffs
import Derived.Laws.Bits128
import Derived.Test.YtidemohpngkedabGreatDoorActE
namespace Go.Proofs.YtidemohpngkedabGreatDoor
open Go.RowKit
set_option linter.unusedVariables false
set_option linter.unusedSimpArgs false

theorem frames_world (w : World) (sapi tei : Int) (c : Bool) (k : Int) (pf : Bool) (ns nr : Int) (info : ByteArray) (X Y Z : Obj) (a b : TypeId) (hX : X = .cells #[.int .i64 sapi, .int .i64 tei, .bool c, .int .i64 k, .bool pf, .int .i64 ns, .int .i64 nr, .string info] a)
    (hY : ∃ t, Y = .cells #[.int .i64 0, .int .i64 0, .bool false, .int .i64 0, .bool false, .int .i64 0, .int .i64 0, .string ⟨#[]⟩] t) (hZ : ∃ t, Z = .cells #[.int .i64 0, .int .i64 0, .bool false, .int .i64 0, .bool false, .int .i64 0, .int .i64 0, .string ⟨#[]⟩] t) :
    FrC (((w.alloc X).alloc Y).alloc Z) w.heap.size sapi tei c k pf ns nr info ∧ Eight (((w.alloc X).alloc Y).alloc Z) (w.heap.size + 1) ∧ Eight (((w.alloc X).alloc Y).alloc Z) (w.heap.size + 1 + 1) ∧ (((w.alloc X).alloc Y).alloc Z).heap.size = w.heap.size + 3 ∧ Below w.heap.size w (((w.alloc X).alloc Y).alloc Z) := by
  subst hX
  obtain ⟨t, rfl⟩ := hY
  obtain ⟨t', rfl⟩ := hZ
  have s1 : ∀ (v : World) (o : Obj), (v.alloc o).heap.size = v.heap.size + 1 := by intro v o; simp
  refine ⟨((frc_new w sapi tei c k pf ns nr info a).later ((Below.refl _ _).alloc (Nat.le_refl _) _)).later ((Below.refl _ _).alloc (Nat.le_refl _) _), ?_, ?_, by rw [s1, s1, s1], (((Below.refl _ _).alloc (Nat.le_refl _) _).alloc (by rw [s1]; omega) _).alloc (by rw [s1, s1]; omega) _⟩
  · have := (eight_new (w.alloc (.cells #[.int .i64 sapi, .int .i64 tei, .bool c, .int .i64 k, .bool pf, .int .i64 ns, .int .i64 nr, .string info] a)) (.int .i64 0) (.int .i64 0) (.bool false) (.int .i64 0) (.bool false) (.int .i64 0) (.int .i64 0) (.string ⟨#[]⟩) t).later ((Below.refl _ _).alloc (Nat.le_refl _) (.cells #[.int .i64 0, .int .i64 0, .bool false, .int .i64 0, .bool false, .int .i64 0, .int .i64 0, .string ⟨#[]⟩] t'))
    rw [s1] at this; exact this
  · have := eight_new ((w.alloc (.cells #[.int .i64 sapi, .int .i64 tei, .bool c, .int .i64 k, .bool pf, .int .i64 ns, .int .i64 nr, .string info] a)).alloc (.cells #[.int .i64 0, .int .i64 0, .bool false, .int .i64 0, .bool false, .int .i64 0, .int .i64 0, .string ⟨#[]⟩] t)) (.int .i64 0) (.int .i64 0) (.bool false) (.int .i64 0) (.bool false) (.int .i64 0) (.int .i64 0) (.string ⟨#[]⟩) t'
    rw [s1, s1] at this; exact this


theorem drew_below (w : World) : Below w.heap.size w w.drew := (Below.refl _ _).drew
/-! ### the region of 'frames': what each operation does -/
theorem run_fa {ρ : Operand → Value} {o : Oper} {x : Operand} {L : Nat} (k : Nat) (hk : k < 8) (hop : o.op = .fieldAddr 32 x k) (hx : ρ x = .pointer (some ⟨L, 0, none⟩)) (w : World) : (execOp ρ o).run Tryz.prog w = .ok (.value (.pointer (some ⟨L, k, none⟩))) w := by
  unfold execOp
  rcases eight_cases k hk with rfl | rfl | rfl | rfl | rfl | rfl | rfl | rfl
  all_goals
    simp only [hop, hx]
    go_simp
theorem run_ldi {ρ : Operand → Value} {o : Oper} {x : Operand} {L k : Nat} {v : Int} {w : World} (hop : o.op = .load 3 x) (hx : ρ x = .pointer (some ⟨L, k, none⟩)) (hc : w.cell? ⟨L, k, none⟩ = some (.int .i64 v)) : (execOp ρ o).run Tryz.prog w = .ok (.value (.int .i64 v)) w := by
  unfold execOp
  simp only [hop, hx]
  go_simp
theorem run_ldb {ρ : Operand → Value} {o : Oper} {x : Operand} {L k : Nat} {v : Bool} {w : World} (hop : o.op = .load 4 x) (hx : ρ x = .pointer (some ⟨L, k, none⟩)) (hc : w.cell? ⟨L, k, none⟩ = some (.bool v)) : (execOp ρ o).run Tryz.prog w = .ok (.value (.bool v)) w := by
  unfold execOp
  simp only [hop, hx]
  go_simp
theorem run_lds {ρ : Operand → Value} {o : Oper} {x : Operand} {L k : Nat} {v : ByteArray} {w : World} (hop : o.op = .load 9 x) (hx : ρ x = .pointer (some ⟨L, k, none⟩)) (hc : w.cell? ⟨L, k, none⟩ = some (.string v)) : (execOp ρ o).run Tryz.prog w = .ok (.value (.string v)) w := by
  unfold execOp
  simp only [hop, hx]
  go_simp
theorem run_build2 {ρ : Operand → Value} {o : Oper} {x y : Operand} {a b : Int} (hop : o.op = .build 46 #[(0, x), (1, y)]) (hx : ρ x = .int .i64 a) (hy : ρ y = .int .i64 b) (w : World) : (execOp ρ o).run Tryz.prog w = .ok (.value (.agg #[.int .i64 a, .int .i64 b])) w := by
  unfold execOp
  simp only [hop, hx, hy]
  go_simp
theorem run_build8 {ρ : Operand → Value} {o : Oper} {x1 x2 x3 x4 x5 x6 x7 : Operand} {sapi tei : Int} {c : Bool} {k : Int} {pf : Bool} {ns nr : Int} {info : ByteArray} (hop : o.op = .build 49 #[(0, x1), (1, x2), (2, x3), (3, x4), (4, x5), (5, x6), (6, x7)])
    (h1 : ρ x1 = .agg #[.int .i64 sapi, .int .i64 tei]) (h2 : ρ x2 = .bool c) (h3 : ρ x3 = .int .i64 k) (h4 : ρ x4 = .bool pf) (h5 : ρ x5 = .int .i64 ns) (h6 : ρ x6 = .int .i64 nr) (h7 : ρ x7 = .string info) (w : World) : (execOp ρ o).run Tryz.prog w = .ok (.value (frA sapi tei c k pf ns nr info)) w := by
  unfold execOp frA
  simp only [hop, h1, h2, h3, h4, h5, h6, h7]
  go_simp
theorem run_ld8 {ρ : Operand → Value} {o : Oper} {x : Operand} {L : Nat} {sapi tei : Int} {c : Bool} {k : Int} {pf : Bool} {ns nr : Int} {info : ByteArray} {w : World} (hop : o.op = .load 32 x) (hx : ρ x = .pointer (some ⟨L, 0, none⟩)) (hc : FrC w L sapi tei c k pf ns nr info) : (execOp ρ o).run Tryz.prog w = .ok (.value (frA sapi tei c k pf ns nr info)) w := by
  obtain ⟨hlt, c0, c1, c2, c3, c4, c5, c6, c7⟩ := hc
  unfold execOp frA
  simp only [hop, hx]
  go_simp
theorem run_st8 {ρ : Operand → Value} {o : Oper} {x y : Operand} {B : Nat} {sapi tei : Int} {c : Bool} {k : Int} {pf : Bool} {ns nr : Int} {info : ByteArray} {w : World} (hop : o.op = .store 49 x y ∨ o.op = .store 50 x y) (hx : ρ x = .pointer (some ⟨B, 0, none⟩)) (hy : ρ y = frA sapi tei c k pf ns nr info) (hE : Eight w B) :
    (execOp ρ o).run Tryz.prog w = .ok .skip (set8 w B (.int .i64 sapi) (.int .i64 tei) (.bool c) (.int .i64 k) (.bool pf) (.int .i64 ns) (.int .i64 nr) (.string info)) := by
  obtain ⟨v0, v1, v2, v3, v4, v5, v6, v7, c0, c1, c2, c3, c4, c5, c6, c7, f0, f1, f2, f3, f4, f5, f6, f7⟩ := hE.parts
  unfold frA at hy
  unfold execOp set8
  rcases hop with hop | hop
  all_goals
    simp only [hop, hx, hy]
    go_simp
/-- the world while the region runs: the argument, the two results -/
structure FramesJ (w0 : World) (sapi tei : Int) (c : Bool) (k : Int) (pf : Bool) (ns nr : Int) (info : ByteArray) (l : Array Bool) (w : World) : Prop where
  arg : FrC w w0.heap.size sapi tei c k pf ns nr info
  e1 : Eight w (w0.heap.size + 1)
  e2 : Eight w (w0.heap.size + 1 + 1)
  bel : Below w0.heap.size w0 w
  i1 : l.getD 19 false = true → Is8 w (w0.heap.size + 1) (.int .i64 sapi) (.int .i64 tei) (.bool c) (.int .i64 k) (.bool pf) (.int .i64 ns) (.int .i64 nr) (.string info)
  i2 : l.getD 20 false = true → Is8 w (w0.heap.size + 1 + 1) (.int .i64 sapi) (.int .i64 tei) (.bool c) (.int .i64 k) (.bool pf) (.int .i64 ns) (.int .i64 nr) (.string info)

theorem FramesJ.keep {w0 : World} {sapi tei : Int} {c : Bool} {k : Int} {pf : Bool} {ns nr : Int} {info : ByteArray} {l : Array Bool} {w : World} (h : FramesJ w0 sapi tei c k pf ns nr info l w) {i : Nat} (hi : i < 19) : FramesJ w0 sapi tei c k pf ns nr info (l.setIfInBounds i true) w :=
  ⟨h.arg, h.e1, h.e2, h.bel, fun hl => h.i1 ((set_listed hl).resolve_left (by omega)), fun hl => h.i2 ((set_listed hl).resolve_left (by omega))⟩

def framesDst : Nat → Option Nat
  | 19 => none | 20 => none | i => some (4 + i)
def framesVal (L : Nat) (sapi tei : Int) (c : Bool) (k : Int) (pf : Bool) (ns nr : Int) (info : ByteArray) : Nat → Value
  | 0 => .pointer (some ⟨L, 0, none⟩) | 1 => .int .i64 sapi | 2 => .pointer (some ⟨L, 1, none⟩) | 3 => .int .i64 tei | 4 => .agg #[.int .i64 sapi, .int .i64 tei]
  | 5 => .pointer (some ⟨L, 2, none⟩) | 6 => .bool c | 7 => .pointer (some ⟨L, 3, none⟩) | 8 => .int .i64 k | 9 => .pointer (some ⟨L, 4, none⟩) | 10 => .bool pf
  | 11 => .pointer (some ⟨L, 5, none⟩) | 12 => .int .i64 ns | 13 => .pointer (some ⟨L, 6, none⟩) | 14 => .int .i64 nr | 15 => .pointer (some ⟨L, 7, none⟩) | 16 => .string info
  | 17 => frA sapi tei c k pf ns nr info | 18 => frA sapi tei c k pf ns nr info | _ => undef
theorem framesDst_inj : ∀ i j d, i < 21 → j < 21 → framesDst i = some d → framesDst j = some d → i = j := by
  have h : ∀ i < 21, ∀ j < 21, framesDst i = framesDst j → framesDst i ≠ none → i = j := by decide
  intro i j d hi hj h1 h2
  exact h i hi j hj (h1.trans h2.symm) (by rw [h1]; simp)
theorem framesDst_lt : ∀ i d, i < 21 → framesDst i = some d → d < 23 := by
  have h : ∀ i < 21, ∀ d, framesDst i = some d → d < 23 := by
    intro i hi d hd
    match i, hi, hd with
    | 19, _, hd => cases hd
    | 20, _, hd => cases hd
    | 0, _, hd | 1, _, hd | 2, _, hd | 3, _, hd | 4, _, hd | 5, _, hd | 6, _, hd | 7, _, hd | 8, _, hd | 9, _, hd | 10, _, hd | 11, _, hd | 12, _, hd | 13, _, hd | 14, _, hd | 15, _, hd | 16, _, hd | 17, _, hd | 18, _, hd => obtain rfl := Option.some.inj hd; decide
    | j + 21, hlt, _ => exact absurd hlt (by omega)
  intro i d hi hd
  exact h i hi d hd

set_option maxHeartbeats 2000000 in
set_option maxRecDepth 100000 in
theorem frames7_any (sapi tei : Int) (c : Bool) (k : Int) (pf : Bool) (ns nr : Int) (info : ByteArray) (w : World) :
    Calls Tryz.prog 17 #[.agg #[.int .i64 sapi, .int .i64 tei, .bool c, .int .i64 k, .bool pf, .int .i64 ns, .int .i64 nr, .string info]] w fun e w' =>
      e = .returned (.tuple #[frA sapi tei c k pf ns nr info, frA sapi tei c k pf ns nr info]) ∧ Below w.heap.size w w' := by
  obtain ⟨hC, hE1, hE2, hsz, hq⟩ := frames_world w sapi tei c k pf ns nr info (.cells #[.int .i64 sapi, .int .i64 tei, .bool c, .int .i64 k, .bool pf, .int .i64 ns, .int .i64 nr, .string info] 32)
    (.cells #[.int .i64 0, .int .i64 0, .bool false, .int .i64 0, .bool false, .int .i64 0, .int .i64 0, .string ⟨#[]⟩] 49) (.cells #[.int .i64 0, .int .i64 0, .bool false, .int .i64 0, .bool false, .int .i64 0, .int .i64 0, .string ⟨#[]⟩] 50) 32 0 rfl ⟨_, rfl⟩ ⟨_, rfl⟩
  go_enter Tryz.func17, Tryz.ntmps17
  go_wp2
  refine region_vals (by kernel_rfl) 21 rfl framesDst (framesVal w.heap.size sapi tei c k pf ns nr info) framesDst_inj ?hd ?hlow (FramesJ w sapi tei c k pf ns nr info) ?h0 ?hstep ?hdone
  case hd => exact framesDst_lt
  case hlow => kernel_rfl
  case h0 =>
    exact ⟨hC.later (drew_below _), hE1.later (drew_below _), hE2.later (drew_below _), hq.drew, fun h => by rw [rep_getD'] at h; exact absurd h (by decide), fun h => by rw [rep_getD'] at h; exact absurd h (by decide)⟩
  case hstep =>
    intro l a w1 i hi hJ hr hK
    have h1 : a.eval (.tmp 1) = .pointer (some ⟨w.heap.size, 0, none⟩) := hK.rest 1 (by decide)
    have h2 : a.eval (.tmp 2) = .pointer (some ⟨w.heap.size + 1, 0, none⟩) := hK.rest 2 (by decide)
    have h3 : a.eval (.tmp 3) = .pointer (some ⟨w.heap.size + 1 + 1, 0, none⟩) := hK.rest 3 (by decide)
    have got : ∀ j, j ∈ depsOf .any _ i → ∀ d, framesDst j = some d → j < 21 → a.eval (.tmp d) = framesVal w.heap.size sapi tei c k pf ns nr info j := fun j hj d hd hj' => hK.got j d hj' (ready_deps hr j hj) hd
    match i, hi, hr, got with
    | 0, _, hr, got => exact step_val rfl rfl (run_fa 0 (by decide) rfl h1 w1) rfl (hJ.keep (by decide))
    | 1, _, hr, got => exact step_val rfl rfl (run_ldi rfl (got 0 (by decide) 4 rfl (by decide)) hJ.arg.c0) rfl (hJ.keep (by decide))
    | 2, _, hr, got => exact step_val rfl rfl (run_fa 1 (by decide) rfl h1 w1) rfl (hJ.keep (by decide))
    | 3, _, hr, got => exact step_val rfl rfl (run_ldi rfl (got 2 (by decide) 6 rfl (by decide)) hJ.arg.c1) rfl (hJ.keep (by decide))
    | 4, _, hr, got => exact step_val rfl rfl (run_build2 rfl (got 1 (by decide) 5 rfl (by decide)) (got 3 (by decide) 7 rfl (by decide)) w1) rfl (hJ.keep (by decide))
    | 5, _, hr, got => exact step_val rfl rfl (run_fa 2 (by decide) rfl h1 w1) rfl (hJ.keep (by decide))
    | 6, _, hr, got => exact step_val rfl rfl (run_ldb rfl (got 5 (by decide) 9 rfl (by decide)) hJ.arg.c2) rfl (hJ.keep (by decide))
    | 7, _, hr, got => exact step_val rfl rfl (run_fa 3 (by decide) rfl h1 w1) rfl (hJ.keep (by decide))
    | 8, _, hr, got => exact step_val rfl rfl (run_ldi rfl (got 7 (by decide) 11 rfl (by decide)) hJ.arg.c3) rfl (hJ.keep (by decide))
    | 9, _, hr, got => exact step_val rfl rfl (run_fa 4 (by decide) rfl h1 w1) rfl (hJ.keep (by decide))
    | 10, _, hr, got => exact step_val rfl rfl (run_ldb rfl (got 9 (by decide) 13 rfl (by decide)) hJ.arg.c4) rfl (hJ.keep (by decide))
    | 11, _, hr, got => exact step_val rfl rfl (run_fa 5 (by decide) rfl h1 w1) rfl (hJ.keep (by decide))
    | 12, _, hr, got => exact step_val rfl rfl (run_ldi rfl (got 11 (by decide) 15 rfl (by decide)) hJ.arg.c5) rfl (hJ.keep (by decide))
    | 13, _, hr, got => exact step_val rfl rfl (run_fa 6 (by decide) rfl h1 w1) rfl (hJ.keep (by decide))
    | 14, _, hr, got => exact step_val rfl rfl (run_ldi rfl (got 13 (by decide) 17 rfl (by decide)) hJ.arg.c6) rfl (hJ.keep (by decide))
    | 15, _, hr, got => exact step_val rfl rfl (run_fa 7 (by decide) rfl h1 w1) rfl (hJ.keep (by decide))
    | 16, _, hr, got => exact step_val rfl rfl (run_lds rfl (got 15 (by decide) 19 rfl (by decide)) hJ.arg.c7) rfl (hJ.keep (by decide))
    | 17, _, hr, got => exact step_val rfl rfl (run_build8 rfl (got 4 (by decide) 8 rfl (by decide)) (got 6 (by decide) 10 rfl (by decide)) (got 8 (by decide) 12 rfl (by decide)) (got 10 (by decide) 14 rfl (by decide)) (got 12 (by decide) 16 rfl (by decide)) (got 14 (by decide) 18 rfl (by decide)) (got 16 (by decide) 20 rfl (by decide)) w1) rfl (hJ.keep (by decide))
    | 18, _, hr, got => exact step_val rfl rfl (run_ld8 rfl h1 hJ.arg) rfl (hJ.keep (by decide))
    | 19, _, hr, got =>
      refine step_skip rfl rfl (run_st8 (Or.inl rfl) h2 (got 17 (by decide) 21 rfl (by decide)) hJ.e1) rfl rfl ?_
      exact ⟨hJ.arg.kept (set8_block _ _ _ _ _ _ _ _ _ _ _ (by omega)) (by rw [set8_size]; exact Nat.le_refl _), set8_eight hJ.e1 _ _ _ _ _ _ _ _, hJ.e2.kept (set8_block _ _ _ _ _ _ _ _ _ _ _ (by omega)) (by rw [set8_size]; exact Nat.le_refl _), set8_below' hJ.bel (by omega) _ _ _ _ _ _ _ _, fun _ => set8_is hJ.e1 _ _ _ _ _ _ _ _, fun hl => (hJ.i2 ((set_listed hl).resolve_left (by decide))).kept (set8_block _ _ _ _ _ _ _ _ _ _ _ (by omega))⟩
    | 20, _, hr, got =>
      refine step_skip rfl rfl (run_st8 (Or.inr rfl) h3 (got 18 (by decide) 22 rfl (by decide)) hJ.e2) rfl rfl ?_
      exact ⟨hJ.arg.kept (set8_block _ _ _ _ _ _ _ _ _ _ _ (by omega)) (by rw [set8_size]; exact Nat.le_refl _), hJ.e1.kept (set8_block _ _ _ _ _ _ _ _ _ _ _ (by omega)) (by rw [set8_size]; exact Nat.le_refl _), set8_eight hJ.e2 _ _ _ _ _ _ _ _, set8_below' hJ.bel (by omega) _ _ _ _ _ _ _ _, fun hl => (hJ.i1 ((set_listed hl).resolve_left (by decide))).kept (set8_block _ _ _ _ _ _ _ _ _ _ _ (by omega)), fun _ => set8_is hJ.e2 _ _ _ _ _ _ _ _⟩
    | j + 21, hlt, _, _ => exact absurd hlt (by omega)
  case hdone =>
    intro l w' hall hJ
    obtain ⟨z0, z1, z2, z3, z4, z5, z6, z7⟩ := hJ.i1 (hall 19 (by decide))
    obtain ⟨y0, y1, y2, y3, y4, y5, y6, y7⟩ := hJ.i2 (hall 20 (by decide))
    have hbel := hJ.bel
    clear hall hJ hC hE1 hE2 hsz hq
    simp only [putsOf, framesDst, framesVal, Act.put, List.setIfInBounds_toArray, List.set_cons_zero, List.set_cons_succ]
    go_wp2
    exact bodyPost_ret (v := .tuple #[frA sapi tei c k pf ns nr info, frA sapi tei c k pf ns nr info]) (by simp [results, Tryz.results17, go_sem, frA, z0, z1, z2, z3, z4, z5, z6, z7, y0, y1, y2, y3, y4, y5, y6, y7]) rfl ⟨rfl, hbel⟩
end Go.Proofs.YtidemohpngkedabGreatDoor

namespace Go.Proofs.YtidemohpngkedabGreatDoor
open Go.RowKit
set_option linter.unusedVariables false
set_option maxRecDepth 100000
set_option linter.unusedSimpArgs false

def actL (q : ActE) : List Value := [.int .i64 q.d, .int .i64 q.ask, .int .i64 q.timer, .int .i64 q.tei, .string q.data, .int .i64 q.f.sapi, .int .i64 q.f.tei, .bool q.f.c, .int .i64 q.f.k, .bool q.f.pf, .int .i64 q.f.ns, .int .i64 q.f.nr, .string q.f.info, .bool q.near, .int .i64 q.n, .int .i64 q.m]
def frmL (f : Em.Fr) : List Value := [.int .i64 f.sapi, .int .i64 f.tei, .bool f.c, .int .i64 f.k, .bool f.pf, .int .i64 f.ns, .int .i64 f.nr, .string f.info]
section
variable {ρ : Operand → Value} {o : Oper} {L B : Nat}
theorem runo_fa {x : Operand} (k off : Nat) (hk : (k = 7 ∧ off = 14) ∨ (k = 8 ∧ off = 15)) (hop : o.op = .fieldAddr 34 x k) (hx : ρ x = .pointer (some ⟨L, 0, none⟩)) (w : World) : (execOp ρ o).run Tryz.prog w = .ok (.value (.pointer (some ⟨L, off, none⟩))) w := by
  unfold execOp
  rcases hk with ⟨rfl, rfl⟩ | ⟨rfl, rfl⟩
  all_goals
    simp only [hop, hx]
    go_simp
theorem runo_ff {x : Operand} (k : Nat) (hk : k = 5 ∨ k = 6) (hop : o.op = .fieldAddr 32 x k) (hx : ρ x = .pointer (some ⟨B, 0, none⟩)) (w : World) : (execOp ρ o).run Tryz.prog w = .ok (.value (.pointer (some ⟨B, k, none⟩))) w := by
  unfold execOp
  rcases hk with rfl | rfl
  all_goals
    simp only [hop, hx]
    go_simp
theorem runo_and {x y : Operand} {n : Int} (hop : o.op = .binOp .and 3 x y 3) (hx : ρ x = .int .i64 n) (hy : ρ y = .int .i64 127) (w : World) : (execOp ρ o).run Tryz.prog w = .ok (.value (.int .i64 (n % 128))) w := by
  unfold execOp
  simp only [hop, hx, hy]
  go_simp
  try rw [i64_and127]
theorem runo_add {x y : Operand} {v n : Int} (hop : o.op = .binOp .add 3 x y 3) (hx : ρ x = .int .i64 v) (hy : ρ y = .int .i64 n) (hb : 0 ≤ v ∧ v ≤ 127 ∧ 0 ≤ n ∧ n ≤ 127) (w : World) : (execOp ρ o).run Tryz.prog w = .ok (.value (.int .i64 (v + n))) w := by
  unfold execOp
  simp only [hop, hx, hy]
  go_simp
  rw [IntKind.wrap_i64]
  omega
theorem runo_st {x y : Operand} {j : Nat} {n : Int} {w : World} (hop : o.op = .store 3 x y) (hx : ρ x = .pointer (some ⟨B, j, none⟩)) (hy : ρ y = .int .i64 n) (hc : ∃ u, w.cell? ⟨B, j, none⟩ = some u) (hz : w.frozen? ⟨B, j, none⟩ = false) : (execOp ρ o).run Tryz.prog w = .ok .skip (w.setCell ⟨B, j, none⟩ (.int .i64 n)) := by
  obtain ⟨u, hu⟩ := hc
  unfold execOp
  simp only [hop, hx, hy]
  go_simp
end
/-- the world while the region runs -/
structure FofJ (b : Nat) (W0 : World) (R Fb L B4 B : Nat) (q : Em.Fr) (va vr n m : Int) (l : Array Bool) (w : World) : Prop where
  bel : Below b W0 w
  bB : b ≤ B
  lt : B < w.heap.size
  c8 : w.cell? ⟨R, 8, none⟩ = some (.pointer (some ⟨Fb, 0, none⟩))
  f1 : w.cell? ⟨Fb, 1, none⟩ = some (.int .i64 va)
  f2 : w.cell? ⟨Fb, 2, none⟩ = some (.int .i64 vr)
  cn : w.cell? ⟨L, 14, none⟩ = some (.int .i64 n)
  cm : w.cell? ⟨L, 15, none⟩ = some (.int .i64 m)
  ne : B ≠ R ∧ B ≠ Fb ∧ B ≠ L
  m4 : May w B4 8
  n4 : B ≠ B4
  b5 : ∃ u, w.cell? ⟨B, 5, none⟩ = some u
  b6 : ∃ u, w.cell? ⟨B, 6, none⟩ = some u
  z5 : w.frozen? ⟨B, 5, none⟩ = false
  z6 : w.frozen? ⟨B, 6, none⟩ = false
  r : w.cell? ⟨B, 0, none⟩ = some (.int .i64 q.sapi) ∧ w.cell? ⟨B, 1, none⟩ = some (.int .i64 q.tei) ∧ w.cell? ⟨B, 2, none⟩ = some (.bool q.c) ∧ w.cell? ⟨B, 3, none⟩ = some (.int .i64 q.k) ∧ w.cell? ⟨B, 4, none⟩ = some (.bool q.pf) ∧ w.cell? ⟨B, 7, none⟩ = some (.string q.info)
  i6 : l.getD 25 false = true → w.cell? ⟨B, 6, none⟩ = some (.int .i64 (Em.near va n))
  i5 : l.getD 27 false = true → w.cell? ⟨B, 5, none⟩ = some (.int .i64 (Em.near vr m))
section
variable {b : Nat} {W0 w : World} {R Fb L B4 B : Nat} {q : Em.Fr} {va vr n m : Int} {l : Array Bool}
theorem FofJ.keep (h : FofJ b W0 R Fb L B4 B q va vr n m l w) {i : Nat} (h1 : i ≠ 25) (h2 : i ≠ 27) : FofJ b W0 R Fb L B4 B q va vr n m (l.setIfInBounds i true) w :=
  ⟨h.bel, h.bB, h.lt, h.c8, h.f1, h.f2, h.cn, h.cm, h.ne, h.m4, h.n4, h.b5, h.b6, h.z5, h.z6, h.r, by rw [getD_set_ne false h1]; exact h.i6, by rw [getD_set_ne false h2]; exact h.i5⟩
theorem cell_ne (w : World) {B K i j : Nat} (h : B ≠ K ∨ j ≠ i) (v : Value) : (w.setCell ⟨B, j, none⟩ v).cell? ⟨K, i, none⟩ = w.cell? ⟨K, i, none⟩ :=
  World.cell?_setCell_other w _ _ _ (fun e => by injection e with e1 e2; rcases h with h | h; exact h e1; exact h e2)
theorem May.put {w : World} {B K j n : Nat} {v : Value} (h : May w K n) (hne : B ≠ K) : May (w.setCell ⟨B, j, none⟩ v) K n :=
  ⟨by simpa [World.setCell] using h.lt, fun i hi => by rw [cell_ne w (Or.inl hne)]; exact h.c i hi, fun i hi => by rw [World.frozen?_setCell]; exact h.f i hi⟩
theorem FofJ.put6 (h : FofJ b W0 R Fb L B4 B q va vr n m l w) : FofJ b W0 R Fb L B4 B q va vr n m (l.setIfInBounds 25 true) (w.setCell ⟨B, 6, none⟩ (.int .i64 (Em.near va n))) := by
  obtain ⟨n1, n2, n3⟩ := h.ne
  obtain ⟨r0, r1, r2, r3, r4, r7⟩ := h.r
  obtain ⟨u6, hu6⟩ := h.b6
  have hs : (w.setCell ⟨B, 6, none⟩ (.int .i64 (Em.near va n))).cell? ⟨B, 6, none⟩ = some (.int .i64 (Em.near va n)) := World.cell?_setCell_same' w ⟨B, 6, none⟩ _ (by rw [hu6]; rfl)
  have ho : ∀ i, 6 ≠ i → (w.setCell ⟨B, 6, none⟩ (.int .i64 (Em.near va n))).cell? ⟨B, i, none⟩ = w.cell? ⟨B, i, none⟩ := fun i hi => cell_ne w (Or.inr hi) _
  refine ⟨h.bel.setCell (p := ⟨B, 6, none⟩) h.bB _, h.bB, by simpa [World.setCell] using h.lt, (cell_ne w (Or.inl n1) _).trans h.c8, (cell_ne w (Or.inl n2) _).trans h.f1, (cell_ne w (Or.inl n2) _).trans h.f2, (cell_ne w (Or.inl n3) _).trans h.cn, (cell_ne w (Or.inl n3) _).trans h.cm, h.ne, h.m4.put h.n4, h.n4, ?_, ⟨_, hs⟩, by rw [World.frozen?_setCell]; exact h.z5, by rw [World.frozen?_setCell]; exact h.z6, ⟨(ho 0 (by decide)).trans r0, (ho 1 (by decide)).trans r1, (ho 2 (by decide)).trans r2, (ho 3 (by decide)).trans r3, (ho 4 (by decide)).trans r4, (ho 7 (by decide)).trans r7⟩, fun _ => hs, ?_⟩
  · obtain ⟨u5, hu5⟩ := h.b5
    exact ⟨u5, (ho 5 (by decide)).trans hu5⟩
  · rw [getD_set_ne false (by decide)]
    intro x
    exact (ho 5 (by decide)).trans (h.i5 x)
theorem FofJ.put5 (h : FofJ b W0 R Fb L B4 B q va vr n m l w) : FofJ b W0 R Fb L B4 B q va vr n m (l.setIfInBounds 27 true) (w.setCell ⟨B, 5, none⟩ (.int .i64 (Em.near vr m))) := by
  obtain ⟨n1, n2, n3⟩ := h.ne
  obtain ⟨r0, r1, r2, r3, r4, r7⟩ := h.r
  obtain ⟨u5, hu5⟩ := h.b5
  have hs : (w.setCell ⟨B, 5, none⟩ (.int .i64 (Em.near vr m))).cell? ⟨B, 5, none⟩ = some (.int .i64 (Em.near vr m)) := World.cell?_setCell_same' w ⟨B, 5, none⟩ _ (by rw [hu5]; rfl)
  have ho : ∀ i, 5 ≠ i → (w.setCell ⟨B, 5, none⟩ (.int .i64 (Em.near vr m))).cell? ⟨B, i, none⟩ = w.cell? ⟨B, i, none⟩ := fun i hi => cell_ne w (Or.inr hi) _
  refine ⟨h.bel.setCell (p := ⟨B, 5, none⟩) h.bB _, h.bB, by simpa [World.setCell] using h.lt, (cell_ne w (Or.inl n1) _).trans h.c8, (cell_ne w (Or.inl n2) _).trans h.f1, (cell_ne w (Or.inl n2) _).trans h.f2, (cell_ne w (Or.inl n3) _).trans h.cn, (cell_ne w (Or.inl n3) _).trans h.cm, h.ne, h.m4.put h.n4, h.n4, ⟨_, hs⟩, ?_, by rw [World.frozen?_setCell]; exact h.z5, by rw [World.frozen?_setCell]; exact h.z6, ⟨(ho 0 (by decide)).trans r0, (ho 1 (by decide)).trans r1, (ho 2 (by decide)).trans r2, (ho 3 (by decide)).trans r3, (ho 4 (by decide)).trans r4, (ho 7 (by decide)).trans r7⟩, ?_, fun _ => hs⟩
  · obtain ⟨u6, hu6⟩ := h.b6
    exact ⟨u6, (ho 6 (by decide)).trans hu6⟩
  · rw [getD_set_ne false (by decide)]
    intro x
    exact (ho 6 (by decide)).trans (h.i6 x)
end
def fofD : Nat → Option Nat | 0 => some 10 | 1 => some 11 | 2 => some 12 | 3 => some 13 | 4 => some 14 | 5 => some 15 | 6 => some 16 | 7 => some 17 | 8 => some 18 | 9 => some 19 | 10 => some 20 | 11 => some 21 | 12 => some 22 | 13 => some 23 | 14 => some 24 | 15 => some 25 | 16 => some 26 | 17 => some 27 | 18 => some 28 | 19 => some 29 | 20 => some 30 | 21 => some 31 | 22 => some 32 | 23 => some 33 | 24 => some 34 | 26 => some 35 | _ => none
def fofV (R Fb L B : Nat) (va vr n m : Int) : Nat → Value | 0 => .pointer (some ⟨R, 0, none⟩) | 1 => .pointer (some ⟨R, 0, none⟩) | 2 => .pointer (some ⟨R, 8, none⟩) | 3 => .pointer (some ⟨Fb, 0, none⟩) | 4 => .pointer (some ⟨Fb, 0, none⟩) | 5 => .pointer (some ⟨Fb, 1, none⟩) | 6 => .int .i64 va | 7 => .pointer (some ⟨L, 14, none⟩) | 8 => .int .i64 n | 9 => .int .i64 (n % 128) | 10 => .int .i64 (va + n % 128) | 11 => .int .i64 (Em.near va n) | 12 => .pointer (some ⟨R, 0, none⟩) | 13 => .pointer (some ⟨R, 0, none⟩) | 14 => .pointer (some ⟨R, 8, none⟩) | 15 => .pointer (some ⟨Fb, 0, none⟩) | 16 => .pointer (some ⟨Fb, 0, none⟩) | 17 => .pointer (some ⟨Fb, 2, none⟩) | 18 => .int .i64 vr | 19 => .pointer (some ⟨L, 15, none⟩) | 20 => .int .i64 m | 21 => .int .i64 (m % 128) | 22 => .int .i64 (vr + m % 128) | 23 => .int .i64 (Em.near vr m) | 24 => .pointer (some ⟨B, 6, none⟩) | 26 => .pointer (some ⟨B, 5, none⟩) | _ => undef
theorem fofD_inj : ∀ i j d, i < 28 → j < 28 → fofD i = some d → fofD j = some d → i = j := by
  have h : ∀ i < 28, ∀ j < 28, fofD i = fofD j → fofD i ≠ none → i = j := by decide
  intro i j d hi hj h1 h2
  exact h i hi j hj (h1.trans h2.symm) (by rw [h1]; simp)
theorem fofD_lt : ∀ i d, i < 28 → fofD i = some d → d < 37 := by
  have h : ∀ i < 28, (fofD i).all (· < 37) = true := by decide
  intro i d hi hd
  have := h i hi
  rw [hd] at this
  simpa using this

set_option maxHeartbeats 4000000 in
theorem frameOf_any (R : Nat) (lr : Nat → Nat) (r e : Em.St) (q : ActE) (w : World) (hR : Rn R w lr r) (he : r.fl = e.fl) (hok : Em.Ok e) :
    Calls Tryz.prog 18 #[.pointer (some ⟨R, 0, none⟩), q.v] w fun x w' => x = .returned (frmV (Em.actF e q)) ∧ Below w.heap.size w w' := by
  obtain ⟨Fb, D, H, c8, hf, -⟩ := hR.fl
  have hRl := hR.cs.lt
  have hFl := hf.lt
  have f1 := hf.fr.c1
  have f2 := hf.fr.c2
  rw [he] at f1 f2
  have b1 : 0 ≤ e.fl.va ∧ e.fl.va ≤ 127 ∧ 0 ≤ q.n % 128 ∧ q.n % 128 ≤ 127 := by have := hok.fl.ok.va0; have := hok.fl.ok.va1; omega
  have b2 : 0 ≤ e.fl.vr ∧ e.fl.vr ≤ 127 ∧ 0 ≤ q.m % 128 ∧ q.m % 128 ≤ 127 := by have := hok.fl.ok.vr0; have := hok.fl.ok.vr1; omega
  have HB : Hid ((0 ≤ e.fl.va ∧ e.fl.va ≤ 127 ∧ 0 ≤ q.n % 128 ∧ q.n % 128 ≤ 127) ∧ (0 ≤ e.fl.vr ∧ e.fl.vr ≤ 127 ∧ 0 ≤ q.m % 128 ∧ q.m % 128 ≤ 127)) := ⟨b1, b2⟩
  have HA : Hid (Em.actF e q = if q.near then { q.f with nr := Em.near e.fl.va q.n, ns := Em.near e.fl.vr q.m } else q.f) := rfl
  generalize e.fl.va = va at f1 HB HA
  generalize e.fl.vr = vr at f2 HB HA
  clear hf hR he hok b1 b2
  generalize Em.actF e q = G at HA ⊢
  obtain ⟨d, ask, timer, tei, data, ⟨sapi, ftei, c, k, pf, ns, nr, info⟩, near, n, m⟩ := q
  simp only [] at HB HA
  unfold ActE.v
  simp only []
  -- the call's data, the result's cells, the frame
  obtain ⟨W1, hW1⟩ : ∃ W1, W1 = w.alloc (.cells #[.int .i64 d, .int .i64 ask, .int .i64 timer, .int .i64 tei, .string data, .int .i64 sapi, .int .i64 ftei, .bool c, .int .i64 k, .bool pf, .int .i64 ns, .int .i64 nr, .string info, .bool near, .int .i64 n, .int .i64 m] 34) := ⟨_, rfl⟩

  go_enter Tryz.func18, Tryz.ntmps18
  cases near with
  | false =>
    have HE : Hid (G = ⟨sapi, ftei, c, k, pf, ns, nr, info⟩) := by show _ = _; rw [HA.out, if_neg (by decide)]
    clear hW1 HA
    go_wp2_with fail
    refine bodyPost_ret (v := .agg #[.int .i64 sapi, .int .i64 ftei, .bool c, .int .i64 k, .bool pf, .int .i64 ns, .int .i64 nr, .string info]) (by simp [results, Tryz.results18, go_sem]) rfl ⟨by rw [HE.out]; rfl, ?_⟩
    exact (((Below.refl _ _).alloc (Nat.le_refl _) _).alloc (by simp) _).alloc (by simp; omega) _
  | true =>
    have HE : Hid (G = ⟨sapi, ftei, c, k, pf, Em.near vr m, Em.near va n, info⟩) := by show _ = _; rw [HA.out, if_pos rfl]
    obtain ⟨W2, hW2⟩ : ∃ W2, W2 = W1.alloc (.cells #[.int .i64 0, .int .i64 0, .bool false, .int .i64 0, .bool false, .int .i64 0, .int .i64 0, .string ⟨#[]⟩] 32) := ⟨_, rfl⟩
    obtain ⟨W3, hW3⟩ : ∃ W3, W3 = W2.alloc (.cells #[.int .i64 sapi, .int .i64 ftei, .bool c, .int .i64 k, .bool pf, .int .i64 ns, .int .i64 nr, .string info] 32) := ⟨_, rfl⟩
    have z1 : W1.heap.size = w.heap.size + 1 := by rw [hW1]; simp
    have z2 : W2.heap.size = w.heap.size + 1 + 1 := by rw [hW2]; simp [z1]
    have z3 : W3.heap.size = w.heap.size + 1 + 1 + 1 := by rw [hW3]; simp [z2]
    have q1 : Below w.heap.size w W1 := by rw [hW1]; exact (Below.refl _ _).alloc (Nat.le_refl _) _
    have q2 : Below W1.heap.size W1 W2 := by rw [hW2]; exact (Below.refl _ _).alloc (Nat.le_refl _) _
    have q3 : Below W2.heap.size W2 W3 := by rw [hW3]; exact (Below.refl _ _).alloc (Nat.le_refl _) _
    have q12 : Below W1.heap.size W1 W3 := q2.trans (q3.mono (by omega))
    have q13 : Below w.heap.size w W3 := q1.trans (q12.mono (by omega))
    have hL : ∀ j u, #[Value.int .i64 d, .int .i64 ask, .int .i64 timer, .int .i64 tei, .string data, .int .i64 sapi, .int .i64 ftei, .bool c, .int .i64 k, .bool pf, .int .i64 ns, .int .i64 nr, .string info, .bool true, .int .i64 n, .int .i64 m][j]? = some u → W3.cell? ⟨w.heap.size, j, none⟩ = some u := fun j u hj => by
      refine (q12.cell (p := ⟨w.heap.size, j, none⟩) (by show w.heap.size < _; omega)).trans ?_
      rw [hW1]
      exact (cell_of_row _ _ j _ _ _ (heap_alloc_new w _)).trans hj
    have hB : ∀ j u, #[Value.int .i64 sapi, .int .i64 ftei, .bool c, .int .i64 k, .bool pf, .int .i64 ns, .int .i64 nr, .string info][j]? = some u → W3.cell? ⟨w.heap.size + 1 + 1, j, none⟩ = some u := fun j u hj => by
      have := heap_alloc_new W2 (.cells #[.int .i64 sapi, .int .i64 ftei, .bool c, .int .i64 k, .bool pf, .int .i64 ns, .int .i64 nr, .string info] 32)
      rw [← hW3, z2] at this
      exact (cell_of_row _ _ j _ _ _ this).trans hj
    have hz : ∀ j, W3.frozen? ⟨w.heap.size + 1 + 1, j, none⟩ = false := fun j => by
      rw [hW3, ← z2]; simp
    have hm4 : May W3 (w.heap.size + 1) 8 := by
      have hh := heap_alloc_new W1 (.cells #[.int .i64 0, .int .i64 0, .bool false, .int .i64 0, .bool false, .int .i64 0, .int .i64 0, .string ⟨#[]⟩] 32)
      rw [← hW2, z1] at hh
      have hm : May W2 (w.heap.size + 1) 8 := by
        refine ⟨by omega, fun j hj => ?_, fun j hj => ?_⟩
        · rw [cell_of_row _ _ j _ _ _ hh]
          rcases (show j = 0 ∨ j = 1 ∨ j = 2 ∨ j = 3 ∨ j = 4 ∨ j = 5 ∨ j = 6 ∨ j = 7 by omega) with rfl | rfl | rfl | rfl | rfl | rfl | rfl | rfl <;> rfl
        · rw [hW2, ← z1]; simp
      exact hm.later q3
    have HJ : Hid (∀ W', Below W3.heap.size W3 W' → FofJ w.heap.size w R Fb w.heap.size (w.heap.size + 1) (w.heap.size + 1 + 1) ⟨sapi, ftei, c, k, pf, ns, nr, info⟩ va vr n m (Array.replicate 28 false) W') := fun W' hb => by
      have k1 : ∀ j u, W3.cell? ⟨w.heap.size, j, none⟩ = some u → W'.cell? ⟨w.heap.size, j, none⟩ = some u := fun j u hu => (hb.cell (p := ⟨w.heap.size, j, none⟩) (by show w.heap.size < _; omega)).trans hu
      have k2 : ∀ j u, W3.cell? ⟨w.heap.size + 1 + 1, j, none⟩ = some u → W'.cell? ⟨w.heap.size + 1 + 1, j, none⟩ = some u := fun j u hu => (hb.cell (p := ⟨w.heap.size + 1 + 1, j, none⟩) (by show w.heap.size + 1 + 1 < _; omega)).trans hu
      have qq := q13.trans (hb.mono (by omega))
      refine ⟨qq, by omega, by have := hb.size; omega, (qq.cell (p := ⟨R, 8, none⟩) hRl).trans c8, (qq.cell (p := ⟨Fb, 1, none⟩) hFl).trans f1, (qq.cell (p := ⟨Fb, 2, none⟩) hFl).trans f2, k1 14 _ (hL 14 _ rfl), k1 15 _ (hL 15 _ rfl), ⟨by omega, by omega, by omega⟩, hm4.later hb, by omega, ⟨_, k2 5 _ (hB 5 _ rfl)⟩, ⟨_, k2 6 _ (hB 6 _ rfl)⟩, ?_, ?_, ⟨k2 0 _ (hB 0 _ rfl), k2 1 _ (hB 1 _ rfl), k2 2 _ (hB 2 _ rfl), k2 3 _ (hB 3 _ rfl), k2 4 _ (hB 4 _ rfl), k2 7 _ (hB 7 _ rfl)⟩, ?_, ?_⟩
      · exact (hb.frozen (p := ⟨w.heap.size + 1 + 1, 5, none⟩) (by show w.heap.size + 1 + 1 < _; omega)).trans (hz 5)
      · exact (hb.frozen (p := ⟨w.heap.size + 1 + 1, 6, none⟩) (by show w.heap.size + 1 + 1 < _; omega)).trans (hz 6)
      · intro h; rw [rep_getD'] at h; exact absurd h (by decide)
      · intro h; rw [rep_getD'] at h; exact absurd h (by decide)
    clear q1 q2 q3 q12 q13 hL hB hz hm4 c8 f1 f2 hRl hFl HA z1 z2 z3
    go_upto_region 3 with fail
    rw [← hW1, ← hW2, ← hW3]
    clear hW1 hW2 hW3
    refine region_vals (by kernel_rfl) 28 rfl fofD (fofV R Fb w.heap.size (w.heap.size + 1 + 1) va vr n m) fofD_inj ?hd ?hlow (FofJ w.heap.size w R Fb w.heap.size (w.heap.size + 1) (w.heap.size + 1 + 1) ⟨sapi, ftei, c, k, pf, ns, nr, info⟩ va vr n m) ?h0 ?hstep ?hdone
    case hd => exact fofD_lt
    case hlow => kernel_rfl
    case h0 => exact HJ.out _ (Below.refl _ _).drew
    case hstep =>
      intro l a w2 i hi hJ hr hK
      have s0 : a.eval (.tmp 0) = .pointer (some ⟨R, 0, none⟩) := hK.rest 0 (by decide)
      have s3 : a.eval (.tmp 3) = .pointer (some ⟨w.heap.size, 0, none⟩) := hK.rest 3 (by decide)
      have s5 : a.eval (.tmp 5) = .pointer (some ⟨w.heap.size + 1 + 1, 0, none⟩) := hK.rest 5 (by decide)
      have hb1 : 0 ≤ va ∧ va ≤ 127 ∧ 0 ≤ n % 128 ∧ n % 128 ≤ 127 := HB.out.1
      have hb2 : 0 ≤ vr ∧ vr ≤ 127 ∧ 0 ≤ m % 128 ∧ m % 128 ≤ 127 := HB.out.2
      have got : ∀ j, j ∈ depsOf .any _ i → ∀ d', fofD j = some d' → j < 28 → a.eval (.tmp d') = fofV R Fb w.heap.size (w.heap.size + 1 + 1) va vr n m j := fun j hj d' hd hj' => hK.got j d' hj' (ready_deps hr j hj) hd
      match i, hi, hr, got with
      | 0, _, hr, got => exact step_val rfl rfl (runw_move rfl s0 w2) rfl (hJ.keep (by decide) (by decide))
      | 1, _, hr, got => exact step_val rfl rfl (rune_nil rfl (got 0 (by decide) 10 rfl (by decide)) w2) rfl (hJ.keep (by decide) (by decide))
      | 2, _, hr, got => exact step_val rfl rfl (runv_fe rfl (got 1 (by decide) 11 rfl (by decide)) w2) rfl (hJ.keep (by decide) (by decide))
      | 3, _, hr, got => exact step_val rfl rfl (runv_ldp (Or.inl rfl) (got 2 (by decide) 12 rfl (by decide)) hJ.c8) rfl (hJ.keep (by decide) (by decide))
      | 4, _, hr, got => exact step_val rfl rfl (rune_nil rfl (got 3 (by decide) 13 rfl (by decide)) w2) rfl (hJ.keep (by decide) (by decide))
      | 5, _, hr, got => exact step_val rfl rfl (runv_ff 1 (by decide) rfl (got 4 (by decide) 14 rfl (by decide)) w2) rfl (hJ.keep (by decide) (by decide))
      | 6, _, hr, got => exact step_val rfl rfl (rune_ldi rfl (got 5 (by decide) 15 rfl (by decide)) hJ.f1) rfl (hJ.keep (by decide) (by decide))
      | 7, _, hr, got => exact step_val rfl rfl (runo_fa 7 14 (by decide) rfl s3 w2) rfl (hJ.keep (by decide) (by decide))
      | 8, _, hr, got => exact step_val rfl rfl (rune_ldi rfl (got 7 (by decide) 17 rfl (by decide)) hJ.cn) rfl (hJ.keep (by decide) (by decide))
      | 9, _, hr, got => exact step_val rfl rfl (runo_and rfl (got 8 (by decide) 18 rfl (by decide)) rfl w2) rfl (hJ.keep (by decide) (by decide))
      | 10, _, hr, got => exact step_val rfl rfl (runo_add rfl (got 6 (by decide) 16 rfl (by decide)) (got 9 (by decide) 19 rfl (by decide)) hb1 w2) rfl (hJ.keep (by decide) (by decide))
      | 11, _, hr, got => exact step_val rfl rfl (runo_and rfl (got 10 (by decide) 20 rfl (by decide)) rfl w2) rfl (hJ.keep (by decide) (by decide))
      | 12, _, hr, got => exact step_val rfl rfl (runw_move rfl s0 w2) rfl (hJ.keep (by decide) (by decide))
      | 13, _, hr, got => exact step_val rfl rfl (rune_nil rfl (got 12 (by decide) 22 rfl (by decide)) w2) rfl (hJ.keep (by decide) (by decide))
      | 14, _, hr, got => exact step_val rfl rfl (runv_fe rfl (got 13 (by decide) 23 rfl (by decide)) w2) rfl (hJ.keep (by decide) (by decide))
      | 15, _, hr, got => exact step_val rfl rfl (runv_ldp (Or.inl rfl) (got 14 (by decide) 24 rfl (by decide)) hJ.c8) rfl (hJ.keep (by decide) (by decide))
      | 16, _, hr, got => exact step_val rfl rfl (rune_nil rfl (got 15 (by decide) 25 rfl (by decide)) w2) rfl (hJ.keep (by decide) (by decide))
      | 17, _, hr, got => exact step_val rfl rfl (runv_ff 2 (by decide) rfl (got 16 (by decide) 26 rfl (by decide)) w2) rfl (hJ.keep (by decide) (by decide))
      | 18, _, hr, got => exact step_val rfl rfl (rune_ldi rfl (got 17 (by decide) 27 rfl (by decide)) hJ.f2) rfl (hJ.keep (by decide) (by decide))
      | 19, _, hr, got => exact step_val rfl rfl (runo_fa 8 15 (by decide) rfl s3 w2) rfl (hJ.keep (by decide) (by decide))
      | 20, _, hr, got => exact step_val rfl rfl (rune_ldi rfl (got 19 (by decide) 29 rfl (by decide)) hJ.cm) rfl (hJ.keep (by decide) (by decide))
      | 21, _, hr, got => exact step_val rfl rfl (runo_and rfl (got 20 (by decide) 30 rfl (by decide)) rfl w2) rfl (hJ.keep (by decide) (by decide))
      | 22, _, hr, got => exact step_val rfl rfl (runo_add rfl (got 18 (by decide) 28 rfl (by decide)) (got 21 (by decide) 31 rfl (by decide)) hb2 w2) rfl (hJ.keep (by decide) (by decide))
      | 23, _, hr, got => exact step_val rfl rfl (runo_and rfl (got 22 (by decide) 32 rfl (by decide)) rfl w2) rfl (hJ.keep (by decide) (by decide))
      | 24, _, hr, got => exact step_val rfl rfl (runo_ff 6 (by decide) rfl s5 w2) rfl (hJ.keep (by decide) (by decide))
      | 25, _, hr, got => exact step_skip rfl rfl (runo_st rfl (got 24 (by decide) 34 rfl (by decide)) (got 11 (by decide) 21 rfl (by decide)) hJ.b6 hJ.z6) rfl rfl hJ.put6
      | 26, _, hr, got => exact step_val rfl rfl (runo_ff 5 (by decide) rfl s5 w2) rfl (hJ.keep (by decide) (by decide))
      | 27, _, hr, got => exact step_skip rfl rfl (runo_st rfl (got 26 (by decide) 35 rfl (by decide)) (got 23 (by decide) 33 rfl (by decide)) hJ.b5 hJ.z5) rfl rfl hJ.put5
      | j + 28, hlt, _, _ => exact absurd hlt (by omega)
    case hdone =>
      intro l w' hall hJ
      have HBl : Hid (Below w.heap.size w w') := hJ.bel
      obtain ⟨x0, x1, x2, x3, x4, x7⟩ := hJ.r
      simp only [] at x0 x1 x2 x3 x4 x7
      have x5 := hJ.i5 (hall 27 (by decide))
      have x6 := hJ.i6 (hall 25 (by decide))
      have xl := hJ.lt
      have hm := hJ.m4
      obtain ⟨v0, y0⟩ := hm.get 0 (by decide)
      obtain ⟨v1, y1⟩ := hm.get 1 (by decide)
      obtain ⟨v2, y2⟩ := hm.get 2 (by decide)
      obtain ⟨v3, y3⟩ := hm.get 3 (by decide)
      obtain ⟨v4, y4⟩ := hm.get 4 (by decide)
      obtain ⟨v5, y5⟩ := hm.get 5 (by decide)
      obtain ⟨v6, y6⟩ := hm.get 6 (by decide)
      obtain ⟨v7, y7⟩ := hm.get 7 (by decide)
      have g0 := hm.f 0 (by decide)
      have g1 := hm.f 1 (by decide)
      have g2 := hm.f 2 (by decide)
      have g3 := hm.f 3 (by decide)
      have g4 := hm.f 4 (by decide)
      have g5 := hm.f 5 (by decide)
      have g6 := hm.f 6 (by decide)
      have g7 := hm.f 7 (by decide)
      have yl := hm.lt
      clear hall hJ HJ hm HB
      generalize Em.near va n = nr' at x6 HE
      generalize Em.near vr m = ns' at x5 HE
      simp only [putsOf, fofD, fofV, Act.put, List.setIfInBounds_toArray, List.set_cons_zero, List.set_cons_succ]
      go_wp2
      refine bodyPost_ret (v := .agg #[.int .i64 sapi, .int .i64 ftei, .bool c, .int .i64 k, .bool pf, .int .i64 ns', .int .i64 nr', .string info]) (by simp [results, Tryz.results18, go_sem, y0, y1, y2, y3, y4, y5, y6, y7]) rfl ⟨by rw [HE.out]; rfl, ?_⟩
      have hB1 : w.heap.size ≤ w.heap.size + 1 := by omega
      exact (((((((HBl.out.setCell (p := ⟨w.heap.size + 1, 0, none⟩) hB1 _).setCell (p := ⟨w.heap.size + 1, 1, none⟩) hB1 _).setCell (p := ⟨w.heap.size + 1, 2, none⟩) hB1 _).setCell (p := ⟨w.heap.size + 1, 3, none⟩) hB1 _).setCell (p := ⟨w.heap.size + 1, 4, none⟩) hB1 _).setCell (p := ⟨w.heap.size + 1, 5, none⟩) hB1 _).setCell (p := ⟨w.heap.size + 1, 6, none⟩) hB1 _).setCell (p := ⟨w.heap.size + 1, 7, none⟩) hB1 _
end Go.Proofs.YtidemohpngkedabGreatDoor
