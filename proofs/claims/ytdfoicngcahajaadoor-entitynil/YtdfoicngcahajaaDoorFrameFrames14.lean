/-
  The walk of layer 14's frames: the program's and the document's frame. Nothing that was there is turned.
-/
import Derived.Test.YtdfoicngcahajaaDoorCell8
import Derived.Test.YtdfoicngcahajaaDoorRegionVals
namespace Go.Proofs.YtdfoicngcahajaaDoor
open Go.RowKit
set_option linter.unusedVariables false
set_option linter.unusedSimpArgs false

theorem frames_world (w : World) (sapi tei : Int) (c : Bool) (k : Int) (pf : Bool) (ns nr : Int) (info : ByteArray) (X Y Z : Obj) (a b : TypeId) (hX : X = .cells #[.int .i64 sapi, .int .i64 tei, .bool c, .int .i64 k, .bool pf, .int .i64 ns, .int .i64 nr, .string info] a)
    (hY : ∃ t, Y = .cells #[.int .i64 0, .int .i64 0, .bool false, .int .i64 0, .bool false, .int .i64 0, .int .i64 0, .string ⟨#[]⟩] t) (hZ : ∃ t, Z = .cells #[.int .i64 0, .int .i64 0, .bool false, .int .i64 0, .bool false, .int .i64 0, .int .i64 0, .string ⟨#[]⟩] t) :
    FrC (((w.alloc X).alloc Y).alloc Z) w.heap.size sapi tei c k pf ns nr info ∧ Eight (((w.alloc X).alloc Y).alloc Z) (w.heap.size + 1) ∧ Eight (((w.alloc X).alloc Y).alloc Z) (w.heap.size + 1 + 1) ∧ (((w.alloc X).alloc Y).alloc Z).heap.size = w.heap.size + 3 ∧ Below w.heap.size w (((w.alloc X).alloc Y).alloc Z) := by
  subst hX
  obtain ⟨t, rfl⟩ := hY
  obtain ⟨t', rfl⟩ := hZ
  have s1 : ∀ (v : World) (o : Obj), (v.alloc o).heap.size = v.heap.size + 1 := by intro v o; simp
  refine ⟨((frc_new w sapi tei c k pf ns nr info a).later ((Below.refl _ _).alloc (Nat.le_refl _) _)).later ((Below.refl _ _).alloc (Nat.le_refl _) _), ?_, ?_, by rw [s1, s1, s1], (((Below.refl _ _).alloc (Nat.le_refl _) _).alloc (by rw [s1]; omega) _).alloc (by rw [s1, s1]; omega) _⟩
  · have := (eight_new (w.alloc (.cells #[.int .i64 sapi, .int .i64 tei, .bool c, .int .i64 k, .bool pf, .int .i64 ns, .int .i64 nr, .string info] a)) (.int .i64 0) (.int .i64 0) (.bool false) (.int .i64 0) (.bool false) (.int .i64 0) (.int .i64 0) (.string ⟨#[]⟩) t).later ((Below.refl _ _).alloc (Nat.le_refl _) (.cells #[.int .i64 0, .int .i64 0, .bool false, .int .i64 0, .bool false, .int .i64 0, .int .i64 0, .string ⟨#[]⟩] t'))
    rw [s1] at this; exact this
  · have := eight_new ((w.alloc (.cells #[.int .i64 sapi, .int .i64 tei, .bool c, .int .i64 k, .bool pf, .int .i64 ns, .int .i64 nr, .string info] a)).alloc (.cells #[.int .i64 0, .int .i64 0, .bool false, .int .i64 0, .bool false, .int .i64 0, .int .i64 0, .string ⟨#[]⟩] t)) (.int .i64 0) (.int .i64 0) (.bool false) (.int .i64 0) (.bool false) (.int .i64 0) (.int .i64 0) (.string ⟨#[]⟩) t'
    rw [s1, s1] at this; exact this


theorem drew_below (w : World) : Below w.heap.size w w.drew := (Below.refl _ _).drew
/-! ### the region of 'frames': what each operation does -/
theorem run_fa {ρ : Operand → Value} {o : Oper} {x : Operand} {L : Nat} (k : Nat) (hk : k < 8) (hop : o.op = .fieldAddr 23 x k) (hx : ρ x = .pointer (some ⟨L, 0, none⟩)) (w : World) : (execOp ρ o).run Tryd.prog w = .ok (.value (.pointer (some ⟨L, k, none⟩))) w := by
  unfold execOp
  rcases eight_cases k hk with rfl | rfl | rfl | rfl | rfl | rfl | rfl | rfl
  all_goals
    simp only [hop, hx]
    go_simp
theorem run_ldi {ρ : Operand → Value} {o : Oper} {x : Operand} {L k : Nat} {v : Int} {w : World} (hop : o.op = .load 3 x) (hx : ρ x = .pointer (some ⟨L, k, none⟩)) (hc : w.cell? ⟨L, k, none⟩ = some (.int .i64 v)) : (execOp ρ o).run Tryd.prog w = .ok (.value (.int .i64 v)) w := by
  unfold execOp
  simp only [hop, hx]
  go_simp
theorem run_ldb {ρ : Operand → Value} {o : Oper} {x : Operand} {L k : Nat} {v : Bool} {w : World} (hop : o.op = .load 4 x) (hx : ρ x = .pointer (some ⟨L, k, none⟩)) (hc : w.cell? ⟨L, k, none⟩ = some (.bool v)) : (execOp ρ o).run Tryd.prog w = .ok (.value (.bool v)) w := by
  unfold execOp
  simp only [hop, hx]
  go_simp
theorem run_lds {ρ : Operand → Value} {o : Oper} {x : Operand} {L k : Nat} {v : ByteArray} {w : World} (hop : o.op = .load 9 x) (hx : ρ x = .pointer (some ⟨L, k, none⟩)) (hc : w.cell? ⟨L, k, none⟩ = some (.string v)) : (execOp ρ o).run Tryd.prog w = .ok (.value (.string v)) w := by
  unfold execOp
  simp only [hop, hx]
  go_simp
theorem run_build2 {ρ : Operand → Value} {o : Oper} {x y : Operand} {a b : Int} (hop : o.op = .build 28 #[(0, x), (1, y)]) (hx : ρ x = .int .i64 a) (hy : ρ y = .int .i64 b) (w : World) : (execOp ρ o).run Tryd.prog w = .ok (.value (.agg #[.int .i64 a, .int .i64 b])) w := by
  unfold execOp
  simp only [hop, hx, hy]
  go_simp
theorem run_build8 {ρ : Operand → Value} {o : Oper} {x1 x2 x3 x4 x5 x6 x7 : Operand} {sapi tei : Int} {c : Bool} {k : Int} {pf : Bool} {ns nr : Int} {info : ByteArray} (hop : o.op = .build 31 #[(0, x1), (1, x2), (2, x3), (3, x4), (4, x5), (5, x6), (6, x7)])
    (h1 : ρ x1 = .agg #[.int .i64 sapi, .int .i64 tei]) (h2 : ρ x2 = .bool c) (h3 : ρ x3 = .int .i64 k) (h4 : ρ x4 = .bool pf) (h5 : ρ x5 = .int .i64 ns) (h6 : ρ x6 = .int .i64 nr) (h7 : ρ x7 = .string info) (w : World) : (execOp ρ o).run Tryd.prog w = .ok (.value (frA sapi tei c k pf ns nr info)) w := by
  unfold execOp frA
  simp only [hop, h1, h2, h3, h4, h5, h6, h7]
  go_simp
theorem run_ld8 {ρ : Operand → Value} {o : Oper} {x : Operand} {L : Nat} {sapi tei : Int} {c : Bool} {k : Int} {pf : Bool} {ns nr : Int} {info : ByteArray} {w : World} (hop : o.op = .load 23 x) (hx : ρ x = .pointer (some ⟨L, 0, none⟩)) (hc : FrC w L sapi tei c k pf ns nr info) : (execOp ρ o).run Tryd.prog w = .ok (.value (frA sapi tei c k pf ns nr info)) w := by
  obtain ⟨hlt, c0, c1, c2, c3, c4, c5, c6, c7⟩ := hc
  unfold execOp frA
  simp only [hop, hx]
  go_simp
theorem run_st8 {ρ : Operand → Value} {o : Oper} {x y : Operand} {B : Nat} {sapi tei : Int} {c : Bool} {k : Int} {pf : Bool} {ns nr : Int} {info : ByteArray} {w : World} (hop : o.op = .store 31 x y ∨ o.op = .store 32 x y) (hx : ρ x = .pointer (some ⟨B, 0, none⟩)) (hy : ρ y = frA sapi tei c k pf ns nr info) (hE : Eight w B) :
    (execOp ρ o).run Tryd.prog w = .ok .skip (set8 w B (.int .i64 sapi) (.int .i64 tei) (.bool c) (.int .i64 k) (.bool pf) (.int .i64 ns) (.int .i64 nr) (.string info)) := by
  obtain ⟨v0, v1, v2, v3, v4, v5, v6, v7, c0, c1, c2, c3, c4, c5, c6, c7, f0, f1, f2, f3, f4, f5, f6, f7⟩ := hE.parts
  unfold frA at hy
  unfold execOp set8
  rcases hop with hop | hop
  all_goals
    simp only [hop, hx, hy]
    go_simp
/-- the world while the region runs: the argument, the two results -/
structure FramesJ (w0 : World) (sapi tei : Int) (c : Bool) (k : Int) (pf : Bool) (ns nr : Int) (info : ByteArray) (l : Array Bool) (w : World) : Prop where
  arg : FrC w w0.heap.size sapi tei c k pf ns nr info
  e1 : Eight w (w0.heap.size + 1)
  e2 : Eight w (w0.heap.size + 1 + 1)
  bel : Below w0.heap.size w0 w
  i1 : l.getD 19 false = true → Is8 w (w0.heap.size + 1) (.int .i64 sapi) (.int .i64 tei) (.bool c) (.int .i64 k) (.bool pf) (.int .i64 ns) (.int .i64 nr) (.string info)
  i2 : l.getD 20 false = true → Is8 w (w0.heap.size + 1 + 1) (.int .i64 sapi) (.int .i64 tei) (.bool c) (.int .i64 k) (.bool pf) (.int .i64 ns) (.int .i64 nr) (.string info)

theorem FramesJ.keep {w0 : World} {sapi tei : Int} {c : Bool} {k : Int} {pf : Bool} {ns nr : Int} {info : ByteArray} {l : Array Bool} {w : World} (h : FramesJ w0 sapi tei c k pf ns nr info l w) {i : Nat} (hi : i < 19) : FramesJ w0 sapi tei c k pf ns nr info (l.setIfInBounds i true) w :=
  ⟨h.arg, h.e1, h.e2, h.bel, fun hl => h.i1 ((set_listed hl).resolve_left (by omega)), fun hl => h.i2 ((set_listed hl).resolve_left (by omega))⟩

def framesDst : Nat → Option Nat
  | 19 => none | 20 => none | i => some (4 + i)
def framesVal (L : Nat) (sapi tei : Int) (c : Bool) (k : Int) (pf : Bool) (ns nr : Int) (info : ByteArray) : Nat → Value
  | 0 => .pointer (some ⟨L, 0, none⟩) | 1 => .int .i64 sapi | 2 => .pointer (some ⟨L, 1, none⟩) | 3 => .int .i64 tei | 4 => .agg #[.int .i64 sapi, .int .i64 tei]
  | 5 => .pointer (some ⟨L, 2, none⟩) | 6 => .bool c | 7 => .pointer (some ⟨L, 3, none⟩) | 8 => .int .i64 k | 9 => .pointer (some ⟨L, 4, none⟩) | 10 => .bool pf
  | 11 => .pointer (some ⟨L, 5, none⟩) | 12 => .int .i64 ns | 13 => .pointer (some ⟨L, 6, none⟩) | 14 => .int .i64 nr | 15 => .pointer (some ⟨L, 7, none⟩) | 16 => .string info
  | 17 => frA sapi tei c k pf ns nr info | 18 => frA sapi tei c k pf ns nr info | _ => undef
theorem framesDst_inj : ∀ i j d, i < 21 → j < 21 → framesDst i = some d → framesDst j = some d → i = j := by
  have h : ∀ i < 21, ∀ j < 21, framesDst i = framesDst j → framesDst i ≠ none → i = j := by decide
  intro i j d hi hj h1 h2
  exact h i hi j hj (h1.trans h2.symm) (by rw [h1]; simp)
theorem framesDst_lt : ∀ i d, i < 21 → framesDst i = some d → d < 23 := by
  have h : ∀ i < 21, ∀ d, framesDst i = some d → d < 23 := by
    intro i hi d hd
    match i, hi, hd with
    | 19, _, hd => cases hd
    | 20, _, hd => cases hd
    | 0, _, hd | 1, _, hd | 2, _, hd | 3, _, hd | 4, _, hd | 5, _, hd | 6, _, hd | 7, _, hd | 8, _, hd | 9, _, hd | 10, _, hd | 11, _, hd | 12, _, hd | 13, _, hd | 14, _, hd | 15, _, hd | 16, _, hd | 17, _, hd | 18, _, hd => obtain rfl := Option.some.inj hd; decide
    | j + 21, hlt, _ => exact absurd hlt (by omega)
  intro i d hi hd
  exact h i hi d hd

set_option maxHeartbeats 2000000 in
set_option maxRecDepth 100000 in
theorem frames7_any (sapi tei : Int) (c : Bool) (k : Int) (pf : Bool) (ns nr : Int) (info : ByteArray) (w : World) :
    Calls Tryd.prog 5 #[.agg #[.int .i64 sapi, .int .i64 tei, .bool c, .int .i64 k, .bool pf, .int .i64 ns, .int .i64 nr, .string info]] w fun e w' =>
      e = .returned (.tuple #[frA sapi tei c k pf ns nr info, frA sapi tei c k pf ns nr info]) ∧ Below w.heap.size w w' := by
  obtain ⟨hC, hE1, hE2, hsz, hq⟩ := frames_world w sapi tei c k pf ns nr info (.cells #[.int .i64 sapi, .int .i64 tei, .bool c, .int .i64 k, .bool pf, .int .i64 ns, .int .i64 nr, .string info] 23)
    (.cells #[.int .i64 0, .int .i64 0, .bool false, .int .i64 0, .bool false, .int .i64 0, .int .i64 0, .string ⟨#[]⟩] 31) (.cells #[.int .i64 0, .int .i64 0, .bool false, .int .i64 0, .bool false, .int .i64 0, .int .i64 0, .string ⟨#[]⟩] 32) 23 0 rfl ⟨_, rfl⟩ ⟨_, rfl⟩
  go_enter Tryd.func5, Tryd.ntmps5
  go_wp2
  refine region_vals (by kernel_rfl) 21 rfl framesDst (framesVal w.heap.size sapi tei c k pf ns nr info) framesDst_inj ?hd ?hlow (FramesJ w sapi tei c k pf ns nr info) ?h0 ?hstep ?hdone
  case hd => exact framesDst_lt
  case hlow => kernel_rfl
  case h0 =>
    exact ⟨hC.later (drew_below _), hE1.later (drew_below _), hE2.later (drew_below _), hq.drew, fun h => by rw [rep_getD'] at h; exact absurd h (by decide), fun h => by rw [rep_getD'] at h; exact absurd h (by decide)⟩
  case hstep =>
    intro l a w1 i hi hJ hr hK
    have h1 : a.eval (.tmp 1) = .pointer (some ⟨w.heap.size, 0, none⟩) := hK.rest 1 (by decide)
    have h2 : a.eval (.tmp 2) = .pointer (some ⟨w.heap.size + 1, 0, none⟩) := hK.rest 2 (by decide)
    have h3 : a.eval (.tmp 3) = .pointer (some ⟨w.heap.size + 1 + 1, 0, none⟩) := hK.rest 3 (by decide)
    have got : ∀ j, j ∈ depsOf .any _ i → ∀ d, framesDst j = some d → j < 21 → a.eval (.tmp d) = framesVal w.heap.size sapi tei c k pf ns nr info j := fun j hj d hd hj' => hK.got j d hj' (ready_deps hr j hj) hd
    match i, hi, hr, got with
    | 0, _, hr, got => exact step_val rfl rfl (run_fa 0 (by decide) rfl h1 w1) rfl (hJ.keep (by decide))
    | 1, _, hr, got => exact step_val rfl rfl (run_ldi rfl (got 0 (by decide) 4 rfl (by decide)) hJ.arg.c0) rfl (hJ.keep (by decide))
    | 2, _, hr, got => exact step_val rfl rfl (run_fa 1 (by decide) rfl h1 w1) rfl (hJ.keep (by decide))
    | 3, _, hr, got => exact step_val rfl rfl (run_ldi rfl (got 2 (by decide) 6 rfl (by decide)) hJ.arg.c1) rfl (hJ.keep (by decide))
    | 4, _, hr, got => exact step_val rfl rfl (run_build2 rfl (got 1 (by decide) 5 rfl (by decide)) (got 3 (by decide) 7 rfl (by decide)) w1) rfl (hJ.keep (by decide))
    | 5, _, hr, got => exact step_val rfl rfl (run_fa 2 (by decide) rfl h1 w1) rfl (hJ.keep (by decide))
    | 6, _, hr, got => exact step_val rfl rfl (run_ldb rfl (got 5 (by decide) 9 rfl (by decide)) hJ.arg.c2) rfl (hJ.keep (by decide))
    | 7, _, hr, got => exact step_val rfl rfl (run_fa 3 (by decide) rfl h1 w1) rfl (hJ.keep (by decide))
    | 8, _, hr, got => exact step_val rfl rfl (run_ldi rfl (got 7 (by decide) 11 rfl (by decide)) hJ.arg.c3) rfl (hJ.keep (by decide))
    | 9, _, hr, got => exact step_val rfl rfl (run_fa 4 (by decide) rfl h1 w1) rfl (hJ.keep (by decide))
    | 10, _, hr, got => exact step_val rfl rfl (run_ldb rfl (got 9 (by decide) 13 rfl (by decide)) hJ.arg.c4) rfl (hJ.keep (by decide))
    | 11, _, hr, got => exact step_val rfl rfl (run_fa 5 (by decide) rfl h1 w1) rfl (hJ.keep (by decide))
    | 12, _, hr, got => exact step_val rfl rfl (run_ldi rfl (got 11 (by decide) 15 rfl (by decide)) hJ.arg.c5) rfl (hJ.keep (by decide))
    | 13, _, hr, got => exact step_val rfl rfl (run_fa 6 (by decide) rfl h1 w1) rfl (hJ.keep (by decide))
    | 14, _, hr, got => exact step_val rfl rfl (run_ldi rfl (got 13 (by decide) 17 rfl (by decide)) hJ.arg.c6) rfl (hJ.keep (by decide))
    | 15, _, hr, got => exact step_val rfl rfl (run_fa 7 (by decide) rfl h1 w1) rfl (hJ.keep (by decide))
    | 16, _, hr, got => exact step_val rfl rfl (run_lds rfl (got 15 (by decide) 19 rfl (by decide)) hJ.arg.c7) rfl (hJ.keep (by decide))
    | 17, _, hr, got => exact step_val rfl rfl (run_build8 rfl (got 4 (by decide) 8 rfl (by decide)) (got 6 (by decide) 10 rfl (by decide)) (got 8 (by decide) 12 rfl (by decide)) (got 10 (by decide) 14 rfl (by decide)) (got 12 (by decide) 16 rfl (by decide)) (got 14 (by decide) 18 rfl (by decide)) (got 16 (by decide) 20 rfl (by decide)) w1) rfl (hJ.keep (by decide))
    | 18, _, hr, got => exact step_val rfl rfl (run_ld8 rfl h1 hJ.arg) rfl (hJ.keep (by decide))
    | 19, _, hr, got =>
      refine step_skip rfl rfl (run_st8 (Or.inl rfl) h2 (got 17 (by decide) 21 rfl (by decide)) hJ.e1) rfl rfl ?_
      exact ⟨hJ.arg.kept (set8_block _ _ _ _ _ _ _ _ _ _ _ (by omega)) (by rw [set8_size]; exact Nat.le_refl _), set8_eight hJ.e1 _ _ _ _ _ _ _ _, hJ.e2.kept (set8_block _ _ _ _ _ _ _ _ _ _ _ (by omega)) (by rw [set8_size]; exact Nat.le_refl _), set8_below' hJ.bel (by omega) _ _ _ _ _ _ _ _, fun _ => set8_is hJ.e1 _ _ _ _ _ _ _ _, fun hl => (hJ.i2 ((set_listed hl).resolve_left (by decide))).kept (set8_block _ _ _ _ _ _ _ _ _ _ _ (by omega))⟩
    | 20, _, hr, got =>
      refine step_skip rfl rfl (run_st8 (Or.inr rfl) h3 (got 18 (by decide) 22 rfl (by decide)) hJ.e2) rfl rfl ?_
      exact ⟨hJ.arg.kept (set8_block _ _ _ _ _ _ _ _ _ _ _ (by omega)) (by rw [set8_size]; exact Nat.le_refl _), hJ.e1.kept (set8_block _ _ _ _ _ _ _ _ _ _ _ (by omega)) (by rw [set8_size]; exact Nat.le_refl _), set8_eight hJ.e2 _ _ _ _ _ _ _ _, set8_below' hJ.bel (by omega) _ _ _ _ _ _ _ _, fun hl => (hJ.i1 ((set_listed hl).resolve_left (by decide))).kept (set8_block _ _ _ _ _ _ _ _ _ _ _ (by omega)), fun _ => set8_is hJ.e2 _ _ _ _ _ _ _ _⟩
    | j + 21, hlt, _, _ => exact absurd hlt (by omega)
  case hdone =>
    intro l w' hall hJ
    obtain ⟨z0, z1, z2, z3, z4, z5, z6, z7⟩ := hJ.i1 (hall 19 (by decide))
    obtain ⟨y0, y1, y2, y3, y4, y5, y6, y7⟩ := hJ.i2 (hall 20 (by decide))
    have hbel := hJ.bel
    clear hall hJ hC hE1 hE2 hsz hq
    simp only [putsOf, framesDst, framesVal, Act.put, List.setIfInBounds_toArray, List.set_cons_zero, List.set_cons_succ]
    go_wp2
    exact bodyPost_ret (v := .tuple #[frA sapi tei c k pf ns nr info, frA sapi tei c k pf ns nr info]) (by simp [results, Tryd.results5, go_sem, frA, z0, z1, z2, z3, z4, z5, z6, z7, y0, y1, y2, y3, y4, y5, y6, y7]) rfl ⟨rfl, hbel⟩
end Go.Proofs.YtdfoicngcahajaaDoor
