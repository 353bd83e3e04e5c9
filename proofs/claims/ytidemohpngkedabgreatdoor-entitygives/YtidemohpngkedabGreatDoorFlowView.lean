/-
  The walks of a flow's New and View.
-/
import Derived.Test.YtidemohpngkedabGreatDoorFlowMore
import Derived.Test.YtidemohpngkedabGreatDoorCell8
import Derived.Test.YtidemohpngkedabGreatDoorRegionGuard
import Derived.Deep.CutBlock
namespace Go.Proofs.YtidemohpngkedabGreatDoor
open Go.RowKit
set_option linter.unusedVariables false
set_option maxRecDepth 100000
set_option linter.unusedSimpArgs false

/-- a view as a value -/
def vwV (σ : Wm.St) : Value := .agg #[.int .i64 σ.vs, .int .i64 σ.va, .int .i64 σ.vr, .bool σ.pe, .bool σ.ow, .bool σ.re, .int .i64 σ.sn, .int .i64 ((σ.L.length - σ.sn : Nat) : Int)]

/-! ### what each operation does -/
section
variable {ρ : Operand → Value} {o : Oper} {C : Nat}
theorem runf_nil {x : Operand} {p : Addr} (hop : o.op = .nilCheck x) (hx : ρ x = .pointer (some p)) (w : World) : (execOp ρ o).run Tryz.prog w = .ok (.value (.pointer (some p))) w := by
  unfold execOp
  simp only [hop, hx]
  go_simp
theorem runf_fa0 {x : Operand} (hop : o.op = .fieldAddr 120 x 0) (hx : ρ x = .pointer (some ⟨C, 0, none⟩)) (w : World) : (execOp ρ o).run Tryz.prog w = .ok (.value (.pointer (some ⟨C, 0, none⟩))) w := by
  unfold execOp
  simp only [hop, hx]
  go_simp
theorem runf_fa1 {x : Operand} (hop : o.op = .fieldAddr 120 x 1) (hx : ρ x = .pointer (some ⟨C, 0, none⟩)) (w : World) : (execOp ρ o).run Tryz.prog w = .ok (.value (.pointer (some ⟨C, 3, none⟩))) w := by
  unfold execOp
  simp only [hop, hx]
  go_simp
theorem runf_fa2 {x : Operand} (hop : o.op = .fieldAddr 120 x 2) (hx : ρ x = .pointer (some ⟨C, 0, none⟩)) (w : World) : (execOp ρ o).run Tryz.prog w = .ok (.value (.pointer (some ⟨C, 4, none⟩))) w := by
  unfold execOp
  simp only [hop, hx]
  go_simp
theorem runf_fa3 {x : Operand} (hop : o.op = .fieldAddr 120 x 3) (hx : ρ x = .pointer (some ⟨C, 0, none⟩)) (w : World) : (execOp ρ o).run Tryz.prog w = .ok (.value (.pointer (some ⟨C, 5, none⟩))) w := by
  unfold execOp
  simp only [hop, hx]
  go_simp
theorem runf_fa5 {x : Operand} (hop : o.op = .fieldAddr 120 x 5) (hx : ρ x = .pointer (some ⟨C, 0, none⟩)) (w : World) : (execOp ρ o).run Tryz.prog w = .ok (.value (.pointer (some ⟨C, 7, none⟩))) w := by
  unfold execOp
  simp only [hop, hx]
  go_simp
theorem runf_num {x : Operand} (k : Nat) (hk : k < 3) (hop : o.op = .fieldAddr 118 x k) (hx : ρ x = .pointer (some ⟨C, 0, none⟩)) (w : World) : (execOp ρ o).run Tryz.prog w = .ok (.value (.pointer (some ⟨C, k, none⟩))) w := by
  unfold execOp
  rcases (show k = 0 ∨ k = 1 ∨ k = 2 by omega) with rfl | rfl | rfl
  all_goals
    simp only [hop, hx]
    go_simp
theorem runf_ldi {x : Operand} {k : Nat} {v : Int} {w : World} (hop : o.op = .load 3 x) (hx : ρ x = .pointer (some ⟨C, k, none⟩)) (hc : w.cell? ⟨C, k, none⟩ = some (.int .i64 v)) : (execOp ρ o).run Tryz.prog w = .ok (.value (.int .i64 v)) w := by
  unfold execOp
  simp only [hop, hx]
  go_simp
theorem runf_ldb {x : Operand} {k : Nat} {v : Bool} {w : World} (hop : o.op = .load 4 x) (hx : ρ x = .pointer (some ⟨C, k, none⟩)) (hc : w.cell? ⟨C, k, none⟩ = some (.bool v)) : (execOp ρ o).run Tryz.prog w = .ok (.value (.bool v)) w := by
  unfold execOp
  simp only [hop, hx]
  go_simp
theorem runf_sent {x : Operand} {u : Value} {ts : Array TypeId} (hop : o.op = .call { callee := .value (.func 101), args := #[x], argTypes := ts })
    (hf : ρ (.func 101) = .func (.func 101) #[] #[]) (hx : ρ x = u) (w : World) : (execOp ρ o).run Tryz.prog w = .ok (.enter 101 #[u]) w := by
  unfold execOp
  simp only [hop]
  simp only [resolve, hf, hx, List.map_toArray, List.map_cons, List.map_nil]
  go_simp
theorem runf_left {x : Operand} {u : Value} {ts : Array TypeId} (hop : o.op = .call { callee := .value (.func 102), args := #[x], argTypes := ts })
    (hf : ρ (.func 102) = .func (.func 102) #[] #[]) (hx : ρ x = u) (w : World) : (execOp ρ o).run Tryz.prog w = .ok (.enter 102 #[u]) w := by
  unfold execOp
  simp only [hop]
  simp only [resolve, hf, hx, List.map_toArray, List.map_cons, List.map_nil]
  go_simp
theorem runf_build {σ : Wm.St} {x0 x1 x2 x3 x4 x5 x6 x7 : Operand} (hop : o.op = .build 62 #[(0, x0), (1, x1), (2, x2), (3, x3), (4, x4), (5, x5), (6, x6), (7, x7)])
    (h0 : ρ x0 = .int .i64 σ.vs) (h1 : ρ x1 = .int .i64 σ.va) (h2 : ρ x2 = .int .i64 σ.vr) (h3 : ρ x3 = .bool σ.pe) (h4 : ρ x4 = .bool σ.ow) (h5 : ρ x5 = .bool σ.re) (h6 : ρ x6 = .int .i64 σ.sn) (h7 : ρ x7 = .int .i64 ((σ.L.length - σ.sn : Nat) : Int)) (w : World) : (execOp ρ o).run Tryz.prog w = .ok (.value (vwV σ)) w := by
  unfold execOp vwV
  simp only [hop, h0, h1, h2, h3, h4, h5, h6, h7]
  go_simp
theorem runf_st8 {σ : Wm.St} {x y : Operand} {B : Nat} {w : World} (hop : o.op = .store 62 x y) (hx : ρ x = .pointer (some ⟨B, 0, none⟩)) (hy : ρ y = vwV σ) (hE : Eight w B) :
    (execOp ρ o).run Tryz.prog w = .ok .skip (set8 w B (.int .i64 σ.vs) (.int .i64 σ.va) (.int .i64 σ.vr) (.bool σ.pe) (.bool σ.ow) (.bool σ.re) (.int .i64 σ.sn) (.int .i64 ((σ.L.length - σ.sn : Nat) : Int))) := by
  obtain ⟨v0, v1, v2, v3, v4, v5, v6, v7, c0, c1, c2, c3, c4, c5, c6, c7, f0, f1, f2, f3, f4, f5, f6, f7⟩ := hE.parts
  unfold vwV at hy
  unfold execOp set8
  simp only [hop, hx, hy]
  go_simp
end
/-- the world while View's region runs -/
structure ViewJ (w0 : World) (C : Nat) (G : Option Nat) (σ : Wm.St) (l : Array Bool) (w : World) : Prop where
  fl : Fl w C G σ
  e : Eight w w0.heap.size
  bel : Below w0.heap.size w0 w
  old : ∀ k, qtch C G k → k < w0.heap.size
  i : l.getD 36 false = true → Is8 w w0.heap.size (.int .i64 σ.vs) (.int .i64 σ.va) (.int .i64 σ.vr) (.bool σ.pe) (.bool σ.ow) (.bool σ.re) (.int .i64 σ.sn) (.int .i64 ((σ.L.length - σ.sn : Nat) : Int))
theorem ViewJ.keep {w0 : World} {C : Nat} {G : Option Nat} {σ : Wm.St} {l : Array Bool} {w : World} (h : ViewJ w0 C G σ l w) {i : Nat} (hi : i < 36) : ViewJ w0 C G σ (l.setIfInBounds i true) w :=
  ⟨h.fl, h.e, h.bel, h.old, fun hl => h.i ((set_listed hl).resolve_left (by omega))⟩
theorem ViewJ.later {w0 : World} {C : Nat} {G : Option Nat} {σ : Wm.St} {l : Array Bool} {w w' : World} (h : ViewJ w0 C G σ l w) (hb : Below w.heap.size w w') : ViewJ w0 C G σ l w' := by
  have hs : w0.heap.size ≤ w.heap.size := Nat.le_of_lt h.e.lt
  refine ⟨h.fl.below hb, h.e.later hb, h.bel.trans (hb.mono hs), h.old, fun hl => (h.i hl).kept (hb.block _ h.e.lt)⟩
theorem ViewJ.drewN {w0 : World} {C : Nat} {G : Option Nat} {σ : Wm.St} {l : Array Bool} {w : World} (h : ViewJ w0 C G σ l w) (k : Nat) : ViewJ w0 C G σ l (w.drewN k) := h.later (fdrewN_blw (Below.refl _ _) k)
theorem set8_keptB (w : World) (B : Nat) (a b c d e f g h : Value) : Kept w (set8 w B a b c d e f g h) (fun k => k = B) := by
  unfold set8
  exact ((((((((Kept.refl w (fun k => k = B)).setCell (p := ⟨B, 0, none⟩) (fun _ => rfl) _).setCell (p := ⟨B, 1, none⟩) (fun _ => rfl) _).setCell (p := ⟨B, 2, none⟩) (fun _ => rfl) _).setCell (p := ⟨B, 3, none⟩) (fun _ => rfl) _).setCell (p := ⟨B, 4, none⟩) (fun _ => rfl) _).setCell (p := ⟨B, 5, none⟩) (fun _ => rfl) _).setCell (p := ⟨B, 6, none⟩) (fun _ => rfl) _).setCell (p := ⟨B, 7, none⟩) (fun _ => rfl) _
theorem ViewJ.stored {w0 : World} {C : Nat} {G : Option Nat} {σ : Wm.St} {l l' : Array Bool} {w : World} (h : ViewJ w0 C G σ l w) :
    ViewJ w0 C G σ l' (set8 w w0.heap.size (.int .i64 σ.vs) (.int .i64 σ.va) (.int .i64 σ.vr) (.bool σ.pe) (.bool σ.ow) (.bool σ.re) (.int .i64 σ.sn) (.int .i64 ((σ.L.length - σ.sn : Nat) : Int))) := by
  have hk := set8_keptB w w0.heap.size (.int .i64 σ.vs) (.int .i64 σ.va) (.int .i64 σ.vr) (.bool σ.pe) (.bool σ.ow) (.bool σ.re) (.int .i64 σ.sn) (.int .i64 ((σ.L.length - σ.sn : Nat) : Int))
  refine ⟨h.fl.kept hk (fun e => by have := h.old C (Or.inl rfl); omega) (fun B hB e => by have := h.old B (Or.inr hB); omega), set8_eight h.e _ _ _ _ _ _ _ _, set8_below h.bel _ _ _ _ _ _ _ _, h.old, fun _ => set8_is h.e _ _ _ _ _ _ _ _⟩

def viewD (i : Nat) : Option Nat := if i < 36 then some (6 + i) else none
def viewV (C : Nat) (σ : Wm.St) : Nat → Value
  | 0 => .pointer (some ⟨C, 0, none⟩) | 1 => .pointer (some ⟨C, 0, none⟩) | 2 => .pointer (some ⟨C, 0, none⟩) | 3 => .pointer (some ⟨C, 0, none⟩) | 4 => .int .i64 σ.vs | 5 => .pointer (some ⟨C, 0, none⟩) | 6 => .pointer (some ⟨C, 0, none⟩) | 7 => .pointer (some ⟨C, 0, none⟩) | 8 => .pointer (some ⟨C, 1, none⟩) | 9 => .int .i64 σ.va | 10 => .pointer (some ⟨C, 0, none⟩) | 11 => .pointer (some ⟨C, 0, none⟩) | 12 => .pointer (some ⟨C, 0, none⟩) | 13 => .pointer (some ⟨C, 2, none⟩) | 14 => .int .i64 σ.vr | 15 => .pointer (some ⟨C, 0, none⟩) | 16 => .pointer (some ⟨C, 0, none⟩) | 17 => .pointer (some ⟨C, 3, none⟩) | 18 => .bool σ.pe | 19 => .pointer (some ⟨C, 0, none⟩) | 20 => .pointer (some ⟨C, 0, none⟩) | 21 => .pointer (some ⟨C, 4, none⟩) | 22 => .bool σ.ow | 23 => .pointer (some ⟨C, 0, none⟩) | 24 => .pointer (some ⟨C, 0, none⟩) | 25 => .pointer (some ⟨C, 5, none⟩) | 26 => .bool σ.re | 27 => .pointer (some ⟨C, 0, none⟩) | 28 => .pointer (some ⟨C, 0, none⟩) | 29 => .pointer (some ⟨C, 7, none⟩) | 30 => .int .i64 σ.sn | 31 => .pointer (some ⟨C, 0, none⟩) | 32 => .pointer (some ⟨C, 0, none⟩) | 33 => .pointer (some ⟨C, 7, none⟩) | 34 => .int .i64 ((σ.L.length - σ.sn : Nat) : Int) | 35 => vwV σ | _ => undef
theorem viewD_inj : ∀ i j d, i < 37 → j < 37 → viewD i = some d → viewD j = some d → i = j := by
  intro i j d hi hj h1 h2
  unfold viewD at h1 h2
  split at h1 <;> split at h2 <;> simp at h1 h2 <;> omega
theorem viewD_lt : ∀ i d, i < 37 → viewD i = some d → d < 42 := by
  intro i d hi h1
  unfold viewD at h1
  split at h1 <;> simp at h1 <;> omega

set_option maxHeartbeats 4000000 in
set_option maxRecDepth 100000 in
theorem fview_any (C : Nat) (G : Option Nat) (σ : Wm.St) (w : World) (h : Fl w C G σ) :
    Calls Tryz.prog 47 #[.pointer (some ⟨C, 0, none⟩)] w fun e w' => e = .returned (vwV σ) ∧ Below w.heap.size w w' := by
  have hlt := h.lt
  have HJ : Hid (∀ t, ViewJ w C G σ (Array.replicate 37 false) ((w.alloc (.cells #[.int .i64 0, .int .i64 0, .int .i64 0, .bool false, .bool false, .bool false, .int .i64 0, .int .i64 0] t))).drew) := by
    intro t
    have hb : Below w.heap.size w (w.alloc (.cells #[.int .i64 0, .int .i64 0, .int .i64 0, .bool false, .bool false, .bool false, .int .i64 0, .int .i64 0] t)) := (Below.refl _ _).alloc (Nat.le_refl _) _
    exact ⟨h.below hb.drew, (eight_new w _ _ _ _ _ _ _ _ t).later (Below.refl _ _).drew, hb.drew, fun k hk => h.tlt hk, fun hl => by rw [rep_getD'] at hl; exact absurd hl (by decide)⟩
  clear h
  go_enter Tryz.func47, Tryz.ntmps47
  go_upto_region 3 with fail
  refine region_vals (by kernel_rfl) 37 rfl viewD (viewV C σ) viewD_inj ?hd ?hlow (ViewJ w C G σ) ?h0 ?hstep ?hdone
  case hd => exact viewD_lt
  case hlow => kernel_rfl
  case h0 => exact HJ.out _
  case hstep =>
    intro l a w1 i hi hJ hr hK
    have s0 : a.eval (.tmp 0) = .pointer (some ⟨C, 0, none⟩) := hK.rest 0 (by decide)
    have s2 : a.eval (.tmp 2) = .pointer (some ⟨w.heap.size, 0, none⟩) := hK.rest 2 (by decide)
    have got : ∀ j, j ∈ depsOf .any _ i → ∀ d, viewD j = some d → j < 37 → a.eval (.tmp d) = viewV C σ j := fun j hj d hd hj' => hK.got j d hj' (ready_deps hr j hj) hd
    match i, hi, hr, got with
    | 0, _, hr, got => exact stepw_val rfl (wanted_none rfl) (runw_move rfl s0 w1) rfl (hJ.keep (by decide))
    | 1, _, hr, got => exact stepw_val rfl (wanted_none rfl) (runf_nil rfl (got 0 (by decide) 6 rfl (by decide)) w1) rfl (hJ.keep (by decide))
    | 2, _, hr, got => exact stepw_val rfl (wanted_none rfl) (runf_fa0 rfl (got 1 (by decide) 7 rfl (by decide)) w1) rfl (hJ.keep (by decide))
    | 3, _, hr, got => exact stepw_val rfl (wanted_none rfl) (runf_num 0 (by decide) rfl (got 2 (by decide) 8 rfl (by decide)) w1) rfl (hJ.keep (by decide))
    | 4, _, hr, got => exact stepw_val rfl (wanted_none rfl) (runf_ldi rfl (got 3 (by decide) 9 rfl (by decide)) hJ.fl.fr.c0) rfl (hJ.keep (by decide))
    | 5, _, hr, got => exact stepw_val rfl (wanted_none rfl) (runw_move rfl s0 w1) rfl (hJ.keep (by decide))
    | 6, _, hr, got => exact stepw_val rfl (wanted_none rfl) (runf_nil rfl (got 5 (by decide) 11 rfl (by decide)) w1) rfl (hJ.keep (by decide))
    | 7, _, hr, got => exact stepw_val rfl (wanted_none rfl) (runf_fa0 rfl (got 6 (by decide) 12 rfl (by decide)) w1) rfl (hJ.keep (by decide))
    | 8, _, hr, got => exact stepw_val rfl (wanted_none rfl) (runf_num 1 (by decide) rfl (got 7 (by decide) 13 rfl (by decide)) w1) rfl (hJ.keep (by decide))
    | 9, _, hr, got => exact stepw_val rfl (wanted_none rfl) (runf_ldi rfl (got 8 (by decide) 14 rfl (by decide)) hJ.fl.fr.c1) rfl (hJ.keep (by decide))
    | 10, _, hr, got => exact stepw_val rfl (wanted_none rfl) (runw_move rfl s0 w1) rfl (hJ.keep (by decide))
    | 11, _, hr, got => exact stepw_val rfl (wanted_none rfl) (runf_nil rfl (got 10 (by decide) 16 rfl (by decide)) w1) rfl (hJ.keep (by decide))
    | 12, _, hr, got => exact stepw_val rfl (wanted_none rfl) (runf_fa0 rfl (got 11 (by decide) 17 rfl (by decide)) w1) rfl (hJ.keep (by decide))
    | 13, _, hr, got => exact stepw_val rfl (wanted_none rfl) (runf_num 2 (by decide) rfl (got 12 (by decide) 18 rfl (by decide)) w1) rfl (hJ.keep (by decide))
    | 14, _, hr, got => exact stepw_val rfl (wanted_none rfl) (runf_ldi rfl (got 13 (by decide) 19 rfl (by decide)) hJ.fl.fr.c2) rfl (hJ.keep (by decide))
    | 15, _, hr, got => exact stepw_val rfl (wanted_none rfl) (runw_move rfl s0 w1) rfl (hJ.keep (by decide))
    | 16, _, hr, got => exact stepw_val rfl (wanted_none rfl) (runf_nil rfl (got 15 (by decide) 21 rfl (by decide)) w1) rfl (hJ.keep (by decide))
    | 17, _, hr, got => exact stepw_val rfl (wanted_none rfl) (runf_fa1 rfl (got 16 (by decide) 22 rfl (by decide)) w1) rfl (hJ.keep (by decide))
    | 18, _, hr, got => exact stepw_val rfl (wanted_none rfl) (runf_ldb rfl (got 17 (by decide) 23 rfl (by decide)) hJ.fl.fr.c3) rfl (hJ.keep (by decide))
    | 19, _, hr, got => exact stepw_val rfl (wanted_none rfl) (runw_move rfl s0 w1) rfl (hJ.keep (by decide))
    | 20, _, hr, got => exact stepw_val rfl (wanted_none rfl) (runf_nil rfl (got 19 (by decide) 25 rfl (by decide)) w1) rfl (hJ.keep (by decide))
    | 21, _, hr, got => exact stepw_val rfl (wanted_none rfl) (runf_fa2 rfl (got 20 (by decide) 26 rfl (by decide)) w1) rfl (hJ.keep (by decide))
    | 22, _, hr, got => exact stepw_val rfl (wanted_none rfl) (runf_ldb rfl (got 21 (by decide) 27 rfl (by decide)) hJ.fl.fr.c4) rfl (hJ.keep (by decide))
    | 23, _, hr, got => exact stepw_val rfl (wanted_none rfl) (runw_move rfl s0 w1) rfl (hJ.keep (by decide))
    | 24, _, hr, got => exact stepw_val rfl (wanted_none rfl) (runf_nil rfl (got 23 (by decide) 29 rfl (by decide)) w1) rfl (hJ.keep (by decide))
    | 25, _, hr, got => exact stepw_val rfl (wanted_none rfl) (runf_fa3 rfl (got 24 (by decide) 30 rfl (by decide)) w1) rfl (hJ.keep (by decide))
    | 26, _, hr, got => exact stepw_val rfl (wanted_none rfl) (runf_ldb rfl (got 25 (by decide) 31 rfl (by decide)) hJ.fl.fr.c5) rfl (hJ.keep (by decide))
    | 27, _, hr, got => exact stepw_val rfl (wanted_none rfl) (runw_move rfl s0 w1) rfl (hJ.keep (by decide))
    | 28, _, hr, got => exact stepw_val rfl (wanted_none rfl) (runf_nil rfl (got 27 (by decide) 33 rfl (by decide)) w1) rfl (hJ.keep (by decide))
    | 29, _, hr, got => exact stepw_val rfl (wanted_none rfl) (runf_fa5 rfl (got 28 (by decide) 34 rfl (by decide)) w1) rfl (hJ.keep (by decide))
    | 30, _, hr, got => exact stepw_call rfl (wanted_none rfl) (runf_sent rfl rfl (got 29 (by decide) 35 rfl (by decide)) w1) rfl ((osent_any C σ.sn w1 hJ.fl.qu.c2 hJ.fl.lt).mono fun e w2 h => ⟨h.1, by rw [← h.2]; exact hJ.keep (by decide)⟩)
    | 31, _, hr, got => exact stepw_val rfl (wanted_none rfl) (runw_move rfl s0 w1) rfl (hJ.keep (by decide))
    | 32, _, hr, got => exact stepw_val rfl (wanted_none rfl) (runf_nil rfl (got 31 (by decide) 37 rfl (by decide)) w1) rfl (hJ.keep (by decide))
    | 33, _, hr, got => exact stepw_val rfl (wanted_none rfl) (runf_fa5 rfl (got 32 (by decide) 38 rfl (by decide)) w1) rfl (hJ.keep (by decide))
    | 34, _, hr, got =>
      obtain ⟨ca, ccap, x1, x2⟩ := hJ.fl.qu.c1
      refine stepw_call rfl (wanted_none rfl) (runf_left rfl rfl (got 33 (by decide) 39 rfl (by decide)) w1) rfl ((oleft_any C σ.sn σ.L.length ccap ca w1 hJ.fl.qu.c2 x1 hJ.fl.lt hJ.fl.qu.sn (by have := hJ.fl.qu.le; omega)).mono ?_)
      rintro e w2 ⟨rfl, k, rfl⟩
      exact ⟨rfl, (hJ.drewN k).keep (by decide)⟩
    | 35, _, hr, got => exact stepw_val rfl (wanted_none rfl) (runf_build rfl (got 4 (by decide) 10 rfl (by decide)) (got 9 (by decide) 15 rfl (by decide)) (got 14 (by decide) 20 rfl (by decide)) (got 18 (by decide) 24 rfl (by decide)) (got 22 (by decide) 28 rfl (by decide)) (got 26 (by decide) 32 rfl (by decide)) (got 30 (by decide) 36 rfl (by decide)) (got 34 (by decide) 40 rfl (by decide)) w1) rfl (hJ.keep (by decide))
    | 36, _, hr, got =>
      refine step_skip rfl rfl (runf_st8 rfl s2 (got 35 (by decide) 41 rfl (by decide)) hJ.e) rfl rfl ?_
      exact hJ.stored
    | j + 37, hlt, _, _ => exact absurd hlt (by omega)
  case hdone =>
    intro l w' hall hJ
    obtain ⟨z0, z1, z2, z3, z4, z5, z6, z7⟩ := hJ.i (hall 36 (by decide))
    have hbel := hJ.bel
    clear hall hJ HJ
    simp only [putsOf, viewD, viewV, Act.put, List.setIfInBounds_toArray, List.set_cons_zero, List.set_cons_succ]
    go_wp2
    exact bodyPost_ret (v := vwV σ) (by simp [results, Tryz.results47, go_sem, vwV, z0, z1, z2, z3, z4, z5, z6, z7]) rfl ⟨rfl, hbel⟩

/-- a new flow -/
theorem new_fl (w : World) (T : TypeId) (k mo : Int) : Fl (w.alloc (.cells #[.int .i64 0, .int .i64 0, .int .i64 0, .bool false, .bool false, .bool false, .int .i64 k, .int .i64 mo, .slice none 0 0, .int .i64 0] T)) w.heap.size none (Wm.new k mo) := by
  refine ⟨fun j hj => ?_, by simp, by show _ = some (Value.int .i64 mo); simp, ⟨none, 0, by simp [Wm.new], ⟨Nat.le_refl _, Nat.zero_le _, Or.inl ⟨rfl, rfl, rfl⟩⟩⟩, by show _ = some (Value.int .i64 0); simp, by simp, by simp, by simp, (fun e => by cases e), Nat.le_refl _, Nat.zero_le _, fun x h => by simp [Wm.new] at h⟩
  refine seven (P := fun j => World.cell? _ ⟨w.heap.size, j, none⟩ = some (fval (Wm.new k mo) j) ∧ World.frozen? _ ⟨w.heap.size, j, none⟩ = false) ?_ ?_ ?_ ?_ ?_ ?_ ?_ j hj
  all_goals
    refine ⟨?_, by simp⟩
    simp [fval, Wm.new]

set_option maxHeartbeats 400000 in
theorem qnew_any (mo : Int) (w : World) : Calls Tryz.prog 51 #[.int .i64 mo] w fun e w' => e = .returned (.pointer (some ⟨w.heap.size, 0, none⟩)) ∧ (w'.cell? ⟨w.heap.size, 0, none⟩ = some (.int .i64 mo) ∧ w'.cell? ⟨w.heap.size, 1, none⟩ = some (.slice none 0 0) ∧ w'.cell? ⟨w.heap.size, 2, none⟩ = some (.int .i64 0) ∧ w.heap.size < w'.heap.size) ∧ Below w.heap.size w w' := by
  go_enter Tryz.func51, Tryz.ntmps51
  go_wp2
  go_ret
  exact ⟨rfl, ⟨by simp, by simp, by simp, by simp⟩, (Below.refl _ _).alloc (Nat.le_refl _) _⟩

set_option maxHeartbeats 1000000 in
theorem fnew_any (k mo : Int) (w : World) : Calls Tryz.prog 25 #[.int .i64 k, .int .i64 mo] w fun e w' => ∃ C, e = .returned (.pointer (some ⟨C, 0, none⟩)) ∧ w.heap.size ≤ C ∧ Fl w' C none (Wm.new k mo) ∧ Below w.heap.size w w' := by
  go_enter Tryz.func25, Tryz.ntmps25
  go_wp2_with fail
  refine (qnew_any mo w).mono ?_
  rintro e w1 ⟨rfl, ⟨x0, x1, x2, hlt⟩, hb⟩
  have HB : Hid (Below w.heap.size w w1) := hb
  clear hb
  go_wp2
  go_ret
  exact ⟨_, rfl, Nat.le_of_lt hlt, new_fl w1 _ k mo, HB.out.alloc (Nat.le_of_lt hlt) _⟩
end Go.Proofs.YtidemohpngkedabGreatDoor
