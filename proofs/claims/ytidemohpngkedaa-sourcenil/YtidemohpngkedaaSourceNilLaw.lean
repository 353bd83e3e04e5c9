/-
  The walk of the law SourceNil: it returns true.
-/
import Derived.Test.YtidemohpngkedaaSrcWakes
import Derived.Deep.DeepCutAuto
namespace Go.Proofs.Ytidemohpngkedaa
open Go.RowKit
set_option linter.unusedVariables false
set_option linter.unusedSimpArgs false
set_option maxRecDepth 100000

/-- the call's data in block L -/
def At5 (w : World) (L : Nat) (d ty ri ai often : Int) : Prop := L < w.heap.size ∧ w.cell? ⟨L, 0, none⟩ = some (.int .i64 d) ∧ w.cell? ⟨L, 1, none⟩ = some (.int .i64 ty) ∧ w.cell? ⟨L, 2, none⟩ = some (.int .i64 ri) ∧ w.cell? ⟨L, 3, none⟩ = some (.int .i64 ai) ∧ w.cell? ⟨L, 4, none⟩ = some (.int .i64 often)
structure NilJ (w0 : World) (L : Nat) (d ty ri ai often : Int) (l : Array Bool) (w : World) : Prop where
  a : At5 w L d ty ri ai often
  bel : Below w0.heap.size w0 w
  bs : w0.heap.size ≤ w.heap.size
theorem NilJ.on {w0 w w' : World} {L i : Nat} {d ty ri ai often : Int} {l : Array Bool} (h : NilJ w0 L d ty ri ai often l w) (hb : Below w.heap.size w w') : NilJ w0 L d ty ri ai often (l.setIfInBounds i true) w' := by
  obtain ⟨h0, h1, h2, h3, h4, h5⟩ := h.a
  exact ⟨⟨Nat.lt_of_lt_of_le h0 hb.size, (hb.cell (p := ⟨L, 0, none⟩) h0).trans h1, (hb.cell (p := ⟨L, 1, none⟩) h0).trans h2, (hb.cell (p := ⟨L, 2, none⟩) h0).trans h3, (hb.cell (p := ⟨L, 3, none⟩) h0).trans h4, (hb.cell (p := ⟨L, 4, none⟩) h0).trans h5⟩, h.bel.trans (hb.mono h.bs), Nat.le_trans h.bs hb.size⟩

section
variable {ρ : Operand → Value} {o : Oper}
theorem runn_c0 (hop : o.op = .call { callee := .value (.func 11), args := #[], argTypes := #[] }) (hf : ρ (.func 11) = .func (.func 11) #[] #[]) (w : World) : (execOp ρ o).run Try.prog w = .ok (.enter 11 #[]) w := by
  unfold execOp
  simp only [hop]
  simp only [resolve, hf, List.map_toArray, List.map_nil]
  go_simp
theorem runn_c1 {f : Nat} {x : Operand} {u : Value} {ts : Array TypeId} (hF : o.op = .call { callee := .value (.func 22), args := #[x], argTypes := ts } ∧ f = 22 ∨ o.op = .call { callee := .value (.func 18), args := #[x], argTypes := ts } ∧ f = 18 ∨ o.op = .call { callee := .value (.func 13), args := #[x], argTypes := ts } ∧ f = 13 ∨ o.op = .call { callee := .value (.func 15), args := #[x], argTypes := ts } ∧ f = 15)
    (hx : ρ x = u) (hf : ρ (.func f) = .func (.func f) #[] #[]) (w : World) : (execOp ρ o).run Try.prog w = .ok (.enter f #[u]) w := by
  unfold execOp
  rcases hF with ⟨hop, rfl⟩ | ⟨hop, rfl⟩ | ⟨hop, rfl⟩ | ⟨hop, rfl⟩
  all_goals
    simp only [hop]
    simp only [resolve, hf, hx, List.map_toArray, List.map_cons, List.map_nil]
    go_simp
theorem runn_c2 {f : Nat} {x y : Operand} {u v : Value} {ts : Array TypeId} (hF : o.op = .call { callee := .value (.func 21), args := #[x, y], argTypes := ts } ∧ f = 21 ∨ o.op = .call { callee := .value (.func 20), args := #[x, y], argTypes := ts } ∧ f = 20)
    (hx : ρ x = u) (hy : ρ y = v) (hf : ρ (.func f) = .func (.func f) #[] #[]) (w : World) : (execOp ρ o).run Try.prog w = .ok (.enter f #[u, v]) w := by
  unfold execOp
  rcases hF with ⟨hop, rfl⟩ | ⟨hop, rfl⟩
  all_goals
    simp only [hop]
    simp only [resolve, hf, hx, hy, List.map_toArray, List.map_cons, List.map_nil]
    go_simp
theorem runn_eqe {x y : Operand} (hop : o.op = .binOp .eql 55 x y 55) (hx : ρ x = .int .i64 1) (hy : ρ y = .int .i64 1) (w : World) : (execOp ρ o).run Try.prog w = .ok (.value (.bool true)) w := by
  unfold execOp
  simp only [hop, hx, hy]
  go_simp
theorem runn_eqz {x y : Operand} (hop : o.op = .binOp .eql 3 x y 3) (hx : ρ x = .int .i64 0) (hy : ρ y = .int .i64 0) (w : World) : (execOp ρ o).run Try.prog w = .ok (.value (.bool true)) w := by
  unfold execOp
  simp only [hop, hx, hy]
  go_simp
theorem runn_add {x y : Operand} (hop : o.op = .binOp .add 3 x y 3) (hx : ρ x = .int .i64 0) (hy : ρ y = .int .i64 0) (w : World) : (execOp ρ o).run Try.prog w = .ok (.value (.int .i64 0)) w := by
  unfold execOp
  simp only [hop, hx, hy]
  go_simp
  rfl
theorem runn_len {x : Operand} (hop : o.op = .call { callee := .builtin .len, args := #[x], argTypes := #[47] } ∨ o.op = .call { callee := .builtin .len, args := #[x], argTypes := #[31] } ∨ o.op = .call { callee := .builtin .len, args := #[x], argTypes := #[41] }) (hx : ρ x = .slice none 0 0) (w : World) : (execOp ρ o).run Try.prog w = .ok (.value (.int .i64 0)) w := by
  unfold execOp
  rcases hop with hop | hop | hop
  all_goals
    simp only [hop, resolve, invoke, builtin, Sem.run_bind, Sem.run_pure, Result.andThen_ok, List.map_toArray, List.map_cons, List.map_nil, hx]
    go_simp
theorem runn_fa {x : Operand} {L : Nat} (hop : o.op = .fieldAddr 29 x 3) (hx : ρ x = .pointer (some ⟨L, 0, none⟩)) (w : World) : (execOp ρ o).run Try.prog w = .ok (.value (.pointer (some ⟨L, 3, none⟩))) w := by
  unfold execOp
  simp only [hop, hx]
  go_simp
theorem runn_ldi {x : Operand} {L : Nat} {v : Int} {w : World} (hop : o.op = .load 3 x) (hx : ρ x = .pointer (some ⟨L, 3, none⟩)) (hc : w.cell? ⟨L, 3, none⟩ = some (.int .i64 v)) : (execOp ρ o).run Try.prog w = .ok (.value (.int .i64 v)) w := by
  unfold execOp
  simp only [hop, hx]
  go_simp
theorem runn_ld5 {x : Operand} {L : Nat} {d ty ri ai often : Int} {w : World} (hop : o.op = .load 29 x) (hx : ρ x = .pointer (some ⟨L, 0, none⟩)) (hc : At5 w L d ty ri ai often) : (execOp ρ o).run Try.prog w = .ok (.value (.agg #[.int .i64 d, .int .i64 ty, .int .i64 ri, .int .i64 ai, .int .i64 often])) w := by
  obtain ⟨h0, h1, h2, h3, h4, h5⟩ := hc
  unfold execOp
  simp only [hop, hx]
  go_simp
end

def nilD : Nat → Option Nat | 0 => some 22 | 1 => some 23 | 2 => some 24 | 3 => some 25 | 4 => some 26 | 5 => some 27 | 6 => some 28 | 7 => some 29 | 8 => some 30 | 9 => some 31 | 10 => some 32 | 11 => some 33 | 12 => some 34 | 13 => some 35 | 14 => some 36 | 15 => some 37 | 16 => some 38 | 17 => some 39 | 18 => some 40 | 19 => some 41 | 20 => some 42 | 21 => some 43 | 22 => some 44 | 23 => some 45 | 24 => some 46 | 25 => some 47 | 26 => some 48 | 27 => some 49 | 28 => some 50 | 29 => some 51 | 30 => some 52 | 31 => some 53 | 32 => some 54 | 33 => some 55 | 34 => some 56 | 35 => some 2 | _ => none
def nilV (L : Nat) (d ty ri ai often : Int) : Nat → Value | 0 => .bool true | 1 => .bool true | 2 => .int .i64 1 | 3 => .bool true | 4 => .bool true | 5 => .bool true | 6 => .int .i64 1 | 7 => .bool true | 8 => .bool true | 9 => .bool true | 10 => .pointer none | 11 => .agg #[.int .i64 d, .int .i64 ty, .int .i64 ri, .int .i64 ai, .int .i64 often] | 12 => .agg #[.int .i64 ty, .int .i64 ri, .int .i64 ai] | 13 => .slice none 0 0 | 14 => .int .i64 0 | 15 => .pointer none | 16 => .slice none 0 0 | 17 => .int .i64 0 | 18 => .int .i64 0 | 19 => .pointer none | 20 => .pointer (some ⟨L, 3, none⟩) | 21 => .int .i64 ai | 22 => .slice none 0 0 | 23 => .int .i64 0 | 24 => .int .i64 0 | 25 => .pointer none | 26 => .slice none 0 0 | 27 => .int .i64 0 | 28 => .int .i64 0 | 29 => .pointer none | 30 => .slice none 0 0 | 31 => .int .i64 0 | 32 => .int .i64 0 | 33 => .bool true | 34 => .bool true | 35 => .bool true | _ => undef
theorem nilD_inj : ∀ i j d, i < 36 → j < 36 → nilD i = some d → nilD j = some d → i = j := by
  have h : ∀ i < 36, ∀ j < 36, nilD i = nilD j → i = j := by decide
  intro i j d hi hj h1 h2
  exact h i hi j hj (h1.trans h2.symm)
theorem nilD_lt : ∀ i d, i < 36 → nilD i = some d → d < 57 := by
  have h : ∀ i < 36, (nilD i).all (· < 57) = true := by decide
  intro i d hi hd
  have := h i hi
  rw [hd] at this
  simpa using this

set_option maxHeartbeats 2000000 in
theorem walk_SourceNil (d ty ri ai often : Int) (w : World) (i1 : -9223372036854775808 ≤ d ∧ d ≤ 9223372036854775807) (i2 : -9223372036854775808 ≤ ty ∧ ty ≤ 9223372036854775807) (i3 : -9223372036854775808 ≤ ri ∧ ri ≤ 9223372036854775807) (i4 : -9223372036854775808 ≤ ai ∧ ai ≤ 9223372036854775807) (i5 : -9223372036854775808 ≤ often ∧ often ≤ 9223372036854775807) :
    Calls Try.prog 6 #[.agg #[.int .i64 d, .int .i64 ty, .int .i64 ri, .int .i64 ai, .int .i64 often]] w fun r w' => r = .returned (.bool true) ∧ Below w.heap.size w w' := by
  clear i1 i2 i3 i4 i5
  obtain ⟨W, hW⟩ : ∃ W, W = w.alloc (.cells #[.int .i64 d, .int .i64 ty, .int .i64 ri, .int .i64 ai, .int .i64 often] 29) := ⟨_, rfl⟩
  have hbW : Below w.heap.size w W := by rw [hW]; exact (Below.refl _ _).alloc (Nat.le_refl _) _
  have hA : At5 W w.heap.size d ty ri ai often := by
    rw [hW]
    exact ⟨by simp, by simp, by simp, by simp, by simp, by simp⟩
  have hc3 := hA.2.2.2.2.1
  have hlt := hA.1
  have HJ : Hid (∀ w', Below W.heap.size W w' → NilJ w w.heap.size d ty ri ai often (Array.replicate 36 false) w') := fun w' hb => by
    have h0 : NilJ w w.heap.size d ty ri ai often (Array.replicate 36 false) W := ⟨hA, hbW, hbW.size⟩
    have h1 := h0.on (i := 36) hb
    exact ⟨h1.a, h1.bel, h1.bs⟩
  clear hA hbW
  go_enter Try.func6, Try.ntmps6
  go_wp2_with fail
  rw [← hW]
  refine (scheck_nil ai W).mono ?_
  rintro r w1 ⟨rfl, rfl⟩
  clear hW
  go_wp2_with fail
  refine (srem_nil ai W).mono ?_
  rintro r w1 ⟨rfl, rfl⟩
  go_upto_region 4 with fail
  refine region_vals (by kernel_rfl) 36 rfl nilD (nilV w.heap.size d ty ri ai often) nilD_inj ?hd ?hlow (NilJ w w.heap.size d ty ri ai often) ?h0 ?hstep ?hdone
  case hd => exact nilD_lt
  case hlow => kernel_rfl
  case h0 => exact HJ.out _ (Below.refl _ _).drew
  case hstep =>
    intro l fa w1 i hi hJ hr hK
    have h1 : fa.eval (.tmp 1) = .pointer (some ⟨w.heap.size, 0, none⟩) := hK.rest 1 (by decide)
    have h3 : fa.eval (.tmp 3) = .pointer none := hK.rest 3 (by decide)
    have h5 : fa.eval (.tmp 5) = .int .i64 1 := hK.rest 5 (by decide)
    have h7 : fa.eval (.tmp 7) = .int .i64 1 := hK.rest 7 (by decide)
    have got : ∀ j, j ∈ depsOf .any _ i → ∀ d', nilD j = some d' → j < 36 → fa.eval (.tmp d') = nilV w.heap.size d ty ri ai often j := fun j hj d' hd hj' => hK.got j d' hj' (ready_deps hr j hj) hd
    match i, hi, hr, got with

    | 0, _, hr, got => exact stepw_call rfl (wanted_none rfl) (runn_c0 rfl rfl w1) rfl ((swakes_any w1).mono fun e w' h => ⟨h.1, hJ.on h.2⟩)
    | 1, _, hr, got => exact stepw_val rfl (wanted_none rfl) (runw_move rfl (got 0 (by decide) 22 rfl (by decide)) w1) rfl (hJ.on (Below.refl _ _))
    | 2, _, hr, got => exact stepw_val rfl (wanted_some (j := 1) rfl rfl rfl (got 1 (by decide) 23 rfl (by decide))) (runw_move rfl h5 w1) rfl (hJ.on (Below.refl _ _))
    | 3, _, hr, got => exact stepw_val rfl (wanted_some (j := 1) rfl rfl rfl (got 1 (by decide) 23 rfl (by decide))) (runn_eqe rfl (got 2 (by decide) 24 rfl (by decide)) rfl w1) rfl (hJ.on (Below.refl _ _))
    | 4, _, hr, got => exact stepw_val rfl (wanted_none rfl) (runw_pick rfl (got 1 (by decide) 23 rfl (by decide)) (got 3 (by decide) 25 rfl (by decide)) w1) rfl (hJ.on (Below.refl _ _))
    | 5, _, hr, got => exact stepw_val rfl (wanted_none rfl) (runw_move rfl (got 4 (by decide) 26 rfl (by decide)) w1) rfl (hJ.on (Below.refl _ _))
    | 6, _, hr, got => exact stepw_val rfl (wanted_some (j := 5) rfl rfl rfl (got 5 (by decide) 27 rfl (by decide))) (runw_move rfl h7 w1) rfl (hJ.on (Below.refl _ _))
    | 7, _, hr, got => exact stepw_val rfl (wanted_some (j := 5) rfl rfl rfl (got 5 (by decide) 27 rfl (by decide))) (runn_eqe rfl (got 6 (by decide) 28 rfl (by decide)) rfl w1) rfl (hJ.on (Below.refl _ _))
    | 8, _, hr, got => exact stepw_val rfl (wanted_none rfl) (runw_pick rfl (got 5 (by decide) 27 rfl (by decide)) (got 7 (by decide) 29 rfl (by decide)) w1) rfl (hJ.on (Below.refl _ _))
    | 9, _, hr, got => exact stepw_val rfl (wanted_none rfl) (runw_move rfl (got 8 (by decide) 30 rfl (by decide)) w1) rfl (hJ.on (Below.refl _ _))
    | 10, _, hr, got => exact stepw_val rfl (wanted_some (j := 9) rfl rfl rfl (got 9 (by decide) 31 rfl (by decide))) (runw_move rfl h3 w1) rfl (hJ.on (Below.refl _ _))
    | 11, _, hr, got => exact stepw_val rfl (wanted_some (j := 9) rfl rfl rfl (got 9 (by decide) 31 rfl (by decide))) (runn_ld5 rfl h1 hJ.a) rfl (hJ.on (Below.refl _ _))
    | 12, _, hr, got => exact stepw_call rfl (wanted_some (j := 9) rfl rfl rfl (got 9 (by decide) 31 rfl (by decide))) (runn_c1 (Or.inl ⟨rfl, rfl⟩) (got 11 (by decide) 33 rfl (by decide)) rfl w1) rfl ((made_any15 d ty ri ai often w1).mono fun e w' h => ⟨h.1, hJ.on h.2⟩)
    | 13, _, hr, got => exact stepw_call rfl (wanted_some (j := 9) rfl rfl rfl (got 9 (by decide) 31 rfl (by decide))) (runn_c2 (Or.inl ⟨rfl, rfl⟩) (got 10 (by decide) 32 rfl (by decide)) (got 12 (by decide) 34 rfl (by decide)) rfl w1) rfl ((smessage_nil ty ri ai w1).mono fun e w' h => ⟨h.1, hJ.on h.2⟩)
    | 14, _, hr, got => exact stepw_val rfl (wanted_some (j := 9) rfl rfl rfl (got 9 (by decide) 31 rfl (by decide))) (runn_len (Or.inl rfl) (got 13 (by decide) 35 rfl (by decide)) w1) rfl (hJ.on (Below.refl _ _))
    | 15, _, hr, got => exact stepw_val rfl (wanted_some (j := 9) rfl rfl rfl (got 9 (by decide) 31 rfl (by decide))) (runw_move rfl h3 w1) rfl (hJ.on (Below.refl _ _))
    | 16, _, hr, got => exact stepw_call rfl (wanted_some (j := 9) rfl rfl rfl (got 9 (by decide) 31 rfl (by decide))) (runn_c1 (Or.inr (Or.inl ⟨rfl, rfl⟩)) (got 15 (by decide) 37 rfl (by decide)) rfl w1) rfl ((saudit_nil w1).mono fun e w' h => ⟨h.1, h.2 ▸ hJ.on (Below.refl _ _)⟩)
    | 17, _, hr, got => exact stepw_val rfl (wanted_some (j := 9) rfl rfl rfl (got 9 (by decide) 31 rfl (by decide))) (runn_len (Or.inl rfl) (got 16 (by decide) 38 rfl (by decide)) w1) rfl (hJ.on (Below.refl _ _))
    | 18, _, hr, got => exact stepw_val rfl (wanted_some (j := 9) rfl rfl rfl (got 9 (by decide) 31 rfl (by decide))) (runn_add rfl (got 14 (by decide) 36 rfl (by decide)) (got 17 (by decide) 39 rfl (by decide)) w1) rfl (hJ.on (Below.refl _ _))
    | 19, _, hr, got => exact stepw_val rfl (wanted_some (j := 9) rfl rfl rfl (got 9 (by decide) 31 rfl (by decide))) (runw_move rfl h3 w1) rfl (hJ.on (Below.refl _ _))
    | 20, _, hr, got => exact stepw_val rfl (wanted_some (j := 9) rfl rfl rfl (got 9 (by decide) 31 rfl (by decide))) (runn_fa rfl h1 w1) rfl (hJ.on (Below.refl _ _))
    | 21, _, hr, got => exact stepw_val rfl (wanted_some (j := 9) rfl rfl rfl (got 9 (by decide) 31 rfl (by decide))) (runn_ldi rfl (got 20 (by decide) 42 rfl (by decide)) hJ.a.2.2.2.2.1) rfl (hJ.on (Below.refl _ _))
    | 22, _, hr, got => exact stepw_call rfl (wanted_some (j := 9) rfl rfl rfl (got 9 (by decide) 31 rfl (by decide))) (runn_c2 (Or.inr ⟨rfl, rfl⟩) (got 19 (by decide) 41 rfl (by decide)) (got 21 (by decide) 43 rfl (by decide)) rfl w1) rfl ((stimeout_nil ai w1).mono fun e w' h => ⟨h.1, h.2 ▸ hJ.on (Below.refl _ _)⟩)
    | 23, _, hr, got => exact stepw_val rfl (wanted_some (j := 9) rfl rfl rfl (got 9 (by decide) 31 rfl (by decide))) (runn_len (Or.inl rfl) (got 22 (by decide) 44 rfl (by decide)) w1) rfl (hJ.on (Below.refl _ _))
    | 24, _, hr, got => exact stepw_val rfl (wanted_some (j := 9) rfl rfl rfl (got 9 (by decide) 31 rfl (by decide))) (runn_add rfl (got 18 (by decide) 40 rfl (by decide)) (got 23 (by decide) 45 rfl (by decide)) w1) rfl (hJ.on (Below.refl _ _))
    | 25, _, hr, got => exact stepw_val rfl (wanted_some (j := 9) rfl rfl rfl (got 9 (by decide) 31 rfl (by decide))) (runw_move rfl h3 w1) rfl (hJ.on (Below.refl _ _))
    | 26, _, hr, got => exact stepw_call rfl (wanted_some (j := 9) rfl rfl rfl (got 9 (by decide) 31 rfl (by decide))) (runn_c1 (Or.inr (Or.inr (Or.inl ⟨rfl, rfl⟩))) (got 25 (by decide) 47 rfl (by decide)) rfl w1) rfl ((slist_nil w1).mono fun e w' h => ⟨h.1, h.2 ▸ hJ.on (Below.refl _ _)⟩)
    | 27, _, hr, got => exact stepw_val rfl (wanted_some (j := 9) rfl rfl rfl (got 9 (by decide) 31 rfl (by decide))) (runn_len (Or.inr (Or.inl rfl)) (got 26 (by decide) 48 rfl (by decide)) w1) rfl (hJ.on (Below.refl _ _))
    | 28, _, hr, got => exact stepw_val rfl (wanted_some (j := 9) rfl rfl rfl (got 9 (by decide) 31 rfl (by decide))) (runn_add rfl (got 24 (by decide) 46 rfl (by decide)) (got 27 (by decide) 49 rfl (by decide)) w1) rfl (hJ.on (Below.refl _ _))
    | 29, _, hr, got => exact stepw_val rfl (wanted_some (j := 9) rfl rfl rfl (got 9 (by decide) 31 rfl (by decide))) (runw_move rfl h3 w1) rfl (hJ.on (Below.refl _ _))
    | 30, _, hr, got => exact stepw_call rfl (wanted_some (j := 9) rfl rfl rfl (got 9 (by decide) 31 rfl (by decide))) (runn_c1 (Or.inr (Or.inr (Or.inr ⟨rfl, rfl⟩))) (got 29 (by decide) 51 rfl (by decide)) rfl w1) rfl ((schecks_nil w1).mono fun e w' h => ⟨h.1, h.2 ▸ hJ.on (Below.refl _ _)⟩)
    | 31, _, hr, got => exact stepw_val rfl (wanted_some (j := 9) rfl rfl rfl (got 9 (by decide) 31 rfl (by decide))) (runn_len (Or.inr (Or.inr rfl)) (got 30 (by decide) 52 rfl (by decide)) w1) rfl (hJ.on (Below.refl _ _))
    | 32, _, hr, got => exact stepw_val rfl (wanted_some (j := 9) rfl rfl rfl (got 9 (by decide) 31 rfl (by decide))) (runn_add rfl (got 28 (by decide) 50 rfl (by decide)) (got 31 (by decide) 53 rfl (by decide)) w1) rfl (hJ.on (Below.refl _ _))
    | 33, _, hr, got => exact stepw_val rfl (wanted_some (j := 9) rfl rfl rfl (got 9 (by decide) 31 rfl (by decide))) (runn_eqz rfl (got 32 (by decide) 54 rfl (by decide)) rfl w1) rfl (hJ.on (Below.refl _ _))
    | 34, _, hr, got => exact stepw_val rfl (wanted_none rfl) (runw_pick rfl (got 9 (by decide) 31 rfl (by decide)) (got 33 (by decide) 55 rfl (by decide)) w1) rfl (hJ.on (Below.refl _ _))
    | 35, _, hr, got => exact stepw_val rfl (wanted_none rfl) (runw_assign rfl (got 34 (by decide) 56 rfl (by decide)) w1) rfl (hJ.on (Below.refl _ _))
    | j + 36, hlt, _, _ => exact absurd hlt (by omega)
  case hdone =>
    intro l w' hall hJ
    have HB : Hid (Below w.heap.size w w') := hJ.bel
    clear hall hJ HJ
    simp only [putsOf, nilD, nilV, Act.put, List.setIfInBounds_toArray, List.set_cons_zero, List.set_cons_succ]
    go_wp2
    go_ret
    exact ⟨rfl, HB.out⟩
end Go.Proofs.Ytidemohpngkedaa
