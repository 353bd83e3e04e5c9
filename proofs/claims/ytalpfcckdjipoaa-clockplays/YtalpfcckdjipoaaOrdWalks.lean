/-
  The comparison of two timers, in the program beside this one (the clock handed over last): by till when they run, by Owner, by Timer. It lays blocks, and turns nothing.
-/
import Derived.Test.YtalpfcckdjipoaaCmpWalks
import Derived.Test.YtalpfcckdjipoaaRegionGuard
import Derived.Sort.Grow
namespace Go.Proofs.Ytalpfcckdjipoaa
open Go.RowKit Go.Sort
set_option linter.unusedVariables false
set_option linter.unusedSimpArgs false

/-- the comparison's function, beside -/
def ordX (fn : Func) : Func := { fn with body := fn.body.map (fun c => .seq (.region 99 #[mv 32 0, mv 0 2, mv 2 1, mv 1 32] false) c), ntmps := 33 }

structure HasOrd (Q : Program) : Prop where
  cmp : HasCmp Q
  f23 : Q.funcs[23]? = some (ordX Try.f23)
  t25 : Q.underlying 25 = some (.pointer 57)
  t57 : Q.underlying 57 = Try.prog.underlying 57
  t33 : Q.underlying 33 = Try.prog.underlying 33
  a33 : ∀ w, (isAgg 33).run Q w = .ok true w
  z33 : ∀ w, (Go.sizeOf 33).run Q w = .ok 2 w
  z52 : ∀ w, (Go.sizeOf 52).run Q w = .ok 1 w
  a52 : ∀ w, (isAgg 52).run Q w = .ok false w
  v3 : ∀ w, (zeroValue 3).run Q w = .ok (.int .i64 0) w

theorem side_ord : HasOrd (beside Try.prog) where
  cmp := side_cmp
  f23 := by
    show (besideF Try.prog)[23]? = _
    rw [beside_at Try.func23, if_pos rfl]
    kernel_rfl
  t25 := by kernel_rfl
  t57 := rfl
  t33 := rfl
  a33 := fun _ => by rfl
  z33 := fun _ => by rfl
  z52 := fun _ => by rfl
  a52 := fun _ => by rfl
  v3 := fun _ => by rfl

section
variable {Q : Program} {ρ : Operand → Value} {o : Oper}
theorem runq_nil {x : Operand} {a : Addr} (hop : o.op = .nilCheck x) (hx : ρ x = .pointer (some a)) (w : World) : (execOp ρ o).run Q w = .ok (.value (.pointer (some a))) w := by
  unfold execOp
  simp only [hop, hx]
  rfl
theorem runq_fac (H : HasOrd Q) {x : Operand} {C : Nat} (hop : o.op = .fieldAddr 57 x 0) (hx : ρ x = .pointer (some ⟨C, 0, none⟩)) (w : World) : (execOp ρ o).run Q w = .ok (.value (.pointer (some ⟨C, 0, none⟩))) w := by
  have t57 := H.t57.trans Try.underlying57
  have z52 := H.z52
  have r57 := fun w => run_underlying (P := Q) (w := w) t57
  unfold execOp
  simp only [hop, hx]
  go_simp
theorem runq_fk (H : HasOrd Q) {x : Operand} {B j : Nat} (hop : o.op = .fieldAddr 33 x j) (hj : j = 0 ∨ j = 1) (hx : ρ x = .pointer (some ⟨B, 0, none⟩)) (w : World) : (execOp ρ o).run Q w = .ok (.value (.pointer (some ⟨B, j, none⟩))) w := by
  have t33 := H.t33.trans Try.underlying33
  have z3 := H.cmp.z3
  have r33 := fun w => run_underlying (P := Q) (w := w) t33
  unfold execOp
  rcases hj with rfl | rfl
  · simp only [hop, hx]
    go_simp
  · simp only [hop, hx]
    go_simp
theorem runq_ldm (H : HasOrd Q) {x : Operand} {C : Nat} {v : Value} {w : World} (hop : o.op = .load 52 x) (hx : ρ x = .pointer (some ⟨C, 0, none⟩)) (hc : w.cell? ⟨C, 0, none⟩ = some v) : (execOp ρ o).run Q w = .ok (.value v) w := by
  have a52 := H.a52
  unfold execOp
  simp only [hop, hx]
  go_simp
theorem runq_ldk (H : HasOrd Q) {x : Operand} {B : Nat} {p q : Int} {w : World} (hop : o.op = .load 33 x) (hx : ρ x = .pointer (some ⟨B, 0, none⟩)) (h0 : w.cell? ⟨B, 0, none⟩ = some (.int .i64 p)) (h1 : w.cell? ⟨B, 1, none⟩ = some (.int .i64 q)) : (execOp ρ o).run Q w = .ok (.value (.agg #[.int .i64 p, .int .i64 q])) w := by
  have a33 := H.a33
  have z33 := H.z33
  unfold execOp
  simp only [hop, hx]
  go_simp
theorem runq_ldi (H : HasOrd Q) {x : Operand} {B j : Nat} {p : Int} {w : World} (hop : o.op = .load 3 x) (hx : ρ x = .pointer (some ⟨B, j, none⟩)) (h0 : w.cell? ⟨B, j, none⟩ = some (.int .i64 p)) : (execOp ρ o).run Q w = .ok (.value (.int .i64 p)) w := by
  have a3 := H.cmp.a3
  unfold execOp
  simp only [hop, hx]
  go_simp
theorem runq_look {x y : Operand} {m k : Value} {t : Int} {w : World} (hop : o.op = .lookup 52 x y false) (hx : ρ x = m) (hy : ρ y = k) (h : (Instr.lookup 52 m k false).run Q w = .ok (.int .i64 t) w) : (execOp ρ o).run Q w = .ok (.value (.int .i64 t)) w := by
  unfold execOp
  simp only [hop, hx, hy, Sem.run_bind, h, Result.andThen_ok]
  rfl
theorem runq_call2 {g : Nat} {x y : Operand} {a b : Value} {ts : Array TypeId} (he : ∀ args w, (callFunc g args).run Q w = .ok (.enter g args) w) (hop : o.op = .call { callee := .value (.func g), args := #[x, y], argTypes := ts })
    (hf : ρ (.func g) = .func (.func g) #[] #[]) (hx : ρ x = a) (hy : ρ y = b) (w : World) : (execOp ρ o).run Q w = .ok (.enter g #[a, b]) w := by
  unfold execOp
  simp only [hop]
  simp [resolve, hf, hx, hy, Deferred.ofValue, invoke, he]
theorem runq_call1 {g : Nat} {x : Operand} {a : Value} {ts : Array TypeId} (he : ∀ args w, (callFunc g args).run Q w = .ok (.enter g args) w) (hop : o.op = .call { callee := .value (.func g), args := #[x], argTypes := ts })
    (hf : ρ (.func g) = .func (.func g) #[] #[]) (hx : ρ x = a) (w : World) : (execOp ρ o).run Q w = .ok (.enter g #[a]) w := by
  unfold execOp
  simp only [hop]
  simp [resolve, hf, hx, Deferred.ofValue, invoke, he]
theorem runq_row (H : HasOrd Q) {x y z : Operand} {a b c : Int} (hop : o.op = .buildSlice 79 3 #[(0, x), (1, y), (2, z)]) (hx : ρ x = .int .i64 a) (hy : ρ y = .int .i64 b) (hz : ρ z = .int .i64 c) (w : World) :
    (execOp ρ o).run Q w = .ok (.value (.slice (some ⟨w.heap.size, 0, none⟩) 3 3)) (w.alloc (.cells #[.int .i64 a, .int .i64 b, .int .i64 c] 3)) := by
  have t79 := H.cmp.t79
  have z3 := H.cmp.z3
  have v3 := H.v3
  have r79 := fun w => run_underlying (P := Q) (w := w) t79
  unfold execOp
  simp only [hop, List.map_toArray, List.map_cons, List.map_nil, hx, hy, hz]
  go_simp
end

def ordDst : Nat → Option Nat
  | 0 => some 7 | 1 => some 8 | 2 => some 9 | 3 => some 10 | 4 => some 11 | 5 => some 12 | 6 => some 13 | 7 => some 14 | 8 => some 15 | 9 => some 16 | 10 => some 17 | 11 => some 18 | 12 => some 19 | 13 => some 20 | 14 => some 21 | 15 => some 22 | 16 => some 23 | 17 => some 24 | 18 => some 25 | 19 => some 26 | 20 => some 27 | 21 => some 28 | 22 => some 29 | 23 => some 30 | 24 => some 31 | 25 => some 6 | _ => none
def ordVal (C BA BB G : Nat) (m : Value) (x y : Int × Int) (ta tb c1 c2 c3 r : Int) : Nat → Value
  | 0 => .pointer (some ⟨C, 0, none⟩) | 1 => .pointer (some ⟨C, 0, none⟩) | 2 => .pointer (some ⟨C, 0, none⟩) | 3 => m | 4 => .agg #[.int .i64 x.1, .int .i64 x.2] | 5 => .int .i64 ta
  | 6 => .pointer (some ⟨C, 0, none⟩) | 7 => .pointer (some ⟨C, 0, none⟩) | 8 => .pointer (some ⟨C, 0, none⟩) | 9 => m | 10 => .agg #[.int .i64 y.1, .int .i64 y.2] | 11 => .int .i64 tb
  | 12 => .int .i64 c1 | 13 => .pointer (some ⟨BA, 0, none⟩) | 14 => .int .i64 x.1 | 15 => .pointer (some ⟨BB, 0, none⟩) | 16 => .int .i64 y.1 | 17 => .int .i64 c2
  | 18 => .pointer (some ⟨BA, 1, none⟩) | 19 => .int .i64 x.2 | 20 => .pointer (some ⟨BB, 1, none⟩) | 21 => .int .i64 y.2 | 22 => .int .i64 c3 | 23 => .slice (some ⟨G, 0, none⟩) 3 3 | 24 => .int .i64 r | 25 => .int .i64 r | _ => undef
theorem ordDst_eq : ∀ i, i < 26 → ordDst i = some (if i = 25 then 6 else 7 + i) := by decide
theorem ordDst_inj : ∀ i j d, i < 26 → j < 26 → ordDst i = some d → ordDst j = some d → i = j := by
  intro i j d hi hj h1 h2
  rw [ordDst_eq i hi] at h1
  rw [ordDst_eq j hj] at h2
  injection h1 with h1
  injection h2 with h2
  split at h1 <;> split at h2 <;> omega
theorem ordDst_lt : ∀ i d, i < 26 → ordDst i = some d → d < 33 := by
  intro i d hi h1
  rw [ordDst_eq i hi] at h1
  injection h1 with h1
  split at h1 <;> omega
theorem ordDst_not : ∀ s, s < 6 → ∀ j, j < 26 → ordDst j ≠ some s := by
  intro s hs j hj h1
  rw [ordDst_eq j hj] at h1
  injection h1 with h1
  split at h1 <;> omega
/-- the world, by what has come up -/
def OrdJ (W1 : World) (c1 c2 c3 : Int) (l : Array Bool) (w : World) : Prop := w = if l.getD 23 false = true then W1.alloc (.cells #[.int .i64 c1, .int .i64 c2, .int .i64 c3] 3) else W1
theorem ordJ_same {W1 : World} {c1 c2 c3 : Int} {l : Array Bool} {w : World} {i : Nat} (h : OrdJ W1 c1 c2 c3 l w) (hi : i ≠ 23) : OrdJ W1 c1 c2 c3 (l.setIfInBounds i true) w := by
  unfold OrdJ at *
  rw [getD_set_ne false hi]
  exact h

/-- which of three numbers isn't 0 -/
def or3 (a b c : Int) : Int := if a ≠ 0 then a else if b ≠ 0 then b else c

set_option maxHeartbeats 2000000 in
set_option maxRecDepth 100000 in
theorem ord_any {Q : Program} (H : HasOrd Q) (C : Nat) (m : Value) (x y : Int × Int) (ta tb : Int) (W : World) (hCl : C < W.heap.size) (hC : W.cell? ⟨C, 0, none⟩ = some m)
    (hla : ∀ W', Below W.heap.size W W' → (Instr.lookup 52 m (.agg #[.int .i64 x.1, .int .i64 x.2]) false).run Q W' = .ok (.int .i64 ta) W')
    (hlb : ∀ W', Below W.heap.size W W' → (Instr.lookup 52 m (.agg #[.int .i64 y.1, .int .i64 y.2]) false).run Q W' = .ok (.int .i64 tb) W') :
    Calls Q 23 #[.agg #[.int .i64 x.1, .int .i64 x.2], .agg #[.int .i64 y.1, .int .i64 y.2], .pointer (some ⟨C, 0, none⟩)] W fun e w' =>
      e = .returned (.int .i64 (or3 (Km.cmpI ta tb) (Km.cmpI x.1 y.1) (Km.cmpI x.2 y.2))) ∧ ∃ q os', w' = grow (W.drewN q) os' := by
  obtain ⟨c1, hc1⟩ : ∃ c1, c1 = Km.cmpI ta tb := ⟨_, rfl⟩
  obtain ⟨c2, hc2⟩ : ∃ c2, c2 = Km.cmpI x.1 y.1 := ⟨_, rfl⟩
  obtain ⟨c3, hc3⟩ : ∃ c3, c3 = Km.cmpI x.2 y.2 := ⟨_, rfl⟩
  rw [← hc1, ← hc2, ← hc3]
  have a33 := H.a33
  have z33 := H.z33
  have mixed := H.cmp.mixed
  have f23 := H.f23
  have HQ : Hid (HasOrd Q) := H
  clear H
  go_enter f23, (show (ordX Try.f23).ntmps = 33 from rfl)
  simp only [mv]
  go_wp2
  obtain ⟨W1, hW1⟩ : ∃ W1, W1 = ((W.alloc (.cells #[.int .i64 x.1, .int .i64 x.2] 33)).alloc (.cells #[.int .i64 y.1, .int .i64 y.2] 33)).drew := ⟨_, rfl⟩
  have hsz : W1.heap.size = W.heap.size + 2 := by rw [hW1]; simp
  have eA : (W.alloc (.cells #[.int .i64 x.1, .int .i64 x.2] 33)).heap.size = W.heap.size + 1 := by simp
  have kB : Below W.heap.size W W1 := by rw [hW1]; exact (((Below.refl _ _).alloc (Nat.le_refl _) _).alloc (by simp) _).drew
  have kC : W1.cell? ⟨C, 0, none⟩ = some m := (kB.cell (p := ⟨C, 0, none⟩) hCl).trans hC
  have x0 : W1.cell? ⟨W.heap.size, 0, none⟩ = some (.int .i64 x.1) := by rw [hW1]; simp
  have x1 : W1.cell? ⟨W.heap.size, 1, none⟩ = some (.int .i64 x.2) := by rw [hW1]; simp
  have y0 : W1.cell? ⟨W.heap.size + 1, 0, none⟩ = some (.int .i64 y.1) := by rw [hW1, ← eA]; simp
  have y1 : W1.cell? ⟨W.heap.size + 1, 1, none⟩ = some (.int .i64 y.2) := by rw [hW1, ← eA]; simp
  have la := hla W1 kB
  have lb := hlb W1 kB
  have HLa : Hid _ := hla
  have HLb : Hid _ := hlb
  clear hla hlb hC a33 z33 eA la lb
  refine region_vals mixed 26 rfl ordDst (ordVal C W.heap.size (W.heap.size + 1) (W.heap.size + 2) m x y ta tb c1 c2 c3 (or3 c1 c2 c3)) ordDst_inj ?hd ?hlow (OrdJ W1 c1 c2 c3) ?h0 ?hstep ?hdone
  case hd => exact ordDst_lt
  case hlow => kernel_rfl
  case h0 => rw [hW1]; rfl
  case hstep =>
    intro l a w1 i hi hJ hr hK
    have H := HQ.out
    have s0 : a.eval (.tmp 0) = .pointer (some ⟨C, 0, none⟩) := hK.rest 0 (ordDst_not 0 (by decide))
    have s4 : a.eval (.tmp 4) = .pointer (some ⟨W.heap.size, 0, none⟩) := hK.rest 4 (ordDst_not 4 (by decide))
    have s5 : a.eval (.tmp 5) = .pointer (some ⟨W.heap.size + 1, 0, none⟩) := hK.rest 5 (ordDst_not 5 (by decide))
    have kw : Below W1.heap.size W1 w1 := by
      have := hJ
      unfold OrdJ at this
      split at this
      · rw [this]; exact (Below.refl _ _).alloc (Nat.le_refl _) _
      · rw [this]; exact Below.refl _ _
    have kC1 := (kw.cell (p := ⟨C, 0, none⟩) (by show C < _; omega)).trans kC
    have x01 := (kw.cell (p := ⟨W.heap.size, 0, none⟩) (by show W.heap.size < _; omega)).trans x0
    have x11 := (kw.cell (p := ⟨W.heap.size, 1, none⟩) (by show W.heap.size < _; omega)).trans x1
    have y01 := (kw.cell (p := ⟨W.heap.size + 1, 0, none⟩) (by show W.heap.size + 1 < _; omega)).trans y0
    have y11 := (kw.cell (p := ⟨W.heap.size + 1, 1, none⟩) (by show W.heap.size + 1 < _; omega)).trans y1
    have la1 := HLa.out w1 (kB.trans (kw.mono (by omega)))
    have lb1 := HLb.out w1 (kB.trans (kw.mono (by omega)))
    have got : ∀ j, j ∈ depsOf .any _ i → ∀ d, ordDst j = some d → j < 26 → a.eval (.tmp d) = ordVal C W.heap.size (W.heap.size + 1) (W.heap.size + 2) m x y ta tb c1 c2 c3 (or3 c1 c2 c3) j := fun j hj d hd hj' => hK.got j d hj' (ready_deps hr j hj) hd
    match i, hi, hr, got with
    | 0, _, hr, got => exact stepw_val rfl (wanted_none rfl) (runw_move rfl s0 w1) rfl (ordJ_same hJ (by decide))
    | 1, _, hr, got => exact stepw_val rfl (wanted_none rfl) (runq_nil rfl (got 0 (by decide) 7 rfl (by decide)) w1) rfl (ordJ_same hJ (by decide))
    | 2, _, hr, got => exact stepw_val rfl (wanted_none rfl) (runq_fac H rfl (got 1 (by decide) 8 rfl (by decide)) w1) rfl (ordJ_same hJ (by decide))
    | 3, _, hr, got => exact stepw_val rfl (wanted_none rfl) (runq_ldm H rfl (got 2 (by decide) 9 rfl (by decide)) kC1) rfl (ordJ_same hJ (by decide))
    | 4, _, hr, got => exact stepw_val rfl (wanted_none rfl) (runq_ldk H rfl s4 x01 x11) rfl (ordJ_same hJ (by decide))
    | 5, _, hr, got => exact stepw_val rfl (wanted_none rfl) (runq_look rfl (got 3 (by decide) 10 rfl (by decide)) (got 4 (by decide) 11 rfl (by decide)) la1) rfl (ordJ_same hJ (by decide))
    | 6, _, hr, got => exact stepw_val rfl (wanted_none rfl) (runw_move rfl s0 w1) rfl (ordJ_same hJ (by decide))
    | 7, _, hr, got => exact stepw_val rfl (wanted_none rfl) (runq_nil rfl (got 6 (by decide) 13 rfl (by decide)) w1) rfl (ordJ_same hJ (by decide))
    | 8, _, hr, got => exact stepw_val rfl (wanted_none rfl) (runq_fac H rfl (got 7 (by decide) 14 rfl (by decide)) w1) rfl (ordJ_same hJ (by decide))
    | 9, _, hr, got => exact stepw_val rfl (wanted_none rfl) (runq_ldm H rfl (got 8 (by decide) 15 rfl (by decide)) kC1) rfl (ordJ_same hJ (by decide))
    | 10, _, hr, got => exact stepw_val rfl (wanted_none rfl) (runq_ldk H rfl s5 y01 y11) rfl (ordJ_same hJ (by decide))
    | 11, _, hr, got => exact stepw_val rfl (wanted_none rfl) (runq_look rfl (got 9 (by decide) 16 rfl (by decide)) (got 10 (by decide) 17 rfl (by decide)) lb1) rfl (ordJ_same hJ (by decide))
    | 12, _, hr, got => exact stepw_call rfl (wanted_none rfl) (runq_call2 H.cmp.e28 rfl rfl (got 5 (by decide) 12 rfl (by decide)) (got 11 (by decide) 18 rfl (by decide)) w1) rfl ((cmp64_any H.cmp ta tb w1).mono (fun e w' h => ⟨by rw [h.1, ← hc1]; rfl, h.2 ▸ ordJ_same hJ (by decide)⟩))
    | 13, _, hr, got => exact stepw_val rfl (wanted_none rfl) (runq_fk H rfl (Or.inl rfl) s4 w1) rfl (ordJ_same hJ (by decide))
    | 14, _, hr, got => exact stepw_val rfl (wanted_none rfl) (runq_ldi H rfl (got 13 (by decide) 20 rfl (by decide)) x01) rfl (ordJ_same hJ (by decide))
    | 15, _, hr, got => exact stepw_val rfl (wanted_none rfl) (runq_fk H rfl (Or.inl rfl) s5 w1) rfl (ordJ_same hJ (by decide))
    | 16, _, hr, got => exact stepw_val rfl (wanted_none rfl) (runq_ldi H rfl (got 15 (by decide) 22 rfl (by decide)) y01) rfl (ordJ_same hJ (by decide))
    | 17, _, hr, got => exact stepw_call rfl (wanted_none rfl) (runq_call2 H.cmp.e29 rfl rfl (got 14 (by decide) 21 rfl (by decide)) (got 16 (by decide) 23 rfl (by decide)) w1) rfl ((cmp_any H.cmp x.1 y.1 w1).mono (fun e w' h => ⟨by rw [h.1, ← hc2]; rfl, h.2 ▸ ordJ_same hJ (by decide)⟩))
    | 18, _, hr, got => exact stepw_val rfl (wanted_none rfl) (runq_fk H rfl (Or.inr rfl) s4 w1) rfl (ordJ_same hJ (by decide))
    | 19, _, hr, got => exact stepw_val rfl (wanted_none rfl) (runq_ldi H rfl (got 18 (by decide) 25 rfl (by decide)) x11) rfl (ordJ_same hJ (by decide))
    | 20, _, hr, got => exact stepw_val rfl (wanted_none rfl) (runq_fk H rfl (Or.inr rfl) s5 w1) rfl (ordJ_same hJ (by decide))
    | 21, _, hr, got => exact stepw_val rfl (wanted_none rfl) (runq_ldi H rfl (got 20 (by decide) 27 rfl (by decide)) y11) rfl (ordJ_same hJ (by decide))
    | 22, _, hr, got => exact stepw_call rfl (wanted_none rfl) (runq_call2 H.cmp.e29 rfl rfl (got 19 (by decide) 26 rfl (by decide)) (got 21 (by decide) 28 rfl (by decide)) w1) rfl ((cmp_any H.cmp x.2 y.2 w1).mono (fun e w' h => ⟨by rw [h.1, ← hc3]; rfl, h.2 ▸ ordJ_same hJ (by decide)⟩))
    | 23, _, hr, got =>
      have hl := (mem_ready.1 hr).1
      have hlt := unlisted_lt hl
      have hf : l.getD 23 false = false := by simp [hlt] at hl ⊢; exact hl
      have ew : w1 = W1 := by have := hJ; unfold OrdJ at this; rw [hf] at this; simpa using this
      rw [ew]
      refine stepw_val rfl (wanted_none rfl) (Eq.trans (runq_row H rfl (got 12 (by decide) 19 rfl (by decide)) (got 17 (by decide) 24 rfl (by decide)) (got 22 (by decide) 29 rfl (by decide)) W1) ?_) rfl (w' := W1.alloc (.cells #[.int .i64 c1, .int .i64 c2, .int .i64 c3] 3)) (by unfold OrdJ; simp [hlt])
      rw [hsz]
      rfl
    | 24, _, hr, got =>
      have hf : l.getD 23 false = true := ready_deps hr 23 (by decide)
      have ew : w1 = W1.alloc (.cells #[.int .i64 c1, .int .i64 c2, .int .i64 c3] 3) := by have := hJ; unfold OrdJ at this; rw [hf] at this; simpa using this
      refine stepw_call rfl (wanted_none rfl) (runq_call1 H.cmp.e27 rfl rfl (got 23 (by decide) 30 rfl (by decide)) w1) rfl ((or_any H.cmp c1 c2 c3 (W.heap.size + 2) w1 ?_ ?_ ?_ ?_).mono (fun e w' h => ⟨h.1, h.2 ▸ ordJ_same hJ (by decide)⟩))
      · rw [ew]; simp [hsz]
      · rw [ew, ← hsz]; simp
      · rw [ew, ← hsz]; simp
      · rw [ew, ← hsz]; simp
    | 25, _, hr, got => exact stepw_val rfl (wanted_none rfl) (runw_assign rfl (got 24 (by decide) 31 rfl (by decide)) w1) rfl (ordJ_same hJ (by decide))
    | j + 26, hlt, _, _ => exact absurd hlt (by omega)
  case hdone =>
    intro l w1 hall hJ
    have ew : w1 = W1.alloc (.cells #[.int .i64 c1, .int .i64 c2, .int .i64 c3] 3) := by have := hJ; unfold OrdJ at this; rw [hall 23 (by decide)] at this; simpa using this
    clear hJ hall
    simp only [putsOf, ordDst, ordVal, Act.put, List.setIfInBounds_toArray, List.set_cons_zero, List.set_cons_succ]
    go_wp2
    go_ret
    refine ⟨rfl, 1, #[.cells #[.int .i64 x.1, .int .i64 x.2] 33, .cells #[.int .i64 y.1, .int .i64 y.2] 33, .cells #[.int .i64 c1, .int .i64 c2, .int .i64 c3] 3], ?_⟩
    rw [ew, hW1]
    simp only [alloc_eq_grow, grow_grow, drew_grow]
    rfl
end Go.Proofs.Ytalpfcckdjipoaa
