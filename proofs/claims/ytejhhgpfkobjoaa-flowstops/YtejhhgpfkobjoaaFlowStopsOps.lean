/-
  What the two drawn regions of the law FlowStops come to: nothing came and nothing was sent; and both again behind it.
-/
import Derived.Test.YtejhhgpfkobjoaaFlowVw
namespace Go.Proofs.Ytejhhgpfkobjoaa
open Go.RowKit
set_option linter.unusedVariables false
set_option linter.unusedSimpArgs false

section
variable {b : Nat} {W0 w : World} {C R D V : Nat} {σ τ : Wm.St}
theorem PrF.own (h : PrF b W0 w C R D σ τ) (ok : σ.Ok) : OwnF b W0 w C σ := by
  obtain ⟨G, h1, h2⟩ := h.alone
  exact ⟨⟨G, h1, fun B hB => h2 B (Or.inr hB)⟩, h2 C (Or.inl rfl), ok, h.bel⟩
theorem ownf_peer (x : Bool) (h : OwnF b W0 w C σ) :
    Calls Try.prog 21 #[.pointer (some ⟨C, 0, none⟩), .bool x] w fun e w' => e = .returned (.tuple #[]) ∧ OwnF b W0 w' C (Wm.peerT σ x) := by
  obtain ⟨G, hq, hm⟩ := h.moved
  exact (fpeer_any C G σ x w hq).mono fun e w' hx => ⟨hx.1, hm _ _ hx.2 (Wm.peerT_ok h.ok x)⟩
theorem ownf_own (x : Bool) (h : OwnF b W0 w C σ) :
    Calls Try.prog 23 #[.pointer (some ⟨C, 0, none⟩), .bool x] w fun e w' => e = .returned (.bool (σ.ow != x)) ∧ OwnF b W0 w' C (Wm.ownT σ x) := by
  obtain ⟨G, hq, hm⟩ := h.moved
  exact (fown_any C G σ x w hq).mono fun e w' hx => ⟨hx.1, hm _ _ hx.2 (Wm.ownT_ok h.ok x)⟩
theorem OwnF.vw (h : OwnF b W0 w C σ) (T : TypeId) : FlV b W0 (w.alloc (.cells #[.int .i64 σ.vs, .int .i64 σ.va, .int .i64 σ.vr, .bool σ.pe, .bool σ.ow, .bool σ.re, .int .i64 σ.sn, .int .i64 ((σ.L.length - σ.sn : Nat) : Int)] T)) C σ w.heap.size σ := by
  obtain ⟨G, h1, h2⟩ := h.fl
  refine flv_new h1 ?_ h.ok h.bel T
  rintro k (rfl | hk)
  · exact h.c
  · exact h2 k hk
theorem flv_peer (x : Bool) (h : FlV b W0 w C σ V τ) :
    Calls Try.prog 21 #[.pointer (some ⟨C, 0, none⟩), .bool x] w fun e w' => e = .returned (.tuple #[]) ∧ FlV b W0 w' C (Wm.peerT σ x) V τ := by
  obtain ⟨G, hq, hm⟩ := h.moved
  exact (fpeer_any C G σ x w hq).mono fun e w' hx => ⟨hx.1, hm _ _ hx.2 (Wm.peerT_ok h.ok x)⟩
theorem flv_own (x : Bool) (h : FlV b W0 w C σ V τ) :
    Calls Try.prog 23 #[.pointer (some ⟨C, 0, none⟩), .bool x] w fun e w' => e = .returned (.bool (σ.ow != x)) ∧ FlV b W0 w' C (Wm.ownT σ x) V τ := by
  obtain ⟨G, hq, hm⟩ := h.moved
  exact (fown_any C G σ x w hq).mono fun e w' hx => ⟨hx.1, hm _ _ hx.2 (Wm.ownT_ok h.ok x)⟩
theorem flv_come (ns : Int) (h : FlV b W0 w C σ V τ) (h0 : -9223372036854775808 ≤ ns) (h1 : ns ≤ 9223372036854775807) :
    Calls Try.prog 20 #[.pointer (some ⟨C, 0, none⟩), .int .i64 ns] w fun e w' => e = .returned (.int .i64 (Wm.comeN σ ns)) ∧ FlV b W0 w' C (Wm.comeT σ ns) V τ := by
  obtain ⟨G, hq, hm⟩ := h.moved
  exact (fcome_any C G σ ns w hq h.ok h0 h1).mono fun e w' hx => ⟨hx.1, hm _ _ hx.2 (Wm.comeT_ok h.ok ns)⟩
theorem flv_take (h : FlV b W0 w C σ V τ) :
    Calls Try.prog 17 #[.pointer (some ⟨C, 0, none⟩)] w fun e w' => e = .returned (.tuple #[.int .i64 (Wm.takeN σ), .string (Wm.takeS σ), .bool (Wm.takeB σ)]) ∧ FlV b W0 w' C (Wm.takeT σ) V τ := by
  obtain ⟨G, hq, hm⟩ := h.moved
  exact (ftake_any C G σ w hq h.ok).mono fun e w' hx => ⟨hx.1, hm _ _ hx.2 (Wm.takeT_ok h.ok)⟩
theorem flv_view (h : FlV b W0 w C σ V τ) :
    Calls Try.prog 14 #[.pointer (some ⟨C, 0, none⟩)] w fun e w' => e = .returned (vwV σ) ∧ FlV b W0 w' C σ V τ := by
  obtain ⟨G, hq, hm⟩ := h.moved
  exact (fview_any C G σ w hq).mono fun e w' hx => ⟨hx.1, h.below hx.2⟩
end
/-- the world while a region runs -/
structure StJ (b : Nat) (W0 : World) (C : Nat) (σ : Wm.St) (V : Nat) (τ : Wm.St) (l : Array Bool) (w : World) : Prop where
  v : FlV b W0 w C σ V τ
theorem StJ.keep {b : Nat} {W0 : World} {C : Nat} {σ : Wm.St} {V : Nat} {τ : Wm.St} {l l' : Array Bool} {w : World} (h : StJ b W0 C σ V τ l w) : StJ b W0 C σ V τ l' w := ⟨h.v⟩

/-! ### what each operation does -/
section
variable {ρ : Operand → Value} {o : Oper} {C V : Nat}
theorem runv_wakes {ts : Array TypeId} (hop : o.op = .call { callee := .value (.func 11), args := #[], argTypes := ts })
    (hf : ρ (.func 11) = .func (.func 11) #[] #[]) (w : World) : (execOp ρ o).run Try.prog w = .ok (.enter 11 #[]) w := by
  unfold execOp
  simp only [hop]
  simp only [resolve, hf, List.map_toArray, List.map_cons, List.map_nil]
  go_simp
theorem runv_view {x : Operand} {u : Value} {ts : Array TypeId} (hop : o.op = .call { callee := .value (.func 14), args := #[x], argTypes := ts })
    (hf : ρ (.func 14) = .func (.func 14) #[] #[]) (hx : ρ x = u) (w : World) : (execOp ρ o).run Try.prog w = .ok (.enter 14 #[u]) w := by
  unfold execOp
  simp only [hop]
  simp only [resolve, hf, hx, List.map_toArray, List.map_cons, List.map_nil]
  go_simp
theorem runv_not {x : Operand} (hop : o.op = .unOp .not 4 x) (hx : ρ x = .bool true) (w : World) : (execOp ρ o).run Try.prog w = .ok (.value (.bool false)) w := by
  unfold execOp
  simp only [hop, hx]
  go_simp
theorem runv_ne3 {x : Operand} (hop : o.op = .binOp .neq 45 x (.const (.int .i64 3)) 45) (hx : ρ x = .int .i64 3) {ρ' : Act} (hρ : ρ = ρ'.eval) (w : World) : (execOp ρ o).run Try.prog w = .ok (.value (.bool false)) w := by
  subst hρ
  unfold execOp
  simp only [hop, hx]
  go_simp
theorem runv_ld8 {x : Operand} {w : World} (hop : o.op = .load 34 x) (hx : ρ x = .pointer (some ⟨V, 0, none⟩)) {τ : Wm.St} (hc : VwAt w V τ) : (execOp ρ o).run Try.prog w = .ok (.value (vwV τ)) w := by
  obtain ⟨hlt, c0, c1, c2, c3, c4, c5, c6, c7⟩ := hc
  unfold execOp vwV
  simp only [hop, hx]
  go_simp
theorem runv_nev {τ : Wm.St} {x y : Operand} (hop : o.op = .binOp .neq 34 x y 34) (hx : ρ x = vwV τ) (hy : ρ y = vwV τ) (w : World) : (execOp ρ o).run Try.prog w = .ok (.value (.bool false)) w := by
  unfold vwV at hx hy
  unfold execOp
  simp only [hop, hx, hy]
  go_simp
theorem runv_eq0 {x : Operand} (hop : o.op = .binOp .eql 45 x (.const (.int .i64 0)) 45) (hx : ρ x = .int .i64 0) {ρ' : Act} (hρ : ρ = ρ'.eval) (w : World) : (execOp ρ o).run Try.prog w = .ok (.value (.bool true)) w := by
  subst hρ
  unfold execOp
  simp only [hop, hx]
  go_simp
theorem runv_field {τ : Wm.St} {x : Operand} (hop : o.op = .field 34 x 2) (hx : ρ x = vwV τ) (w : World) : (execOp ρ o).run Try.prog w = .ok (.value (.int .i64 τ.vr)) w := by
  unfold vwV at hx
  unfold execOp
  simp only [hop, hx]
  rfl
theorem runv_fa {x : Operand} (k : Nat) (hk : k < 8) (hop : o.op = .fieldAddr 34 x k) (hx : ρ x = .pointer (some ⟨V, 0, none⟩)) (w : World) : (execOp ρ o).run Try.prog w = .ok (.value (.pointer (some ⟨V, k, none⟩))) w := by
  unfold execOp
  rcases (show k = 0 ∨ k = 1 ∨ k = 2 ∨ k = 3 ∨ k = 4 ∨ k = 5 ∨ k = 6 ∨ k = 7 by omega) with rfl | rfl | rfl | rfl | rfl | rfl | rfl | rfl
  all_goals
    simp only [hop, hx]
    go_simp
theorem runv_ldi {x : Operand} {k : Nat} {v : Int} {w : World} (hop : o.op = .load 3 x) (hx : ρ x = .pointer (some ⟨V, k, none⟩)) (hc : w.cell? ⟨V, k, none⟩ = some (.int .i64 v)) : (execOp ρ o).run Try.prog w = .ok (.value (.int .i64 v)) w := by
  unfold execOp
  simp only [hop, hx]
  go_simp
theorem runv_add1 {x : Operand} {n : Int} (hop : o.op = .binOp .add 3 x (.const (.int .i64 1)) 3) (hx : ρ x = .int .i64 n) (h0 : 0 ≤ n) (h1 : n ≤ 127) {ρ' : Act} (hρ : ρ = ρ'.eval) (w : World) : (execOp ρ o).run Try.prog w = .ok (.value (.int .i64 (n + 1))) w := by
  subst hρ
  unfold execOp
  simp only [hop, hx]
  go_simp
  try (rw [IntKind.wrap_i64]; omega)
theorem runv_rem {x : Operand} {n : Int} (hop : o.op = .binOp .rem 3 x (.const (.int .i64 128)) 3) (hx : ρ x = .int .i64 (n + 1)) (h0 : 0 ≤ n) (h1 : n ≤ 127) {ρ' : Act} (hρ : ρ = ρ'.eval) (w : World) : (execOp ρ o).run Try.prog w = .ok (.value (.int .i64 (Sm.ad n 1))) w := by
  subst hρ
  have e : (n + 1).tmod 128 = Sm.ad n 1 := by unfold Sm.ad; rw [Int.tmod_eq_emod_of_nonneg (by omega)]
  have l1 := Sm.ad_lo n 1
  have l2 := Sm.ad_hi n 1
  unfold execOp
  simp only [hop, hx]
  go_simp
  try (rw [e])
  try (rw [IntKind.wrap_i64]; omega)
theorem runv_eqi {x y : Operand} {n : Int} (hop : o.op = .binOp .eql 3 x y 3) (hx : ρ x = .int .i64 n) (hy : ρ y = .int .i64 n) (w : World) : (execOp ρ o).run Try.prog w = .ok (.value (.bool true)) w := by
  have tn : (n == n) = true := by simp
  unfold execOp
  simp only [hop, hx, hy]
  go_simp
theorem runv_eqb {x y : Operand} {n : Bool} (hop : o.op = .binOp .eql 4 x y 4) (hx : ρ x = .bool n) (hy : ρ y = .bool n) (w : World) : (execOp ρ o).run Try.prog w = .ok (.value (.bool true)) w := by
  have tn : (n == n) = true := by simp
  unfold execOp
  simp only [hop, hx, hy]
  go_simp
theorem runv_gt0 {x : Operand} {n : Int} {b : Bool} (hop : o.op = .binOp .gtr 3 x (.const (.int .i64 0)) 3) (hx : ρ x = .int .i64 n) (hb : decide (0 < n) = b) {ρ' : Act} (hρ : ρ = ρ'.eval) (w : World) : (execOp ρ o).run Try.prog w = .ok (.value (.bool b)) w := by
  subst hρ hb
  unfold execOp
  simp only [hop, hx]
  go_simp
theorem runv_lt {x y : Operand} {n m : Int} {b : Bool} (hop : o.op = .binOp .lss 3 x y 3) (hx : ρ x = .int .i64 n) (hy : ρ y = .int .i64 m) (hb : decide (n < m) = b) (w : World) : (execOp ρ o).run Try.prog w = .ok (.value (.bool b)) w := by
  subst hb
  unfold execOp
  simp only [hop, hx, hy]
  go_simp
theorem runv_min {x : Operand} {k z : Int} (hop : o.op = .call { callee := .builtin .min, args := #[x, .const (.int .i64 127)], argTypes := #[3, 3] }) (hx : ρ x = .int .i64 k) (hz : (if (127 : Int) < k then (127 : Int) else k) = z) {ρ' : Act} (hρ : ρ = ρ'.eval) (w : World) : (execOp ρ o).run Try.prog w = .ok (.value (.int .i64 z)) w := by
  subst hρ
  unfold execOp
  simp only [hop]
  simp only [resolve, hx, List.map_toArray, List.map_cons, List.map_nil]
  by_cases h : (127 : Int) < k
  · rw [if_pos h] at hz
    subst hz
    go_simp
  · rw [if_neg h] at hz
    subst hz
    go_simp
theorem runv_max {x : Operand} {z v : Int} (hop : o.op = .call { callee := .builtin .max, args := #[.const (.int .i64 1), x], argTypes := #[3, 3] }) (hx : ρ x = .int .i64 z) (hv : (if (1 : Int) < z then z else (1 : Int)) = v) {ρ' : Act} (hρ : ρ = ρ'.eval) (w : World) : (execOp ρ o).run Try.prog w = .ok (.value (.int .i64 v)) w := by
  subst hρ
  unfold execOp
  simp only [hop]
  simp only [resolve, hx, List.map_toArray, List.map_cons, List.map_nil]
  by_cases h : (1 : Int) < z
  · rw [if_pos h] at hv
    subst hv
    go_simp
  · rw [if_neg h] at hv
    subst hv
    go_simp
end

def st1D : Nat → Option Nat
  | 0 => some 50 | 1 => some 51 | 2 => some 52 | 3 => some 53 | 4 => some 54 | 5 => some 55 | 6 => some 56 | 7 => some 57 | 8 => some 58 | 9 => some 59 | 10 => some 60 | 11 => some 61 | 12 => some 62 | 13 => some 63 | 14 => some 64 | _ => none
def st1V (C V : Nat) (τ : Wm.St) : Nat → Value
  | 0 => .bool true | 1 => .bool false | 2 => .bool false | 3 => .int .i64 3 | 4 => .bool false | 5 => .bool false | 6 => .bool false | 7 => .bool false | 8 => .bool false | 9 => .bool false | 10 => .pointer (some ⟨C, 0, none⟩) | 11 => vwV τ | 12 => vwV τ | 13 => .bool false | 14 => .bool false | _ => undef
theorem st1D_inj : ∀ i j d, i < 15 → j < 15 → st1D i = some d → st1D j = some d → i = j := by
  have h : ∀ i < 15, ∀ j < 15, st1D i = st1D j → i = j := by decide
  intro i j d hi hj h1 h2
  exact h i hi j hj (h1.trans h2.symm)
theorem st1D_lt : ∀ i d, i < 15 → st1D i = some d → d < 106 := by
  have h : ∀ i < 15, (st1D i).all (· < 106) = true := by decide
  intro i d hi hd
  have := h i hi
  rw [hd] at this
  simpa using this
def st2D : Nat → Option Nat
  | 0 => some 79 | 1 => some 80 | 2 => some 81 | 3 => some 82 | 4 => some 83 | 5 => some 84 | 6 => some 85 | 7 => some 86 | 8 => some 87 | 9 => some 88 | 10 => some 89 | 11 => some 90 | 12 => some 91 | 13 => some 92 | 14 => some 93 | 15 => some 94 | 16 => some 95 | 17 => some 96 | 18 => some 97 | 19 => some 98 | 20 => some 99 | 21 => some 100 | 22 => some 101 | 23 => some 102 | 24 => some 103 | 25 => some 104 | 26 => some 105 | 27 => some 6 | _ => none
def opt1 (b : Bool) (v : Value) : Value := match b with | true => v | false => undef
def st2V (C V : Nat) (k z v : Int) (σ τ : Wm.St) (b1 b2 : Bool) : Nat → Value
  | 0 => .int .i64 0 | 1 => .bool true | 2 => .bool true | 3 => .pointer (some ⟨C, 0, none⟩) | 4 => vwV σ | 5 => .int .i64 σ.vr | 6 => .pointer (some ⟨V, 2, none⟩) | 7 => .int .i64 τ.vr | 8 => .int .i64 (τ.vr + 1) | 9 => .int .i64 (Sm.ad τ.vr 1) | 10 => .bool true | 11 => .bool true | 12 => .bool true
  | 13 => .bool (b1 && b2) | 14 => .pointer (some ⟨V, 7, none⟩) | 15 => .int .i64 ((τ.L.length - τ.sn : Nat) : Int) | 16 => .bool b1 | 17 => .bool b1 | 18 => opt1 b1 (.pointer (some ⟨V, 6, none⟩)) | 19 => opt1 b1 (.int .i64 τ.sn) | 20 => opt1 b1 (.int .i64 k) | 21 => opt1 b1 (.int .i64 z) | 22 => opt1 b1 (.int .i64 v) | 23 => opt1 b1 (.bool b2) | 24 => .bool (b1 && b2) | 25 => .bool true | 26 => .bool true | 27 => .bool true | _ => undef
theorem st2D_inj : ∀ i j d, i < 28 → j < 28 → st2D i = some d → st2D j = some d → i = j := by
  have h : ∀ i < 28, ∀ j < 28, st2D i = st2D j → i = j := by decide
  intro i j d hi hj h1 h2
  exact h i hi j hj (h1.trans h2.symm)
theorem st2D_lt : ∀ i d, i < 28 → st2D i = some d → d < 106 := by
  have h : ∀ i < 28, (st2D i).all (· < 106) = true := by decide
  intro i d hi hd
  have := h i hi
  rw [hd] at this
  simpa using this
end Go.Proofs.Ytejhhgpfkobjoaa
