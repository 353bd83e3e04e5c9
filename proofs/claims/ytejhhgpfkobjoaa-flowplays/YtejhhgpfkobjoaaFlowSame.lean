/-
  The law's function 'same': a flow has what the document's has.
-/
import Derived.Test.YtejhhgpfkobjoaaFlowPair
namespace Go.Proofs.Ytejhhgpfkobjoaa
open Go.RowKit
set_option linter.unusedVariables false
set_option linter.unusedSimpArgs false

section
variable {ρ : Operand → Value} {o : Oper} {R D : Nat}
theorem runs_view {x : Operand} {u : Value} {ts : Array TypeId} (hop : o.op = .call { callee := .value (.func 14), args := #[x], argTypes := ts })
    (hf : ρ (.func 14) = .func (.func 14) #[] #[]) (hx : ρ x = u) (w : World) : (execOp ρ o).run Try.prog w = .ok (.enter 14 #[u]) w := by
  unfold execOp
  simp only [hop]
  simp only [resolve, hf, hx, List.map_toArray, List.map_cons, List.map_nil]
  go_simp
theorem runs_fa {x : Operand} (k : Nat) (hk : k < 8) (hop : o.op = .fieldAddr 65 x k) (hx : ρ x = .pointer (some ⟨R, 0, none⟩)) (w : World) : (execOp ρ o).run Try.prog w = .ok (.value (.pointer (some ⟨R, k, none⟩))) w := by
  unfold execOp
  rcases (show k = 0 ∨ k = 1 ∨ k = 2 ∨ k = 3 ∨ k = 4 ∨ k = 5 ∨ k = 6 ∨ k = 7 by omega) with rfl | rfl | rfl | rfl | rfl | rfl | rfl | rfl
  all_goals
    simp only [hop, hx]
    go_simp
theorem runs_fq {x : Operand} (k : Nat) (hk : k < 3) (hop : o.op = .fieldAddr 67 x k) (hx : ρ x = .pointer (some ⟨D, 0, none⟩)) (w : World) : (execOp ρ o).run Try.prog w = .ok (.value (.pointer (some ⟨D, k, none⟩))) w := by
  unfold execOp
  rcases (show k = 0 ∨ k = 1 ∨ k = 2 by omega) with rfl | rfl | rfl
  all_goals
    simp only [hop, hx]
    go_simp
theorem runs_ldq {x : Operand} {k : Nat} {w : World} (hop : o.op = .load 62 x) (hx : ρ x = .pointer (some ⟨R, k, none⟩)) (hc : w.cell? ⟨R, k, none⟩ = some (.pointer (some ⟨D, 0, none⟩))) : (execOp ρ o).run Try.prog w = .ok (.value (.pointer (some ⟨D, 0, none⟩))) w := by
  unfold execOp
  simp only [hop, hx]
  go_simp
theorem runs_lds {x : Operand} {k n cap : Nat} {a : Option Addr} {w : World} (hop : o.op = .load 53 x) (hx : ρ x = .pointer (some ⟨D, k, none⟩)) (hc : w.cell? ⟨D, k, none⟩ = some (.slice a n cap)) : (execOp ρ o).run Try.prog w = .ok (.value (.slice a n cap)) w := by
  unfold execOp
  simp only [hop, hx]
  go_simp
theorem runs_len {x : Operand} {n cap : Nat} {a : Option Addr} (hop : o.op = .call { callee := .builtin .len, args := #[x], argTypes := #[53] }) (hx : ρ x = .slice a n cap) (w : World) : (execOp ρ o).run Try.prog w = .ok (.value (.int .i64 (n : Int))) w := by
  unfold execOp
  simp only [hop]
  simp only [resolve, hx, List.map_toArray, List.map_cons, List.map_nil]
  go_simp
theorem runs_sub {x y : Operand} {n m : Nat} (hop : o.op = .binOp .sub 3 x y 3) (hx : ρ x = .int .i64 (n : Int)) (hy : ρ y = .int .i64 (m : Int)) (hm : m ≤ n) (hn : n ≤ 256) (w : World) : (execOp ρ o).run Try.prog w = .ok (.value (.int .i64 ((n - m : Nat) : Int))) w := by
  have e : ((n - m : Nat) : Int) = (n : Int) - (m : Int) := Int.ofNat_sub hm
  unfold execOp
  rw [e]
  simp only [hop, hx, hy]
  go_simp
  rw [IntKind.wrap_i64]
  omega
theorem runs_eq {σ : Wm.St} {x y : Operand} (hop : o.op = .binOp .eql 34 x y 34) (hx : ρ x = vwV σ) (hy : ρ y = vwV σ) (w : World) : (execOp ρ o).run Try.prog w = .ok (.value (.bool true)) w := by
  unfold vwV at hx hy
  unfold execOp
  simp only [hop, hx, hy]
  go_simp
end
def sameD (i : Nat) : Option Nat := if i < 51 then some (5 + i) else if i = 51 then some 4 else none
def sameV (C R D : Nat) (σ : Wm.St) (a1 : Option Addr) (cap1 : Nat) : Nat → Value
  | 0 => .pointer (some ⟨C, 0, none⟩) | 1 => vwV σ | 2 => .pointer (some ⟨R, 0, none⟩) | 3 => .pointer (some ⟨R, 0, none⟩) | 4 => .pointer (some ⟨R, 0, none⟩) | 5 => .int .i64 σ.vs | 6 => .pointer (some ⟨R, 0, none⟩) | 7 => .pointer (some ⟨R, 0, none⟩) | 8 => .pointer (some ⟨R, 1, none⟩) | 9 => .int .i64 σ.va | 10 => .pointer (some ⟨R, 0, none⟩) | 11 => .pointer (some ⟨R, 0, none⟩) | 12 => .pointer (some ⟨R, 2, none⟩) | 13 => .int .i64 σ.vr | 14 => .pointer (some ⟨R, 0, none⟩) | 15 => .pointer (some ⟨R, 0, none⟩) | 16 => .pointer (some ⟨R, 3, none⟩) | 17 => .bool σ.pe | 18 => .pointer (some ⟨R, 0, none⟩) | 19 => .pointer (some ⟨R, 0, none⟩) | 20 => .pointer (some ⟨R, 4, none⟩) | 21 => .bool σ.ow | 22 => .pointer (some ⟨R, 0, none⟩) | 23 => .pointer (some ⟨R, 0, none⟩) | 24 => .pointer (some ⟨R, 5, none⟩) | 25 => .bool σ.re | 26 => .pointer (some ⟨R, 0, none⟩) | 27 => .pointer (some ⟨R, 0, none⟩) | 28 => .pointer (some ⟨R, 7, none⟩) | 29 => .pointer (some ⟨D, 0, none⟩) | 30 => .pointer (some ⟨D, 0, none⟩) | 31 => .pointer (some ⟨D, 2, none⟩) | 32 => .int .i64 σ.sn | 33 => .pointer (some ⟨R, 0, none⟩) | 34 => .pointer (some ⟨R, 0, none⟩) | 35 => .pointer (some ⟨R, 7, none⟩) | 36 => .pointer (some ⟨D, 0, none⟩) | 37 => .pointer (some ⟨D, 0, none⟩) | 38 => .pointer (some ⟨D, 1, none⟩) | 39 => .slice a1 σ.L.length cap1 | 40 => .int .i64 σ.L.length | 41 => .pointer (some ⟨R, 0, none⟩) | 42 => .pointer (some ⟨R, 0, none⟩) | 43 => .pointer (some ⟨R, 7, none⟩) | 44 => .pointer (some ⟨D, 0, none⟩) | 45 => .pointer (some ⟨D, 0, none⟩) | 46 => .pointer (some ⟨D, 2, none⟩) | 47 => .int .i64 σ.sn | 48 => .int .i64 ((σ.L.length - σ.sn : Nat) : Int) | 49 => vwV σ | 50 => .bool true | 51 => .bool true | _ => undef
theorem sameD_inj : ∀ i j d, i < 52 → j < 52 → sameD i = some d → sameD j = some d → i = j := by
  intro i j d hi hj h1 h2
  unfold sameD at h1 h2
  split at h1 <;> split at h2 <;> simp at h1 h2 <;> omega
theorem sameD_lt : ∀ i d, i < 52 → sameD i = some d → d < 56 := by
  intro i d hi h1
  unfold sameD at h1
  split at h1 <;> simp at h1 <;> omega

/-- the world while the region runs -/
structure SameJ (w0 : World) (l : Array Bool) (w : World) : Prop where
  b : Below w0.heap.size w0 w
theorem SameJ.keep {w0 w : World} {l l' : Array Bool} (h : SameJ w0 l w) : SameJ w0 l' w := ⟨h.b⟩

set_option maxHeartbeats 4000000 in
set_option maxRecDepth 100000 in
theorem same_any (b : Nat) (W0 : World) (C R D : Nat) (σ : Wm.St) (w : World) (h : PrF b W0 w C R D σ σ) :
    Calls Try.prog 12 #[.pointer (some ⟨C, 0, none⟩), .pointer (some ⟨R, 0, none⟩)] w fun e w' => e = .returned (.bool true) ∧ Below w.heap.size w w' := by
  obtain ⟨G, H, hf, hr, -⟩ := h.qu
  have hRl := hr.lt
  have hDl := hr.qu.lt
  have hsn := hr.qu.sn
  have hle := hr.qu.le
  obtain ⟨a1, cap1, x1, -⟩ := hr.qu.c1
  have h1 : Hid (Fl w C G σ) := hf
  have h2 : Hid (Rf w R D H σ) := hr
  clear h hf hr
  go_enter Try.func12, Try.ntmps12
  go_upto_region 1 with fail
  refine region_vals (by kernel_rfl) 52 rfl sameD (sameV C R D σ a1 cap1) sameD_inj ?hd ?hlow (SameJ w) ?h0 ?hstep ?hdone
  case hd => exact sameD_lt
  case hlow => kernel_rfl
  case h0 => exact ⟨(Below.refl _ _).drew⟩
  case hstep =>
    intro l a w1 i hi hJ hr hK
    have s0 : a.eval (.tmp 0) = .pointer (some ⟨C, 0, none⟩) := hK.rest 0 (by decide)
    have s1 : a.eval (.tmp 1) = .pointer (some ⟨R, 0, none⟩) := hK.rest 1 (by decide)
    have got : ∀ j, j ∈ depsOf .any _ i → ∀ d, sameD j = some d → j < 52 → a.eval (.tmp d) = sameV C R D σ a1 cap1 j := fun j hj d hd hj' => hK.got j d hj' (ready_deps hr j hj) hd
    match i, hi, hr, got with
    | 0, _, hr, got => exact stepw_val rfl (wanted_none rfl) (runw_move rfl s0 w1) rfl hJ.keep
    | 1, _, hr, got => exact stepw_call rfl (wanted_none rfl) (runs_view rfl rfl (got 0 (by decide) 5 rfl (by decide)) w1) rfl ((fview_any C G σ w1 (h1.out.below hJ.b)).mono fun e w2 h => ⟨h.1, ⟨hJ.b.trans (h.2.mono hJ.b.size)⟩⟩)
    | 2, _, hr, got => exact stepw_val rfl (wanted_none rfl) (runw_move rfl s1 w1) rfl hJ.keep
    | 3, _, hr, got => exact stepw_val rfl (wanted_none rfl) (runf_nil rfl (got 2 (by decide) 7 rfl (by decide)) w1) rfl hJ.keep
    | 4, _, hr, got => exact stepw_val rfl (wanted_none rfl) (runs_fa 0 (by decide) rfl (got 3 (by decide) 8 rfl (by decide)) w1) rfl hJ.keep
    | 5, _, hr, got => exact stepw_val rfl (wanted_none rfl) (runf_ldi rfl (got 4 (by decide) 9 rfl (by decide)) ((hJ.b.cell (p := ⟨R, 0, none⟩) hRl).trans h2.out.fr.c0)) rfl hJ.keep
    | 6, _, hr, got => exact stepw_val rfl (wanted_none rfl) (runw_move rfl s1 w1) rfl hJ.keep
    | 7, _, hr, got => exact stepw_val rfl (wanted_none rfl) (runf_nil rfl (got 6 (by decide) 11 rfl (by decide)) w1) rfl hJ.keep
    | 8, _, hr, got => exact stepw_val rfl (wanted_none rfl) (runs_fa 1 (by decide) rfl (got 7 (by decide) 12 rfl (by decide)) w1) rfl hJ.keep
    | 9, _, hr, got => exact stepw_val rfl (wanted_none rfl) (runf_ldi rfl (got 8 (by decide) 13 rfl (by decide)) ((hJ.b.cell (p := ⟨R, 1, none⟩) hRl).trans h2.out.fr.c1)) rfl hJ.keep
    | 10, _, hr, got => exact stepw_val rfl (wanted_none rfl) (runw_move rfl s1 w1) rfl hJ.keep
    | 11, _, hr, got => exact stepw_val rfl (wanted_none rfl) (runf_nil rfl (got 10 (by decide) 15 rfl (by decide)) w1) rfl hJ.keep
    | 12, _, hr, got => exact stepw_val rfl (wanted_none rfl) (runs_fa 2 (by decide) rfl (got 11 (by decide) 16 rfl (by decide)) w1) rfl hJ.keep
    | 13, _, hr, got => exact stepw_val rfl (wanted_none rfl) (runf_ldi rfl (got 12 (by decide) 17 rfl (by decide)) ((hJ.b.cell (p := ⟨R, 2, none⟩) hRl).trans h2.out.fr.c2)) rfl hJ.keep
    | 14, _, hr, got => exact stepw_val rfl (wanted_none rfl) (runw_move rfl s1 w1) rfl hJ.keep
    | 15, _, hr, got => exact stepw_val rfl (wanted_none rfl) (runf_nil rfl (got 14 (by decide) 19 rfl (by decide)) w1) rfl hJ.keep
    | 16, _, hr, got => exact stepw_val rfl (wanted_none rfl) (runs_fa 3 (by decide) rfl (got 15 (by decide) 20 rfl (by decide)) w1) rfl hJ.keep
    | 17, _, hr, got => exact stepw_val rfl (wanted_none rfl) (runf_ldb rfl (got 16 (by decide) 21 rfl (by decide)) ((hJ.b.cell (p := ⟨R, 3, none⟩) hRl).trans h2.out.fr.c3)) rfl hJ.keep
    | 18, _, hr, got => exact stepw_val rfl (wanted_none rfl) (runw_move rfl s1 w1) rfl hJ.keep
    | 19, _, hr, got => exact stepw_val rfl (wanted_none rfl) (runf_nil rfl (got 18 (by decide) 23 rfl (by decide)) w1) rfl hJ.keep
    | 20, _, hr, got => exact stepw_val rfl (wanted_none rfl) (runs_fa 4 (by decide) rfl (got 19 (by decide) 24 rfl (by decide)) w1) rfl hJ.keep
    | 21, _, hr, got => exact stepw_val rfl (wanted_none rfl) (runf_ldb rfl (got 20 (by decide) 25 rfl (by decide)) ((hJ.b.cell (p := ⟨R, 4, none⟩) hRl).trans h2.out.fr.c4)) rfl hJ.keep
    | 22, _, hr, got => exact stepw_val rfl (wanted_none rfl) (runw_move rfl s1 w1) rfl hJ.keep
    | 23, _, hr, got => exact stepw_val rfl (wanted_none rfl) (runf_nil rfl (got 22 (by decide) 27 rfl (by decide)) w1) rfl hJ.keep
    | 24, _, hr, got => exact stepw_val rfl (wanted_none rfl) (runs_fa 5 (by decide) rfl (got 23 (by decide) 28 rfl (by decide)) w1) rfl hJ.keep
    | 25, _, hr, got => exact stepw_val rfl (wanted_none rfl) (runf_ldb rfl (got 24 (by decide) 29 rfl (by decide)) ((hJ.b.cell (p := ⟨R, 5, none⟩) hRl).trans h2.out.fr.c5)) rfl hJ.keep
    | 26, _, hr, got => exact stepw_val rfl (wanted_none rfl) (runw_move rfl s1 w1) rfl hJ.keep
    | 27, _, hr, got => exact stepw_val rfl (wanted_none rfl) (runf_nil rfl (got 26 (by decide) 31 rfl (by decide)) w1) rfl hJ.keep
    | 28, _, hr, got => exact stepw_val rfl (wanted_none rfl) (runs_fa 7 (by decide) rfl (got 27 (by decide) 32 rfl (by decide)) w1) rfl hJ.keep
    | 29, _, hr, got => exact stepw_val rfl (wanted_none rfl) (runs_ldq rfl (got 28 (by decide) 33 rfl (by decide)) ((hJ.b.cell (p := ⟨R, 7, none⟩) hRl).trans h2.out.c7)) rfl hJ.keep
    | 30, _, hr, got => exact stepw_val rfl (wanted_none rfl) (runf_nil rfl (got 29 (by decide) 34 rfl (by decide)) w1) rfl hJ.keep
    | 31, _, hr, got => exact stepw_val rfl (wanted_none rfl) (runs_fq 2 (by decide) rfl (got 30 (by decide) 35 rfl (by decide)) w1) rfl hJ.keep
    | 32, _, hr, got => exact stepw_val rfl (wanted_none rfl) (runf_ldi rfl (got 31 (by decide) 36 rfl (by decide)) ((hJ.b.cell (p := ⟨D, 2, none⟩) hDl).trans h2.out.qu.c2)) rfl hJ.keep
    | 33, _, hr, got => exact stepw_val rfl (wanted_none rfl) (runw_move rfl s1 w1) rfl hJ.keep
    | 34, _, hr, got => exact stepw_val rfl (wanted_none rfl) (runf_nil rfl (got 33 (by decide) 38 rfl (by decide)) w1) rfl hJ.keep
    | 35, _, hr, got => exact stepw_val rfl (wanted_none rfl) (runs_fa 7 (by decide) rfl (got 34 (by decide) 39 rfl (by decide)) w1) rfl hJ.keep
    | 36, _, hr, got => exact stepw_val rfl (wanted_none rfl) (runs_ldq rfl (got 35 (by decide) 40 rfl (by decide)) ((hJ.b.cell (p := ⟨R, 7, none⟩) hRl).trans h2.out.c7)) rfl hJ.keep
    | 37, _, hr, got => exact stepw_val rfl (wanted_none rfl) (runf_nil rfl (got 36 (by decide) 41 rfl (by decide)) w1) rfl hJ.keep
    | 38, _, hr, got => exact stepw_val rfl (wanted_none rfl) (runs_fq 1 (by decide) rfl (got 37 (by decide) 42 rfl (by decide)) w1) rfl hJ.keep
    | 39, _, hr, got => exact stepw_val rfl (wanted_none rfl) (runs_lds rfl (got 38 (by decide) 43 rfl (by decide)) ((hJ.b.cell (p := ⟨D, 1, none⟩) hDl).trans x1)) rfl hJ.keep
    | 40, _, hr, got => exact stepw_val rfl (wanted_none rfl) (runs_len rfl (got 39 (by decide) 44 rfl (by decide)) w1) rfl hJ.keep
    | 41, _, hr, got => exact stepw_val rfl (wanted_none rfl) (runw_move rfl s1 w1) rfl hJ.keep
    | 42, _, hr, got => exact stepw_val rfl (wanted_none rfl) (runf_nil rfl (got 41 (by decide) 46 rfl (by decide)) w1) rfl hJ.keep
    | 43, _, hr, got => exact stepw_val rfl (wanted_none rfl) (runs_fa 7 (by decide) rfl (got 42 (by decide) 47 rfl (by decide)) w1) rfl hJ.keep
    | 44, _, hr, got => exact stepw_val rfl (wanted_none rfl) (runs_ldq rfl (got 43 (by decide) 48 rfl (by decide)) ((hJ.b.cell (p := ⟨R, 7, none⟩) hRl).trans h2.out.c7)) rfl hJ.keep
    | 45, _, hr, got => exact stepw_val rfl (wanted_none rfl) (runf_nil rfl (got 44 (by decide) 49 rfl (by decide)) w1) rfl hJ.keep
    | 46, _, hr, got => exact stepw_val rfl (wanted_none rfl) (runs_fq 2 (by decide) rfl (got 45 (by decide) 50 rfl (by decide)) w1) rfl hJ.keep
    | 47, _, hr, got => exact stepw_val rfl (wanted_none rfl) (runf_ldi rfl (got 46 (by decide) 51 rfl (by decide)) ((hJ.b.cell (p := ⟨D, 2, none⟩) hDl).trans h2.out.qu.c2)) rfl hJ.keep
    | 48, _, hr, got => exact stepw_val rfl (wanted_none rfl) (runs_sub rfl (got 40 (by decide) 45 rfl (by decide)) (got 47 (by decide) 52 rfl (by decide)) hsn hle w1) rfl hJ.keep
    | 49, _, hr, got => exact stepw_val rfl (wanted_none rfl) (runf_build rfl (got 5 (by decide) 10 rfl (by decide)) (got 9 (by decide) 14 rfl (by decide)) (got 13 (by decide) 18 rfl (by decide)) (got 17 (by decide) 22 rfl (by decide)) (got 21 (by decide) 26 rfl (by decide)) (got 25 (by decide) 30 rfl (by decide)) (got 32 (by decide) 37 rfl (by decide)) (got 48 (by decide) 53 rfl (by decide)) w1) rfl hJ.keep
    | 50, _, hr, got => exact stepw_val rfl (wanted_none rfl) (runs_eq rfl (got 1 (by decide) 6 rfl (by decide)) (got 49 (by decide) 54 rfl (by decide)) w1) rfl hJ.keep
    | 51, _, hr, got => exact stepw_val rfl (wanted_none rfl) (runw_assign rfl (got 50 (by decide) 55 rfl (by decide)) w1) rfl hJ.keep
    | j + 52, hlt, _, _ => exact absurd hlt (by omega)
  case hdone =>
    intro l w' hall hJ
    have HB : Hid (Below w.heap.size w w') := hJ.b
    clear hall hJ x1 h1 h2 hsn hle
    simp only [putsOf, sameD, sameV, Act.put, List.setIfInBounds_toArray, List.set_cons_zero, List.set_cons_succ]
    go_wp2
    go_ret
    exact ⟨rfl, HB.out⟩
end Go.Proofs.Ytejhhgpfkobjoaa
