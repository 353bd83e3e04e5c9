/-
  The walk of the law TeimsgPuts: it returns true.
-/
import Derived.Test.YtfpdkdaoomakgaaRefTeimsgFrame
import Derived.Test.YtfpdkdaoomakgaaRegionGuard
namespace Go.Proofs.Ytfpdkdaoomakgaa
open Go.RowKit
set_option linter.unusedVariables false
set_option linter.unusedSimpArgs false

theorem tfr_some (t ri ai : Int) : ∃ sapi tei c k pf ns nr info g, tfrV t ri ai = .tuple #[.agg #[.int .i64 sapi, .int .i64 tei, .bool c, .int .i64 k, .bool pf, .int .i64 ns, .int .i64 nr, .string info], .int .i64 g] := by
  by_cases h : (Tm.putRes t ri ai).2 = 0
  · exact ⟨_, _, _, _, _, _, _, _, _, tfr_in h⟩
  · exact ⟨_, _, _, _, _, _, _, _, _, tfr_out h⟩

/-- the message, and two frames, lie where they were put -/
structure Pts (w0 : World) (B0 B1 B2 : Nat) (t ri ai sapi tei : Int) (c : Bool) (k : Int) (pf : Bool) (ns nr : Int) (info : ByteArray) (w : World) : Prop where
  x : Msg3 w B0 t ri ai
  a : FrC w B1 sapi tei c k pf ns nr info
  b : FrC w B2 sapi tei c k pf ns nr info
  bel : Below w0.heap.size w0 w
theorem Pts.later {w0 w w' : World} {B0 B1 B2 : Nat} {t ri ai sapi tei : Int} {c : Bool} {k : Int} {pf : Bool} {ns nr : Int} {info : ByteArray} (h : Pts w0 B0 B1 B2 t ri ai sapi tei c k pf ns nr info w) (hb : Below w.heap.size w w') : Pts w0 B0 B1 B2 t ri ai sapi tei c k pf ns nr info w' :=
  ⟨h.x.later hb, h.a.later hb, h.b.later hb, h.bel.trans (hb.mono h.bel.size)⟩
/-- the same, whatever has come up -/
def PtsJ (w0 : World) (B0 B1 B2 : Nat) (t ri ai sapi tei : Int) (c : Bool) (k : Int) (pf : Bool) (ns nr : Int) (info : ByteArray) (l : Array Bool) (w : World) : Prop := Pts w0 B0 B1 B2 t ri ai sapi tei c k pf ns nr info w
theorem twakes_pts {w0 : World} {B0 B1 B2 : Nat} {t ri ai sapi tei : Int} {c : Bool} {k : Int} {pf : Bool} {ns nr : Int} {info : ByteArray} {w : World} (h : Pts w0 B0 B1 B2 t ri ai sapi tei c k pf ns nr info w) :
    Calls Try.prog 13 #[] w fun e w' => e = .returned (.bool true) ∧ Pts w0 B0 B1 B2 t ri ai sapi tei c k pf ns nr info w' := by
  refine (twakes_any w).mono ?_
  rintro e w' ⟨rfl, hb⟩
  exact ⟨rfl, h.later hb⟩
theorem samef_pts {w0 : World} {B0 B1 B2 : Nat} {t ri ai sapi tei : Int} {c : Bool} {k : Int} {pf : Bool} {ns nr : Int} {info : ByteArray} {w : World} (h : Pts w0 B0 B1 B2 t ri ai sapi tei c k pf ns nr info w) :
    Calls Try.prog 14 #[.agg #[.int .i64 sapi, .int .i64 tei, .bool c, .int .i64 k, .bool pf, .int .i64 ns, .int .i64 nr, .string info], .agg #[.int .i64 sapi, .int .i64 tei, .bool c, .int .i64 k, .bool pf, .int .i64 ns, .int .i64 nr, .string info]] w fun e w' => e = .returned (.bool true) ∧ Pts w0 B0 B1 B2 t ri ai sapi tei c k pf ns nr info w' := by
  refine (samef_any sapi tei c k pf ns nr info w).mono ?_
  rintro e w' ⟨rfl, hb⟩
  exact ⟨rfl, h.later hb⟩

/-! ### the last region: what each operation does -/
theorem runp_eqs {ρ : Operand → Value} {o : Oper} {x y : Operand} {S : ByteArray} (hop : o.op = .binOp .eql 9 x y 9) (hx : ρ x = .string S) (hy : ρ y = .string S) (w : World) : (execOp ρ o).run Try.prog w = .ok (.value (.bool true)) w := by
  have tS : (S.toList == S.toList) = true := by simp
  unfold execOp
  simp only [hop, hx, hy]
  go_simp
theorem runp_eqi {ρ : Operand → Value} {o : Oper} {x y : Operand} {n : Int} (hop : o.op = .binOp .eql 3 x y 3) (hx : ρ x = .int .i64 n) (hy : ρ y = .int .i64 n) (w : World) : (execOp ρ o).run Try.prog w = .ok (.value (.bool true)) w := by
  have tn : (n == n) = true := by simp
  unfold execOp
  simp only [hop, hx, hy]
  go_simp
theorem runp_eqb {ρ : Operand → Value} {o : Oper} {x y : Operand} {b : Bool} (hop : o.op = .binOp .eql 4 x y 4) (hx : ρ x = .bool b) (hy : ρ y = .bool b) (w : World) : (execOp ρ o).run Try.prog w = .ok (.value (.bool true)) w := by
  have tb : (b == b) = true := by simp
  unfold execOp
  simp only [hop, hx, hy]
  go_simp
theorem runp_fa {ρ : Operand → Value} {o : Oper} {x : Operand} {L : Nat} (hop : o.op = .fieldAddr 23 x 0) (hx : ρ x = .pointer (some ⟨L, 0, none⟩)) (w : World) : (execOp ρ o).run Try.prog w = .ok (.value (.pointer (some ⟨L, 0, none⟩))) w := by
  unfold execOp
  simp only [hop, hx]
  go_simp
theorem runp_ldi {ρ : Operand → Value} {o : Oper} {x : Operand} {L : Nat} {v : Int} {w : World} (hop : o.op = .load 3 x) (hx : ρ x = .pointer (some ⟨L, 0, none⟩)) (hc : w.cell? ⟨L, 0, none⟩ = some (.int .i64 v)) : (execOp ρ o).run Try.prog w = .ok (.value (.int .i64 v)) w := by
  unfold execOp
  simp only [hop, hx]
  go_simp
theorem runp_ld8 {ρ : Operand → Value} {o : Oper} {x : Operand} {L : Nat} {sapi tei : Int} {c : Bool} {k : Int} {pf : Bool} {ns nr : Int} {info : ByteArray} {w : World} (hop : o.op = .load 38 x ∨ o.op = .load 42 x) (hx : ρ x = .pointer (some ⟨L, 0, none⟩)) (hc : FrC w L sapi tei c k pf ns nr info) : (execOp ρ o).run Try.prog w = .ok (.value (frA sapi tei c k pf ns nr info)) w := by
  obtain ⟨hlt, c0, c1, c2, c3, c4, c5, c6, c7⟩ := hc
  unfold execOp frA
  rcases hop with hop | hop
  all_goals
    simp only [hop, hx]
    go_simp
theorem runp_call0 {ρ : Operand → Value} {o : Oper} (hop : o.op = .call { callee := .value (.func 13), args := #[], argTypes := #[] })
    (hf : ρ (.func 13) = .func (.func 13) #[] #[]) (w : World) : (execOp ρ o).run Try.prog w = .ok (.enter 13 #[]) w := by
  unfold execOp
  simp only [hop]
  simp only [resolve, hf, List.map_toArray, List.map_cons, List.map_nil]
  go_simp
theorem runp_call2 {ρ : Operand → Value} {o : Oper} {x y : Operand} {u v : Value} (hop : o.op = .call { callee := .value (.func 14), args := #[x, y], argTypes := #[38, 42] })
    (hf : ρ (.func 14) = .func (.func 14) #[] #[]) (hx : ρ x = u) (hy : ρ y = v) (w : World) : (execOp ρ o).run Try.prog w = .ok (.enter 14 #[u, v]) w := by
  unfold execOp
  simp only [hop]
  simp only [resolve, hf, hx, hy, List.map_toArray, List.map_cons, List.map_nil]
  go_simp
theorem runp_from {ρ : Operand → Value} {o : Oper} {x : Operand} {u : Value} (hop : o.op = .call { callee := .value (.func 15), args := #[x], argTypes := #[27] })
    (hf : ρ (.func 15) = .func (.func 15) #[] #[]) (hx : ρ x = u) (w : World) : (execOp ρ o).run Try.prog w = .ok (.enter 15 #[u]) w := by
  unfold execOp
  simp only [hop]
  simp only [resolve, hf, hx, List.map_toArray, List.map_cons, List.map_nil]
  go_simp
theorem runp_rfrom {ρ : Operand → Value} {o : Oper} {x : Operand} {u : Value} (hop : o.op = .call { callee := .value (.func 16), args := #[x], argTypes := #[3] })
    (hf : ρ (.func 16) = .func (.func 16) #[] #[]) (hx : ρ x = u) (w : World) : (execOp ρ o).run Try.prog w = .ok (.enter 16 #[u]) w := by
  unfold execOp
  simp only [hop]
  simp only [resolve, hf, hx, List.map_toArray, List.map_cons, List.map_nil]
  go_simp

def putsDst : Nat → Option Nat
  | 30 => some 2 | i => some (33 + i)
def putsVal (B0 : Nat) (t : Int) (S : ByteArray) (e0 g : Int) (F : Value) : Nat → Value
  | 2 => .string S | 3 => .string S | 7 => .int .i64 e0 | 8 => .int .i64 e0 | 12 => .int .i64 g | 13 => .int .i64 g | 17 => F | 18 => F
  | 22 => .pointer (some ⟨B0, 0, none⟩) | 23 => .int .i64 t | 24 => .bool (Tm.net t) | 25 => .pointer (some ⟨B0, 0, none⟩) | 26 => .int .i64 t | 27 => .bool (Tm.net t) | _ => .bool true
theorem putsDst_inj : ∀ i j d, i < 31 → j < 31 → putsDst i = some d → putsDst j = some d → i = j := by
  have h : ∀ i < 31, ∀ j < 31, putsDst i = putsDst j → i = j := by decide
  intro i j d hi hj h1 h2
  exact h i hi j hj (h1.trans h2.symm)
theorem putsDst_lt : ∀ i d, i < 31 → putsDst i = some d → d < 63 := by
  have h : ∀ i < 31, (putsDst i).all (· < 63) = true := by decide
  intro i d hi hd
  have := h i hi
  rw [hd] at this
  simpa using this

set_option maxHeartbeats 4000000 in
set_option maxRecDepth 100000 in
theorem walk_TeimsgPuts (t ri ai : Int) (w : World) (ht : -9223372036854775808 ≤ t ∧ t ≤ 9223372036854775807) (hr : -9223372036854775808 ≤ ri ∧ ri ≤ 9223372036854775807) (ha : -9223372036854775808 ≤ ai ∧ ai ≤ 9223372036854775807) :
    Calls Try.prog 3 #[.agg #[.int .i64 t, .int .i64 ri, .int .i64 ai]] w fun e w' => e = .returned (.bool true) ∧ Below w.heap.size w w' := by
  clear ht hr ha
  have hq0 : Below w.heap.size w (w.alloc (.cells #[.int .i64 t, .int .i64 ri, .int .i64 ai] 23)) := (Below.refl _ _).alloc (Nat.le_refl _) _
  have hX0 := msg3_new w t ri ai 23
  have hP := fun W => tput_any t ri ai W
  have hR := fun W => ref_tput_any t ri ai W
  have hF := fun W => tframe_any t ri ai W
  have hG := fun W => ref_tframe_any t ri ai W
  obtain ⟨sapi, tei, c, k, pf, ns, nr, info, g, hfr⟩ := tfr_some t ri ai
  rw [hfr] at hF hG
  clear hfr
  generalize Tm.putRes t ri ai = R at hP hR
  obtain ⟨S, e0⟩ := R
  simp only at hP hR
  have te : (e0 == e0) = true := by simp
  have tg : (g == g) = true := by simp
  have tS : (S.toList == S.toList) = true := by simp
  go_enter Try.func3, Try.ntmps3
  go_wp2_with fail
  refine (tmade_any t ri ai _).mono ?_
  rintro e w1 ⟨rfl, hb1⟩
  have hX1 := hX0.later hb1
  have hq1 := hq0.trans (hb1.mono hq0.size)
  clear hX0 hb1 hq0
  go_wp2_with fail
  refine (hP _).mono ?_
  rintro e w2 ⟨rfl, hb2⟩
  have hX2 := hX1.later hb2
  have hq2 := hq1.trans (hb2.mono hq1.size)
  clear hX1 hb2 hq1 hP
  obtain ⟨l2, x0, x1, x2⟩ := hX2
  have hX2 : Msg3 w2 w.heap.size t ri ai := ⟨l2, x0, x1, x2⟩
  go_wp2_with fail
  refine (hR _).mono ?_
  rintro e w3 ⟨rfl, hb3⟩
  have hX3 := hX2.later hb3
  have hq3 := hq2.trans (hb3.mono hq2.size)
  clear hX2 hb3 hq2 hR l2 x0 x1 x2
  obtain ⟨l3, x0, x1, x2⟩ := hX3
  have hX3 : Msg3 w3 w.heap.size t ri ai := ⟨l3, x0, x1, x2⟩
  go_wp2_with fail
  refine (tmade_any t ri ai _).mono ?_
  rintro e w4 ⟨rfl, hb4⟩
  have hX4 := hX3.later hb4
  have hq4 := hq3.trans (hb4.mono hq3.size)
  clear hX3 hb4 hq3 l3 x0 x1 x2
  go_wp2_with fail
  refine (hF _).mono ?_
  rintro e w5 ⟨rfl, hb5⟩
  have hX5 := hX4.later hb5
  have hq5 := hq4.trans (hb5.mono hq4.size)
  clear hX4 hb5 hq4 hF
  have hA5 := frc_new w5 sapi tei c k pf ns nr info 38
  have hX6 := hX5.later ((Below.refl _ _).alloc (Nat.le_refl _) (.cells #[.int .i64 sapi, .int .i64 tei, .bool c, .int .i64 k, .bool pf, .int .i64 ns, .int .i64 nr, .string info] 38))
  have hq6 := hq5.alloc hq5.size (.cells #[.int .i64 sapi, .int .i64 tei, .bool c, .int .i64 k, .bool pf, .int .i64 ns, .int .i64 nr, .string info] 38)
  obtain ⟨l5, x0, x1, x2⟩ := hX5
  go_wp2_with fail
  refine (hG _).mono ?_
  rintro e w7 ⟨rfl, hb7⟩
  have hX7 := hX6.later hb7
  have hA7 := hA5.later hb7
  have hq7 := hq6.trans (hb7.mono hq6.size)
  clear hX6 hA5 hb7 hq6 hG l5 x0 x1 x2
  have hB7 := frc_new w7 sapi tei c k pf ns nr info 42
  have hM : Pts w w.heap.size w5.heap.size w7.heap.size t ri ai sapi tei c k pf ns nr info (w7.alloc (.cells #[.int .i64 sapi, .int .i64 tei, .bool c, .int .i64 k, .bool pf, .int .i64 ns, .int .i64 nr, .string info] 42)) :=
    ⟨hX7.later ((Below.refl _ _).alloc (Nat.le_refl _) _), hA7.later ((Below.refl _ _).alloc (Nat.le_refl _) _), hB7, hq7.alloc hq7.size _⟩
  have hlt5 := hA7.lt
  have hlt0 := hX7.lt
  clear hX7 hA7 hB7 hq7 hq5
  go_wp2
  generalize hW : w7.alloc (.cells #[.int .i64 sapi, .int .i64 tei, .bool c, .int .i64 k, .bool pf, .int .i64 ns, .int .i64 nr, .string info] 42) = W at hM ⊢
  clear hW
  have hMd : Pts w w.heap.size w5.heap.size w7.heap.size t ri ai sapi tei c k pf ns nr info W.drew := hM.later (Below.refl _ _).drew
  clear hM te tg tS
  refine region_vals (by kernel_rfl) 31 rfl putsDst (putsVal w.heap.size t S e0 g (frA sapi tei c k pf ns nr info)) putsDst_inj ?hd ?hlow (PtsJ w w.heap.size w5.heap.size w7.heap.size t ri ai sapi tei c k pf ns nr info) ?h0 ?hstep ?hdone
  case hd => exact putsDst_lt
  case hlow => kernel_rfl
  case h0 => exact hMd
  case hstep =>
    intro l a w1 i hi hJ0 hr hK
    have hJ : Pts w w.heap.size w5.heap.size w7.heap.size t ri ai sapi tei c k pf ns nr info w1 := hJ0
    clear hJ0
    have h1 : a.eval (.tmp 1) = .pointer (some ⟨w.heap.size, 0, none⟩) := hK.rest 1 (by decide)
    have h3 : a.eval (.tmp 3) = .string S := hK.rest 3 (by decide)
    have h4 : a.eval (.tmp 4) = .int .i64 e0 := hK.rest 4 (by decide)
    have h5 : a.eval (.tmp 5) = .string S := hK.rest 5 (by decide)
    have h6 : a.eval (.tmp 6) = .int .i64 e0 := hK.rest 6 (by decide)
    have h7 : a.eval (.tmp 7) = .pointer (some ⟨w5.heap.size, 0, none⟩) := hK.rest 7 (by decide)
    have h8 : a.eval (.tmp 8) = .int .i64 g := hK.rest 8 (by decide)
    have h9 : a.eval (.tmp 9) = .pointer (some ⟨w7.heap.size, 0, none⟩) := hK.rest 9 (by decide)
    have h10 : a.eval (.tmp 10) = .int .i64 g := hK.rest 10 (by decide)
    have got : ∀ j, j ∈ depsOf .any _ i → ∀ d, putsDst j = some d → j < 31 → a.eval (.tmp d) = putsVal w.heap.size t S e0 g (frA sapi tei c k pf ns nr info) j := fun j hj d hd hj' => hK.got j d hj' (ready_deps hr j hj) hd
    match i, hi, hr, got with
    | 0, _, hr, got => exact stepw_call rfl (wanted_none rfl) (runp_call0 rfl rfl w1) rfl (twakes_pts hJ)
    | 1, _, hr, got => exact stepw_val rfl (wanted_none rfl) (runw_move rfl (got 0 (by decide) 33 rfl (by decide)) w1) rfl hJ
    | 2, _, hr, got => exact stepw_val rfl (wanted_some (j := 1) rfl rfl rfl (got 1 (by decide) 34 rfl (by decide))) (runw_move rfl h3 w1) rfl hJ
    | 3, _, hr, got => exact stepw_val rfl (wanted_some (j := 1) rfl rfl rfl (got 1 (by decide) 34 rfl (by decide))) (runw_move rfl h5 w1) rfl hJ
    | 4, _, hr, got => exact stepw_val rfl (wanted_some (j := 1) rfl rfl rfl (got 1 (by decide) 34 rfl (by decide))) (runp_eqs rfl (got 2 (by decide) 35 rfl (by decide)) (got 3 (by decide) 36 rfl (by decide)) w1) rfl hJ
    | 5, _, hr, got => exact stepw_val rfl (wanted_none rfl) (runw_pick rfl (got 1 (by decide) 34 rfl (by decide)) (got 4 (by decide) 37 rfl (by decide)) w1) rfl hJ
    | 6, _, hr, got => exact stepw_val rfl (wanted_none rfl) (runw_move rfl (got 5 (by decide) 38 rfl (by decide)) w1) rfl hJ
    | 7, _, hr, got => exact stepw_val rfl (wanted_some (j := 6) rfl rfl rfl (got 6 (by decide) 39 rfl (by decide))) (runw_move rfl h4 w1) rfl hJ
    | 8, _, hr, got => exact stepw_val rfl (wanted_some (j := 6) rfl rfl rfl (got 6 (by decide) 39 rfl (by decide))) (runw_move rfl h6 w1) rfl hJ
    | 9, _, hr, got => exact stepw_val rfl (wanted_some (j := 6) rfl rfl rfl (got 6 (by decide) 39 rfl (by decide))) (runp_eqi rfl (got 7 (by decide) 40 rfl (by decide)) (got 8 (by decide) 41 rfl (by decide)) w1) rfl hJ
    | 10, _, hr, got => exact stepw_val rfl (wanted_none rfl) (runw_pick rfl (got 6 (by decide) 39 rfl (by decide)) (got 9 (by decide) 42 rfl (by decide)) w1) rfl hJ
    | 11, _, hr, got => exact stepw_val rfl (wanted_none rfl) (runw_move rfl (got 10 (by decide) 43 rfl (by decide)) w1) rfl hJ
    | 12, _, hr, got => exact stepw_val rfl (wanted_some (j := 11) rfl rfl rfl (got 11 (by decide) 44 rfl (by decide))) (runw_move rfl h8 w1) rfl hJ
    | 13, _, hr, got => exact stepw_val rfl (wanted_some (j := 11) rfl rfl rfl (got 11 (by decide) 44 rfl (by decide))) (runw_move rfl h10 w1) rfl hJ
    | 14, _, hr, got => exact stepw_val rfl (wanted_some (j := 11) rfl rfl rfl (got 11 (by decide) 44 rfl (by decide))) (runp_eqi rfl (got 12 (by decide) 45 rfl (by decide)) (got 13 (by decide) 46 rfl (by decide)) w1) rfl hJ
    | 15, _, hr, got => exact stepw_val rfl (wanted_none rfl) (runw_pick rfl (got 11 (by decide) 44 rfl (by decide)) (got 14 (by decide) 47 rfl (by decide)) w1) rfl hJ
    | 16, _, hr, got => exact stepw_val rfl (wanted_none rfl) (runw_move rfl (got 15 (by decide) 48 rfl (by decide)) w1) rfl hJ
    | 17, _, hr, got => exact stepw_val rfl (wanted_some (j := 16) rfl rfl rfl (got 16 (by decide) 49 rfl (by decide))) (runp_ld8 (Or.inl rfl) h7 hJ.a) rfl hJ
    | 18, _, hr, got => exact stepw_val rfl (wanted_some (j := 16) rfl rfl rfl (got 16 (by decide) 49 rfl (by decide))) (runp_ld8 (Or.inr rfl) h9 hJ.b) rfl hJ
    | 19, _, hr, got => exact stepw_call rfl (wanted_some (j := 16) rfl rfl rfl (got 16 (by decide) 49 rfl (by decide))) (runp_call2 rfl rfl (got 17 (by decide) 50 rfl (by decide)) (got 18 (by decide) 51 rfl (by decide)) w1) rfl (samef_pts hJ)
    | 20, _, hr, got => exact stepw_val rfl (wanted_none rfl) (runw_pick rfl (got 16 (by decide) 49 rfl (by decide)) (got 19 (by decide) 52 rfl (by decide)) w1) rfl hJ
    | 21, _, hr, got => exact stepw_val rfl (wanted_none rfl) (runw_move rfl (got 20 (by decide) 53 rfl (by decide)) w1) rfl hJ
    | 22, _, hr, got => exact stepw_val rfl (wanted_some (j := 21) rfl rfl rfl (got 21 (by decide) 54 rfl (by decide))) (runp_fa rfl h1 w1) rfl hJ
    | 23, _, hr, got => exact stepw_val rfl (wanted_some (j := 21) rfl rfl rfl (got 21 (by decide) 54 rfl (by decide))) (runp_ldi rfl (got 22 (by decide) 55 rfl (by decide)) hJ.x.c0) rfl hJ
    | 24, _, hr, got => exact stepw_call rfl (wanted_some (j := 21) rfl rfl rfl (got 21 (by decide) 54 rfl (by decide))) (runp_from rfl rfl (got 23 (by decide) 56 rfl (by decide)) w1) rfl ((from_any t w1).mono fun e w' h => ⟨h.1, h.2 ▸ hJ⟩)
    | 25, _, hr, got => exact stepw_val rfl (wanted_some (j := 21) rfl rfl rfl (got 21 (by decide) 54 rfl (by decide))) (runp_fa rfl h1 w1) rfl hJ
    | 26, _, hr, got => exact stepw_val rfl (wanted_some (j := 21) rfl rfl rfl (got 21 (by decide) 54 rfl (by decide))) (runp_ldi rfl (got 25 (by decide) 58 rfl (by decide)) hJ.x.c0) rfl hJ
    | 27, _, hr, got => exact stepw_call rfl (wanted_some (j := 21) rfl rfl rfl (got 21 (by decide) 54 rfl (by decide))) (runp_rfrom rfl rfl (got 26 (by decide) 59 rfl (by decide)) w1) rfl ((ref_from_any t w1).mono fun e w' h => ⟨h.1, h.2 ▸ hJ⟩)
    | 28, _, hr, got => exact stepw_val rfl (wanted_some (j := 21) rfl rfl rfl (got 21 (by decide) 54 rfl (by decide))) (runp_eqb rfl (got 24 (by decide) 57 rfl (by decide)) (got 27 (by decide) 60 rfl (by decide)) w1) rfl hJ
    | 29, _, hr, got => exact stepw_val rfl (wanted_none rfl) (runw_pick rfl (got 21 (by decide) 54 rfl (by decide)) (got 28 (by decide) 61 rfl (by decide)) w1) rfl hJ
    | 30, _, hr, got => exact stepw_val rfl (wanted_none rfl) (runw_assign rfl (got 29 (by decide) 62 rfl (by decide)) w1) rfl hJ
    | j + 31, hlt, _, _ => exact absurd hlt (by omega)
  case hdone =>
    intro l w' hall hJ
    have hbel := (show Pts _ _ _ _ _ _ _ _ _ _ _ _ _ _ _ _ from hJ).bel
    clear hall hJ
    simp only [putsOf, putsDst, putsVal, Act.put, List.setIfInBounds_toArray, List.set_cons_zero, List.set_cons_succ]
    go_wp2
    go_ret
    exact ⟨rfl, hbel⟩
end Go.Proofs.Ytfpdkdaoomakgaa
