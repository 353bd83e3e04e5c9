/-
  The law's function 'act': one call of both; they answer the same, and both are behind it what the document says.
-/
import Derived.Test.YtejhhgpfkobjoabFlowPair
import Derived.Test.YtejhhgpfkobjoabRegionGuard
import Derived.Deep.CutBlock
import Derived.BigQuiet
namespace Go.Proofs.Ytejhhgpfkobjoab
open Go.RowKit
set_option linter.unusedVariables false
set_option linter.unusedSimpArgs false

section
variable {σ : Wm.St} {r d n : Int} {ne on : Bool} {s : ByteArray}
theorem step_1 (hr : d.tmod 10 = r) (h : r = 1 ∨ r = -1) : Wm.step σ d n ne on s = Wm.takeT σ := by
  unfold Wm.step
  simp only [hr]
  rw [if_pos h]
theorem step_2 (hr : d.tmod 10 = r) (h : r = 2 ∨ r = -2) : Wm.step σ d n ne on s = Wm.ackT σ (Wm.nAdd n ne σ.va) := by
  unfold Wm.step
  simp only [hr]
  rw [if_neg (by omega), if_pos h]
theorem step_3 (hr : d.tmod 10 = r) (h : r = 3 ∨ r = -3) : Wm.step σ d n ne on s = Wm.backT σ := by
  unfold Wm.step
  simp only [hr]
  rw [if_neg (by omega), if_neg (by omega), if_pos h]
theorem step_4 (hr : d.tmod 10 = r) (h : r = 4 ∨ r = -4) : Wm.step σ d n ne on s = Wm.comeT σ (Wm.nAdd n ne σ.vr) := by
  unfold Wm.step
  simp only [hr]
  rw [if_neg (by omega), if_neg (by omega), if_neg (by omega), if_pos h]
theorem step_5 (hr : d.tmod 10 = r) (h : r = 5 ∨ r = -5) : Wm.step σ d n ne on s = Wm.peerT σ on := by
  unfold Wm.step
  simp only [hr]
  rw [if_neg (by omega), if_neg (by omega), if_neg (by omega), if_neg (by omega), if_pos h]
theorem step_6 (hr : d.tmod 10 = r) (h : r = 6 ∨ r = -6) : Wm.step σ d n ne on s = Wm.ownT σ on := by
  unfold Wm.step
  simp only [hr]
  rw [if_neg (by omega), if_neg (by omega), if_neg (by omega), if_neg (by omega), if_neg (by omega), if_pos h]
theorem step_7 (hr : d.tmod 10 = r) (h : r = 7 ∨ r = -7) : Wm.step σ d n ne on s = Wm.resetT σ := by
  unfold Wm.step
  simp only [hr]
  rw [if_neg (by omega), if_neg (by omega), if_neg (by omega), if_neg (by omega), if_neg (by omega), if_neg (by omega), if_pos h]
theorem step_8 (hr : d.tmod 10 = r) (h : r = 8 ∨ r = -8) : Wm.step σ d n ne on s = Wm.clearT σ := by
  unfold Wm.step
  simp only [hr]
  rw [if_neg (by omega), if_neg (by omega), if_neg (by omega), if_neg (by omega), if_neg (by omega), if_neg (by omega), if_neg (by omega), if_pos h]
theorem step_9 (hr : d.tmod 10 = r) (h1 : ¬ (r = 1 ∨ r = -1)) (h2 : ¬ (r = 2 ∨ r = -2)) (h3 : ¬ (r = 3 ∨ r = -3)) (h4 : ¬ (r = 4 ∨ r = -4)) (h5 : ¬ (r = 5 ∨ r = -5)) (h6 : ¬ (r = 6 ∨ r = -6)) (h7 : ¬ (r = 7 ∨ r = -7)) (h8 : ¬ (r = 8 ∨ r = -8)) : Wm.step σ d n ne on s = Wm.pushT σ s := by
  unfold Wm.step
  simp only [hr]
  rw [if_neg h1, if_neg h2, if_neg h3, if_neg h4, if_neg h5, if_neg h6, if_neg h7, if_neg h8]
end

/-! ### both Push, in a region that draws its order: the first is operation 3, the second 10 -/
section
variable {b : Nat} {W0 w : World} {C R D s : Nat} {q : ActF} {σ : Wm.St} {l : Array Bool}
structure PuJ (b : Nat) (W0 : World) (C R D : Nat) (s : Nat) (q : ActF) (σ : Wm.St) (l : Array Bool) (w : World) : Prop where
  t : TwF b W0 w C R D s q (if l.getD 3 false = true then Wm.pushT σ q.s else σ) (if l.getD 10 false = true then Wm.pushT σ q.s else σ)
theorem PuJ.same {i : Nat} (h : PuJ b W0 C R D s q σ l w) (h1 : i ≠ 3) (h2 : i ≠ 10) : PuJ b W0 C R D s q σ (l.setIfInBounds i true) w := by
  refine ⟨?_⟩
  rw [getD_set_ne false h1, getD_set_ne false h2]
  exact h.t
theorem pu_yet {md : Region.Mode} {ops : Array Oper} {l : Array Bool} {i : Nat} (h : i ∈ Region.ready md ops l) : l.getD i false = false ∧ (l.setIfInBounds i true).getD i false = true := by
  have hl := (mem_ready.1 h).1
  have hlt := unlisted_lt hl
  refine ⟨?_, by simp [hlt]⟩
  simp [hlt] at hl ⊢
  exact hl
theorem PuJ.first {md : Region.Mode} {ops : Array Oper} (h : PuJ b W0 C R D s q σ l w) (hr : 3 ∈ Region.ready md ops l) :
    ∃ G, Fl w C G σ ∧ ∀ w', Mvf w w' C G (Wm.pushT σ q.s) → PuJ b W0 C R D s q σ (l.setIfInBounds 3 true) w' := by
  obtain ⟨e1, e2⟩ := pu_yet hr
  have h' := h.t
  rw [e1] at h'
  simp only [Bool.false_eq_true, if_false] at h'
  obtain ⟨G, h1, h2⟩ := h'.first
  refine ⟨G, h1, fun w' hm => ⟨?_⟩⟩
  rw [e2, getD_set_ne false (by decide)]
  simp only [if_true]
  exact h2 _ _ hm
theorem PuJ.second {md : Region.Mode} {ops : Array Oper} (h : PuJ b W0 C R D s q σ l w) (hr : 10 ∈ Region.ready md ops l) :
    ∃ H, Rf w R D H σ ∧ ∀ w', Mvr w w' R D H (Wm.pushT σ q.s) → PuJ b W0 C R D s q σ (l.setIfInBounds 10 true) w' := by
  obtain ⟨e1, e2⟩ := pu_yet hr
  have h' := h.t
  rw [e1] at h'
  simp only [Bool.false_eq_true, if_false] at h'
  obtain ⟨G, h1, h2⟩ := h'.second
  refine ⟨G, h1, fun w' hm => ⟨?_⟩⟩
  rw [e2, getD_set_ne false (by decide)]
  simp only [if_true]
  exact h2 _ _ hm
theorem puJ_start {K : Nat} (h : TwF b W0 w C R D s q σ σ) : PuJ b W0 C R D s q σ (Array.replicate K false) w := by
  refine ⟨?_⟩
  rw [rep_getD', rep_getD']
  simpa using h
theorem PuJ.done (h : PuJ b W0 C R D s q σ l w) (hall : ∀ i, i < 13 → l.getD i false = true) : TwF b W0 w C R D s q (Wm.pushT σ q.s) (Wm.pushT σ q.s) := by
  have h' := h.t
  rw [hall 3 (by decide), hall 10 (by decide)] at h'
  simpa using h'
theorem PuJ.c7 (h : PuJ b W0 C R D s q σ l w) : w.cell? ⟨R, 7, none⟩ = some (.pointer (some ⟨D, 0, none⟩)) := by
  obtain ⟨H, hr, -⟩ := h.t.second
  exact hr.c7
end
theorem push_takes (mo : Int) (L : List ByteArray) (x : ByteArray) : Qm.pushN (Qm.takes mo : Nat) L x = Qm.pushN mo L x ∧ Qm.pushL (Qm.takes mo : Nat) L x = Qm.pushL mo L x := by
  unfold Qm.pushN Qm.pushL
  rw [Qm.takes_takes]
  exact ⟨rfl, rfl⟩
theorem rfpush_any {R D : Nat} {H : Option Nat} {σ : Wm.St} {w : World} (s : ByteArray) (h : Rf w R D H σ) (hs : s.size ≤ 9223372036854775807) :
    Calls Try.prog 26 #[.pointer (some ⟨D, 0, none⟩), .string s] w fun e w' => e = .returned (.int .i64 (Qm.pushN σ.mo σ.L s)) ∧ Mvr w w' R D H (Wm.pushT σ s) := by
  refine (rpush_any D σ.sn H _ σ.L s w h.qu (by rw [Qm.takes_takes]) hs).mono fun e w' hx => ?_
  obtain ⟨e1, e2⟩ := push_takes σ.mo σ.L s
  rw [e1, e2] at hx
  exact ⟨hx.1, h.queue hx.2⟩
section
variable {ρ : Operand → Value} {o : Oper}
theorem runa_fa {x : Operand} {s : Nat} (hop : o.op = .fieldAddr 28 x 4) (hx : ρ x = .pointer (some ⟨s, 0, none⟩)) (w : World) : (execOp ρ o).run Try.prog w = .ok (.value (.pointer (some ⟨s, 4, none⟩))) w := by
  unfold execOp
  simp only [hop, hx]
  go_simp
theorem runa_nil {x : Operand} {p : Addr} (hop : o.op = .nilCheck x) (hx : ρ x = .pointer (some p)) (w : World) : (execOp ρ o).run Try.prog w = .ok (.value (.pointer (some p))) w := by
  unfold execOp
  simp only [hop, hx]
  go_simp
theorem runa_lds {x : Operand} {s j : Nat} {v : ByteArray} {w : World} (hop : o.op = .load 9 x) (hx : ρ x = .pointer (some ⟨s, j, none⟩)) (hc : w.cell? ⟨s, j, none⟩ = some (.string v)) : (execOp ρ o).run Try.prog w = .ok (.value (.string v)) w := by
  unfold execOp
  simp only [hop, hx]
  go_simp
theorem runa_fa7 {x : Operand} {R : Nat} (hop : o.op = .fieldAddr 35 x 7) (hx : ρ x = .pointer (some ⟨R, 0, none⟩)) (w : World) : (execOp ρ o).run Try.prog w = .ok (.value (.pointer (some ⟨R, 7, none⟩))) w := by
  unfold execOp
  simp only [hop, hx]
  go_simp
theorem runa_ldq {x : Operand} {R D k : Nat} {w : World} (hop : o.op = .load 33 x) (hx : ρ x = .pointer (some ⟨R, k, none⟩)) (hc : w.cell? ⟨R, k, none⟩ = some (.pointer (some ⟨D, 0, none⟩))) : (execOp ρ o).run Try.prog w = .ok (.value (.pointer (some ⟨D, 0, none⟩))) w := by
  unfold execOp
  simp only [hop, hx]
  go_simp
theorem runa_eqi {x y : Operand} {n : Int} (hop : o.op = .binOp .eql 3 x y 3) (hx : ρ x = .int .i64 n) (hy : ρ y = .int .i64 n) (w : World) : (execOp ρ o).run Try.prog w = .ok (.value (.bool true)) w := by
  have tn : (n == n) = true := by simp
  unfold execOp
  simp only [hop, hx, hy]
  go_simp
theorem runa_push {x y : Operand} {u v : Value} {ts : Array TypeId} (hop : o.op = .call { callee := .value (.func 25), args := #[x, y], argTypes := ts })
    (hf : ρ (.func 25) = .func (.func 25) #[] #[]) (hx : ρ x = u) (hy : ρ y = v) (w : World) : (execOp ρ o).run Try.prog w = .ok (.enter 25 #[u, v]) w := by
  unfold execOp
  simp only [hop]
  simp only [resolve, hf, hx, hy, List.map_toArray, List.map_cons, List.map_nil]
  go_simp
theorem runa_rpush {x y : Operand} {u v : Value} {ts : Array TypeId} (hop : o.op = .call { callee := .value (.func 26), args := #[x, y], argTypes := ts })
    (hf : ρ (.func 26) = .func (.func 26) #[] #[]) (hx : ρ x = u) (hy : ρ y = v) (w : World) : (execOp ρ o).run Try.prog w = .ok (.enter 26 #[u, v]) w := by
  unfold execOp
  simp only [hop]
  simp only [resolve, hf, hx, hy, List.map_toArray, List.map_cons, List.map_nil]
  go_simp
end
def puD (i : Nat) : Option Nat := if i < 12 then some (28 + i) else if i = 12 then some 6 else none
def puV (C R D s : Nat) (x : ByteArray) (n : Int) : Nat → Value
  | 0 => .pointer (some ⟨C, 0, none⟩) | 1 => .pointer (some ⟨s, 4, none⟩) | 2 => .string x | 3 => .int .i64 n | 4 => .pointer (some ⟨R, 0, none⟩) | 5 => .pointer (some ⟨R, 0, none⟩) | 6 => .pointer (some ⟨R, 7, none⟩) | 7 => .pointer (some ⟨D, 0, none⟩)
  | 8 => .pointer (some ⟨s, 4, none⟩) | 9 => .string x | 10 => .int .i64 n | 11 => .bool true | 12 => .bool true | _ => undef
theorem puD_inj : ∀ i j d, i < 13 → j < 13 → puD i = some d → puD j = some d → i = j := by
  intro i j d hi hj h1 h2
  unfold puD at h1 h2
  split at h1 <;> split at h2 <;> simp at h1 h2 <;> omega
theorem puD_lt : ∀ i d, i < 13 → puD i = some d → d < 172 := by
  intro i d hi h1
  unfold puD at h1
  split at h1 <;> simp at h1 <;> omega
theorem rpeer_set {w : World} {R D : Nat} {H : Option Nat} {σ : Wm.St} (h : Rf w R D H σ) (b : Bool) : Mvr w (w.setCell ⟨R, 3, none⟩ (.bool b)) R D H (Wm.peerT σ b) :=
  h.set 3 (by decide) _ (fun i hi => seven (P := fun i => fval (Wm.peerT σ b) i = if i = 3 then .bool b else fval σ i) rfl rfl rfl rfl rfl rfl rfl i hi) rfl rfl rfl
theorem rown_set {w : World} {R D : Nat} {H : Option Nat} {σ : Wm.St} (h : Rf w R D H σ) (b : Bool) : Mvr w (w.setCell ⟨R, 4, none⟩ (.bool b)) R D H (Wm.ownT σ b) :=
  h.set 4 (by decide) _ (fun i hi => seven (P := fun i => fval (Wm.ownT σ b) i = if i = 4 then .bool b else fval σ i) rfl rfl rfl rfl rfl rfl rfl i hi) rfl rfl rfl

set_option maxHeartbeats 8000000 in
set_option maxRecDepth 100000 in
theorem act_any (b : Nat) (W0 : World) (C R D : Nat) (σ : Wm.St) (q : ActF) (w : World) (h : PrF b W0 w C R D σ σ) (ok : σ.Ok) (hq : q.Ok) :
    Calls Try.prog 6 #[.pointer (some ⟨C, 0, none⟩), .pointer (some ⟨R, 0, none⟩), .agg #[.int .i64 q.d, .int .i64 q.n, .bool q.ne, .bool q.on, .string q.s]] w fun e w' =>
      e = .returned (.bool true) ∧ PrF b W0 w' C R D (Wm.step σ q.d q.n q.ne q.on q.s) (Wm.step σ q.d q.n q.ne q.on q.s) := by
  obtain ⟨qd, qn, qne, qon, qs⟩ := q
  show Calls Try.prog 6 #[.pointer (some ⟨C, 0, none⟩), .pointer (some ⟨R, 0, none⟩), .agg #[.int .i64 qd, .int .i64 qn, .bool qne, .bool qon, .string qs]] w fun e w' =>
      e = .returned (.bool true) ∧ PrF b W0 w' C R D (Wm.step σ qd qn qne qon qs) (Wm.step σ qd qn qne qon qs)
  obtain ⟨Wq, hWq⟩ : ∃ Wq, Wq = w.alloc (.cells #[.int .i64 qd, .int .i64 qn, .bool qne, .bool qon, .string qs] 28) := ⟨_, rfl⟩
  have HPq : Hid (TwF b W0 Wq C R D w.heap.size ⟨qd, qn, qne, qon, qs⟩ σ σ) := h.act hWq
  have qn0 : -9223372036854775808 ≤ qn := hq.n.1
  have qn1 : qn ≤ 9223372036854775807 := hq.n.2
  have HSz : Hid (qs.size ≤ 9223372036854775807) := hq.s
  clear h hq
  go_enter Try.func6, Try.ntmps6
  go_upto_if 22 with fail
  rw [← hWq]
  clear hWq
  generalize w.heap.size = s at HPq ⊢
  have y0 : Wq.cell? ⟨s, 0, none⟩ = some (.int .i64 qd) := HPq.out.act.d
  have y2 : Wq.cell? ⟨s, 2, none⟩ = some (.bool qne) := by have := HPq.out.act.ne; rwa [Nat.zero_add] at this
  have y3 : Wq.cell? ⟨s, 3, none⟩ = some (.bool qon) := by have := HPq.out.act.on; rwa [Nat.zero_add] at this
  have yl := HPq.out.lt
  obtain ⟨n0, hn0⟩ : ∃ n0, n0 = if qne then qn % 256 else qn := ⟨_, rfl⟩
  have HN : Hid (n0 = if qne then qn % 256 else qn) := hn0
  clear hn0
  go_cut [7] from 23 to 24 (fun s7 wx => s7 = .int .i64 n0 ∧ Wq = wx)
  case first =>
    cases qne with
    | true =>
      have hN := HN.out
      rw [if_pos rfl] at hN
      have HB := i64_and255 qn
      go_wp2_with fail
      go_meet
      exact ⟨by rw [hN], rfl⟩
    | false =>
      have hN := HN.out
      rw [if_neg (by decide)] at hN
      go_wp2_with fail
      go_meet
      exact ⟨by rw [hN], rfl⟩
  case rest =>
  obtain ⟨rfl, rfl⟩ := hcut
  go_upto_region 6 with fail
  obtain ⟨r, hr⟩ : ∃ r, qd.tmod 10 = r := ⟨_, rfl⟩
  rw [hr]
  have HR : Hid (qd.tmod 10 = r) := hr
  clear hr y0
  by_cases e1 : r = 1 ∨ r = -1
  · have HS : Hid (Wm.step σ qd qn qne qon qs = Wm.takeT σ) := step_1 HR.out e1
    clear HN y2 y3 yl
    rcases e1 with rfl | rfl
    all_goals
      obtain ⟨G, hq3, hn3⟩ := HPq.out.first
      have HT := (ftake_any C G σ _ hq3 ok).mono fun e w' h => (⟨h.1, hn3 _ _ h.2⟩ : _ ∧ TwF b W0 w' C R D s ⟨qd, qn, qne, qon, qs⟩ (Wm.takeT σ) (σ))
      clear hq3 hn3
      go_wp2_with fail
      refine HT.mono ?_
      rintro e w4 ⟨rfl, hO4⟩
      clear HT
      obtain ⟨H, hq4, hn4⟩ := hO4.second
      have HT := (rftake_any R D H σ _ hq4 ok).mono fun e w' h => (⟨h.1, hn4 _ _ h.2⟩ : _ ∧ TwF b W0 w' C R D s ⟨qd, qn, qne, qon, qs⟩ (Wm.takeT σ) (Wm.takeT σ))
      clear hq4 hn4 hO4
      generalize Wm.takeN σ = x at HT ⊢
      generalize Wm.takeS σ = y at HT ⊢
      generalize Wm.takeB σ = z at HT ⊢
      go_wp2_with fail
      refine HT.mono ?_
      rintro e w5 ⟨rfl, hO5⟩
      have HO5 : Hid (PrF b W0 w5 C R D (Wm.takeT σ) (Wm.takeT σ)) := hO5.pr
      clear HT hO5 HPq
      have tx : (x == x) = true := by simp
      have ty : (y.toList == y.toList) = true := by simp
      have tz : (z == z) = true := by simp
      go_wp2
      go_ret
      exact ⟨rfl, by rw [HS.out]; exact HO5.out⟩
  by_cases e2 : r = 2 ∨ r = -2
  · obtain ⟨m, hm⟩ : ∃ m, m = Wm.nAdd qn qne σ.va := ⟨_, rfl⟩
    have HS : Hid (Wm.step σ qd qn qne qon qs = Wm.ackT σ m) := by
      show _ = _
      rw [hm]
      exact step_2 HR.out e2
    have o1 := ok.va0
    have o2 := ok.va1
    have hm0 : -9223372036854775808 ≤ m ∧ m ≤ 9223372036854775807 := by
      rw [hm]
      unfold Wm.nAdd
      split <;> omega
    have c1 : Wq.cell? ⟨R, 1, none⟩ = some (.int .i64 σ.va) := by
      obtain ⟨H, hr, -⟩ := HPq.out.second
      exact hr.fr.c1
    have cl : R < Wq.heap.size := by
      obtain ⟨H, hr, -⟩ := HPq.out.second
      exact hr.lt
    clear e1 y3
    have hne : (qne = true ∧ (0 ≤ n0 ∧ n0 ≤ 255) ∧ n0 + σ.va = m) ∨ (qne = false ∧ n0 = m) := by
      have hN := HN.out
      rw [hm]
      unfold Wm.nAdd
      cases qne with
      | true => rw [if_pos rfl] at hN; exact Or.inl ⟨rfl, by omega, by rw [hN]; rfl⟩
      | false => rw [if_neg (by decide)] at hN; exact Or.inr ⟨rfl, hN⟩
    clear hm HN
    rcases e2 with rfl | rfl
    all_goals
      rcases hne with ⟨rfl, hnb, hsum⟩ | ⟨rfl, rfl⟩
      · rw [← hsum] at HS hm0
        clear hsum
        obtain ⟨G, hq3, hn3⟩ := HPq.out.first
        have HT := (fack_any C G σ (n0 + σ.va) _ hq3 ok hm0.1 hm0.2).mono fun e w' h => (⟨h.1, hn3 _ _ h.2⟩ : _ ∧ TwF b W0 w' C R D s ⟨qd, qn, true, qon, qs⟩ (Wm.ackT σ (n0 + σ.va)) (σ))
        clear hq3 hn3
        go_wp2_with fail
        refine HT.mono ?_
        rintro e w4 ⟨rfl, hO4⟩
        clear HT
        obtain ⟨H, hq4, hn4⟩ := hO4.second
        have HT := (rfack_any R D H σ (n0 + σ.va) _ hq4 ok hm0.1 hm0.2).mono fun e w' h => (⟨h.1, hn4 _ _ h.2⟩ : _ ∧ TwF b W0 w' C R D s ⟨qd, qn, true, qon, qs⟩ (Wm.ackT σ (n0 + σ.va)) (Wm.ackT σ (n0 + σ.va)))
        clear hq4 hn4 hO4
        generalize Wm.ackN σ (n0 + σ.va) = x at HT ⊢
        generalize Wm.ackE σ (n0 + σ.va) = y at HT ⊢
        go_wp2_with fail
        refine HT.mono ?_
        rintro e w5 ⟨rfl, hO5⟩
        have HO5 : Hid (PrF b W0 w5 C R D (Wm.ackT σ (n0 + σ.va)) (Wm.ackT σ (n0 + σ.va))) := hO5.pr
        clear HT hO5 HPq
        have tx : (x == x) = true := by simp
        have ty : (y == y) = true := by simp
        go_wp2
        go_ret
        exact ⟨rfl, by rw [HS.out]; exact HO5.out⟩
      · clear c1
        obtain ⟨G, hq3, hn3⟩ := HPq.out.first
        have HT := (fack_any C G σ n0 _ hq3 ok hm0.1 hm0.2).mono fun e w' h => (⟨h.1, hn3 _ _ h.2⟩ : _ ∧ TwF b W0 w' C R D s ⟨qd, qn, false, qon, qs⟩ (Wm.ackT σ n0) (σ))
        clear hq3 hn3
        go_wp2_with fail
        refine HT.mono ?_
        rintro e w4 ⟨rfl, hO4⟩
        clear HT
        obtain ⟨H, hq4, hn4⟩ := hO4.second
        have HT := (rfack_any R D H σ n0 _ hq4 ok hm0.1 hm0.2).mono fun e w' h => (⟨h.1, hn4 _ _ h.2⟩ : _ ∧ TwF b W0 w' C R D s ⟨qd, qn, false, qon, qs⟩ (Wm.ackT σ n0) (Wm.ackT σ n0))
        clear hq4 hn4 hO4
        generalize Wm.ackN σ n0 = x at HT ⊢
        generalize Wm.ackE σ n0 = y at HT ⊢
        go_wp2_with fail
        refine HT.mono ?_
        rintro e w5 ⟨rfl, hO5⟩
        have HO5 : Hid (PrF b W0 w5 C R D (Wm.ackT σ n0) (Wm.ackT σ n0)) := hO5.pr
        clear HT hO5 HPq
        have tx : (x == x) = true := by simp
        have ty : (y == y) = true := by simp
        go_wp2
        go_ret
        exact ⟨rfl, by rw [HS.out]; exact HO5.out⟩
  by_cases e3 : r = 3 ∨ r = -3
  · have HS : Hid (Wm.step σ qd qn qne qon qs = Wm.backT σ) := step_3 HR.out e3
    clear HN y2 y3 yl e1 e2
    rcases e3 with rfl | rfl
    all_goals
      obtain ⟨G, hq3, hn3⟩ := HPq.out.first
      have HT := (fback_any C G σ _ hq3).mono fun e w' h => (⟨h.1, hn3 _ _ h.2⟩ : _ ∧ TwF b W0 w' C R D s ⟨qd, qn, qne, qon, qs⟩ (Wm.backT σ) (σ))
      clear hq3 hn3
      go_wp2_with fail
      refine HT.mono ?_
      rintro e w4 ⟨rfl, hO4⟩
      clear HT
      obtain ⟨H, hq4, hn4⟩ := hO4.second
      have HT := (rfback_any R D H σ _ hq4).mono fun e w' h => (⟨h.1, hn4 _ _ h.2⟩ : _ ∧ TwF b W0 w' C R D s ⟨qd, qn, qne, qon, qs⟩ (Wm.backT σ) (Wm.backT σ))
      clear hq4 hn4 hO4
      go_wp2_with fail
      refine HT.mono ?_
      rintro e w5 ⟨rfl, hO5⟩
      have HO5 : Hid (PrF b W0 w5 C R D (Wm.backT σ) (Wm.backT σ)) := hO5.pr
      clear HT hO5 HPq
      go_wp2
      go_ret
      exact ⟨rfl, by rw [HS.out]; exact HO5.out⟩
  by_cases e4 : r = 4 ∨ r = -4
  · obtain ⟨m, hm⟩ : ∃ m, m = Wm.nAdd qn qne σ.vr := ⟨_, rfl⟩
    have HS : Hid (Wm.step σ qd qn qne qon qs = Wm.comeT σ m) := by
      show _ = _
      rw [hm]
      exact step_4 HR.out e4
    have o1 := ok.vr0
    have o2 := ok.vr1
    have hm0 : -9223372036854775808 ≤ m ∧ m ≤ 9223372036854775807 := by
      rw [hm]
      unfold Wm.nAdd
      split <;> omega
    have c1 : Wq.cell? ⟨R, 2, none⟩ = some (.int .i64 σ.vr) := by
      obtain ⟨H, hr, -⟩ := HPq.out.second
      exact hr.fr.c2
    have cl : R < Wq.heap.size := by
      obtain ⟨H, hr, -⟩ := HPq.out.second
      exact hr.lt
    clear e1 e2 e3 y3
    have hne : (qne = true ∧ (0 ≤ n0 ∧ n0 ≤ 255) ∧ n0 + σ.vr = m) ∨ (qne = false ∧ n0 = m) := by
      have hN := HN.out
      rw [hm]
      unfold Wm.nAdd
      cases qne with
      | true => rw [if_pos rfl] at hN; exact Or.inl ⟨rfl, by omega, by rw [hN]; rfl⟩
      | false => rw [if_neg (by decide)] at hN; exact Or.inr ⟨rfl, hN⟩
    clear hm HN
    rcases e4 with rfl | rfl
    all_goals
      rcases hne with ⟨rfl, hnb, hsum⟩ | ⟨rfl, rfl⟩
      · rw [← hsum] at HS hm0
        clear hsum
        obtain ⟨G, hq3, hn3⟩ := HPq.out.first
        have HT := (fcome_any C G σ (n0 + σ.vr) _ hq3 ok hm0.1 hm0.2).mono fun e w' h => (⟨h.1, hn3 _ _ h.2⟩ : _ ∧ TwF b W0 w' C R D s ⟨qd, qn, true, qon, qs⟩ (Wm.comeT σ (n0 + σ.vr)) (σ))
        clear hq3 hn3
        go_wp2_with fail
        refine HT.mono ?_
        rintro e w4 ⟨rfl, hO4⟩
        clear HT
        obtain ⟨H, hq4, hn4⟩ := hO4.second
        have HT := (rfcome_any R D H σ (n0 + σ.vr) _ hq4 ok hm0.1 hm0.2).mono fun e w' h => (⟨h.1, hn4 _ _ h.2⟩ : _ ∧ TwF b W0 w' C R D s ⟨qd, qn, true, qon, qs⟩ (Wm.comeT σ (n0 + σ.vr)) (Wm.comeT σ (n0 + σ.vr)))
        clear hq4 hn4 hO4
        generalize Wm.comeN σ (n0 + σ.vr) = x at HT ⊢
        go_wp2_with fail
        refine HT.mono ?_
        rintro e w5 ⟨rfl, hO5⟩
        have HO5 : Hid (PrF b W0 w5 C R D (Wm.comeT σ (n0 + σ.vr)) (Wm.comeT σ (n0 + σ.vr))) := hO5.pr
        clear HT hO5 HPq
        have tx : (x == x) = true := by simp
        go_wp2
        go_ret
        exact ⟨rfl, by rw [HS.out]; exact HO5.out⟩
      · clear c1
        obtain ⟨G, hq3, hn3⟩ := HPq.out.first
        have HT := (fcome_any C G σ n0 _ hq3 ok hm0.1 hm0.2).mono fun e w' h => (⟨h.1, hn3 _ _ h.2⟩ : _ ∧ TwF b W0 w' C R D s ⟨qd, qn, false, qon, qs⟩ (Wm.comeT σ n0) (σ))
        clear hq3 hn3
        go_wp2_with fail
        refine HT.mono ?_
        rintro e w4 ⟨rfl, hO4⟩
        clear HT
        obtain ⟨H, hq4, hn4⟩ := hO4.second
        have HT := (rfcome_any R D H σ n0 _ hq4 ok hm0.1 hm0.2).mono fun e w' h => (⟨h.1, hn4 _ _ h.2⟩ : _ ∧ TwF b W0 w' C R D s ⟨qd, qn, false, qon, qs⟩ (Wm.comeT σ n0) (Wm.comeT σ n0))
        clear hq4 hn4 hO4
        generalize Wm.comeN σ n0 = x at HT ⊢
        go_wp2_with fail
        refine HT.mono ?_
        rintro e w5 ⟨rfl, hO5⟩
        have HO5 : Hid (PrF b W0 w5 C R D (Wm.comeT σ n0) (Wm.comeT σ n0)) := hO5.pr
        clear HT hO5 HPq
        have tx : (x == x) = true := by simp
        go_wp2
        go_ret
        exact ⟨rfl, by rw [HS.out]; exact HO5.out⟩
  by_cases e5 : r = 5 ∨ r = -5
  · have HS : Hid (Wm.step σ qd qn qne qon qs = Wm.peerT σ qon) := step_5 HR.out e5
    clear HN y2 e1 e2 e3 e4
    rcases e5 with rfl | rfl
    all_goals
      obtain ⟨G, hq3, hn3⟩ := HPq.out.first
      have HT := (fpeer_any C G σ qon _ hq3).mono fun e w' h => (⟨h.1, hn3 _ _ h.2⟩ : _ ∧ TwF b W0 w' C R D s ⟨qd, qn, qne, qon, qs⟩ (Wm.peerT σ qon) (σ))
      clear hq3 hn3
      go_wp2_with fail
      refine HT.mono ?_
      rintro e w4 ⟨rfl, hO4⟩
      clear HT y3 yl
      have z3 : w4.cell? ⟨s, 3, none⟩ = some (.bool qon) := by have := hO4.act.on; rwa [Nat.zero_add] at this
      have zl := hO4.lt
      obtain ⟨H, hq4, hn4⟩ := hO4.second
      have HO5 : Hid (PrF b W0 (w4.setCell ⟨R, 3, none⟩ (.bool qon)) C R D (Wm.peerT σ qon) (Wm.peerT σ qon)) := (hn4 _ _ (rpeer_set hq4 qon)).pr
      have c3 := hq4.fr.c3
      have f3 := hq4.fr.f 3 (by decide)
      have cl := hq4.lt
      clear hq4 hn4 hO4 HPq
      go_wp2
      go_ret
      exact ⟨rfl, by rw [HS.out]; exact HO5.out⟩
  by_cases e6 : r = 6 ∨ r = -6
  · have HS : Hid (Wm.step σ qd qn qne qon qs = Wm.ownT σ qon) := step_6 HR.out e6
    clear HN y2 e1 e2 e3 e4 e5
    obtain ⟨H0, hr0, -⟩ := HPq.out.second
    have c4 := hr0.fr.c4
    have f4 := hr0.fr.f 4 (by decide)
    have cl := hr0.lt
    obtain ⟨z, hz⟩ : ∃ z, z = (σ.ow != qon) := ⟨_, rfl⟩
    have HZ : Hid (z = (σ.ow != qon)) := hz
    have hzc : (σ.ow = true ∧ qon = true ∧ z = false) ∨ (σ.ow = true ∧ qon = false ∧ z = true) ∨ (σ.ow = false ∧ qon = true ∧ z = true) ∨ (σ.ow = false ∧ qon = false ∧ z = false) := by
      rw [hz]
      cases σ.ow <;> cases qon <;> simp
    have HM : Hid (∀ k, TwF b W0 ((Wq.drewN k).setCell ⟨R, 4, none⟩ (.bool qon)) C R D s ⟨qd, qn, qne, qon, qs⟩ σ (Wm.ownT σ qon)) := by
      intro k
      obtain ⟨H', hr', hn'⟩ := (HPq.out.below (fdrewN_blw (Below.refl _ _) k)).second
      exact hn' _ _ (rown_set hr' qon)
    clear hz hr0
    rcases e6 with rfl | rfl
    all_goals
      rcases hzc with ⟨ho, rfl, rfl⟩ | ⟨ho, rfl, rfl⟩ | ⟨ho, rfl, rfl⟩ | ⟨ho, rfl, rfl⟩
      all_goals
        rw [ho] at c4
        clear ho
        go_wp2_with fail
        go_quiet (fail)
        have hO4 := HM.out nq
        go_wp2_with fail
        obtain ⟨G, hq3, hn3⟩ := hO4.first
        refine (fown_any C G σ _ _ hq3).mono ?_
        rintro e w5 ⟨rfl, hm5⟩
        rw [← HZ.out]
        have HO6 : Hid (PrF b W0 w5 C R D _ _) := (hn3 _ _ hm5).pr
        clear hm5 hq3 hn3 hO4
        go_wp2
        go_ret
        exact ⟨rfl, by rw [HS.out]; exact HO6.out⟩
  by_cases e7 : r = 7 ∨ r = -7
  · have HS : Hid (Wm.step σ qd qn qne qon qs = Wm.resetT σ) := step_7 HR.out e7
    clear HN y2 y3 yl e1 e2 e3 e4 e5 e6
    rcases e7 with rfl | rfl
    all_goals
      obtain ⟨G, hq3, hn3⟩ := HPq.out.first
      have HT := (freset_any C G σ _ hq3).mono fun e w' h => (⟨h.1, hn3 _ _ h.2⟩ : _ ∧ TwF b W0 w' C R D s ⟨qd, qn, qne, qon, qs⟩ (Wm.resetT σ) (σ))
      clear hq3 hn3
      go_wp2_with fail
      refine HT.mono ?_
      rintro e w4 ⟨rfl, hO4⟩
      clear HT
      obtain ⟨H, hq4, hn4⟩ := hO4.second
      have HT := (rfreset_any R D H σ _ hq4).mono fun e w' h => (⟨h.1, hn4 _ _ h.2⟩ : _ ∧ TwF b W0 w' C R D s ⟨qd, qn, qne, qon, qs⟩ (Wm.resetT σ) (Wm.resetT σ))
      clear hq4 hn4 hO4
      go_wp2_with fail
      refine HT.mono ?_
      rintro e w5 ⟨rfl, hO5⟩
      have HO5 : Hid (PrF b W0 w5 C R D (Wm.resetT σ) (Wm.resetT σ)) := hO5.pr
      clear HT hO5 HPq
      go_wp2
      go_ret
      exact ⟨rfl, by rw [HS.out]; exact HO5.out⟩
  by_cases e8 : r = 8 ∨ r = -8
  · have HS : Hid (Wm.step σ qd qn qne qon qs = Wm.clearT σ) := step_8 HR.out e8
    clear HN y2 y3 yl e1 e2 e3 e4 e5 e6 e7
    rcases e8 with rfl | rfl
    all_goals
      obtain ⟨G, hq3, hn3⟩ := HPq.out.first
      have HT := (fclear_any C G σ _ hq3).mono fun e w' h => (⟨h.1, hn3 _ _ h.2⟩ : _ ∧ TwF b W0 w' C R D s ⟨qd, qn, qne, qon, qs⟩ (Wm.clearT σ) (σ))
      clear hq3 hn3
      go_wp2_with fail
      refine HT.mono ?_
      rintro e w4 ⟨rfl, hO4⟩
      clear HT
      obtain ⟨H, hq4, hn4⟩ := hO4.second
      have HT := (rfclear_any R D H σ _ hq4).mono fun e w' h => (⟨h.1, hn4 _ _ h.2⟩ : _ ∧ TwF b W0 w' C R D s ⟨qd, qn, qne, qon, qs⟩ (Wm.clearT σ) (Wm.clearT σ))
      clear hq4 hn4 hO4
      generalize σ.L.length = ln at HT ⊢
      go_wp2_with fail
      refine HT.mono ?_
      rintro e w5 ⟨rfl, hO5⟩
      have HO5 : Hid (PrF b W0 w5 C R D (Wm.clearT σ) (Wm.clearT σ)) := hO5.pr
      clear HT hO5 HPq
      go_wp2
      go_ret
      exact ⟨rfl, by rw [HS.out]; exact HO5.out⟩
  have HS : Hid (Wm.step σ qd qn qne qon qs = Wm.pushT σ qs) := step_9 HR.out e1 e2 e3 e4 e5 e6 e7 e8
  have n1 : (r == 1) = false := by simp; omega
  have m1 : (r == -1) = false := by simp; omega
  have n2 : (r == 2) = false := by simp; omega
  have m2 : (r == -2) = false := by simp; omega
  have n3 : (r == 3) = false := by simp; omega
  have m3 : (r == -3) = false := by simp; omega
  have n4 : (r == 4) = false := by simp; omega
  have m4 : (r == -4) = false := by simp; omega
  have n5 : (r == 5) = false := by simp; omega
  have m5 : (r == -5) = false := by simp; omega
  have n6 : (r == 6) = false := by simp; omega
  have m6 : (r == -6) = false := by simp; omega
  have n7 : (r == 7) = false := by simp; omega
  have m7 : (r == -7) = false := by simp; omega
  have n8 : (r == 8) = false := by simp; omega
  have m8 : (r == -8) = false := by simp; omega
  clear HN y2 y3 yl e1 e2 e3 e4 e5 e6 e7 e8
  go_upto_region 5 with fail
  refine region_vals (by kernel_rfl) 13 rfl puD (puV C R D s qs (Qm.pushN σ.mo σ.L qs)) puD_inj ?hd ?hlow (PuJ b W0 C R D s ⟨qd, qn, qne, qon, qs⟩ σ) ?h0 ?hstep ?hdone
  case hd => exact puD_lt
  case hlow => kernel_rfl
  case h0 => exact puJ_start (HPq.out.below (Below.refl _ _).drew)
  case hstep =>
    intro l fa wz k hk0 hJ hr hK
    have s0 : fa.eval (.tmp 0) = .pointer (some ⟨C, 0, none⟩) := hK.rest 0 (by decide)
    have s1 : fa.eval (.tmp 1) = .pointer (some ⟨R, 0, none⟩) := hK.rest 1 (by decide)
    have s5 : fa.eval (.tmp 5) = .pointer (some ⟨s, 0, none⟩) := hK.rest 5 (by decide)
    have got : ∀ i, i ∈ depsOf .any _ k → ∀ d, puD i = some d → i < 13 → fa.eval (.tmp d) = puV C R D s qs (Qm.pushN σ.mo σ.L qs) i := fun i hi d hd hi' => hK.got i d hi' (ready_deps hr i hi) hd
    have y4 : wz.cell? ⟨s, 4, none⟩ = some (.string qs) := by have := hJ.t.act.s; rwa [Nat.zero_add] at this
    match k, hk0, hr, got with
    | 0, _, hr, got => exact stepw_val rfl (wanted_none rfl) (runw_move rfl s0 wz) rfl (hJ.same (by decide) (by decide))
    | 1, _, hr, got => exact stepw_val rfl (wanted_none rfl) (runa_fa rfl s5 wz) rfl (hJ.same (by decide) (by decide))
    | 2, _, hr, got => exact stepw_val rfl (wanted_none rfl) (runa_lds rfl (got 1 (by decide) 29 rfl (by decide)) y4) rfl (hJ.same (by decide) (by decide))
    | 3, _, hr, got =>
      obtain ⟨G, hc', hn'⟩ := hJ.first hr
      exact stepw_call rfl (wanted_none rfl) (runa_push rfl rfl (got 0 (by decide) 28 rfl (by decide)) (got 2 (by decide) 30 rfl (by decide)) wz) rfl ((fpush_any C G σ qs wz hc' HSz.out).mono fun e w' h => ⟨h.1, hn' w' h.2⟩)
    | 4, _, hr, got => exact stepw_val rfl (wanted_none rfl) (runw_move rfl s1 wz) rfl (hJ.same (by decide) (by decide))
    | 5, _, hr, got => exact stepw_val rfl (wanted_none rfl) (runa_nil rfl (got 4 (by decide) 32 rfl (by decide)) wz) rfl (hJ.same (by decide) (by decide))
    | 6, _, hr, got => exact stepw_val rfl (wanted_none rfl) (runa_fa7 rfl (got 5 (by decide) 33 rfl (by decide)) wz) rfl (hJ.same (by decide) (by decide))
    | 7, _, hr, got => exact stepw_val rfl (wanted_none rfl) (runa_ldq rfl (got 6 (by decide) 34 rfl (by decide)) hJ.c7) rfl (hJ.same (by decide) (by decide))
    | 8, _, hr, got => exact stepw_val rfl (wanted_none rfl) (runa_fa rfl s5 wz) rfl (hJ.same (by decide) (by decide))
    | 9, _, hr, got => exact stepw_val rfl (wanted_none rfl) (runa_lds rfl (got 8 (by decide) 36 rfl (by decide)) y4) rfl (hJ.same (by decide) (by decide))
    | 10, _, hr, got =>
      obtain ⟨G, hc', hn'⟩ := hJ.second hr
      exact stepw_call rfl (wanted_none rfl) (runa_rpush rfl rfl (got 7 (by decide) 35 rfl (by decide)) (got 9 (by decide) 37 rfl (by decide)) wz) rfl ((rfpush_any qs hc' HSz.out).mono fun e w' h => ⟨h.1, hn' w' h.2⟩)
    | 11, _, hr, got => exact stepw_val rfl (wanted_none rfl) (runa_eqi rfl (got 3 (by decide) 31 rfl (by decide)) (got 10 (by decide) 38 rfl (by decide)) wz) rfl (hJ.same (by decide) (by decide))
    | 12, _, hr, got => exact stepw_val rfl (wanted_none rfl) (runw_assign rfl (got 11 (by decide) 39 rfl (by decide)) wz) rfl (hJ.same (by decide) (by decide))
    | j + 13, hlt, _, _ => exact absurd hlt (by omega)
  case hdone =>
    intro l w' hall hJ
    have HO5 : Hid (PrF b W0 w' C R D (Wm.pushT σ qs) (Wm.pushT σ qs)) := (hJ.done hall).pr
    clear hall hJ HPq
    simp only [putsOf, puD, puV, Act.put, List.setIfInBounds_toArray, List.set_cons_zero, List.set_cons_succ]
    go_wp2
    go_ret
    exact ⟨rfl, by rw [HS.out]; exact HO5.out⟩
end Go.Proofs.Ytejhhgpfkobjoab
