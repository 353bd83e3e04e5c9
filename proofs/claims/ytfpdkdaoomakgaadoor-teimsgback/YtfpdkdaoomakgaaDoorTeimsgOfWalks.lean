/-
  The walk of teimsg.Of: it answers 'ofRes'. Nothing that was there is turned.
-/
import Derived.Test.YtfpdkdaoomakgaaDoorTeimsgGetWalks
import Derived.Test.YtfpdkdaoomakgaaDoorCells
import Derived.Test.YtfpdkdaoomakgaaDoorRegionGuard
namespace Go.Proofs.YtfpdkdaoomakgaaDoor
open Go.RowKit
set_option linter.unusedVariables false
set_option linter.unusedSimpArgs false

/-- what Of hands back -/
def tofV (r : (Int × Int × Int) × Bool) : Value := .tuple #[msgV r.1, .bool r.2]

/-- a struct of three cells that may be written -/
structure Three (w : World) (B : Nat) : Prop where
  lt : B < w.heap.size
  c : ∀ j, j < 3 → ∃ v, w.cell? ⟨B, j, none⟩ = some v
  f : ∀ j, j < 3 → w.frozen? ⟨B, j, none⟩ = false
theorem Three.later {w w' : World} {B : Nat} (h : Three w B) (hb : Below w.heap.size w w') : Three w' B :=
  ⟨Nat.lt_of_lt_of_le h.lt hb.size, fun j hj => by obtain ⟨v, hv⟩ := h.c j hj; exact ⟨v, (hb.cell (p := ⟨B, j, none⟩) h.lt).trans hv⟩, fun j hj => (hb.frozen (p := ⟨B, j, none⟩) h.lt).trans (h.f j hj)⟩
theorem three_new (w : World) (a b c : Value) (t : TypeId) : Three (w.alloc (.cells #[a, b, c] t)) w.heap.size := by
  refine ⟨by simp, fun j hj => ?_, fun j hj => ?_⟩
  · have : j = 0 ∨ j = 1 ∨ j = 2 := by omega
    rcases this with rfl | rfl | rfl
    · exact ⟨a, by simp⟩
    · exact ⟨b, by simp⟩
    · exact ⟨c, by simp⟩
  · have : j = 0 ∨ j = 1 ∨ j = 2 := by omega
    rcases this with rfl | rfl | rfl <;> simp
theorem Three.parts {w : World} {B : Nat} (h : Three w B) : ∃ v0 v1 v2, w.cell? ⟨B, 0, none⟩ = some v0 ∧ w.cell? ⟨B, 1, none⟩ = some v1 ∧ w.cell? ⟨B, 2, none⟩ = some v2 ∧ w.frozen? ⟨B, 0, none⟩ = false ∧ w.frozen? ⟨B, 1, none⟩ = false ∧ w.frozen? ⟨B, 2, none⟩ = false := by
  obtain ⟨v0, c0⟩ := h.c 0 (by decide)
  obtain ⟨v1, c1⟩ := h.c 1 (by decide)
  obtain ⟨v2, c2⟩ := h.c 2 (by decide)
  exact ⟨v0, v1, v2, c0, c1, c2, h.f 0 (by decide), h.f 1 (by decide), h.f 2 (by decide)⟩
/-- three cells written -/
def set3 (w : World) (B : Nat) (a b c : Value) : World := ((w.setCell ⟨B, 0, none⟩ a).setCell ⟨B, 1, none⟩ b).setCell ⟨B, 2, none⟩ c
theorem set3_is {w : World} {B : Nat} (h : Three w B) (a b c : Value) : (set3 w B a b c).cell? ⟨B, 0, none⟩ = some a ∧ (set3 w B a b c).cell? ⟨B, 1, none⟩ = some b ∧ (set3 w B a b c).cell? ⟨B, 2, none⟩ = some c := by
  unfold set3
  refine ⟨?_, ?_, ?_⟩
  · rw [set_other (by decide), set_other (by decide)]
    exact set_same (h.c 0 (by decide))
  · rw [set_other (by decide)]
    exact set_same (some_other (by decide) (h.c 1 (by decide)))
  · exact set_same (some_other (by decide) (some_other (by decide) (h.c 2 (by decide))))
theorem set3_size (w : World) (B : Nat) (a b c : Value) : (set3 w B a b c).heap.size = w.heap.size := by simp [set3]
theorem set3_below' {w w1 : World} {B base : Nat} (hq : Below base w w1) (hB : base ≤ B) (a b c : Value) : Below base w (set3 w1 B a b c) := by
  unfold set3
  exact ((hq.setCell (p := ⟨B, 0, none⟩) hB _).setCell (p := ⟨B, 1, none⟩) hB _).setCell (p := ⟨B, 2, none⟩) hB _

theorem set3_alloc {w : World} {B : Nat} (h : Three w B) (a b c : Value) (o : Obj) : ((set3 w B a b c).alloc o).cell? ⟨B, 0, none⟩ = some a ∧ ((set3 w B a b c).alloc o).cell? ⟨B, 1, none⟩ = some b ∧ ((set3 w B a b c).alloc o).cell? ⟨B, 2, none⟩ = some c := by
  have hq : Below (set3 w B a b c).heap.size (set3 w B a b c) ((set3 w B a b c).alloc o) := (Below.refl _ _).alloc (Nat.le_refl _) _
  have hlt : B < (set3 w B a b c).heap.size := by rw [set3_size]; exact h.lt
  obtain ⟨h0, h1, h2⟩ := set3_is h a b c
  exact ⟨(hq.cell (p := ⟨B, 0, none⟩) hlt).trans h0, (hq.cell (p := ⟨B, 1, none⟩) hlt).trans h1, (hq.cell (p := ⟨B, 2, none⟩) hlt).trans h2⟩
theorem set3_allocB {w w1 : World} {B base : Nat} (hq : Below base w w1) (hB : base ≤ B) (a b c : Value) (hs : w.heap.size = base) (o : Obj) : Below base w ((set3 w1 B a b c).alloc o) := by
  have h := set3_below' hq hB a b c
  exact h.alloc (by have := h.size; omega) o

/-- the frame, and the result, lie where they were put -/
structure OfH (w0 : World) (sapi tei : Int) (c : Bool) (k : Int) (pf : Bool) (ns nr : Int) (info : ByteArray) (w : World) : Prop where
  a : FrC w w0.heap.size sapi tei c k pf ns nr info
  m : Three w (w0.heap.size + 1)
  bel : Below w0.heap.size w0 w
theorem OfH.later {w0 : World} {sapi tei : Int} {c : Bool} {k : Int} {pf : Bool} {ns nr : Int} {info : ByteArray} {w w' : World} (h : OfH w0 sapi tei c k pf ns nr info w) (hb : Below w.heap.size w w') : OfH w0 sapi tei c k pf ns nr info w' :=
  ⟨h.a.later hb, h.m.later hb, h.bel.trans (hb.mono h.bel.size)⟩
theorem link_of {w0 : World} {sapi tei : Int} {c : Bool} {k : Int} {pf : Bool} {ns nr : Int} {info : ByteArray} {w : World} (h : OfH w0 sapi tei c k pf ns nr info w) :
    Calls Tryd.prog 16 #[] w fun e w' => e = .returned (.agg #[.int .i64 63, .int .i64 127]) ∧ OfH w0 sapi tei c k pf ns nr info w' := by
  refine (link_any w).mono ?_
  rintro e w' ⟨rfl, hb⟩
  exact ⟨rfl, h.later hb⟩

/-! ### the region of Of's test: what each operation does -/
theorem runo_fa {ρ : Operand → Value} {o : Oper} {x : Operand} {L : Nat} (hop : o.op = .fieldAddr 38 x 0) (hx : ρ x = .pointer (some ⟨L, 0, none⟩)) (w : World) : (execOp ρ o).run Tryd.prog w = .ok (.value (.pointer (some ⟨L, 0, none⟩))) w := by
  unfold execOp
  simp only [hop, hx]
  go_simp
theorem runo_fa2 {ρ : Operand → Value} {o : Oper} {x : Operand} {L : Nat} (hop : o.op = .fieldAddr 38 x 2) (hx : ρ x = .pointer (some ⟨L, 0, none⟩)) (w : World) : (execOp ρ o).run Tryd.prog w = .ok (.value (.pointer (some ⟨L, 3, none⟩))) w := by
  unfold execOp
  simp only [hop, hx]
  go_simp
theorem runo_fa1 {ρ : Operand → Value} {o : Oper} {x : Operand} {L : Nat} (hop : o.op = .fieldAddr 38 x 1) (hx : ρ x = .pointer (some ⟨L, 0, none⟩)) (w : World) : (execOp ρ o).run Tryd.prog w = .ok (.value (.pointer (some ⟨L, 2, none⟩))) w := by
  unfold execOp
  simp only [hop, hx]
  go_simp
theorem runo_ld2 {ρ : Operand → Value} {o : Oper} {x : Operand} {L : Nat} {a b : Int} {w : World} (hop : o.op = .load 35 x) (hx : ρ x = .pointer (some ⟨L, 0, none⟩)) (h0 : w.cell? ⟨L, 0, none⟩ = some (.int .i64 a)) (h1 : w.cell? ⟨L, 1, none⟩ = some (.int .i64 b)) : (execOp ρ o).run Tryd.prog w = .ok (.value (.agg #[.int .i64 a, .int .i64 b])) w := by
  unfold execOp
  simp only [hop, hx]
  go_simp
theorem runo_ldk {ρ : Operand → Value} {o : Oper} {x : Operand} {L : Nat} {k : Int} {w : World} (hop : o.op = .load 36 x) (hx : ρ x = .pointer (some ⟨L, 3, none⟩)) (hc : w.cell? ⟨L, 3, none⟩ = some (.int .i64 k)) : (execOp ρ o).run Tryd.prog w = .ok (.value (.int .i64 k)) w := by
  unfold execOp
  simp only [hop, hx]
  go_simp
theorem runo_ldc {ρ : Operand → Value} {o : Oper} {x : Operand} {L : Nat} {c : Bool} {w : World} (hop : o.op = .load 4 x) (hx : ρ x = .pointer (some ⟨L, 2, none⟩)) (hc : w.cell? ⟨L, 2, none⟩ = some (.bool c)) : (execOp ρ o).run Tryd.prog w = .ok (.value (.bool c)) w := by
  unfold execOp
  simp only [hop, hx]
  go_simp
theorem runo_nel {ρ : Operand → Value} {o : Oper} {x y : Operand} {a b : Int} (hop : o.op = .binOp .neq 35 x y 35) (hx : ρ x = .agg #[.int .i64 a, .int .i64 b]) (hy : ρ y = .agg #[.int .i64 63, .int .i64 127]) (w : World) : (execOp ρ o).run Tryd.prog w = .ok (.value (.bool (!(decide (a = 63 ∧ b = 127))))) w := by
  unfold execOp
  simp only [hop, hx, hy]
  go_simp
  by_cases h1 : a = 63 <;> by_cases h2 : b = 127 <;> simp [h1, h2]
theorem runo_nek {ρ : Operand → Value} {o : Oper} {x : Operand} {k : Int} (hop : o.op = .binOp .neq 36 x (.const (.int .i64 6)) 36) (hx : ρ x = .int .i64 k) (hc : ρ (.const (.int .i64 6)) = .int .i64 6) (w : World) : (execOp ρ o).run Tryd.prog w = .ok (.value (.bool (!(decide (k = 6))))) w := by
  unfold execOp
  simp only [hop, hx, hc]
  go_simp
  by_cases h1 : k = 6 <;> simp [h1]
theorem runo_not {ρ : Operand → Value} {o : Oper} {x : Operand} {c : Bool} (hop : o.op = .unOp .not 4 x) (hx : ρ x = .bool c) (w : World) : (execOp ρ o).run Tryd.prog w = .ok (.value (.bool (!c))) w := by
  unfold execOp
  simp only [hop, hx]
  rfl
theorem runo_call {ρ : Operand → Value} {o : Oper} (hop : o.op = .call { callee := .value (.func 16), args := #[], argTypes := #[] })
    (hf : ρ (.func 16) = .func (.func 16) #[] #[]) (w : World) : (execOp ρ o).run Tryd.prog w = .ok (.enter 16 #[]) w := by
  unfold execOp
  simp only [hop]
  simp only [resolve, hf, List.map_toArray, List.map_cons, List.map_nil]
  go_simp

def ofDst (i : Nat) : Option Nat := some (8 + i)
/-- what the operations give: b1 says that the link isn't a message's, b2 that the kind isn't, or that -/
def ofVal (L : Nat) (sapi tei : Int) (c : Bool) (k : Int) (b1 b2 : Bool) : Nat → Value
  | 0 => .pointer (some ⟨L, 0, none⟩) | 1 => .agg #[.int .i64 sapi, .int .i64 tei] | 2 => .agg #[.int .i64 63, .int .i64 127] | 3 => .bool b1 | 4 => .bool b1
  | 5 => if b1 then undef else .pointer (some ⟨L, 3, none⟩) | 6 => if b1 then undef else .int .i64 k | 7 => if b1 then undef else .bool b2 | 8 => .bool b2 | 9 => .bool b2
  | 10 => if b2 then undef else .pointer (some ⟨L, 2, none⟩) | 11 => if b2 then undef else .bool c | 12 => if b2 then undef else .bool (!c) | 13 => .bool (b2 || !c) | _ => undef
theorem ofDst_inj : ∀ i j d, i < 14 → j < 14 → ofDst i = some d → ofDst j = some d → i = j := by
  intro i j d hi hj h1 h2
  have e1 := Option.some.inj h1
  have e2 := Option.some.inj h2
  omega
theorem ofDst_lt : ∀ i d, i < 14 → ofDst i = some d → d < 40 := by
  intro i d hi h
  have := Option.some.inj h
  omega
/-- the same, whatever has come up -/
def OfJ (w0 : World) (sapi tei : Int) (c : Bool) (k : Int) (pf : Bool) (ns nr : Int) (info : ByteArray) (l : Array Bool) (w : World) : Prop := OfH w0 sapi tei c k pf ns nr info w

theorem of_start (w : World) (sapi tei : Int) (c : Bool) (k : Int) (pf : Bool) (ns nr : Int) (info : ByteArray) (T U : TypeId) : OfH w sapi tei c k pf ns nr info ((w.alloc (.cells #[.int .i64 sapi, .int .i64 tei, .bool c, .int .i64 k, .bool pf, .int .i64 ns, .int .i64 nr, .string info] T)).alloc (.cells #[.int .i64 0, .int .i64 0, .int .i64 0] U)) := by
  have e1 : (w.alloc (.cells #[.int .i64 sapi, .int .i64 tei, .bool c, .int .i64 k, .bool pf, .int .i64 ns, .int .i64 nr, .string info] T)).heap.size = w.heap.size + 1 := by simp
  have hm := three_new (w.alloc (.cells #[.int .i64 sapi, .int .i64 tei, .bool c, .int .i64 k, .bool pf, .int .i64 ns, .int .i64 nr, .string info] T)) (.int .i64 0) (.int .i64 0) (.int .i64 0) U
  rw [e1] at hm
  exact ⟨(frc_new w sapi tei c k pf ns nr info _).later ((Below.refl _ _).alloc (Nat.le_refl _) _), hm, ((Below.refl _ _).alloc (Nat.le_refl _) _).alloc (by simp) _⟩

set_option maxHeartbeats 2000000 in
set_option maxRecDepth 100000 in
theorem tof_any (sapi tei : Int) (c : Bool) (k : Int) (pf : Bool) (ns nr : Int) (info : ByteArray) (network : Bool) (w : World) (hi : info.size ≤ 140737488351232) :
    Calls Tryd.prog 12 #[.agg #[.int .i64 sapi, .int .i64 tei, .bool c, .int .i64 k, .bool pf, .int .i64 ns, .int .i64 nr, .string info], .bool network] w fun e w' =>
      e = .returned (tofV (Tm.ofRes sapi tei c k info network)) ∧ Below w.heap.size w w' := by
  have hH := of_start w sapi tei c k pf ns nr info 38 26
  have hGet := fun W => tget_any info W hi
  have HI : Hid (Tm.isMsg sapi tei c k → (Tm.getRes info).2 = 0 → Tm.net (Tm.getRes info).1.1 = network → Tm.ofRes sapi tei c k info network = ((Tm.getRes info).1, true)) := Tm.of_in
  have HO : Hid (¬ (Tm.isMsg sapi tei c k ∧ (Tm.getRes info).2 = 0 ∧ Tm.net (Tm.getRes info).1.1 = network) → Tm.ofRes sapi tei c k info network = ((0, 0, 0), false)) := Tm.of_out
  obtain ⟨b1, hb1⟩ : ∃ b1, b1 = !(decide (sapi = 63 ∧ tei = 127)) := ⟨_, rfl⟩
  obtain ⟨b2, hb2⟩ : ∃ b2, b2 = (b1 || !(decide (k = 6))) := ⟨_, rfl⟩
  go_enter Tryd.func12, Tryd.ntmps12
  go_wp2
  generalize hW : (w.alloc (.cells #[.int .i64 sapi, .int .i64 tei, .bool c, .int .i64 k, .bool pf, .int .i64 ns, .int .i64 nr, .string info] 38)).alloc (.cells #[.int .i64 0, .int .i64 0, .int .i64 0] 26) = W at hH ⊢
  clear hW
  have hHd : OfH w sapi tei c k pf ns nr info W.drew := hH.later (Below.refl _ _).drew
  clear hH
  refine region_vals (by kernel_rfl) 14 rfl ofDst (ofVal w.heap.size sapi tei c k b1 b2) ofDst_inj ?hd ?hlow (OfJ w sapi tei c k pf ns nr info) ?h0 ?hstep ?hdone
  case hd => exact ofDst_lt
  case hlow => kernel_rfl
  case h0 => exact hHd
  case hstep =>
    intro l a w1 i hi hJ0 hr hK
    have hJ : OfH w sapi tei c k pf ns nr info w1 := hJ0
    clear hJ0 HI HO hGet
    have h2 : a.eval (.tmp 2) = .pointer (some ⟨w.heap.size, 0, none⟩) := hK.rest 2 (by intro j _ h; have := Option.some.inj h; omega)
    have got : ∀ j, j ∈ depsOf .any _ i → ∀ d, ofDst j = some d → j < 14 → a.eval (.tmp d) = ofVal w.heap.size sapi tei c k b1 b2 j := fun j hj d hd hj' => hK.got j d hj' (ready_deps hr j hj) hd
    match i, hi, hr, got with
    | 0, _, hr, got => exact stepw_val rfl (wanted_none rfl) (runo_fa rfl h2 w1) rfl hJ
    | 1, _, hr, got => exact stepw_val rfl (wanted_none rfl) (runo_ld2 rfl (got 0 (by decide) 8 rfl (by decide)) hJ.a.c0 hJ.a.c1) rfl hJ
    | 2, _, hr, got => exact stepw_call rfl (wanted_none rfl) (runo_call rfl rfl w1) rfl (link_of hJ)
    | 3, _, hr, got => exact stepw_val rfl (wanted_none rfl) (by rw [show ofVal w.heap.size sapi tei c k b1 b2 3 = .bool (!(decide (sapi = 63 ∧ tei = 127))) from by rw [← hb1]; rfl]; exact runo_nel rfl (got 1 (by decide) 9 rfl (by decide)) (got 2 (by decide) 10 rfl (by decide)) w1) rfl hJ
    | 4, _, hr, got => exact stepw_val rfl (wanted_none rfl) (runw_move rfl (got 3 (by decide) 11 rfl (by decide)) w1) rfl hJ
    | 5, _, hr, got =>
      cases b1 with
      | true => exact stepw_not rfl (wanted_not (j := 4) rfl rfl rfl (got 4 (by decide) 12 rfl (by decide))) rfl rfl hJ
      | false => exact stepw_val rfl (wanted_some (j := 4) rfl rfl rfl (got 4 (by decide) 12 rfl (by decide))) (runo_fa2 rfl h2 w1) rfl hJ
    | 6, _, hr, got =>
      cases b1 with
      | true => exact stepw_not rfl (wanted_not (j := 4) rfl rfl rfl (got 4 (by decide) 12 rfl (by decide))) rfl rfl hJ
      | false => exact stepw_val rfl (wanted_some (j := 4) rfl rfl rfl (got 4 (by decide) 12 rfl (by decide))) (runo_ldk rfl (got 5 (by decide) 13 rfl (by decide)) hJ.a.c3) rfl hJ
    | 7, _, hr, got =>
      cases b1 with
      | true => exact stepw_not rfl (wanted_not (j := 4) rfl rfl rfl (got 4 (by decide) 12 rfl (by decide))) rfl rfl hJ
      | false => exact stepw_val rfl (wanted_some (j := 4) rfl rfl rfl (got 4 (by decide) 12 rfl (by decide))) (by rw [show ofVal w.heap.size sapi tei c k false b2 7 = .bool (!(decide (k = 6))) from by rw [hb2]; rfl]; exact runo_nek rfl (got 6 (by decide) 14 rfl (by decide)) rfl w1) rfl hJ
    | 8, _, hr, got =>
      cases b1 with
      | true => exact stepw_val rfl (wanted_none rfl) (runw_pick rfl (got 4 (by decide) 12 rfl (by decide)) (by rw [hb2]; rfl) w1) rfl hJ
      | false => exact stepw_val rfl (wanted_none rfl) (runw_pickf rfl (got 4 (by decide) 12 rfl (by decide)) (got 7 (by decide) 15 rfl (by decide)) w1) rfl hJ
    | 9, _, hr, got => exact stepw_val rfl (wanted_none rfl) (runw_move rfl (got 8 (by decide) 16 rfl (by decide)) w1) rfl hJ
    | 10, _, hr, got =>
      cases b2 with
      | true => exact stepw_not rfl (wanted_not (j := 9) rfl rfl rfl (got 9 (by decide) 17 rfl (by decide))) rfl rfl hJ
      | false => exact stepw_val rfl (wanted_some (j := 9) rfl rfl rfl (got 9 (by decide) 17 rfl (by decide))) (runo_fa1 rfl h2 w1) rfl hJ
    | 11, _, hr, got =>
      cases b2 with
      | true => exact stepw_not rfl (wanted_not (j := 9) rfl rfl rfl (got 9 (by decide) 17 rfl (by decide))) rfl rfl hJ
      | false => exact stepw_val rfl (wanted_some (j := 9) rfl rfl rfl (got 9 (by decide) 17 rfl (by decide))) (runo_ldc rfl (got 10 (by decide) 18 rfl (by decide)) hJ.a.c2) rfl hJ
    | 12, _, hr, got =>
      cases b2 with
      | true => exact stepw_not rfl (wanted_not (j := 9) rfl rfl rfl (got 9 (by decide) 17 rfl (by decide))) rfl rfl hJ
      | false => exact stepw_val rfl (wanted_some (j := 9) rfl rfl rfl (got 9 (by decide) 17 rfl (by decide))) (runo_not rfl (got 11 (by decide) 19 rfl (by decide)) w1) rfl hJ
    | 13, _, hr, got =>
      cases b2 with
      | true => exact stepw_val rfl (wanted_none rfl) (runw_pick (v := .bool true) rfl (got 9 (by decide) 17 rfl (by decide)) (show a.eval (.const (.bool true)) = .bool true from rfl) w1) rfl hJ
      | false => exact stepw_val rfl (wanted_none rfl) (runw_pickf rfl (got 9 (by decide) 17 rfl (by decide)) (got 12 (by decide) 20 rfl (by decide)) w1) rfl hJ
    | j + 14, hlt, _, _ => exact absurd hlt (by omega)
  case hdone =>
    intro l w1 hall hJ
    have hH1 : OfH w sapi tei c k pf ns nr info w1 := hJ
    clear hall hJ hHd
    simp only [putsOf, ofDst, ofVal, Act.put, List.setIfInBounds_toArray, List.set_cons_zero, List.set_cons_succ]
    by_cases hm : Tm.isMsg sapi tei c k
    · have hb1' : b1 = false := by rw [hb1]; simp [hm.1, hm.2.1]
      have hb2' : b2 = false := by rw [hb2, hb1']; simp [hm.2.2.1]
      obtain ⟨rfl, rfl, rfl, rfl⟩ := hm
      clear hb1 hb2
      subst hb1' hb2'
      generalize hR : Tm.getRes info = R at hGet HI HO
      obtain ⟨⟨t, ri, ai⟩, e0⟩ := R
      clear hR
      simp only [tgetV, msgV] at hGet
      have HA : Hid (OfH w 63 127 true 6 pf ns nr info w1) := hH1
      obtain ⟨l0, a0, a1, a2, a3, a4, a5, a6, a7⟩ := hH1.a
      clear hH1
      go_wp2_with fail
      refine (hGet _).mono ?_
      rintro e w2 ⟨rfl, hb⟩
      clear hGet l0 a0 a1 a2 a3 a4 a5 a6 a7
      have hH2 := HA.out.later hb
      clear HA hb
      have hH3 := hH2.later ((Below.refl _ _).alloc (Nat.le_refl _) (.cells #[.int .i64 t, .int .i64 ri, .int .i64 ai] 26))
      have HM : Hid (Three w2 (w.heap.size + 1)) := hH2.m
      have HM3 : Hid (Three (w2.alloc (.cells #[.int .i64 t, .int .i64 ri, .int .i64 ai] 26)) (w.heap.size + 1)) := hH3.m
      have hbel := hH2.bel
      have hlt := hH2.m.lt
      obtain ⟨v0, v1, v2, c0, c1, c2, f0, f1, f2⟩ := hH2.m.parts
      clear hH2 hH3
      by_cases h0 : e0 = 0
      · subst h0
        have hN := fun W => from_any t W
        have HI2 : Hid (Tm.net t = network → Tm.ofRes 63 127 true 6 info network = ((t, ri, ai), true)) := fun h => HI.out ⟨rfl, rfl, rfl, rfl⟩ rfl h
        have HO2 : Hid (Tm.net t ≠ network → Tm.ofRes 63 127 true 6 info network = ((0, 0, 0), false)) := fun h => HO.out (fun q => h q.2.2)
        clear HI HO
        generalize Tm.net t = b at hN HI2 HO2
        by_cases hbn : b = network
        · subst hbn
          have HI3 : Hid _ := HI2.out rfl
          clear HI2 HO2
          have tb : (b != b) = false := by simp
          go_wp2_with fail
          refine (hN _).mono ?_
          rintro e w' ⟨rfl, rfl⟩
          clear hN
          go_wp2
          obtain ⟨z0, z1, z2⟩ := set3_alloc HM.out (.int .i64 t) (.int .i64 ri) (.int .i64 ai) (.cells #[.int .i64 t, .int .i64 ri, .int .i64 ai] 26)
          unfold set3 at z0 z1 z2
          exact bodyPost_ret (v := .tuple #[.agg #[.int .i64 t, .int .i64 ri, .int .i64 ai], .bool true]) (by simp [results, Tryd.results12, go_sem, z0, z1, z2]) rfl ⟨by rw [HI3.out]; rfl, set3_allocB hbel (Nat.le_succ _) _ _ _ rfl _⟩
        · have HO3 : Hid _ := HO2.out hbn
          clear HI2 HO2
          cases b <;> cases network <;> first | exact absurd rfl hbn | skip
          all_goals
            clear hbn
            go_wp2_with fail
            refine (hN _).mono ?_
            rintro e w' ⟨rfl, rfl⟩
            clear hN
            go_wp2
            obtain ⟨z0, z1, z2⟩ := set3_alloc HM.out (.int .i64 0) (.int .i64 0) (.int .i64 0) (.cells #[.int .i64 t, .int .i64 ri, .int .i64 ai] 26)
            unfold set3 at z0 z1 z2
            exact bodyPost_ret (v := .tuple #[.agg #[.int .i64 0, .int .i64 0, .int .i64 0], .bool false]) (by simp [results, Tryd.results12, go_sem, z0, z1, z2]) rfl ⟨by rw [HO3.out]; rfl, set3_allocB hbel (Nat.le_succ _) _ _ _ rfl _⟩
      · have HO2 : Hid (Tm.ofRes 63 127 true 6 info network = ((0, 0, 0), false)) := HO.out (fun q => h0 q.2.1)
        have tb : (e0 != 0) = true := by simpa using h0
        clear HI HO h0
        go_wp2
        obtain ⟨z0, z1, z2⟩ := set3_alloc HM.out (.int .i64 0) (.int .i64 0) (.int .i64 0) (.cells #[.int .i64 t, .int .i64 ri, .int .i64 ai] 26)
        unfold set3 at z0 z1 z2
        exact bodyPost_ret (v := .tuple #[.agg #[.int .i64 0, .int .i64 0, .int .i64 0], .bool false]) (by simp [results, Tryd.results12, go_sem, z0, z1, z2]) rfl ⟨by rw [HO2.out]; rfl, set3_allocB hbel (Nat.le_succ _) _ _ _ rfl _⟩
    · have HO2 : Hid (Tm.ofRes sapi tei c k info network = ((0, 0, 0), false)) := HO.out (fun q => hm q.1)
      have tb : (b2 || !c) = true := by
        rw [hb2, hb1]
        cases c
        · simp
        · simp only [Bool.not_true, Bool.or_false, Bool.or_eq_true, Bool.not_eq_true', decide_eq_false_iff_not]
          by_cases hl : sapi = 63 ∧ tei = 127
          · exact Or.inr (fun hk => hm ⟨hl.1, hl.2, hk, rfl⟩)
          · exact Or.inl hl
      rw [tb]
      clear HI HO tb hm hb1 hb2 hGet
      generalize (if b1 = true then undef else Value.pointer (some ⟨w.heap.size, 3, none⟩)) = u1
      generalize (if b1 = true then undef else Value.int .i64 k) = u2
      generalize (if b1 = true then undef else Value.bool b2) = u3
      generalize (if b2 = true then undef else Value.pointer (some ⟨w.heap.size, 2, none⟩)) = u4
      generalize (if b2 = true then undef else Value.bool c) = u5
      generalize (if b2 = true then undef else Value.bool (!c)) = u6
      have HM : Hid (Three w1 (w.heap.size + 1)) := hH1.m
      have hbel := hH1.bel
      have hlt := hH1.m.lt
      obtain ⟨v0, v1, v2, c0, c1, c2, f0, f1, f2⟩ := hH1.m.parts
      clear hH1
      go_wp2
      obtain ⟨z0, z1, z2⟩ := set3_is HM.out (.int .i64 0) (.int .i64 0) (.int .i64 0)
      unfold set3 at z0 z1 z2
      exact bodyPost_ret (v := .tuple #[.agg #[.int .i64 0, .int .i64 0, .int .i64 0], .bool false]) (by simp [results, Tryd.results12, go_sem, z0, z1, z2]) rfl ⟨by rw [HO2.out]; rfl, set3_below' hbel (Nat.le_succ _) _ _ _⟩
end Go.Proofs.YtfpdkdaoomakgaaDoor
