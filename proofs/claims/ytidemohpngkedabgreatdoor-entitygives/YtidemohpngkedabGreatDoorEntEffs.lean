/-
  The law's function 'sameFrame', of one frame: it is the same.
  The law's function 'sameEffects': what is told is the same.
  The law's function 'sameEntity': an entity has what the document's has.
-/
import Derived.Test.YtidemohpngkedabGreatDoorEntWorld
import Derived.Test.YtidemohpngkedabGreatDoorRegionGuard
import Derived.Deep.DeepCutAuto
import Derived.Test.YtidemohpngkedabGreatDoorEntView
import Derived.Test.YtidemohpngkedabGreatDoorRefMoves
import Derived.Test.YtidemohpngkedabGreatDoorFlowRef
import Derived.BigQuiet
namespace Go.Proofs.YtidemohpngkedabGreatDoor
open Go.RowKit
set_option linter.unusedVariables false
set_option maxRecDepth 100000
set_option linter.unusedSimpArgs false

set_option maxHeartbeats 2000000 in
theorem sameFrame_any (f : Em.Fr) (w : World) :
    Calls Tryz.prog 75 #[frmV f, frmV f] w fun r w' => r = .returned (.bool true) ∧ Below w.heap.size w w' := by
  obtain ⟨sapi, tei, c, k, pf, ns, nr, info⟩ := f
  unfold frmV
  have hb : Below w.heap.size w ((w.alloc (.cells #[.int .i64 sapi, .int .i64 tei, .bool c, .int .i64 k, .bool pf, .int .i64 ns, .int .i64 nr, .string info] 49)).alloc (.cells #[.int .i64 sapi, .int .i64 tei, .bool c, .int .i64 k, .bool pf, .int .i64 ns, .int .i64 nr, .string info] 50)) := ((Below.refl _ _).alloc (Nat.le_refl _) _).alloc (by simp) _
  have HB := (show Hid _ from hb)
  clear hb
  go_enter Tryz.func75, Tryz.ntmps75
  go_wp2
  go_ret
  exact ⟨rfl, HB.out⟩
end Go.Proofs.YtidemohpngkedabGreatDoor

namespace Go.Proofs.YtidemohpngkedabGreatDoor
open Go.RowKit
set_option linter.unusedVariables false
set_option maxRecDepth 100000
set_option linter.unusedSimpArgs false

def eff0 : Em.Eff := ⟨0, Em.fr0, ByteArray.empty, 0⟩
theorem effs_at : ∀ (l : List Em.Eff) (i k : Nat), i < l.length → k < 11 → (effsL l)[i * 11 + k]? = (effL (l.getD i eff0))[k]?
  | x :: l, 0, k, h, hk => by
    show (effL x ++ effsL l)[0 * 11 + k]? = _
    rw [List.getElem?_append_left (by simp [effL]; omega)]
    simp
  | x :: l, i + 1, k, h, hk => by
    show (effL x ++ effsL l)[(i + 1) * 11 + k]? = _
    rw [List.getElem?_append_right (by simp [effL]; omega)]
    have e : (i + 1) * 11 + k - (effL x).length = i * 11 + k := by simp [effL]; omega
    rw [e, effs_at l i k (by simpa using h) hk]
    simp
/-- one of a row of effects, told by its place -/
def EffAt (w : World) (g o : Nat) (x : Em.Eff) : Prop := g < w.heap.size ∧ ∀ k u, (effL x)[k]? = some u → w.cell? ⟨g, o + k, none⟩ = some u
theorem EffAt.below {w w' : World} {g o : Nat} {x : Em.Eff} (h : EffAt w g o x) (hb : Below w.heap.size w w') : EffAt w' g o x := ⟨Nat.lt_of_lt_of_le h.1 hb.size, fun k u hu => (hb.cell (p := ⟨g, o + k, none⟩) h.1).trans (h.2 k u hu)⟩
theorem effAt_of {w : World} {b g n cap : Nat} {ty : TypeId} {l : List Em.Eff} (h : w.ownsRow b ty 11 (.slice (some ⟨g, 0, none⟩) n cap) n (effsL l)) (hn : n = l.length) (i : Nat) (hi : i < n) : EffAt w g (i * 11) (l.getD i eff0) := by
  subst hn
  refine ⟨owns_blt h rfl, fun k u hk => ?_⟩
  have hk11 : k < 11 := by
    have := (List.getElem?_eq_some_iff.1 hk).1
    simpa [effL] using this
  exact (World.ownsRow.cellAt h (i * 11 + k) (by omega)).trans ((effs_at l i k hi hk11).trans hk)

section
variable {ρ : Operand → Value} {o : Oper}
theorem runx_idx {x y : Operand} {g n cap i : Nat} (hop : o.op = .indexAddr 39 x y ∨ o.op = .indexAddr 81 x y) (hx : ρ x = .slice (some ⟨g, 0, none⟩) n cap) (hy : ρ y = .int .i64 (i : Int)) (hi : i < n) (w : World) :
    (execOp ρ o).run Tryz.prog w = .ok (.value (.pointer (some ⟨g, i * 11, none⟩))) w := by
  have h0 : (0 : Int) ≤ (i : Int) := by omega
  have h1 : (i : Int) < (n : Int) := by omega
  unfold execOp
  rcases hop with hop | hop
  all_goals
    simp only [hop, hx, hy]
    go_simp
theorem runx_fa {x : Operand} {g p : Nat} (k off : Nat) (hk : (k = 0 ∧ off = 0) ∨ (k = 1 ∧ off = 1) ∨ (k = 2 ∧ off = 9) ∨ (k = 3 ∧ off = 10)) (hop : o.op = .fieldAddr 57 x k ∨ o.op = .fieldAddr 135 x k) (hx : ρ x = .pointer (some ⟨g, p, none⟩)) (w : World) :
    (execOp ρ o).run Tryz.prog w = .ok (.value (.pointer (some ⟨g, p + off, none⟩))) w := by
  unfold execOp
  rcases hk with ⟨rfl, rfl⟩ | ⟨rfl, rfl⟩ | ⟨rfl, rfl⟩ | ⟨rfl, rfl⟩
  all_goals
    rcases hop with hop | hop
    all_goals
      simp only [hop, hx]
      go_simp
theorem runx_ldi {x : Operand} {g p : Nat} {v : Int} {w : World} (hop : o.op = .load 55 x ∨ o.op = .load 3 x) (hx : ρ x = .pointer (some ⟨g, p, none⟩)) (hc : w.cell? ⟨g, p, none⟩ = some (.int .i64 v)) : (execOp ρ o).run Tryz.prog w = .ok (.value (.int .i64 v)) w := by
  unfold execOp
  rcases hop with hop | hop
  all_goals
    simp only [hop, hx]
    go_simp
theorem runx_lds {x : Operand} {g p : Nat} {v : ByteArray} {w : World} (hop : o.op = .load 9 x) (hx : ρ x = .pointer (some ⟨g, p, none⟩)) (hc : w.cell? ⟨g, p, none⟩ = some (.string v)) : (execOp ρ o).run Tryz.prog w = .ok (.value (.string v)) w := by
  unfold execOp
  simp only [hop, hx]
  go_simp
theorem runx_ldf {x : Operand} {g p : Nat} {e : Em.Eff} {w : World} (hop : o.op = .load 49 x ∨ o.op = .load 50 x) (hx : ρ x = .pointer (some ⟨g, p + 1, none⟩)) (hc : ∀ k u, (effL e)[k]? = some u → w.cell? ⟨g, p + k, none⟩ = some u) : (execOp ρ o).run Tryz.prog w = .ok (.value (frmV e.f)) w := by
  have c0 : w.cell? ⟨g, p + 1, none⟩ = some (.int .i64 e.f.sapi) := hc 1 _ rfl
  have c1 : w.cell? ⟨g, p + 1 + 1, none⟩ = some (.int .i64 e.f.tei) := hc 2 _ rfl
  have c2 : w.cell? ⟨g, p + 1 + 2, none⟩ = some (.bool e.f.c) := hc 3 _ rfl
  have c3 : w.cell? ⟨g, p + 1 + 3, none⟩ = some (.int .i64 e.f.k) := hc 4 _ rfl
  have c4 : w.cell? ⟨g, p + 1 + 4, none⟩ = some (.bool e.f.pf) := hc 5 _ rfl
  have c5 : w.cell? ⟨g, p + 1 + 5, none⟩ = some (.int .i64 e.f.ns) := hc 6 _ rfl
  have c6 : w.cell? ⟨g, p + 1 + 6, none⟩ = some (.int .i64 e.f.nr) := hc 7 _ rfl
  have c7 : w.cell? ⟨g, p + 1 + 7, none⟩ = some (.string e.f.info) := hc 8 _ rfl
  unfold execOp frmV
  generalize p + 1 = q at hx c0 c1 c2 c3 c4 c5 c6 c7
  rcases hop with hop | hop
  all_goals
    simp only [hop, hx]
    go_simp
theorem runx_nei {y z : Operand} {x : Int} (hop : o.op = .binOp .neq 3 y z 3) (hx : ρ y = .int .i64 x) (hy : ρ z = .int .i64 x) (w : World) : (execOp ρ o).run Tryz.prog w = .ok (.value (.bool false)) w := by
  unfold execOp
  simp only [hop, hx, hy]
  go_simp
theorem runx_nes {y z : Operand} {x : ByteArray} (hop : o.op = .binOp .neq 9 y z 9) (hx : ρ y = .string x) (hy : ρ z = .string x) (w : World) : (execOp ρ o).run Tryz.prog w = .ok (.value (.bool false)) w := by
  unfold execOp
  simp only [hop, hx, hy]
  go_simp
theorem runx_not {y : Operand} (hop : o.op = .unOp .not 4 y) (hx : ρ y = .bool true) (w : World) : (execOp ρ o).run Tryz.prog w = .ok (.value (.bool false)) w := by
  unfold execOp
  simp only [hop, hx]
  go_simp
theorem runx_call {x y : Operand} {u v : Value} {ts : Array TypeId} (hop : o.op = .call { callee := .value (.func 75), args := #[x, y], argTypes := ts })
    (hf : ρ (.func 75) = .func (.func 75) #[] #[]) (hx : ρ x = u) (hy : ρ y = v) (w : World) : (execOp ρ o).run Tryz.prog w = .ok (.enter 75 #[u, v]) w := by
  unfold execOp
  simp only [hop]
  simp only [resolve, hf, hx, hy, List.map_toArray, List.map_cons, List.map_nil]
  go_simp
end

def effD : Nat → Option Nat | 0 => some 16 | 1 => some 17 | 2 => some 18 | 3 => some 19 | 4 => some 20 | 5 => some 21 | 6 => some 22 | 7 => some 23 | 8 => some 24 | 9 => some 25 | 10 => some 26 | 11 => some 27 | 12 => some 28 | 13 => some 29 | 14 => some 30 | 15 => some 31 | 16 => some 32 | 17 => some 33 | 18 => some 34 | 19 => some 35 | 20 => some 36 | 21 => some 37 | 22 => some 38 | 23 => some 39 | 24 => some 40 | 25 => some 41 | 26 => some 42 | 27 => some 43 | 28 => some 44 | 29 => some 45 | 30 => some 46 | 31 => some 47 | 32 => some 48 | 33 => some 49 | 34 => some 50 | 35 => some 51 | 36 => some 52 | 37 => some 53 | 38 => some 54 | 39 => some 55 | 40 => some 56 | 41 => some 57 | 42 => some 58 | 43 => some 59 | 44 => some 60 | 45 => some 61 | 46 => some 62 | 47 => some 63 | 48 => some 64 | 49 => some 65 | 50 => some 66 | _ => none
def efxV (ga gb n ca cb i : Nat) (x : Em.Eff) : Nat → Value | 0 => .slice (some ⟨ga, 0, none⟩) n ca | 1 => .int .i64 (i : Int) | 2 => .pointer (some ⟨ga, i * 11, none⟩) | 3 => .pointer (some ⟨ga, i * 11 + 0, none⟩) | 4 => .int .i64 x.kind | 5 => .slice (some ⟨gb, 0, none⟩) n cb | 6 => .int .i64 (i : Int) | 7 => .pointer (some ⟨gb, i * 11, none⟩) | 8 => .pointer (some ⟨gb, i * 11 + 0, none⟩) | 9 => .int .i64 x.kind | 10 => .bool false | 11 => .bool false | 12 => .slice (some ⟨ga, 0, none⟩) n ca | 13 => .int .i64 (i : Int) | 14 => .pointer (some ⟨ga, i * 11, none⟩) | 15 => .pointer (some ⟨ga, i * 11 + 9, none⟩) | 16 => .string x.data | 17 => .slice (some ⟨gb, 0, none⟩) n cb | 18 => .int .i64 (i : Int) | 19 => .pointer (some ⟨gb, i * 11, none⟩) | 20 => .pointer (some ⟨gb, i * 11 + 9, none⟩) | 21 => .string x.data | 22 => .bool false | 23 => .bool false | 24 => .bool false | 25 => .slice (some ⟨ga, 0, none⟩) n ca | 26 => .int .i64 (i : Int) | 27 => .pointer (some ⟨ga, i * 11, none⟩) | 28 => .pointer (some ⟨ga, i * 11 + 10, none⟩) | 29 => .int .i64 x.timer | 30 => .slice (some ⟨gb, 0, none⟩) n cb | 31 => .int .i64 (i : Int) | 32 => .pointer (some ⟨gb, i * 11, none⟩) | 33 => .pointer (some ⟨gb, i * 11 + 10, none⟩) | 34 => .int .i64 x.timer | 35 => .bool false | 36 => .bool false | 37 => .bool false | 38 => .slice (some ⟨ga, 0, none⟩) n ca | 39 => .int .i64 (i : Int) | 40 => .pointer (some ⟨ga, i * 11, none⟩) | 41 => .pointer (some ⟨ga, i * 11 + 1, none⟩) | 42 => frmV x.f | 43 => .slice (some ⟨gb, 0, none⟩) n cb | 44 => .int .i64 (i : Int) | 45 => .pointer (some ⟨gb, i * 11, none⟩) | 46 => .pointer (some ⟨gb, i * 11 + 1, none⟩) | 47 => frmV x.f | 48 => .bool true | 49 => .bool false | 50 => .bool false | _ => undef
theorem effD_inj : ∀ i j d, i < 51 → j < 51 → effD i = some d → effD j = some d → i = j := by
  have h : ∀ i < 51, ∀ j < 51, effD i = effD j → i = j := by decide
  intro i j d hi hj h1 h2
  exact h i hi j hj (h1.trans h2.symm)
theorem effD_lt : ∀ i d, i < 51 → effD i = some d → d < 68 := by
  have h : ∀ i < 51, (effD i).all (· < 68) = true := by decide
  intro i d hi hd
  have := h i hi
  rw [hd] at this
  simpa using this
/-- the world while the region runs -/
structure EfxJ (w0 : World) (ga gb i : Nat) (x : Em.Eff) (l : Array Bool) (w : World) : Prop where
  ea : EffAt w ga (i * 11) x
  eb : EffAt w gb (i * 11) x
  bel : Below w0.heap.size w0 w
section
variable {w0 w w' : World} {ga gb i : Nat} {x : Em.Eff} {l l' : Array Bool}
theorem EfxJ.keep (h : EfxJ w0 ga gb i x l w) : EfxJ w0 ga gb i x l' w := ⟨h.ea, h.eb, h.bel⟩
theorem EfxJ.on (h : EfxJ w0 ga gb i x l w) (hb : Below w.heap.size w w') : EfxJ w0 ga gb i x l' w' := ⟨h.ea.below hb, h.eb.below hb, h.bel.trans (hb.mono h.bel.size)⟩
theorem EfxJ.a (h : EfxJ w0 ga gb i x l w) : ∀ k u, (effL x)[k]? = some u → w.cell? ⟨ga, i * 11 + k, none⟩ = some u := h.ea.2
theorem EfxJ.b (h : EfxJ w0 ga gb i x l w) : ∀ k u, (effL x)[k]? = some u → w.cell? ⟨gb, i * 11 + k, none⟩ = some u := h.eb.2
end

set_option maxHeartbeats 4000000 in
theorem sameEffects_any (l : List Em.Eff) (va vb : Value) (ba bb : Nat) (w : World) (hA : w.ownsRow ba 57 11 va l.length (effsL l)) (hB : w.ownsRow bb 135 11 vb l.length (effsL l)) (hl : l.length ≤ 9223372036854775807) :
    Calls Tryz.prog 33 #[va, vb] w fun r w' => r = .returned (.bool true) ∧ Below w.heap.size w w' := by
  have fa : ∃ a c, va = .slice a l.length c := by
    rcases hA.2 with ⟨h1, h2⟩ | ⟨g, cap, cur, h1, _⟩
    · exact ⟨none, 0, by rw [h1, h2]⟩
    · exact ⟨_, cap, h1⟩
  have fb : ∃ a c, vb = .slice a l.length c := by
    rcases hB.2 with ⟨h1, h2⟩ | ⟨g, cap, cur, h1, _⟩
    · exact ⟨none, 0, by rw [h1, h2]⟩
    · exact ⟨_, cap, h1⟩
  obtain ⟨aa, ca, rfl⟩ := fa
  obtain ⟨ab, cb, rfl⟩ := fb
  obtain ⟨n, hn⟩ : ∃ n, n = l.length := ⟨_, rfl⟩
  rw [← hn] at hA hB hl ⊢
  have HA : Hid (∀ i, i < n → ∃ g, aa = some ⟨g, 0, none⟩ ∧ EffAt w g (i * 11) (l.getD i eff0)) := fun i hi => by
    obtain ⟨g, c, hv, _, _⟩ := World.ownsRow.form hA (by omega)
    injection hv with e1 _ e2
    subst e1 e2
    exact ⟨g, rfl, effAt_of hA hn i hi⟩
  have HB : Hid (∀ i, i < n → ∃ g, ab = some ⟨g, 0, none⟩ ∧ EffAt w g (i * 11) (l.getD i eff0)) := fun i hi => by
    obtain ⟨g, c, hv, _, _⟩ := World.ownsRow.form hB (by omega)
    injection hv with e1 _ e2
    subst e1 e2
    exact ⟨g, rfl, effAt_of hB hn i hi⟩
  clear hA hB hn
  go_enter Tryz.func33, Tryz.ntmps33
  go_wp2
  go_loopw [13] (fun c wr => ∃ i : Nat, i ≤ n ∧ c = .int .i64 i ∧ Hid (Below w.heap.size w wr)) (fun c _ => n - (intOf c).toNat)
  case atStart => exact ⟨0, Nat.zero_le _, rfl, Below.refl _ _⟩
  case round =>
    obtain ⟨i, hin', rfl, HBl⟩ := hrel
    by_cases hin : i < n
    · obtain ⟨ga, rfl, ha⟩ := HA.out i hin
      obtain ⟨gb, rfl, hb⟩ := HB.out i hin
      generalize l.getD i eff0 = x at ha hb
      have HJ : Hid (∀ W, Below wr.heap.size wr W → EfxJ wr ga gb i x (Array.replicate 51 false) W) := fun W hW => ⟨(ha.below HBl.out).below hW, (hb.below HBl.out).below hW, hW⟩
      clear ha hb
      go_upto_region 6 with fail
      refine region_vals (by kernel_rfl) 51 rfl effD (efxV ga gb n ca cb i x) effD_inj ?hd ?hlow (EfxJ wr ga gb i x) ?h0 ?hstep ?hdone
      case hd => exact effD_lt
      case hlow => kernel_rfl
      case h0 => exact HJ.out _ (Below.refl _ _).drew
      case hstep =>
        intro l' a w1 k hk hJ hr hK
        have sa : a.eval (.tmp 0) = .slice (some ⟨ga, 0, none⟩) n ca := hK.rest 0 (by decide)
        have sb : a.eval (.tmp 1) = .slice (some ⟨gb, 0, none⟩) n cb := hK.rest 1 (by decide)
        have s5 : a.eval (.tmp 5) = .int .i64 (i : Int) := hK.rest 5 (by decide)
        have got : ∀ j, j ∈ depsOf .any _ k → ∀ d, effD j = some d → j < 51 → a.eval (.tmp d) = efxV ga gb n ca cb i x j := fun j hj d hd hj' => hK.got j d hj' (ready_deps hr j hj) hd
        match k, hk, hr, got with
        | 0, _, hr, got => exact stepw_val rfl (wanted_none rfl) (runw_move rfl sa w1) rfl hJ.keep
        | 1, _, hr, got => exact stepw_val rfl (wanted_none rfl) (runw_move rfl s5 w1) rfl hJ.keep
        | 2, _, hr, got => exact stepw_val rfl (wanted_none rfl) (runx_idx (Or.inl rfl) (got 0 (by decide) 16 rfl (by decide)) (got 1 (by decide) 17 rfl (by decide)) hin w1) rfl hJ.keep
        | 3, _, hr, got => exact stepw_val rfl (wanted_none rfl) (runx_fa 0 0 (by decide) (Or.inl rfl) (got 2 (by decide) 18 rfl (by decide)) w1) rfl hJ.keep
        | 4, _, hr, got => exact stepw_val rfl (wanted_none rfl) (runx_ldi (Or.inl rfl) (got 3 (by decide) 19 rfl (by decide)) (hJ.a 0 _ rfl)) rfl hJ.keep
        | 5, _, hr, got => exact stepw_val rfl (wanted_none rfl) (runw_move rfl sb w1) rfl hJ.keep
        | 6, _, hr, got => exact stepw_val rfl (wanted_none rfl) (runw_move rfl s5 w1) rfl hJ.keep
        | 7, _, hr, got => exact stepw_val rfl (wanted_none rfl) (runx_idx (Or.inr rfl) (got 5 (by decide) 21 rfl (by decide)) (got 6 (by decide) 22 rfl (by decide)) hin w1) rfl hJ.keep
        | 8, _, hr, got => exact stepw_val rfl (wanted_none rfl) (runx_fa 0 0 (by decide) (Or.inr rfl) (got 7 (by decide) 23 rfl (by decide)) w1) rfl hJ.keep
        | 9, _, hr, got => exact stepw_val rfl (wanted_none rfl) (runx_ldi (Or.inr rfl) (got 8 (by decide) 24 rfl (by decide)) (hJ.b 0 _ rfl)) rfl hJ.keep
        | 10, _, hr, got => exact stepw_val rfl (wanted_none rfl) (runx_nei (x := x.kind) rfl (got 4 (by decide) 20 rfl (by decide)) (got 9 (by decide) 25 rfl (by decide)) w1) rfl hJ.keep
        | 11, _, hr, got => exact stepw_val rfl (wanted_none rfl) (runw_move rfl (got 10 (by decide) 26 rfl (by decide)) w1) rfl hJ.keep
        | 12, _, hr, got => exact stepw_val rfl (wanted_some (j := 11) rfl rfl rfl (got 11 (by decide) 27 rfl (by decide))) (runw_move rfl sa w1) rfl hJ.keep
        | 13, _, hr, got => exact stepw_val rfl (wanted_some (j := 11) rfl rfl rfl (got 11 (by decide) 27 rfl (by decide))) (runw_move rfl s5 w1) rfl hJ.keep
        | 14, _, hr, got => exact stepw_val rfl (wanted_some (j := 11) rfl rfl rfl (got 11 (by decide) 27 rfl (by decide))) (runx_idx (Or.inl rfl) (got 12 (by decide) 28 rfl (by decide)) (got 13 (by decide) 29 rfl (by decide)) hin w1) rfl hJ.keep
        | 15, _, hr, got => exact stepw_val rfl (wanted_some (j := 11) rfl rfl rfl (got 11 (by decide) 27 rfl (by decide))) (runx_fa 2 9 (by decide) (Or.inl rfl) (got 14 (by decide) 30 rfl (by decide)) w1) rfl hJ.keep
        | 16, _, hr, got => exact stepw_val rfl (wanted_some (j := 11) rfl rfl rfl (got 11 (by decide) 27 rfl (by decide))) (runx_lds rfl (got 15 (by decide) 31 rfl (by decide)) (hJ.a 9 _ rfl)) rfl hJ.keep
        | 17, _, hr, got => exact stepw_val rfl (wanted_some (j := 11) rfl rfl rfl (got 11 (by decide) 27 rfl (by decide))) (runw_move rfl sb w1) rfl hJ.keep
        | 18, _, hr, got => exact stepw_val rfl (wanted_some (j := 11) rfl rfl rfl (got 11 (by decide) 27 rfl (by decide))) (runw_move rfl s5 w1) rfl hJ.keep
        | 19, _, hr, got => exact stepw_val rfl (wanted_some (j := 11) rfl rfl rfl (got 11 (by decide) 27 rfl (by decide))) (runx_idx (Or.inr rfl) (got 17 (by decide) 33 rfl (by decide)) (got 18 (by decide) 34 rfl (by decide)) hin w1) rfl hJ.keep
        | 20, _, hr, got => exact stepw_val rfl (wanted_some (j := 11) rfl rfl rfl (got 11 (by decide) 27 rfl (by decide))) (runx_fa 2 9 (by decide) (Or.inr rfl) (got 19 (by decide) 35 rfl (by decide)) w1) rfl hJ.keep
        | 21, _, hr, got => exact stepw_val rfl (wanted_some (j := 11) rfl rfl rfl (got 11 (by decide) 27 rfl (by decide))) (runx_lds rfl (got 20 (by decide) 36 rfl (by decide)) (hJ.b 9 _ rfl)) rfl hJ.keep
        | 22, _, hr, got => exact stepw_val rfl (wanted_some (j := 11) rfl rfl rfl (got 11 (by decide) 27 rfl (by decide))) (runx_nes rfl (got 16 (by decide) 32 rfl (by decide)) (got 21 (by decide) 37 rfl (by decide)) w1) rfl hJ.keep
        | 23, _, hr, got => exact stepw_val rfl (wanted_none rfl) (runw_pickf rfl (got 11 (by decide) 27 rfl (by decide)) (got 22 (by decide) 38 rfl (by decide)) w1) rfl hJ.keep
        | 24, _, hr, got => exact stepw_val rfl (wanted_none rfl) (runw_move rfl (got 23 (by decide) 39 rfl (by decide)) w1) rfl hJ.keep
        | 25, _, hr, got => exact stepw_val rfl (wanted_some (j := 24) rfl rfl rfl (got 24 (by decide) 40 rfl (by decide))) (runw_move rfl sa w1) rfl hJ.keep
        | 26, _, hr, got => exact stepw_val rfl (wanted_some (j := 24) rfl rfl rfl (got 24 (by decide) 40 rfl (by decide))) (runw_move rfl s5 w1) rfl hJ.keep
        | 27, _, hr, got => exact stepw_val rfl (wanted_some (j := 24) rfl rfl rfl (got 24 (by decide) 40 rfl (by decide))) (runx_idx (Or.inl rfl) (got 25 (by decide) 41 rfl (by decide)) (got 26 (by decide) 42 rfl (by decide)) hin w1) rfl hJ.keep
        | 28, _, hr, got => exact stepw_val rfl (wanted_some (j := 24) rfl rfl rfl (got 24 (by decide) 40 rfl (by decide))) (runx_fa 3 10 (by decide) (Or.inl rfl) (got 27 (by decide) 43 rfl (by decide)) w1) rfl hJ.keep
        | 29, _, hr, got => exact stepw_val rfl (wanted_some (j := 24) rfl rfl rfl (got 24 (by decide) 40 rfl (by decide))) (runx_ldi (Or.inr rfl) (got 28 (by decide) 44 rfl (by decide)) (hJ.a 10 _ rfl)) rfl hJ.keep
        | 30, _, hr, got => exact stepw_val rfl (wanted_some (j := 24) rfl rfl rfl (got 24 (by decide) 40 rfl (by decide))) (runw_move rfl sb w1) rfl hJ.keep
        | 31, _, hr, got => exact stepw_val rfl (wanted_some (j := 24) rfl rfl rfl (got 24 (by decide) 40 rfl (by decide))) (runw_move rfl s5 w1) rfl hJ.keep
        | 32, _, hr, got => exact stepw_val rfl (wanted_some (j := 24) rfl rfl rfl (got 24 (by decide) 40 rfl (by decide))) (runx_idx (Or.inr rfl) (got 30 (by decide) 46 rfl (by decide)) (got 31 (by decide) 47 rfl (by decide)) hin w1) rfl hJ.keep
        | 33, _, hr, got => exact stepw_val rfl (wanted_some (j := 24) rfl rfl rfl (got 24 (by decide) 40 rfl (by decide))) (runx_fa 3 10 (by decide) (Or.inr rfl) (got 32 (by decide) 48 rfl (by decide)) w1) rfl hJ.keep
        | 34, _, hr, got => exact stepw_val rfl (wanted_some (j := 24) rfl rfl rfl (got 24 (by decide) 40 rfl (by decide))) (runx_ldi (Or.inr rfl) (got 33 (by decide) 49 rfl (by decide)) (hJ.b 10 _ rfl)) rfl hJ.keep
        | 35, _, hr, got => exact stepw_val rfl (wanted_some (j := 24) rfl rfl rfl (got 24 (by decide) 40 rfl (by decide))) (runx_nei (x := x.timer) rfl (got 29 (by decide) 45 rfl (by decide)) (got 34 (by decide) 50 rfl (by decide)) w1) rfl hJ.keep
        | 36, _, hr, got => exact stepw_val rfl (wanted_none rfl) (runw_pickf rfl (got 24 (by decide) 40 rfl (by decide)) (got 35 (by decide) 51 rfl (by decide)) w1) rfl hJ.keep
        | 37, _, hr, got => exact stepw_val rfl (wanted_none rfl) (runw_move rfl (got 36 (by decide) 52 rfl (by decide)) w1) rfl hJ.keep
        | 38, _, hr, got => exact stepw_val rfl (wanted_some (j := 37) rfl rfl rfl (got 37 (by decide) 53 rfl (by decide))) (runw_move rfl sa w1) rfl hJ.keep
        | 39, _, hr, got => exact stepw_val rfl (wanted_some (j := 37) rfl rfl rfl (got 37 (by decide) 53 rfl (by decide))) (runw_move rfl s5 w1) rfl hJ.keep
        | 40, _, hr, got => exact stepw_val rfl (wanted_some (j := 37) rfl rfl rfl (got 37 (by decide) 53 rfl (by decide))) (runx_idx (Or.inl rfl) (got 38 (by decide) 54 rfl (by decide)) (got 39 (by decide) 55 rfl (by decide)) hin w1) rfl hJ.keep
        | 41, _, hr, got => exact stepw_val rfl (wanted_some (j := 37) rfl rfl rfl (got 37 (by decide) 53 rfl (by decide))) (runx_fa 1 1 (by decide) (Or.inl rfl) (got 40 (by decide) 56 rfl (by decide)) w1) rfl hJ.keep
        | 42, _, hr, got => exact stepw_val rfl (wanted_some (j := 37) rfl rfl rfl (got 37 (by decide) 53 rfl (by decide))) (runx_ldf (Or.inl rfl) (got 41 (by decide) 57 rfl (by decide)) hJ.a) rfl hJ.keep
        | 43, _, hr, got => exact stepw_val rfl (wanted_some (j := 37) rfl rfl rfl (got 37 (by decide) 53 rfl (by decide))) (runw_move rfl sb w1) rfl hJ.keep
        | 44, _, hr, got => exact stepw_val rfl (wanted_some (j := 37) rfl rfl rfl (got 37 (by decide) 53 rfl (by decide))) (runw_move rfl s5 w1) rfl hJ.keep
        | 45, _, hr, got => exact stepw_val rfl (wanted_some (j := 37) rfl rfl rfl (got 37 (by decide) 53 rfl (by decide))) (runx_idx (Or.inr rfl) (got 43 (by decide) 59 rfl (by decide)) (got 44 (by decide) 60 rfl (by decide)) hin w1) rfl hJ.keep
        | 46, _, hr, got => exact stepw_val rfl (wanted_some (j := 37) rfl rfl rfl (got 37 (by decide) 53 rfl (by decide))) (runx_fa 1 1 (by decide) (Or.inr rfl) (got 45 (by decide) 61 rfl (by decide)) w1) rfl hJ.keep
        | 47, _, hr, got => exact stepw_val rfl (wanted_some (j := 37) rfl rfl rfl (got 37 (by decide) 53 rfl (by decide))) (runx_ldf (Or.inr rfl) (got 46 (by decide) 62 rfl (by decide)) hJ.b) rfl hJ.keep
        | 48, _, hr, got => exact stepw_call rfl (wanted_some (j := 37) rfl rfl rfl (got 37 (by decide) 53 rfl (by decide))) (runx_call rfl rfl (got 42 (by decide) 58 rfl (by decide)) (got 47 (by decide) 63 rfl (by decide)) w1) rfl ((sameFrame_any x.f w1).mono fun e w2 h => ⟨h.1, hJ.on h.2⟩)
        | 49, _, hr, got => exact stepw_val rfl (wanted_some (j := 37) rfl rfl rfl (got 37 (by decide) 53 rfl (by decide))) (runx_not rfl (got 48 (by decide) 64 rfl (by decide)) w1) rfl hJ.keep
        | 50, _, hr, got => exact stepw_val rfl (wanted_none rfl) (runw_pickf rfl (got 37 (by decide) 53 rfl (by decide)) (got 49 (by decide) 65 rfl (by decide)) w1) rfl hJ.keep
        | j + 51, hlt, _, _ => exact absurd hlt (by omega)
      case hdone =>
        intro l' w' hall hJ
        have HB2 : Hid (Below w.heap.size w w') := HBl.out.trans (hJ.bel.mono HBl.out.size)
        clear hall hJ HJ
        simp only [putsOf, effD, efxV, Act.put, List.setIfInBounds_toArray, List.set_cons_zero, List.set_cons_succ]
        go_wp2
        go_roundw
        case rel => exact ⟨i + 1, by omega, by go_num, HB2⟩
        case measure => simp [intOf]; omega
    · have hie : i = n := by omega
      subst hie
      clear hin
      go_wp2
      go_ret
      exact ⟨rfl, HBl.out⟩
end Go.Proofs.YtidemohpngkedabGreatDoor

namespace Go.Proofs.YtidemohpngkedabGreatDoor
open Go.RowKit
set_option linter.unusedVariables false
set_option maxRecDepth 100000
set_option linter.unusedSimpArgs false

def vwL (σ : Wm.St) : List Value := [.int .i64 σ.vs, .int .i64 σ.va, .int .i64 σ.vr, .bool σ.pe, .bool σ.ow, .bool σ.re, .int .i64 σ.sn, .int .i64 ((σ.L.length - σ.sn : Nat) : Int)]
section
variable {ρ : Operand → Value} {o : Oper} {R F D : Nat}
theorem runv_fe {x : Operand} (hop : o.op = .fieldAddr 83 x 8) (hx : ρ x = .pointer (some ⟨R, 0, none⟩)) (w : World) : (execOp ρ o).run Tryz.prog w = .ok (.value (.pointer (some ⟨R, 8, none⟩))) w := by
  unfold execOp
  simp only [hop, hx]
  go_simp
theorem runv_ff {x : Operand} (k : Nat) (hk : k < 8) (hop : o.op = .fieldAddr 86 x k) (hx : ρ x = .pointer (some ⟨F, 0, none⟩)) (w : World) : (execOp ρ o).run Tryz.prog w = .ok (.value (.pointer (some ⟨F, k, none⟩))) w := by
  unfold execOp
  rcases (show k = 0 ∨ k = 1 ∨ k = 2 ∨ k = 3 ∨ k = 4 ∨ k = 5 ∨ k = 6 ∨ k = 7 by omega) with rfl | rfl | rfl | rfl | rfl | rfl | rfl | rfl
  all_goals
    simp only [hop, hx]
    go_simp
theorem runv_fq {x : Operand} (k : Nat) (hk : k < 3) (hop : o.op = .fieldAddr 88 x k) (hx : ρ x = .pointer (some ⟨D, 0, none⟩)) (w : World) : (execOp ρ o).run Tryz.prog w = .ok (.value (.pointer (some ⟨D, k, none⟩))) w := by
  unfold execOp
  rcases (show k = 0 ∨ k = 1 ∨ k = 2 by omega) with rfl | rfl | rfl
  all_goals
    simp only [hop, hx]
    go_simp
theorem runv_ldp {x : Operand} {k B : Nat} {p : Option Addr} {w : World} (hop : o.op = .load 79 x ∨ o.op = .load 84 x) (hx : ρ x = .pointer (some ⟨B, k, none⟩)) (hc : w.cell? ⟨B, k, none⟩ = some (.pointer p)) : (execOp ρ o).run Tryz.prog w = .ok (.value (.pointer p)) w := by
  unfold execOp
  rcases hop with hop | hop
  all_goals
    simp only [hop, hx]
    go_simp
theorem runv_sub {x y : Operand} {n m : Nat} (hop : o.op = .binOp .sub 3 x y 3) (hx : ρ x = .int .i64 (n : Int)) (hy : ρ y = .int .i64 (m : Int)) (hm : m ≤ n) (hn : n ≤ 256) (w : World) : (execOp ρ o).run Tryz.prog w = .ok (.value (.int .i64 ((n - m : Nat) : Int))) w := by
  have e : ((n - m : Nat) : Int) = (n : Int) - (m : Int) := Int.ofNat_sub hm
  unfold execOp
  rw [e]
  simp only [hop, hx, hy]
  go_simp
  rw [IntKind.wrap_i64]
  omega
theorem runv_build {σ : Wm.St} {x0 x1 x2 x3 x4 x5 x6 x7 : Operand} (hop : o.op = .build 62 #[(0, x0), (1, x1), (2, x2), (3, x3), (4, x4), (5, x5), (6, x6), (7, x7)])
    (h0 : ρ x0 = .int .i64 σ.vs) (h1 : ρ x1 = .int .i64 σ.va) (h2 : ρ x2 = .int .i64 σ.vr) (h3 : ρ x3 = .bool σ.pe) (h4 : ρ x4 = .bool σ.ow) (h5 : ρ x5 = .bool σ.re) (h6 : ρ x6 = .int .i64 σ.sn) (h7 : ρ x7 = .int .i64 ((σ.L.length - σ.sn : Nat) : Int)) (w : World) : (execOp ρ o).run Tryz.prog w = .ok (.value (vwV σ)) w := by
  unfold execOp vwV
  simp only [hop, h0, h1, h2, h3, h4, h5, h6, h7]
  go_simp
theorem runv_alloc {w : World} {B : Nat} (hop : o.op = .alloc 62) (hz : w.heap.size = B) : (execOp ρ o).run Tryz.prog w = .ok (.value (.pointer (some ⟨B, 0, none⟩))) (w.alloc (.cells #[.int .i64 0, .int .i64 0, .int .i64 0, .bool false, .bool false, .bool false, .int .i64 0, .int .i64 0] 62)) := by
  subst hz
  unfold execOp
  simp only [hop]
  go_simp
theorem runv_st {σ : Wm.St} {x y : Operand} {B : Nat} {w : World} (hop : o.op = .store 62 x y) (hx : ρ x = .pointer (some ⟨B, 0, none⟩)) (hy : ρ y = vwV σ) (hE : May w B 8) :
    (execOp ρ o).run Tryz.prog w = .ok .skip (setN B (vwL σ) 0 w) := by
  obtain ⟨v0, c0⟩ := hE.get 0 (by decide)
  have f0 := hE.f 0 (by decide)
  obtain ⟨v1, c1⟩ := hE.get 1 (by decide)
  have f1 := hE.f 1 (by decide)
  obtain ⟨v2, c2⟩ := hE.get 2 (by decide)
  have f2 := hE.f 2 (by decide)
  obtain ⟨v3, c3⟩ := hE.get 3 (by decide)
  have f3 := hE.f 3 (by decide)
  obtain ⟨v4, c4⟩ := hE.get 4 (by decide)
  have f4 := hE.f 4 (by decide)
  obtain ⟨v5, c5⟩ := hE.get 5 (by decide)
  have f5 := hE.f 5 (by decide)
  obtain ⟨v6, c6⟩ := hE.get 6 (by decide)
  have f6 := hE.f 6 (by decide)
  obtain ⟨v7, c7⟩ := hE.get 7 (by decide)
  have f7 := hE.f 7 (by decide)
  unfold vwV at hy
  unfold execOp
  simp only [hop, hx, hy, vwL, setN]
  go_simp
end
end Go.Proofs.YtidemohpngkedabGreatDoor
