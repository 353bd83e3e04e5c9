/-
  A region that draws its order, by an invariant over what has come up so far: each operation is run once, whatever came up ahead of it. Plain laws; nothing of the program.
-/
import Derived.Test.YtdnhcpkpajbhoabBase
import Derived.Orders
namespace Go.Proofs.Ytdnhcpkpajbhoab
open Go.RowKit
set_option linter.unusedVariables false
set_option linter.unusedSimpArgs false

section
variable {P : Program} {ops : Array Oper} {Q : Exit → Act → World → Prop} {md : Region.Mode}

/-- how many are still to come -/
def leftOf (ops : Array Oper) (l : Array Bool) : Nat := ((List.range ops.size).filter fun j => !l.getD j true).length

theorem leftOf_le (l : Array Bool) : leftOf ops l ≤ ops.size := by
  unfold leftOf
  have := List.length_filter_le (fun j => !l.getD j true) (List.range ops.size)
  rw [List.length_range] at this
  exact this

theorem ready_lt {l : Array Bool} {i : Nat} (h : i ∈ Region.ready md ops l) : i < ops.size := by
  obtain ⟨_, o, ho, _⟩ := mem_ready.1 h
  exact (Array.getElem?_eq_some_iff.1 ho).1

theorem unlisted_lt {l : Array Bool} {i : Nat} (h : l.getD i true = false) : i < l.size := by
  rcases Nat.lt_or_ge i l.size with h' | h'
  · exact h'
  · simp [Array.getElem?_eq_none h'] at h

theorem leftOf_set {l : Array Bool} {i : Nat} (h : i ∈ Region.ready md ops l) : leftOf ops (l.setIfInBounds i true) < leftOf ops l := by
  have hl := (mem_ready.1 h).1
  have hlt := unlisted_lt hl
  have hset : (l.setIfInBounds i true).getD i true = true := by simp [hlt]
  have e : (List.range ops.size).filter (fun j => !(l.setIfInBounds i true).getD j true) = ((List.range ops.size).filter (fun j => !l.getD j true)).filter (fun j => !(l.setIfInBounds i true).getD j true) := by
    rw [List.filter_filter]
    refine List.filter_congr (fun j _ => ?_)
    by_cases hj : i = j
    · subst hj
      rw [hset]; rfl
    · rw [getD_set_ne true hj]
      cases l.getD j true <;> rfl
  unfold leftOf
  rw [e]
  refine List.length_filter_lt_length_iff_exists.2 ⟨i, ?_, ?_⟩
  · rw [List.mem_filter, List.mem_range]
    exact ⟨ready_lt h, by rw [hl]; rfl⟩
  · rw [hset]; decide

theorem ready_nil_of_left {l : Array Bool} (h : leftOf ops l = 0) : Region.ready md ops l = [] := by
  rw [List.eq_nil_iff_forall_not_mem]
  intro i hi
  have := leftOf_set hi
  omega

theorem wpAny_inv (I : Array Bool → Act → World → Prop) (hdone : ∀ l a w, I l a w → Region.ready md ops l = [] → Q .normal a w)
    (hstep : ∀ l a w i, I l a w → i ∈ Region.ready md ops l → wpOp P ops Q i (I (l.setIfInBounds i true)) a w) :
    ∀ (fuel : Nat) (l : Array Bool) (a : Act) (w : World), I l a w → leftOf ops l ≤ fuel → wpAny P md ops Q fuel l a w
  | 0, l, a, w, h, hf => ⟨ready_nil_of_left (by omega), hdone l a w h (ready_nil_of_left (by omega))⟩
  | fuel + 1, l, a, w, h, hf => ⟨hdone l a w h, fun i hi => wpOp_mono (fun a' w' h' => wpAny_inv I hdone hstep fuel _ a' w' h' (by have := leftOf_set hi; omega)) (hstep l a w i h hi)⟩

theorem wp_region_inv {id : Nat} {a : Act} {w : World} (hm : P.follows .mixedOrders = true) (I : Array Bool → Act → World → Prop)
    (h0 : I (Array.replicate ops.size false) a w.drew) (hdone : ∀ l a w, I l a w → Region.ready .any ops l = [] → Q .normal a w)
    (hstep : ∀ l a w i, I l a w → i ∈ Region.ready .any ops l → wpOp P ops Q i (I (l.setIfInBounds i true)) a w) : (Code.region id ops true).wp P Q a w :=
  wp_region_any hm (wpAny_inv I hdone hstep ops.size _ a _ h0 (leftOf_le _))

theorem wpOp_value {i : Nat} {o : Oper} {a : Act} {w w' : World} {v : Value} {K : Act → World → Prop} (hi : ops[i]? = some o) (hg : o.guard = none)
    (hrun : (execOp a.eval o).run P w = .ok (.value v) w') (h : K (a.put o.dst v) w') : wpOp P ops Q i K a w := by
  unfold wpOp
  simp only [hi, Region.wanted, hg, if_true]
  refine Or.inl ?_
  unfold Oper.wp
  rw [hrun]
  exact h
theorem wpOp_none {i : Nat} {o : Oper} {a : Act} {w w' : World} {K : Act → World → Prop} (hi : ops[i]? = some o) (hg : o.guard = none)
    (hrun : (execOp a.eval o).run P w = .ok .skip w') (h : K (a.put o.dst undef) w') : wpOp P ops Q i K a w := by
  unfold wpOp
  simp only [hi, Region.wanted, hg, if_true]
  refine Or.inl ?_
  unfold Oper.wp
  rw [hrun]
  exact h
theorem wpOp_enter {i f : Nat} {args : Array Value} {o : Oper} {a : Act} {w w' : World} {K : Act → World → Prop} (hi : ops[i]? = some o) (hg : o.guard = none)
    (hrun : (execOp a.eval o).run P w = .ok (.enter f args) w') (h : Calls P f args w' fun e w'' => ∃ v, e = .returned v ∧ K (a.put o.dst v) w'') : wpOp P ops Q i K a w := by
  unfold wpOp
  simp only [hi, Region.wanted, hg, if_true]
  refine Or.inl ?_
  unfold Oper.wp
  rw [hrun]
  refine h.mono ?_
  rintro e w'' ⟨v, rfl, hk⟩
  exact hk

/-- what an operation waits for -/
def depsOf (md : Region.Mode) (ops : Array Oper) (i : Nat) : List Nat := ((ops[i]?).map fun o => (o.after.toList.filter (Region.binds md)).map (·.on)).getD []

theorem ready_deps {l : Array Bool} {i : Nat} (h : i ∈ Region.ready md ops l) : ∀ j ∈ depsOf md ops i, l.getD j false = true := by
  obtain ⟨_, o, ho, hall⟩ := mem_ready.1 h
  intro j hj
  unfold depsOf at hj
  rw [ho] at hj
  simp only [Option.map_some, Option.getD_some, List.mem_map, List.mem_filter] at hj
  obtain ⟨e, ⟨he, hb⟩, rfl⟩ := hj
  exact hall e (Array.mem_toList_iff.1 he) hb

theorem listed_of {l : Array Bool} (hr : Region.ready md ops l = []) (hs : l.size = ops.size) {i : Nat} (hi : i < ops.size) (hd : ∀ j ∈ depsOf md ops i, l.getD j false = true) : l.getD i false = true := by
  cases hl : l.getD i false
  · have hm : i ∈ Region.ready md ops l := by
      refine mem_ready.2 ⟨?_, ops[i], Array.getElem?_eq_getElem hi, fun e he hb => ?_⟩
      · simp [Array.getElem?_eq_getElem (show i < l.size by omega)] at hl ⊢
        exact hl
      · refine hd e.on ?_
        unfold depsOf
        rw [Array.getElem?_eq_getElem hi]
        simp only [Option.map_some, Option.getD_some, List.mem_map, List.mem_filter]
        exact ⟨e, ⟨Array.mem_toList_iff.2 he, hb⟩, rfl⟩
    rw [hr] at hm
    exact absurd hm (by simp)
  · rfl

theorem set_listed {l : Array Bool} {i j : Nat} (h : (l.setIfInBounds i true).getD j false = true) : j = i ∨ l.getD j false = true := by
  by_cases hij : i = j
  · exact Or.inl hij.symm
  · rw [getD_set_ne false hij] at h
    exact Or.inr h

theorem eval_put_same {a : Act} {d : Nat} {v : Value} (h : d < a.tmps.size) : (a.put (some d) v).eval (.tmp d) = v := by
  simp [Act.put, Act.eval, h]
theorem eval_put_other {a : Act} {d s : Nat} {v : Value} (h : d ≠ s) : (a.put (some d) v).eval (.tmp s) = a.eval (.tmp s) := by
  simp [Act.put, Act.eval, Array.getElem?_setIfInBounds_ne h]
end
end Go.Proofs.Ytdnhcpkpajbhoab
