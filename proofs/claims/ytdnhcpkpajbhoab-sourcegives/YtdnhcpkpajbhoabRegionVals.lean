/-
  A region that draws its order, each of whose operations gives a value that is known ahead, whatever came up ahead of it: it is run once for each operation. Plain laws; nothing of the program.
-/
import Derived.Test.YtdnhcpkpajbhoabRegionInv
namespace Go.Proofs.Ytdnhcpkpajbhoab
open Go.RowKit
set_option linter.unusedVariables false
set_option linter.unusedSimpArgs false

/-- what is known of the frame: the slots of the operations that came up, and all that no operation writes -/
structure KnownF (N : Nat) (dst : Nat → Option Nat) (val : Nat → Value) (a0 : Act) (l : Array Bool) (a : Act) : Prop where
  defers : a.defers = a0.defers
  size : a.tmps.size = a0.tmps.size
  got : ∀ j d, j < N → l.getD j false = true → dst j = some d → a.eval (.tmp d) = val j
  rest : ∀ s, (∀ j, j < N → dst j ≠ some s) → a.eval (.tmp s) = a0.eval (.tmp s)

/-- the frame behind the first n operations -/
def putsOf (dst : Nat → Option Nat) (val : Nat → Value) (a0 : Act) : Nat → Act
  | 0 => a0
  | n + 1 => (putsOf dst val a0 n).put (dst n) (val n)

theorem putsOf_size (dst : Nat → Option Nat) (val : Nat → Value) (a0 : Act) : ∀ n, (putsOf dst val a0 n).tmps.size = a0.tmps.size ∧ (putsOf dst val a0 n).defers = a0.defers
  | 0 => ⟨rfl, rfl⟩
  | n + 1 => by
    obtain ⟨h1, h2⟩ := putsOf_size dst val a0 n
    unfold putsOf
    cases dst n with
    | none => exact ⟨by simpa [Act.put] using h1, by simpa [Act.put] using h2⟩
    | some d => exact ⟨by simpa [Act.put] using h1, by simpa [Act.put] using h2⟩

theorem putsOf_eval {N : Nat} {dst : Nat → Option Nat} {val : Nat → Value} {a0 : Act} (hinj : ∀ i j d, i < N → j < N → dst i = some d → dst j = some d → i = j) (hd : ∀ i d, i < N → dst i = some d → d < a0.tmps.size) :
    ∀ n, n ≤ N → (∀ j d, j < n → dst j = some d → (putsOf dst val a0 n).eval (.tmp d) = val j) ∧ (∀ s, (∀ j, j < n → dst j ≠ some s) → (putsOf dst val a0 n).eval (.tmp s) = a0.eval (.tmp s))
  | 0, _ => ⟨fun j d h => absurd h (by omega), fun s _ => rfl⟩
  | n + 1, hn => by
    obtain ⟨h1, h2⟩ := putsOf_eval hinj hd n (by omega)
    unfold putsOf
    cases hdn : dst n with
    | none =>
      refine ⟨fun j d hj hjd => ?_, fun s hs => ?_⟩
      · have : j ≠ n := fun e => by rw [e, hdn] at hjd; cases hjd
        have := h1 j d (by omega) hjd
        simpa [Act.put, Act.eval] using this
      · have := h2 s (fun j hj => hs j (by omega))
        simpa [Act.put, Act.eval] using this
    | some e =>
      have hlt := hd n e (by omega) hdn
      refine ⟨fun j d hj hjd => ?_, fun s hs => ?_⟩
      · by_cases hjn : j = n
        · subst hjn
          rw [hdn] at hjd
          obtain rfl := Option.some.inj hjd
          exact eval_put_same (by rw [(putsOf_size dst val a0 j).1]; exact hlt)
        · have hne : e ≠ d := fun h => hjn (hinj j n d (by omega) (by omega) hjd (by rw [hdn, h]))
          rw [eval_put_other hne]
          exact h1 j d (by omega) hjd
      · have hne : e ≠ s := fun h => hs n (by omega) (by rw [hdn, h])
        rw [eval_put_other hne]
        exact h2 s (fun j hj => hs j (by omega))

theorem act_ext' {a b : Act} (hd : a.defers = b.defers) (hs : a.tmps.size = b.tmps.size) (h : ∀ s, a.eval (.tmp s) = b.eval (.tmp s)) : a = b := by
  obtain ⟨ta, da⟩ := a
  obtain ⟨tb, db⟩ := b
  simp only at hd hs
  subst hd
  congr 1
  refine Array.ext hs (fun i h1 h2 => ?_)
  have := h i
  simpa [Act.eval, Array.getElem?_eq_getElem h1, Array.getElem?_eq_getElem h2] using this

theorem rep_getD' (N j : Nat) : (Array.replicate N false).getD j false = false := by
  simp only [Array.getD_eq_getD_getElem?, Array.getElem?_replicate]
  split <;> rfl

theorem region_vals {P : Program} {ops : Array Oper} {Q : Exit → Act → World → Prop} {id : Nat} {a0 : Act} {w : World} (hm : P.follows .mixedOrders = true) (N : Nat) (hN : ops.size = N) (dst : Nat → Option Nat) (val : Nat → Value)
    (hinj : ∀ i j d, i < N → j < N → dst i = some d → dst j = some d → i = j) (hd : ∀ i d, i < N → dst i = some d → d < a0.tmps.size) (hlowB : ((List.range N).all fun i => (depsOf .any ops i).all fun j => decide (j < i)) = true)
    (J : Array Bool → World → Prop) (h0 : J (Array.replicate N false) w.drew)
    (hstep : ∀ l a w i, i < N → J l w → i ∈ Region.ready .any ops l → KnownF N dst val a0 l a → wpOp P ops Q i (fun a' w' => a' = a.put (dst i) (val i) ∧ J (l.setIfInBounds i true) w') a w)
    (hdone : ∀ l w', (∀ i, i < N → l.getD i false = true) → J l w' → Q .normal (putsOf dst val a0 N) w') : (Code.region id ops true).wp P Q a0 w := by
  have hlow : ∀ i, i < N → ∀ j ∈ depsOf .any ops i, j < i := by
    intro i hi j hj
    have := List.all_eq_true.1 (List.all_eq_true.1 hlowB i (List.mem_range.2 hi)) j hj
    simpa using this
  refine wp_region_inv hm (fun l a w => l.size = N ∧ KnownF N dst val a0 l a ∧ J l w) ?_ ?_ ?_
  · rw [hN]
    exact ⟨by simp, ⟨rfl, rfl, fun j d _ hj => by rw [rep_getD'] at hj; exact absurd hj (by decide), fun s _ => rfl⟩, h0⟩
  · rintro l a w' ⟨hs, hK, hJ⟩ hr
    have hall : ∀ m i, i < m → i < N → l.getD i false = true := by
      intro m
      induction m with
      | zero => intro i hi; omega
      | succ m ih =>
        intro i hi hiN
        exact listed_of hr (by rw [hs, hN]) (by rw [hN]; exact hiN) (fun j hj => ih j (by have := hlow i hiN j hj; omega) (by have := hlow i hiN j hj; omega))
    have hall' : ∀ i, i < N → l.getD i false = true := fun i hi => hall N i hi hi
    have ha : a = putsOf dst val a0 N := by
      obtain ⟨e1, e2⟩ := putsOf_eval (val := val) hinj hd N (Nat.le_refl _)
      refine act_ext' (by rw [(putsOf_size dst val a0 N).2]; exact hK.defers) (by rw [(putsOf_size dst val a0 N).1]; exact hK.size) (fun s => ?_)
      by_cases hx : ∃ j, j < N ∧ dst j = some s
      · obtain ⟨j, hj, hjs⟩ := hx
        rw [hK.got j s hj (hall' j hj) hjs, e1 j s hj hjs]
      · have hno : ∀ j, j < N → dst j ≠ some s := fun j hj h => hx ⟨j, hj, h⟩
        rw [hK.rest s hno, e2 s hno]
    rw [ha]
    exact hdone l w' hall' hJ
  · rintro l a w' i ⟨hs, hK, hJ⟩ hr
    have hi : i < N := by have := ready_lt hr; rw [hN] at this; exact this
    refine wpOp_mono ?_ (hstep l a w' i hi hJ hr hK)
    rintro a' w2 ⟨rfl, hJ'⟩
    refine ⟨by simp [hs], ?_, hJ'⟩
    cases hdi : dst i with
    | none =>
      refine ⟨by simpa [Act.put] using hK.defers, by simpa [Act.put] using hK.size, fun j d hj hl hjd => ?_, fun s hs => ?_⟩
      · rcases set_listed hl with rfl | hl'
        · rw [hdi] at hjd; cases hjd
        · have := hK.got j d hj hl' hjd
          simpa [Act.put, Act.eval] using this
      · have := hK.rest s hs
        simpa [Act.put, Act.eval] using this
    | some e =>
      have hlt := hd i e hi hdi
      refine ⟨by simpa [Act.put] using hK.defers, by simpa [Act.put] using hK.size, fun j d hj hl hjd => ?_, fun s hs => ?_⟩
      · by_cases hji : j = i
        · subst hji
          rw [hdi] at hjd
          obtain rfl := Option.some.inj hjd
          exact eval_put_same (by rw [hK.size]; exact hlt)
        · have hne : e ≠ d := fun h => hji (hinj j i d hj hi hjd (by rw [hdi, h]))
          rw [eval_put_other hne]
          rcases set_listed hl with h' | hl'
          · exact absurd h' hji
          · exact hK.got j d hj hl' hjd
      · have hne : e ≠ s := fun h => hs i hi (by rw [hdi, h])
        rw [eval_put_other hne]
        exact hK.rest s hs

/-- an operation whose value is known, in a world that stands -/
theorem step_val {P : Program} {ops : Array Oper} {Q : Exit → Act → World → Prop} {i : Nat} {o : Oper} {a : Act} {w w' : World} {dst : Nat → Option Nat} {val : Nat → Value} {J : Array Bool → World → Prop} {l : Array Bool} (hi : ops[i]? = some o) (hg : o.guard = none)
    (hrun : (execOp a.eval o).run P w = .ok (.value (val i)) w') (hdst : o.dst = dst i) (h : J (l.setIfInBounds i true) w') : wpOp P ops Q i (fun a' w' => a' = a.put (dst i) (val i) ∧ J (l.setIfInBounds i true) w') a w :=
  wpOp_value hi hg hrun ⟨by rw [hdst], h⟩
theorem step_skip {P : Program} {ops : Array Oper} {Q : Exit → Act → World → Prop} {i : Nat} {o : Oper} {a : Act} {w w' : World} {dst : Nat → Option Nat} {val : Nat → Value} {J : Array Bool → World → Prop} {l : Array Bool} (hi : ops[i]? = some o) (hg : o.guard = none)
    (hrun : (execOp a.eval o).run P w = .ok .skip w') (hdst : o.dst = none) (hd : dst i = none) (h : J (l.setIfInBounds i true) w') : wpOp P ops Q i (fun a' w' => a' = a.put (dst i) (val i) ∧ J (l.setIfInBounds i true) w') a w :=
  wpOp_none hi hg hrun ⟨by rw [hdst, hd]; rfl, h⟩
end Go.Proofs.Ytdnhcpkpajbhoab
