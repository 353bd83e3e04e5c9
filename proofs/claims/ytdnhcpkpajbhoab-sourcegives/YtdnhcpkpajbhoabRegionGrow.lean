/-
  A region that draws its order, and makes memory: the values of its operations hang on a parameter (where the new blocks lie) that grows as they come up. Each operation is run once. Plain laws; nothing of the program.
-/
import Derived.Test.YtdnhcpkpajbhoabRegionGuard
namespace Go.Proofs.Ytdnhcpkpajbhoab
open Go.RowKit
set_option linter.unusedVariables false
set_option linter.unusedSimpArgs false

theorem KnownF.change {N : Nat} {dst : Nat → Option Nat} {val val' : Nat → Value} {a0 : Act} {l : Array Bool} {a : Act} (hK : KnownF N dst val a0 l a) (h : ∀ j, j < N → l.getD j false = true → val' j = val j) : KnownF N dst val' a0 l a :=
  ⟨hK.defers, hK.size, fun j d hj hl hd => by rw [h j hj hl]; exact hK.got j d hj hl hd, hK.rest⟩

theorem KnownF.put {N : Nat} {dst : Nat → Option Nat} {val : Nat → Value} {a0 : Act} {l : Array Bool} {a : Act} (hinj : ∀ i j d, i < N → j < N → dst i = some d → dst j = some d → i = j) (hd : ∀ i d, i < N → dst i = some d → d < a0.tmps.size) (hK : KnownF N dst val a0 l a) {i : Nat} (hi : i < N) : KnownF N dst val a0 (l.setIfInBounds i true) (a.put (dst i) (val i)) := by
  cases hdi : dst i with
  | none =>
    refine ⟨by simpa [Act.put] using hK.defers, by simpa [Act.put] using hK.size, fun j d hj hl hjd => ?_, fun s hs => ?_⟩
    · rcases set_listed hl with rfl | hl'
      · rw [hdi] at hjd; cases hjd
      · have := hK.got j d hj hl' hjd
        simpa [Act.put, Act.eval] using this
    · have := hK.rest s hs
      simpa [Act.put, Act.eval] using this
  | some e =>
    have hlt := hd i e hi hdi
    refine ⟨by simpa [Act.put] using hK.defers, by simpa [Act.put] using hK.size, fun j d hj hl hjd => ?_, fun s hs => ?_⟩
    · by_cases hji : j = i
      · subst hji
        rw [hdi] at hjd
        obtain rfl := Option.some.inj hjd
        exact eval_put_same (by rw [hK.size]; exact hlt)
      · have hne : e ≠ d := fun h => hji (hinj j i d hj hi hjd (by rw [hdi, h]))
        rw [eval_put_other hne]
        rcases set_listed hl with h' | hl'
        · exact absurd h' hji
        · exact hK.got j d hj hl' hjd
    · have hne : e ≠ s := fun h => hs i hi (by rw [hdi, h])
      rw [eval_put_other hne]
      exact hK.rest s hs

theorem region_grow {β : Type} {P : Program} {ops : Array Oper} {Q : Exit → Act → World → Prop} {id : Nat} {a0 : Act} {w : World} (hm : P.follows .mixedOrders = true) (N : Nat) (hN : ops.size = N) (dst : Nat → Option Nat) (val : β → Nat → Value)
    (hinj : ∀ i j d, i < N → j < N → dst i = some d → dst j = some d → i = j) (hd : ∀ i d, i < N → dst i = some d → d < a0.tmps.size) (hlowB : ((List.range N).all fun i => (depsOf .any ops i).all fun j => decide (j < i)) = true)
    (J : β → Array Bool → World → Prop) (b0 : β) (h0 : J b0 (Array.replicate N false) w.drew)
    (hstep : ∀ b l a w i, i < N → l.size = N → J b l w → i ∈ Region.ready .any ops l → KnownF N dst (val b) a0 l a → wpOp P ops Q i (fun a' w' => ∃ b', (∀ j, j < N → l.getD j false = true → val b' j = val b j) ∧ a' = a.put (dst i) (val b' i) ∧ J b' (l.setIfInBounds i true) w') a w)
    (hdone : ∀ b l w', (∀ i, i < N → l.getD i false = true) → J b l w' → Q .normal (putsOf dst (val b) a0 N) w') : (Code.region id ops true).wp P Q a0 w := by
  have hlow : ∀ i, i < N → ∀ j ∈ depsOf .any ops i, j < i := by
    intro i hi j hj
    have := List.all_eq_true.1 (List.all_eq_true.1 hlowB i (List.mem_range.2 hi)) j hj
    simpa using this
  refine wp_region_inv hm (fun l a w => l.size = N ∧ ∃ b, KnownF N dst (val b) a0 l a ∧ J b l w) ?_ ?_ ?_
  · rw [hN]
    exact ⟨by simp, b0, ⟨rfl, rfl, fun j d _ hj => by rw [rep_getD'] at hj; exact absurd hj (by decide), fun s _ => rfl⟩, h0⟩
  · rintro l a w' ⟨hs, b, hK, hJ⟩ hr
    have hall : ∀ m i, i < m → i < N → l.getD i false = true := by
      intro m
      induction m with
      | zero => intro i hi; omega
      | succ m ih =>
        intro i hi hiN
        exact listed_of hr (by rw [hs, hN]) (by rw [hN]; exact hiN) (fun j hj => ih j (by have := hlow i hiN j hj; omega) (by have := hlow i hiN j hj; omega))
    have hall' : ∀ i, i < N → l.getD i false = true := fun i hi => hall N i hi hi
    have ha : a = putsOf dst (val b) a0 N := by
      obtain ⟨e1, e2⟩ := putsOf_eval (val := val b) hinj hd N (Nat.le_refl _)
      refine act_ext' (by rw [(putsOf_size dst (val b) a0 N).2]; exact hK.defers) (by rw [(putsOf_size dst (val b) a0 N).1]; exact hK.size) (fun s => ?_)
      by_cases hx : ∃ j, j < N ∧ dst j = some s
      · obtain ⟨j, hj, hjs⟩ := hx
        rw [hK.got j s hj (hall' j hj) hjs, e1 j s hj hjs]
      · have hno : ∀ j, j < N → dst j ≠ some s := fun j hj h => hx ⟨j, hj, h⟩
        rw [hK.rest s hno, e2 s hno]
    rw [ha]
    exact hdone b l w' hall' hJ
  · rintro l a w' i ⟨hs, b, hK, hJ⟩ hr
    have hi : i < N := by have := ready_lt hr; rw [hN] at this; exact this
    refine wpOp_mono ?_ (hstep b l a w' i hi hs hJ hr hK)
    rintro a' w2 ⟨b', hv, rfl, hJ'⟩
    exact ⟨by simp [hs], b', (hK.change hv).put hinj hd hi, hJ'⟩

section
variable {β : Type} {P : Program} {ops : Array Oper} {Q : Exit → Act → World → Prop} {i : Nat} {o : Oper} {a : Act} {w w' : World} {N : Nat} {dst : Nat → Option Nat} {val : β → Nat → Value} {J : β → Array Bool → World → Prop} {l : Array Bool}
/-- an operation that gives a value, the parameter being b' behind it -/
theorem grow_val (b b' : β) (hi : ops[i]? = some o) (hw : Region.wanted o (yielded ops a.tmps) = true) (hrun : (execOp a.eval o).run P w = .ok (.value (val b' i)) w') (hdst : o.dst = dst i)
    (hv : ∀ j, j < N → l.getD j false = true → val b' j = val b j) (h : J b' (l.setIfInBounds i true) w') :
    wpOp P ops Q i (fun a' w' => ∃ b', (∀ j, j < N → l.getD j false = true → val b' j = val b j) ∧ a' = a.put (dst i) (val b' i) ∧ J b' (l.setIfInBounds i true) w') a w := by
  unfold wpOp
  simp only [hi, hw, if_true]
  refine Or.inl ?_
  unfold Oper.wp
  rw [hrun]
  exact ⟨b', hv, by rw [hdst], h⟩
/-- an operation that gives none -/
theorem grow_skip (b : β) (hi : ops[i]? = some o) (hw : Region.wanted o (yielded ops a.tmps) = true) (hrun : (execOp a.eval o).run P w = .ok .skip w') (hdst : o.dst = none) (hd : dst i = none)
    (h : J b (l.setIfInBounds i true) w') :
    wpOp P ops Q i (fun a' w' => ∃ b', (∀ j, j < N → l.getD j false = true → val b' j = val b j) ∧ a' = a.put (dst i) (val b' i) ∧ J b' (l.setIfInBounds i true) w') a w := by
  unfold wpOp
  simp only [hi, hw, if_true]
  refine Or.inl ?_
  unfold Oper.wp
  rw [hrun]
  exact ⟨b, fun _ _ _ => rfl, by rw [hdst, hd]; rfl, h⟩
end

/-- what is listed anew -/
theorem listed_same {l : Array Bool} {i : Nat} (h : i < l.size) : (l.setIfInBounds i true).getD i false = true := by simp [h]
end Go.Proofs.Ytdnhcpkpajbhoab
