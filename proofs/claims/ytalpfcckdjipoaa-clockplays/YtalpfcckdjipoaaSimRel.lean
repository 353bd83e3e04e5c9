/-
  Two programs side by side: one calls a closure that is bound to p, the other one a method value that is bound to p. Which slots of a frame may differ, which code may run; how frames are related.
-/
import Derived.Test.YtalpfcckdjipoaaSimStep
namespace Go.Proofs.Ytalpfcckdjipoaa
set_option linter.unusedVariables false
set_option linter.unusedSimpArgs false

/-- which functions are entered, which slots of each hold the function value, how many slots each has, and who is called by value -/
structure Plan where
  fam : Nat → Bool
  fs : Nat → Nat → Bool
  n : Nat → Nat
  cid : Nat

section
variable (P : Program) (T : Plan)

def okX (f : Nat) : Operand → Bool
  | .tmp s => decide (s < T.n f) && !T.fs f s
  | _ => true
def okFn (f : Nat) : Operand → Bool
  | .tmp s => decide (s < T.n f) && T.fs f s
  | _ => false
def okD (f : Nat) : Option Nat → Bool
  | none => true
  | some s => decide (s < T.n f) && !T.fs f s
def okDF (f : Nat) : Option Nat → Bool
  | none => true
  | some s => decide (s < T.n f) && T.fs f s
def okArg (f g i : Nat) (x : Operand) : Bool := if T.fs g i then okFn T f x else okX T f x
def okOp (f : Nat) (o : Oper) : Bool :=
  match o.op with
  | .move x => (okX T f x && okD T f o.dst) || (okFn T f x && okDF T f o.dst)
  | .assign x => (okX T f x && okD T f o.dst) || (okFn T f x && okDF T f o.dst)
  | .call ⟨.value (.func g), args, _⟩ => T.fam g && okD T f o.dst && decide (args.size ≤ T.n g) && (List.range args.size).all (fun i => okArg T f g i (args.getD i (.tmp 0)))
  | .call ⟨.value (.tmp s), args, _⟩ => okFn T f (.tmp s) && okD T f o.dst && decide (args.size = 2) && args.all (okX T f)
  | op => plainOp P op && op.operands.all (okX T f) && okD T f o.dst
def okCode (f : Nat) : Code → Bool
  | .skip => true
  | .region _ ops _ => ops.all (okOp P T f)
  | .seq a b => okCode f a && okCode f b
  | .cond c a b => okX T f c && okCode f a && okCode f b
  | .block _ b => okCode f b
  | .loop b => okCode f b
  | .exit _ => true
  | .ret => true
  | _ => false
def okItem (f : Nat) : Item → Bool
  | .code c => okCode P T f c
  | .inBlock _ => true
  | .inLoop b => okCode P T f b
  | .inRegion ops _ => ops.all (okOp P T f)
  | _ => false
def okRes (f : Nat) : List ResultVar → Bool
  | [] => true
  | [.tmp a] => okX T f (.tmp a)
  | [.tmp a, .tmp b] => okX T f (.tmp a) && okX T f (.tmp b)
  | _ => false

variable (p : Value)
def valA : Value := .func (.func T.cid) #[] #[p]
def valB : Value := .func (.func T.cid) #[p] #[]
/-- how two slots are related -/
def SlotR (f s : Nat) (x y : Value) : Prop := if T.fs f s = true then (x = valA T p ∧ y = valB T p) ∨ (x = undef ∧ y = undef) else x = y
theorem SlotR.undef (f s : Nat) : SlotR T p f s undef undef := by unfold SlotR; split; exact Or.inr ⟨rfl, rfl⟩; rfl
theorem SlotR.eq {f s : Nat} (h : T.fs f s = false) (x : Value) : SlotR T p f s x x := by unfold SlotR; rw [h]; simp

/-- how two frames are related -/
structure FR (fa fb : Frame) : Prop where
  fn : fb.fn = fa.fn
  todo : fb.todo = fa.todo
  mode : fb.mode = fa.mode
  da : fa.defers = []
  db : fb.defers = []
  ka : fa.kind = .normal
  kb : fb.kind = .normal
  ra : fa.roundOf = none
  rb : fb.roundOf = none
  fam : T.fam fa.fn = true ∨ fa.fn = T.cid
  sza : T.n fa.fn ≤ fa.tmps.size
  szb : T.n fa.fn ≤ fb.tmps.size
  slot : ∀ s, s < T.n fa.fn → SlotR T p fa.fn s (fa.tmps.getD s undef) (fb.tmps.getD s undef)
  ok : fa.todo.all (okItem P T fa.fn) = true

variable {P T p}
theorem FR.evalX {fa fb : Frame} (h : FR P T p fa fb) {x : Operand} (hx : okX T fa.fn x = true) : fa.eval x = fb.eval x := by
  cases x with
  | tmp s =>
    simp [okX] at hx
    have := h.slot s hx.1
    unfold SlotR at this
    rw [hx.2] at this
    simpa [Frame.eval] using this
  | const v => rfl
  | global g => rfl
  | func f => rfl
theorem FR.evalF {fa fb : Frame} (h : FR P T p fa fb) {x : Operand} (hx : okFn T fa.fn x = true) : (fa.eval x = valA T p ∧ fb.eval x = valB T p) ∨ (fa.eval x = undef ∧ fb.eval x = undef) := by
  cases x with
  | tmp s =>
    simp [okFn] at hx
    have := h.slot s hx.1
    unfold SlotR at this
    rw [hx.2] at this
    simpa [Frame.eval] using this
  | const v => simp [okFn] at hx
  | global g => simp [okFn] at hx
  | func f => simp [okFn] at hx

theorem FR.todo_to {fa fb : Frame} (h : FR P T p fa fb) (k : List Item) (hk : k.all (okItem P T fa.fn) = true) : FR P T p { fa with todo := k } { fb with todo := k } :=
  ⟨h.fn, rfl, h.mode, h.da, h.db, h.ka, h.kb, h.ra, h.rb, h.fam, h.sza, h.szb, h.slot, hk⟩
theorem FR.mode_to {fa fb : Frame} (h : FR P T p fa fb) (m : FrameMode) : FR P T p { fa with mode := m } { fb with mode := m } :=
  ⟨h.fn, h.todo, rfl, h.da, h.db, h.ka, h.kb, h.ra, h.rb, h.fam, h.sza, h.szb, h.slot, h.ok⟩
theorem FR.raise {fa fb : Frame} (h : FR P T p fa fb) (vs : List PanicEntry) : FR P T p (fa.raise vs) (fb.raise vs) := by
  unfold Frame.raise
  rw [h.mode]
  split
  · exact h.mode_to _
  · exact h.mode_to _

theorem getD_set (a : Array Value) (d s : Nat) (v : Value) (hd : d < a.size) : (a.setIfInBounds d v).getD s undef = if s = d then v else a.getD s undef := by
  simp only [Array.getD_eq_getD_getElem?, Array.getElem?_setIfInBounds]
  by_cases e : d = s
  · subst e; simp [hd]
  · simp [e, Ne.symm e]

theorem FR.finish {fa fb : Frame} (h : FR P T p fa fb) {ops : Array Oper} {i : Nat} {rest : List Nat} {k : List Item} (ht : fa.todo = .inRegion ops (i :: rest) :: k) (x y : Value)
    (hd : ∀ d, (ops[i]?).bind (·.dst) = some d → d < T.n fa.fn ∧ SlotR T p fa.fn d x y) : FR P T p (fa.finish x) (fb.finish y) := by
  have hok := h.ok
  rw [ht] at hok
  have hok' : (Item.inRegion ops rest :: k).all (okItem P T fa.fn) = true := by simpa [okItem] using hok
  unfold Frame.finish
  rw [h.todo, ht]
  dsimp only
  cases hdst : (ops[i]?).bind (·.dst) with
  | none => exact ⟨h.fn, rfl, h.mode, h.da, h.db, h.ka, h.kb, h.ra, h.rb, h.fam, h.sza, h.szb, h.slot, hok'⟩
  | some d =>
    obtain ⟨hlt, hs⟩ := hd d hdst
    refine ⟨h.fn, rfl, h.mode, h.da, h.db, h.ka, h.kb, h.ra, h.rb, h.fam, by simpa using h.sza, by simpa using h.szb, fun s hs' => ?_, hok'⟩
    have e1 := getD_set fa.tmps d s x (Nat.lt_of_lt_of_le hlt h.sza)
    have e2 := getD_set fb.tmps d s y (Nat.lt_of_lt_of_le hlt h.szb)
    show SlotR T p fa.fn s ((fa.tmps.setIfInBounds d x).getD s undef) ((fb.tmps.setIfInBounds d y).getD s undef)
    rw [e1, e2]
    by_cases e : s = d
    · subst e; simpa using hs
    · simpa [e] using h.slot s hs'

theorem FR.yielded {fa fb : Frame} (h : FR P T p fa fb) {ops : Array Oper} (ho : ops.all (okOp P T fa.fn) = true) (j : Nat) : yielded ops fa.tmps j = yielded ops fb.tmps j := by
  unfold Go.yielded
  cases hj : ops[j]? with
  | none => rfl
  | some o =>
    cases hd : o.dst with
    | none => simp [hd]
    | some d =>
      have hokop : okOp P T fa.fn o = true := by
        rw [Array.all_eq_true] at ho
        obtain ⟨hlt, e⟩ := Array.getElem?_eq_some_iff.1 hj
        rw [← e]; exact ho j hlt
      have hlt : d < T.n fa.fn := by
        unfold okOp at hokop
        rw [hd] at hokop
        split at hokop <;> simp [okD, okDF] at hokop <;> first | exact hokop.1.1.2.1 | omega | (rcases hokop with h' | h' <;> exact h'.2.1) | exact hokop.2.1 | exact hokop.1.1.1.2.1
      have ga : fa.tmps[d]? = some (fa.tmps.getD d undef) := by
        have := Nat.lt_of_lt_of_le hlt h.sza
        simp [Array.getD_eq_getD_getElem?, this]
      have gb : fb.tmps[d]? = some (fb.tmps.getD d undef) := by
        have := Nat.lt_of_lt_of_le hlt h.szb
        simp [Array.getD_eq_getD_getElem?, this]
      simp only [Option.bind_some, hd, ga, gb]
      have hs := h.slot d hlt
      unfold SlotR at hs
      split at hs
      · rcases hs with ⟨h1, h2⟩ | ⟨h1, h2⟩
        · rw [h1, h2]; rfl
        · rw [h1, h2]
      · rw [hs]
theorem FR.wanted {fa fb : Frame} (h : FR P T p fa fb) {ops : Array Oper} (ho : ops.all (okOp P T fa.fn) = true) (o : Oper) : Region.wanted o (Go.yielded ops fa.tmps) = Region.wanted o (Go.yielded ops fb.tmps) := by
  rw [show Go.yielded ops fa.tmps = Go.yielded ops fb.tmps from funext (h.yielded ho)]
end
end Go.Proofs.Ytalpfcckdjipoaa
