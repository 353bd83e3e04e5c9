/-
  Single steps of a machine with one frame on top, as equations: what the walk of two programs side by side stands on.
-/
import Derived.Test.YtalpfcckdjipoaaBlindExec
namespace Go.Proofs.Ytalpfcckdjipoaa
set_option linter.unusedVariables false
set_option linter.unusedSimpArgs false

/-- how an operation's run goes on -/
def goesOn (Q : Program) (fr : Frame) (cs : List Frame) : Result Next → Machine ⊕ Unit
  | .ok (.value v) w => .inl (lone (fr.finish v) cs w)
  | .ok .skip w => .inl (lone (fr.finish undef) cs w)
  | .ok (.enter f args) w => .inl (lone (Frame.enter Q f args .normal) (fr :: cs) w)
  | .halt (.panic v) w => .inl (lone (fr.raise [{ v, recovered := false }]) cs w)
  | _ => .inr ()

section
variable {Q : Program} {fr : Frame} {cs : List Frame} {w : World} {k : List Item} {ops : Array Oper} {i : Nat} {rest : List Nat} {o : Oper}

theorem step_op_next (hm : fr.mode = .run) (ht : fr.todo = .inRegion ops (i :: rest) :: k) (hr : fr.roundOf = none) (ho : ops[i]? = some o) (hw : Region.wanted o (yielded ops fr.tmps) = true) {m : Machine}
    (h : goesOn Q fr cs ((execOp fr.eval o).run Q w) = .inl m) : step Q (lone fr cs w) = .next m := by
  have hop : fr.oper? = some o := by simp [Frame.oper?, ht, ho]
  generalize hx : (execOp fr.eval o).run Q w = r at h
  cases r with
  | ok n w' =>
    cases n <;> simp [goesOn] at h <;> subst h <;> refine step_lone_go ?_ <;> simp [stepG, stepG.exec, stepG.oper, stepG.apply, hm, ht, hr, ho, hw, hop, hx]
  | halt hh w' =>
    cases hh <;> simp [goesOn] at h
    subst h
    refine step_lone_go ?_
    simp [stepG, stepG.exec, stepG.oper, stepG.apply, hm, ht, hr, ho, hw, hop, hx]

theorem step_op_pass (hm : fr.mode = .run) (ht : fr.todo = .inRegion ops (i :: rest) :: k) (hw : ((ops[i]?).map (Region.wanted · (yielded ops fr.tmps))).getD false = false) : step Q (lone fr cs w) = .next (lone (fr.finish undef) cs w) := by
  refine step_lone_go ?_
  simp [stepG, stepG.exec, hm, ht, hw]

/-- no function of it lays a package variable -/
def NoReady (Q : Program) : Prop := Q.follows .staticDataAhead = true ∧ ∀ g, Q.stepOf g = none

theorem step_op_ended (hE : NoReady Q) (hm : fr.mode = .run) (ht : fr.todo = .inRegion ops (i :: rest) :: k) (hr : fr.roundOf = none) (ho : ops[i]? = some o) (hw : Region.wanted o (yielded ops fr.tmps) = true) {h : Halt} {w' : World}
    (hx : (execOp fr.eval o).run Q w = .halt h w') (hs : (∃ s, h = .stuck s) ∨ ∃ u, h = .unsupported u) : ∃ out w'', step Q (lone fr cs w) = .ended out w'' := by
  have hop : fr.oper? = some o := by simp [Frame.oper?, ht, ho]
  rcases hs with ⟨s, rfl⟩ | ⟨u, rfl⟩
  · refine ⟨.stuck s (fr.pos Q), w', step_lone_ended ?_⟩
    simp [stepG, stepG.exec, stepG.oper, stepG.apply, hm, ht, hr, ho, hw, hop, hx]
  · refine ⟨.unsupported u (fr.pos Q), w', step_lone_ended ?_⟩
    cases u with
    | initOrder g => simp [stepG, stepG.exec, stepG.oper, stepG.apply, hm, ht, hr, ho, hw, hop, hx, early, hE.1, hE.2 g]
    | _ => simp [stepG, stepG.exec, stepG.oper, stepG.apply, hm, ht, hr, ho, hw, hop, hx]

theorem step_todo_nil (hm : fr.mode = .run) (ht : fr.todo = []) (hr : fr.roundOf = none) : step Q (lone fr cs w) = .next (lone { fr with mode := .returning } cs w) :=
  step_lone_go (by simp [stepG, stepG.exec, hm, ht, hr])
theorem step_todo_ret (hm : fr.mode = .run) (ht : fr.todo = .code .ret :: k) (hr : fr.roundOf = none) : step Q (lone fr cs w) = .next (lone { fr with mode := .returning } cs w) :=
  step_lone_go (by simp [stepG, stepG.exec, hm, ht, hr])
theorem step_todo_skip (hm : fr.mode = .run) (ht : fr.todo = .code .skip :: k) : step Q (lone fr cs w) = .next (lone { fr with todo := k } cs w) :=
  step_lone_go (by simp [stepG, stepG.exec, hm, ht])
theorem step_todo_inBlock {id : Nat} (hm : fr.mode = .run) (ht : fr.todo = .inBlock id :: k) : step Q (lone fr cs w) = .next (lone { fr with todo := k } cs w) :=
  step_lone_go (by simp [stepG, stepG.exec, hm, ht])
theorem step_todo_seq {a b : Code} (hm : fr.mode = .run) (ht : fr.todo = .code (.seq a b) :: k) : step Q (lone fr cs w) = .next (lone { fr with todo := .code a :: .code b :: k } cs w) :=
  step_lone_go (by simp [stepG, stepG.exec, hm, ht])
theorem step_todo_cond {c : Operand} {a b : Code} {t : Bool} (hm : fr.mode = .run) (ht : fr.todo = .code (.cond c a b) :: k) (hc : fr.eval c = .bool t) : step Q (lone fr cs w) = .next (lone { fr with todo := .code (if t then a else b) :: k } cs w) :=
  step_lone_go (by simp [stepG, stepG.exec, hm, ht, hc])
theorem step_todo_cond_bad {c : Operand} {a b : Code} (hm : fr.mode = .run) (ht : fr.todo = .code (.cond c a b) :: k) (hc : ∀ t, fr.eval c ≠ .bool t) : ∃ out w'', step Q (lone fr cs w) = .ended out w'' := by
  refine ⟨_, _, step_lone_ended (o := .stuck "cond: bool expected" (fr.pos Q)) (w' := w) ?_⟩
  cases hv : fr.eval c <;> first | (simp [stepG, stepG.exec, hm, ht, hv]; done) | exact absurd hv (hc _)
theorem step_todo_block {id : Nat} {a : Code} (hm : fr.mode = .run) (ht : fr.todo = .code (.block id a) :: k) : step Q (lone fr cs w) = .next (lone { fr with todo := .code a :: .inBlock id :: k } cs w) :=
  step_lone_go (by simp [stepG, stepG.exec, hm, ht])
theorem step_todo_loop {a : Code} (hm : fr.mode = .run) (ht : fr.todo = .code (.loop a) :: k) : step Q (lone fr cs w) = .next (lone { fr with todo := .code a :: .inLoop a :: k } cs w) :=
  step_lone_go (by simp [stepG, stepG.exec, hm, ht])
theorem step_todo_inLoop {a : Code} (hm : fr.mode = .run) (ht : fr.todo = .inLoop a :: k) : step Q (lone fr cs w) = .next (lone { fr with todo := .code a :: .inLoop a :: k } cs w) :=
  step_lone_go (by simp [stepG, stepG.exec, hm, ht])
theorem step_todo_exit {id : Nat} {k' : List Item} (hm : fr.mode = .run) (ht : fr.todo = .code (.exit id) :: k) (hk : exitTo id k = some k') : step Q (lone fr cs w) = .next (lone { fr with todo := k' } cs w) :=
  step_lone_go (by simp [stepG, stepG.exec, hm, ht, hk])
theorem step_todo_exit_bad {id : Nat} (hm : fr.mode = .run) (ht : fr.todo = .code (.exit id) :: k) (hk : exitTo id k = none) (hr : fr.roundOf = none) : ∃ out w'', step Q (lone fr cs w) = .ended out w'' :=
  ⟨.stuck "exit, goto: no such block or label" (fr.pos Q), w, step_lone_ended (by simp [stepG, stepG.exec, hm, ht, hk, hr])⟩
theorem step_todo_region {id : Nat} (hm : fr.mode = .run) (ht : fr.todo = .code (.region id ops false) :: k) : step Q (lone fr cs w) = .next (lone { fr with todo := .inRegion ops (List.range ops.size) :: k } cs w) :=
  step_lone_go (by simp [stepG, stepG.exec, hm, ht])
theorem step_todo_draw {id : Nat} (hm : fr.mode = .run) (ht : fr.todo = .code (.region id ops true) :: k) : ∃ l w', step Q (lone fr cs w) = .next (lone { fr with todo := .inRegion ops l :: k } cs w') ∧
    ∀ (Q' : Program) (fr' : Frame) (cs' : List Frame), Q'.follows .mixedOrders = Q.follows .mixedOrders → fr'.mode = .run → fr'.todo = .code (.region id ops true) :: k → fr'.fn = fr.fn → step Q' (lone fr' cs' w) = .next (lone { fr' with todo := .inRegion ops l :: k } cs' w') := by
  refine ⟨Region.schedule (Q.follows .mixedOrders) ops (Question.cut (.order fr.fn id) (w.tape w.drawn (.order fr.fn id))), { w with drawn := w.drawn + 1 }, step_lone_go ?_, ?_⟩
  · simp [stepG, stepG.exec, hm, ht, choose, Sem.run, Question.forced]
  · intro Q' fr' cs' hq hm' ht' hf
    refine step_lone_go ?_
    simp [stepG, stepG.exec, hm', ht', choose, Sem.run, Question.forced, hq, hf]
theorem step_todo_done (hm : fr.mode = .run) (ht : fr.todo = .inRegion ops [] :: k) : step Q (lone fr cs w) = .next (lone { fr with todo := k } cs w) :=
  step_lone_go (by simp [stepG, stepG.exec, hm, ht])

theorem step_return {c : Frame} {fn : Func} {v : Value} (hm : fr.mode = .returning) (hd : fr.defers = []) (hk : fr.kind = .normal) (hf : Q.funcs[fr.fn]? = some fn) (hv : (results fn fr.tmps).run Q w = .ok v w) : step Q (lone fr (c :: cs) w) = .next (lone (c.finish v) cs w) :=
  step_leave_returned ⟨hm, hd, hk, fn, hf, hv⟩
theorem step_panics {c : Frame} {fn : Func} {chain : List PanicEntry} (hm : fr.mode = .panicking chain) (hd : fr.defers = []) (hf : Q.funcs[fr.fn]? = some fn) : step Q (lone fr (c :: cs) w) = .next (lone (c.raise chain) cs w) :=
  step_leave_panicked ⟨hm, hd, fn, hf⟩
end
end Go.Proofs.Ytalpfcckdjipoaa
