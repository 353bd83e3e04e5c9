/-
  Two programs side by side, step by step: while one frame of the family is on top, both machines go on alike.
-/
import Derived.Test.YtalpfcckdjipoaaSimRel
import Derived.Laws.Sem
namespace Go.Proofs.Ytalpfcckdjipoaa
set_option linter.unusedVariables false
set_option linter.unusedSimpArgs false

theorem exec_eq {P : Program} {ρ ρ' : Operand → Value} {o : Oper} (hp : plainOp P o.op = true) (h : ∀ x ∈ o.op.operands, ρ x = ρ' x) : execOp ρ o = execOp ρ' o := by
  obtain ⟨dst, op, type, pos, after, guard⟩ := o
  cases op with
  | buildSlice t n ps =>
    have e : (ps.map fun (x : Nat × Operand) => (x.1, ρ x.2)) = ps.map fun (x : Nat × Operand) => (x.1, ρ' x.2) := by
      refine Array.map_congr_left (fun x hx => ?_)
      rw [h x.2 (by simp [Op.operands]; exact ⟨x.1, hx⟩)]
    show (do pure (Next.value (← Instr.buildSlice t n (ps.map fun (x : Nat × Operand) => (x.1, ρ x.2)))) : Sem Next) = (do pure (Next.value (← Instr.buildSlice t n (ps.map fun (x : Nat × Operand) => (x.1, ρ' x.2)))) : Sem Next)
    rw [e]
  | call c =>
    obtain ⟨callee, args, argTypes⟩ := c
    cases callee with
    | builtin b =>
      have e : args.map ρ = args.map ρ' := Array.map_congr_left (fun x hx => h x (by simp [Op.operands, Call.operands]; exact hx))
      simp only [execOp, resolve, e]
    | value f => simp [plainOp] at hp
    | invoke r n => simp [plainOp] at hp
  | _ => first
    | (simp [plainOp] at hp; done)
    | (simp [Op.operands] at h; simp only [execOp, h])
    | rfl

theorem next_value {P : Program} {s : Sem Value} {w w' : World} {nx : Next} (h : (do pure (Next.value (← s)) : Sem Next).run P w = .ok nx w') : ∃ v, nx = .value v := by
  rw [Sem.run_bind] at h
  cases hs : s.run P w with
  | ok v w1 => rw [hs] at h; simp [Sem.run, pure] at h; exact ⟨v, h.1.symm⟩
  | halt a b => rw [hs] at h; simp at h
theorem plain_next {P : Program} {ρ : Operand → Value} {o : Oper} (hp : plainOp P o.op = true) {w w' : World} {nx : Next} (h : (execOp ρ o).run P w = .ok nx w') : (∃ v, nx = .value v) ∨ nx = .skip := by
  obtain ⟨dst, op, type, pos, after, guard⟩ := o
  cases op with
  | store t a x =>
    right
    simp only [execOp, Sem.run_bind] at h
    cases hs : (Instr.storeAt t (ρ a) (ρ x)).run P w with
    | ok v w1 => rw [hs] at h; simp [Sem.run, pure] at h; exact h.1.symm
    | halt a b => rw [hs] at h; simp at h
  | move x => simp [execOp, Sem.run, pure] at h; exact Or.inl ⟨_, h.1.symm⟩
  | assign x => simp [execOp, Sem.run, pure] at h; exact Or.inl ⟨_, h.1.symm⟩
  | pick c a b =>
    simp only [execOp, Sem.run_bind] at h
    cases hs : (asBool (ρ c)).run P w with
    | ok v w1 => rw [hs] at h; simp [Sem.run, pure] at h; exact Or.inl ⟨_, h.1.symm⟩
    | halt a b => rw [hs] at h; simp at h
  | nilCheck x =>
    left
    simp only [execOp] at h
    have hpan : ∀ (e : RuntimeError), (runtimePanic e : Sem Next).run P w = .ok nx w' → False := by
      intro e he
      cases e <;> simp [runtimePanic, goPanic, Sem.run_bind, program, Sem.run] at he
      all_goals (generalize (elemOf _).run P w = r at he; cases r <;> simp [newVar, newRow, newObj, Sem.run, Sem.run_bind, pure] at he)
    split at h
    · exact (hpan _ h).elim
    · exact (hpan _ h).elim
    · exact (hpan _ h).elim
    · split at h
      · exact (hpan _ h).elim
      · rw [Sem.run_bind] at h
        simp only [program, Sem.run, Result.andThen_ok] at h
        rw [Sem.run_bind] at h
        generalize (nilAhead _ _ _ _).run P w = r at h
        cases r with
        | ok a w1 =>
          simp only [Result.andThen_ok] at h
          split at h
          · simp [unsupported, Sem.run, bind, Sem.bind] at h
          · simp [Sem.run, pure, bind, Sem.bind] at h; exact ⟨_, h.1.symm⟩
        | halt a b => simp at h
      · simp [Sem.run, pure] at h; exact ⟨_, h.1.symm⟩
    · simp [Sem.run, pure] at h; exact ⟨_, h.1.symm⟩
  | call c =>
    obtain ⟨callee, args, argTypes⟩ := c
    cases callee with
    | builtin b =>
      cases b <;> simp [plainOp] at hp
      left
      exact next_value (s := Builtin.len_ argTypes type (args.map ρ)) h
    | value f => simp [plainOp] at hp
    | invoke r n => simp [plainOp] at hp
  | _ => first
    | (simp [plainOp] at hp; done)
    | exact Or.inl (next_value h)
end Go.Proofs.Ytalpfcckdjipoaa
