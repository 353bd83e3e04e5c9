/-
  What a function of the family comes to in one program, called with the closure that is bound to p, it comes to in the other one, called with the method value.
-/
import Derived.Test.YtalpfcckdjipoaaSimGo
namespace Go.Proofs.Ytalpfcckdjipoaa
set_option linter.unusedVariables false
set_option linter.unusedSimpArgs false

section
variable {P : Program} {F : Array Func} {T : Plan} {p : Value}

/-- the top frames -/
def Top (P : Program) (F : Array Func) (T : Plan) (p : Value) (fa fb : Frame) : Prop :=
  FR P T p fa fb ∨ ∃ (fn : Func) (c : Code) (rid : Nat) (t : Array Value) (a b : Value) (j : Nat), j < 7 ∧ P.funcs[T.cid]? = some fn ∧ fn.body = some c ∧ okCode P T T.cid c = true ∧ fn.ntmps = T.n T.cid ∧ 3 ≤ T.n T.cid ∧ PreT t (T.n T.cid) p a b ∧
    fa = preF t (T.n T.cid) T.cid rid c p a b j ∧ fb = Frame.enter P T.cid #[p, a, b] .normal

def Ends (Q : Program) (m : Machine) : Prop := ∃ o w, step Q m = .ended o w

/-- both go on -/
def Both (P : Program) (F : Array Func) (T : Plan) (p : Value) (ca cs : List Frame) (ma mb : Machine) : Prop :=
  ∃ fa fb us vs w, step (withF P F) ma = .next (lone fa (us ++ ca) w) ∧ step P mb = .next (lone fb (vs ++ cs) w) ∧ Top P F T p fa fb ∧ Waits P T p us vs

theorem ok_cons {f : Nat} {x : Item} {k : List Item} (h : (x :: k).all (okItem P T f) = true) : okItem P T f x = true ∧ k.all (okItem P T f) = true := by simpa using h
theorem ok_exit {f id : Nat} : ∀ {k k' : List Item}, k.all (okItem P T f) = true → exitTo id k = some k' → k'.all (okItem P T f) = true
  | [], _, _, h => by simp [exitTo] at h
  | x :: k, k', hk, h => by
    have hk' := (ok_cons hk).2
    cases x <;> simp only [exitTo] at h <;> first | exact ok_exit hk' h | skip
    split at h
    · injection h with h; subst h; exact hk'
    · exact ok_exit hk' h

theorem okD_slot {f : Nat} {d : Nat} (h : okD T f (some d) = true) : d < T.n f ∧ T.fs f d = false := by simpa [okD] using h
theorem okDF_slot {f : Nat} {d : Nat} (h : okDF T f (some d) = true) : d < T.n f ∧ T.fs f d = true := by simpa [okDF] using h

variable (S : Setup P F T)
include S

/-- the frame of a function of the family that is entered -/
theorem enter_FR {g : Nat} (hg : T.fam g = true) (xs ys : Array Value) (hsz : xs.size = ys.size) (hle : xs.size ≤ T.n g) (h : ∀ i, i < xs.size → SlotR T p g i (xs.getD i undef) (ys.getD i undef)) :
    FR P T p (Frame.enter (withF P F) g xs .normal) (Frame.enter P g ys .normal) := by
  obtain ⟨fn, c, h1, h2, hb, hok, hn, _, _⟩ := S.fam g hg
  have h2' : (withF P F).funcs[g]? = some fn := h2
  have e1 : (Frame.enter (withF P F) g xs .normal).tmps = xs ++ Array.replicate (T.n g - xs.size) undef := by simp [Frame.enter, h2', hn]
  have e2 : (Frame.enter P g ys .normal).tmps = ys ++ Array.replicate (T.n g - ys.size) undef := by simp [Frame.enter, h1, hn]
  refine ⟨rfl, by simp [Frame.enter, h1, h2', hb], rfl, rfl, rfl, rfl, rfl, rfl, rfl, Or.inl hg, ?_, ?_, fun s hs => ?_, ?_⟩
  · rw [e1]; show T.n g ≤ _; simp; omega
  · rw [e2]; show T.n g ≤ _; simp; omega
  · rw [e1, e2]
    show SlotR T p g s _ _
    by_cases hlt : s < xs.size
    · have := h s hlt
      have g1 : (xs ++ Array.replicate (T.n g - xs.size) undef).getD s undef = xs.getD s undef := by simp only [Array.getD_eq_getD_getElem?]; rw [Array.getElem?_append_left hlt]
      have g2 : (ys ++ Array.replicate (T.n g - ys.size) undef).getD s undef = ys.getD s undef := by simp only [Array.getD_eq_getD_getElem?]; rw [Array.getElem?_append_left (by omega)]
      rw [g1, g2]; exact this
    · have g1 : (xs ++ Array.replicate (T.n g - xs.size) undef).getD s undef = undef := by
        simp only [Array.getD_eq_getD_getElem?]; rw [Array.getElem?_append_right (by omega)]; simp [Array.getElem?_replicate]; split <;> rfl
      have g2 : (ys ++ Array.replicate (T.n g - ys.size) undef).getD s undef = undef := by
        simp only [Array.getD_eq_getD_getElem?]; rw [Array.getElem?_append_right (by omega)]; simp [Array.getElem?_replicate]; split <;> rfl
      rw [g1, g2]; exact SlotR.undef T p g s
  · simp [Frame.enter, h2', hb, okItem, hok]

/-- an operation, with both frames at it -/
theorem lock_op {fa fb : Frame} (h : FR P T p fa fb) {us vs : List Frame} (hL : Waits P T p us vs) (w : World) (ca cs : List Frame) (hm : fa.mode = .run) {ops : Array Oper} {i : Nat} {rest : List Nat} {k : List Item} (ht : fa.todo = .inRegion ops (i :: rest) :: k) :
    Ends (withF P F) (lone fa (us ++ ca) w) ∨ Both P F T p ca cs (lone fa (us ++ ca) w) (lone fb (vs ++ cs) w) := by
  have hm' : fb.mode = .run := h.mode.trans hm
  have ht' : fb.todo = .inRegion ops (i :: rest) :: k := h.todo.trans ht
  have hall : ops.all (okOp P T fa.fn) = true := by
    have := h.ok; rw [ht] at this; simpa [okItem] using (ok_cons this).1
  have go : ∀ x y w', (∀ d, (ops[i]?).bind (·.dst) = some d → d < T.n fa.fn ∧ SlotR T p fa.fn d x y) → step (withF P F) (lone fa (us ++ ca) w) = .next (lone (fa.finish x) (us ++ ca) w') → step P (lone fb (vs ++ cs) w) = .next (lone (fb.finish y) (vs ++ cs) w') →
      Both P F T p ca cs (lone fa (us ++ ca) w) (lone fb (vs ++ cs) w) := fun x y w' hd s1 s2 => ⟨_, _, us, vs, w', s1, s2, Or.inl (h.finish ht x y hd), hL⟩
  cases ho : ops[i]? with
  | none =>
    exact Or.inr (go undef undef w (fun d hd => by simp [ho] at hd) (step_op_pass hm ht (by simp [ho])) (step_op_pass hm' ht' (by simp [ho])))
  | some o =>
    have hokop : okOp P T fa.fn o = true := by
      rw [Array.all_eq_true] at hall
      obtain ⟨hlt, e⟩ := Array.getElem?_eq_some_iff.1 ho
      rw [← e]; exact hall i hlt
    have hdst : ∀ d, (ops[i]?).bind (·.dst) = some d → o.dst = some d := fun d hd => by simpa [ho] using hd
    have hdn : ∀ d, o.dst = some d → d < T.n fa.fn := by
      intro d hd
      unfold okOp at hokop
      rw [hd] at hokop
      split at hokop <;> simp [okD, okDF] at hokop <;> first | exact hokop.1.1.2.1 | omega | (rcases hokop with h' | h' <;> exact h'.2.1) | exact hokop.2.1 | exact hokop.1.1.1.2.1
    have hww := h.wanted hall o
    by_cases hw : Region.wanted o (yielded ops fa.tmps) = true
    · have hw' : Region.wanted o (yielded ops fb.tmps) = true := by rw [← hww]; exact hw
      -- a value that both hold
      have moved : ∀ x : Operand, o.op = .move x ∨ o.op = .assign x → ((okX T fa.fn x && okD T fa.fn o.dst) || (okFn T fa.fn x && okDF T fa.fn o.dst)) = true → Both P F T p ca cs (lone fa (us ++ ca) w) (lone fb (vs ++ cs) w) := by
        intro x hop hx
        have r1 : (execOp fa.eval o).run (withF P F) w = .ok (.value (fa.eval x)) w := by rcases hop with e | e <;> simp [execOp, e, Sem.run, pure]
        have r2 : (execOp fb.eval o).run P w = .ok (.value (fb.eval x)) w := by rcases hop with e | e <;> simp [execOp, e, Sem.run, pure]
        refine go (fa.eval x) (fb.eval x) w (fun d hd => ?_) (step_op_next hm ht h.ra ho hw (by rw [r1]; rfl)) (step_op_next hm' ht' h.rb ho hw' (by rw [r2]; rfl))
        have hd' := hdst d hd
        rw [hd'] at hx
        simp only [Bool.or_eq_true, Bool.and_eq_true] at hx
        rcases hx with ⟨h1, h2⟩ | ⟨h1, h2⟩
        · obtain ⟨g1, g2⟩ := okD_slot h2
          rw [h.evalX h1]
          exact ⟨g1, SlotR.eq T p g2 _⟩
        · obtain ⟨g1, g2⟩ := okDF_slot h2
          refine ⟨g1, ?_⟩
          unfold SlotR
          rw [if_pos g2]
          exact h.evalF h1
      -- a plain operation
      have plain : plainOp P o.op = true → o.op.operands.all (okX T fa.fn) = true → okD T fa.fn o.dst = true → Ends (withF P F) (lone fa (us ++ ca) w) ∨ Both P F T p ca cs (lone fa (us ++ ca) w) (lone fb (vs ++ cs) w) := by
        intro hp hall2 hdd
        have e : execOp fa.eval o = execOp fb.eval o := exec_eq hp (fun x hx => h.evalX (by rw [Array.all_eq_true'] at hall2; exact hall2 x hx))
        have er : (execOp fa.eval o).run (withF P F) w = (execOp fb.eval o).run P w := by rw [e]; exact blind_run P F _ w (blind_exec P F _ o hp)
        have slot : ∀ x d, (ops[i]?).bind (·.dst) = some d → d < T.n fa.fn ∧ SlotR T p fa.fn d x x := fun x d hd => by
          have hd' := hdst d hd
          rw [hd'] at hdd
          obtain ⟨g1, g2⟩ := okD_slot hdd
          exact ⟨g1, SlotR.eq T p g2 _⟩
        cases hr : (execOp fb.eval o).run P w with
        | ok nx w' =>
          rw [hr] at er
          rcases plain_next hp hr with ⟨v, rfl⟩ | rfl
          · exact Or.inr (go v v w' (slot v) (step_op_next hm ht h.ra ho hw (by rw [er]; rfl)) (step_op_next hm' ht' h.rb ho hw' (by rw [hr]; rfl)))
          · exact Or.inr (go undef undef w' (slot undef) (step_op_next hm ht h.ra ho hw (by rw [er]; rfl)) (step_op_next hm' ht' h.rb ho hw' (by rw [hr]; rfl)))
        | halt hh w' =>
          rw [hr] at er
          have ht0 := blind_tame P F _ w (blind_exec P F fb.eval o hp) hh w' hr
          cases hh with
          | panic v => exact Or.inr ⟨_, _, us, vs, w', step_op_next hm ht h.ra ho hw (by rw [er]; rfl), step_op_next hm' ht' h.rb ho hw' (by rw [hr]; rfl), Or.inl (h.raise _), hL⟩
          | stuck s => exact Or.inl (step_op_ended S.ready hm ht h.ra ho hw er (Or.inl ⟨s, rfl⟩))
          | unsupported u => exact Or.inl (step_op_ended S.ready hm ht h.ra ho hw er (Or.inr ⟨u, rfl⟩))
          | _ => exact ht0.elim
      unfold okOp at hokop
      split at hokop
      · rename_i x hx; exact Or.inr (moved x (Or.inl hx) hokop)
      · rename_i x hx; exact Or.inr (moved x (Or.inr hx) hokop)
      · rename_i g args tys hx
        simp only [Bool.and_eq_true, decide_eq_true_eq] at hokop
        obtain ⟨⟨⟨hg, hdd⟩, hle⟩, hargs⟩ := hokop
        obtain ⟨fn, c, h1, h2, hb, _, _, hnm, _⟩ := S.fam g hg
        have r1 : (execOp fa.eval o).run (withF P F) w = .ok (.enter g (args.map fa.eval)) w := by
          simp [execOp, hx, resolve, Deferred.ofValue, invoke, Frame.eval, call_enters (Q := withF P F) h2 hnm hb]
        have r2 : (execOp fb.eval o).run P w = .ok (.enter g (args.map fb.eval)) w := by
          simp [execOp, hx, resolve, Deferred.ofValue, invoke, Frame.eval, call_enters (Q := P) h1 hnm hb]
        refine Or.inr ⟨_, _, fa :: us, fb :: vs, w, step_op_next hm ht h.ra ho hw (by rw [r1]; rfl), step_op_next hm' ht' h.rb ho hw' (by rw [r2]; rfl), Or.inl (enter_FR S hg _ _ (by simp) (by simpa using hle) (fun j hj => ?_)), Waits.cons h ops i rest k ht (by simpa [ho] using hdd) hL⟩
        have hj' : j < args.size := by simpa using hj
        have ha := List.all_eq_true.1 hargs j (by simpa using hj')
        have ea : args.getD j (.tmp 0) = args[j] := by simp [Array.getD, hj']
        rw [ea] at ha
        have g1 : (args.map fa.eval).getD j undef = fa.eval args[j] := by simp [Array.getD_eq_getD_getElem?, hj']
        have g2 : (args.map fb.eval).getD j undef = fb.eval args[j] := by simp [Array.getD_eq_getD_getElem?, hj']
        rw [g1, g2]
        unfold okArg at ha
        split at ha
        · rename_i hfs
          unfold SlotR
          rw [if_pos hfs]
          exact h.evalF ha
        · rename_i hfs
          rw [h.evalX ha]
          exact SlotR.eq T p (by simpa using hfs) _
      · rename_i s args tys hx
        simp only [Bool.and_eq_true, decide_eq_true_eq] at hokop
        obtain ⟨⟨⟨hfn, hdd⟩, h2a⟩, hargs⟩ := hokop
        rcases h.evalF hfn with ⟨ea, eb⟩ | ⟨ea, eb⟩
        · obtain ⟨a, b, rfl⟩ : ∃ a b, args = #[a, b] := ⟨args[0], args[1], by apply Array.ext (by simpa using h2a); intro j hj1 hj2; simp at hj2; match j, hj2 with | 0, _ => rfl | 1, _ => rfl⟩
          have hxa : fa.eval a = fb.eval a := h.evalX (by simpa using (Array.all_eq_true'.1 hargs a (by simp)))
          have hxb : fa.eval b = fb.eval b := h.evalX (by simpa using (Array.all_eq_true'.1 hargs b (by simp)))
          obtain ⟨fn, fn', c, rid, h1, h2, hb, hb', hok, hn, hn', hrr, hor, hnm, hnm', h3⟩ := S.cmp
          have r1 : (execOp fa.eval o).run (withF P F) w = .ok (.enter T.cid #[fa.eval a, fa.eval b, p]) w := by
            simp [execOp, hx, resolve, ea, valA, Deferred.ofValue, invoke, call_enters (Q := withF P F) h2 hnm' hb']
          have r2 : (execOp fb.eval o).run P w = .ok (.enter T.cid #[p, fb.eval a, fb.eval b]) w := by
            simp [execOp, hx, resolve, eb, valB, Deferred.ofValue, invoke, call_enters (Q := P) h1 hnm hb]
          refine Or.inr ⟨_, _, fa :: us, fb :: vs, w, step_op_next hm ht h.ra ho hw (by rw [r1]; rfl), step_op_next hm' ht' h.rb ho hw' (by rw [r2]; rfl), Or.inr ⟨fn, c, rid, _, fa.eval a, fa.eval b, 0, by omega, h1, hb, hok, hn, h3, pre_at (fa.eval a) (fa.eval b) p _ h3, ?_, ?_⟩, Waits.cons h ops i rest k ht (by simpa [ho] using hdd) hL⟩
          · have h2' : (withF P F).funcs[T.cid]? = some fn' := h2
            simp [Frame.enter, preF, h2', hb', hn']
          · rw [hxa, hxb]
        · refine Or.inl (step_op_ended S.ready hm ht h.ra ho hw (h := .stuck "call: function value expected") (w' := w) ?_ (Or.inl ⟨_, rfl⟩))
          simp [execOp, hx, resolve, ea, undef, Deferred.ofValue, stuck, Sem.run]
      · simp only [Bool.and_eq_true] at hokop
        exact plain hokop.1.1 hokop.1.2 hokop.2
    · have e1 : ((ops[i]?).map (Region.wanted · (yielded ops fa.tmps))).getD false = false := by simpa [ho] using hw
      have e2 : ((ops[i]?).map (Region.wanted · (yielded ops fb.tmps))).getD false = false := by simp only [ho, Option.map_some, Option.getD_some, ← hww]; simpa using hw
      exact Or.inr (go undef undef w (fun d hd => ⟨hdn d (hdst d hd), SlotR.undef T p _ _⟩) (step_op_pass hm ht e1) (step_op_pass hm' ht' e2))
end
end Go.Proofs.Ytalpfcckdjipoaa
