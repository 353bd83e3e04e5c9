/-
  Two programs side by side: what one of them comes to with a closure that is bound to p, the other one comes to with the method value.
-/
import Derived.Test.YtalpfcckdjipoaaSimLock
namespace Go.Proofs.Ytalpfcckdjipoaa
set_option linter.unusedVariables false
set_option linter.unusedSimpArgs false

def mv (d : Nat) (s : Nat) : Oper := { dst := some d, op := .move (.tmp s), type := 0, pos := "", after := #[], guard := none }
/-- a, b, p in the first slots become p, a, b -/
def permOps (n : Nat) : Array Oper := #[mv n 0, mv 0 2, mv 2 1, mv 1 n]

/-- what is asked of two programs -/
structure Setup (P : Program) (F : Array Func) (T : Plan) : Prop where
  fam : ∀ g, T.fam g = true → ∃ fn c, P.funcs[g]? = some fn ∧ F[g]? = some fn ∧ fn.body = some c ∧ okCode P T g c = true ∧ fn.ntmps = T.n g ∧ (fn.name == "runtime.NumGoroutine") = false ∧ okRes T g fn.results.toList = true
  cmp : ∃ fn fn' c rid, P.funcs[T.cid]? = some fn ∧ F[T.cid]? = some fn' ∧ fn.body = some c ∧ fn'.body = some (.seq (.region rid (permOps (T.n T.cid)) false) c) ∧ okCode P T T.cid c = true ∧ fn.ntmps = T.n T.cid ∧ fn'.ntmps = T.n T.cid + 1 ∧
    fn'.results = fn.results ∧ okRes T T.cid fn.results.toList = true ∧ (fn.name == "runtime.NumGoroutine") = false ∧ (fn'.name == "runtime.NumGoroutine") = false ∧ 3 ≤ T.n T.cid
  fsc : ∀ s, T.fs T.cid s = false
  ready : NoReady (withF P F)

section
variable {P : Program} {F : Array Func} {T : Plan} {p : Value}

theorem call_enters {Q : Program} {f : FuncId} {fn : Func} {c : Code} (hf : Q.funcs[f]? = some fn) (hname : (fn.name == "runtime.NumGoroutine") = false) (hb : fn.body = some c) (args : Array Value) (w : World) : (callFunc f args).run Q w = .ok (.enter f args) w := by
  have h1 : fn.name ≠ "runtime.NumGoroutine" := by simpa using hname
  simp [callFunc, hf, h1, hb, mark]

/-- the results of a frame of the family -/
theorem results_eq {fa fb : Frame} (h : FR P T p fa fb) {rs : Array ResultVar} (hr : okRes T fa.fn rs.toList = true) (Q Q' : Program) (fn fn' : Func) (h1 : fn.results = rs) (h2 : fn'.results = rs) (w : World) :
    ∃ v, (results fn fa.tmps).run Q w = .ok v w ∧ (results fn' fb.tmps).run Q' w = .ok v w := by
  obtain ⟨l⟩ := rs
  simp only at hr
  have hx : ∀ a, okX T fa.fn (.tmp a) = true → fa.tmps.getD a undef = fb.tmps.getD a undef := fun a ha => h.evalX ha
  unfold okRes at hr
  split at hr
  · exact ⟨.tuple #[], by simp [results, h1], by simp [results, h2]⟩
  · rename_i a
    exact ⟨fa.tmps.getD a undef, by simp [results, h1], by simp [results, h2, hx a hr]⟩
  · rename_i a b
    simp only [Bool.and_eq_true] at hr
    exact ⟨.tuple #[fa.tmps.getD a undef, fa.tmps.getD b undef], by simp [results, h1], by simp [results, h2, hx a hr.1, hx b hr.2]⟩
  · cases hr

theorem FR.func {fa fb : Frame} (S : Setup P F T) (h : FR P T p fa fb) : ∃ fn fn', P.funcs[fa.fn]? = some fn ∧ F[fa.fn]? = some fn' ∧ fn'.results = fn.results ∧ okRes T fa.fn fn.results.toList = true := by
  rcases h.fam with hf | hf
  · obtain ⟨fn, c, h1, h2, _, _, _, _, h3⟩ := S.fam _ hf
    exact ⟨fn, fn, h1, h2, rfl, h3⟩
  · obtain ⟨fn, fn', c, rid, h1, h2, _, _, _, _, _, h3, h4, _⟩ := S.cmp
    rw [hf]
    exact ⟨fn, fn', h1, h2, h3, h4⟩

/-- the frames beneath: each waits for a call's answer -/
inductive Waits (P : Program) (T : Plan) (p : Value) : List Frame → List Frame → Prop
  | nil : Waits P T p [] []
  | cons {fa fb : Frame} {us vs : List Frame} (h : FR P T p fa fb) (ops : Array Oper) (i : Nat) (rest : List Nat) (k : List Item) (ht : fa.todo = .inRegion ops (i :: rest) :: k)
      (hd : okD T fa.fn ((ops[i]?).bind (·.dst)) = true) (hL : Waits P T p us vs) : Waits P T p (fa :: us) (fb :: vs)

/-- the first frames of the one who is called by value: on the way from a, b, p to p, a, b -/
def preF (t : Array Value) (n : Nat) (f : FuncId) (rid : Nat) (c : Code) (p a b : Value) : Nat → Frame
  | 0 => { fn := f, tmps := t, todo := [.code (.seq (.region rid (permOps n) false) c)], defers := [], mode := .run, kind := .normal }
  | 1 => { fn := f, tmps := t, todo := [.code (.region rid (permOps n) false), .code c], defers := [], mode := .run, kind := .normal }
  | 2 => { fn := f, tmps := t, todo := [.inRegion (permOps n) [0, 1, 2, 3], .code c], defers := [], mode := .run, kind := .normal }
  | 3 => { fn := f, tmps := t.setIfInBounds n a, todo := [.inRegion (permOps n) [1, 2, 3], .code c], defers := [], mode := .run, kind := .normal }
  | 4 => { fn := f, tmps := (t.setIfInBounds n a).setIfInBounds 0 p, todo := [.inRegion (permOps n) [2, 3], .code c], defers := [], mode := .run, kind := .normal }
  | 5 => { fn := f, tmps := ((t.setIfInBounds n a).setIfInBounds 0 p).setIfInBounds 2 b, todo := [.inRegion (permOps n) [3], .code c], defers := [], mode := .run, kind := .normal }
  | 6 => { fn := f, tmps := (((t.setIfInBounds n a).setIfInBounds 0 p).setIfInBounds 2 b).setIfInBounds 1 a, todo := [.inRegion (permOps n) [], .code c], defers := [], mode := .run, kind := .normal }
  | _ => { fn := f, tmps := (((t.setIfInBounds n a).setIfInBounds 0 p).setIfInBounds 2 b).setIfInBounds 1 a, todo := [.code c], defers := [], mode := .run, kind := .normal }

/-- the slots at the start -/
structure PreT (t : Array Value) (n : Nat) (p a b : Value) : Prop where
  size : t.size = n + 1
  q0 : t.getD 0 undef = a
  q1 : t.getD 1 undef = b
  q2 : t.getD 2 undef = p
  rest : ∀ s, 3 ≤ s → t.getD s undef = undef

theorem step_mv {Q : Program} {fr : Frame} {cs : List Frame} {w : World} {k : List Item} {ops : Array Oper} {i d s : Nat} {rest : List Nat} (hm : fr.mode = .run) (ht : fr.todo = .inRegion ops (i :: rest) :: k) (hr : fr.roundOf = none) (ho : ops[i]? = some (mv d s)) :
    step Q (lone fr cs w) = .next (lone { fr with tmps := fr.tmps.setIfInBounds d (fr.tmps.getD s undef), todo := .inRegion ops rest :: k } cs w) := by
  refine step_op_next (o := mv d s) hm ht hr ho rfl ?_
  show goesOn Q fr cs (.ok (.value (fr.eval (.tmp s))) w) = _
  simp only [goesOn, Frame.finish, ht, ho, Frame.eval]
  rfl

theorem pre_at (a b p : Value) (n : Nat) (hn : 3 ≤ n) : PreT (#[a, b, p] ++ Array.replicate (n + 1 - 3) undef) n p a b := by
  refine ⟨by simp; omega, ?_, ?_, ?_, fun s hs => ?_⟩
  · simp [Array.getD_eq_getD_getElem?, Array.getElem?_append]
  · simp [Array.getD_eq_getD_getElem?, Array.getElem?_append]
  · simp [Array.getD_eq_getD_getElem?, Array.getElem?_append]
  · simp only [Array.getD_eq_getD_getElem?]
    rw [Array.getElem?_append_right (by simpa using hs)]
    simp [Array.getElem?_replicate]
    split <;> rfl

theorem pre_step {Q : Program} {t : Array Value} {n : Nat} {f : FuncId} {rid : Nat} {c : Code} {a b : Value} {cs : List Frame} {w : World} (hn : 3 ≤ n) (h : PreT t n p a b) (j : Nat) (hj : j < 7) :
    step Q (lone (preF t n f rid c p a b j) cs w) = .next (lone (preF t n f rid c p a b (j + 1)) cs w) := by
  obtain ⟨hsz, q0, q1, q2, _⟩ := h
  match j, hj with
  | 0, _ => exact step_todo_seq rfl rfl
  | 1, _ => exact step_todo_region rfl rfl
  | 2, _ =>
    have := step_mv (Q := Q) (fr := preF t n f rid c p a b 2) (cs := cs) (w := w) (d := n) (s := 0) rfl rfl rfl rfl
    rw [this]
    have e : (preF t n f rid c p a b 2).tmps.getD 0 undef = a := q0
    rw [e]
    rfl
  | 3, _ =>
    have := step_mv (Q := Q) (fr := preF t n f rid c p a b 3) (cs := cs) (w := w) (d := 0) (s := 2) rfl rfl rfl rfl
    rw [this]
    have e : (preF t n f rid c p a b 3).tmps.getD 2 undef = p := by
      show (t.setIfInBounds n a).getD 2 undef = p
      rw [getD_set _ _ _ _ (by omega), if_neg (by omega)]
      exact q2
    rw [e]
    rfl
  | 4, _ =>
    have := step_mv (Q := Q) (fr := preF t n f rid c p a b 4) (cs := cs) (w := w) (d := 2) (s := 1) rfl rfl rfl rfl
    rw [this]
    have e : (preF t n f rid c p a b 4).tmps.getD 1 undef = b := by
      show ((t.setIfInBounds n a).setIfInBounds 0 p).getD 1 undef = b
      rw [getD_set _ _ _ _ (by simp; omega), if_neg (by omega), getD_set _ _ _ _ (by omega), if_neg (by omega)]
      exact q1
    rw [e]
    rfl
  | 5, _ =>
    have := step_mv (Q := Q) (fr := preF t n f rid c p a b 5) (cs := cs) (w := w) (d := 1) (s := n) rfl rfl rfl rfl
    rw [this]
    have e : (preF t n f rid c p a b 5).tmps.getD n undef = a := by
      show (((t.setIfInBounds n a).setIfInBounds 0 p).setIfInBounds 2 b).getD n undef = a
      rw [getD_set _ _ _ _ (by simp; omega), if_neg (by omega), getD_set _ _ _ _ (by simp; omega), if_neg (by omega), getD_set _ _ _ _ (by omega), if_pos rfl]
    rw [e]
    rfl
  | 6, _ => exact step_todo_done rfl rfl

/-- behind those first steps the frames are related -/
theorem pre_done (S : Setup P F T) {fn : Func} {c : Code} {rid : Nat} (h1 : P.funcs[T.cid]? = some fn) (hb : fn.body = some c) (hok : okCode P T T.cid c = true) (hn : fn.ntmps = T.n T.cid) (hn3 : 3 ≤ T.n T.cid) {a b : Value} {t : Array Value} (h : PreT t (T.n T.cid) p a b) :
    FR P T p (preF t (T.n T.cid) T.cid rid c p a b 7) (Frame.enter P T.cid #[p, a, b] .normal) := by
  obtain ⟨hsz, q0, q1, q2, qr⟩ := h
  have ht2 : (Frame.enter P T.cid #[p, a, b] .normal).tmps = #[p, a, b] ++ Array.replicate (T.n T.cid - 3) undef := by simp [Frame.enter, h1, hn]
  refine ⟨rfl, ?_, rfl, rfl, rfl, rfl, rfl, rfl, rfl, Or.inr rfl, ?_, ?_, fun s hs => ?_, ?_⟩
  · simp [Frame.enter, preF, h1, hb]
  · show T.n T.cid ≤ ((((t.setIfInBounds (T.n T.cid) a).setIfInBounds 0 p).setIfInBounds 2 b).setIfInBounds 1 a).size
    simp; omega
  · rw [ht2]
    show T.n T.cid ≤ _
    simp; omega
  · rw [ht2]
    show SlotR T p T.cid s (((((t.setIfInBounds (T.n T.cid) a).setIfInBounds 0 p).setIfInBounds 2 b).setIfInBounds 1 a).getD s undef) ((#[p, a, b] ++ Array.replicate (T.n T.cid - 3) undef).getD s undef)
    have e : ((((t.setIfInBounds (T.n T.cid) a).setIfInBounds 0 p).setIfInBounds 2 b).setIfInBounds 1 a).getD s undef = (#[p, a, b] ++ Array.replicate (T.n T.cid - 3) undef).getD s undef := by
      rw [getD_set _ _ _ _ (by simp; omega), getD_set _ _ _ _ (by simp; omega), getD_set _ _ _ _ (by simp; omega), getD_set _ _ _ _ (by omega)]
      have hs' : s < T.n T.cid := hs
      match s, hs' with
      | 0, _ => simp [Array.getD_eq_getD_getElem?, Array.getElem?_append]
      | 1, _ => simp [Array.getD_eq_getD_getElem?, Array.getElem?_append]
      | 2, _ => simp [Array.getD_eq_getD_getElem?, Array.getElem?_append]
      | s + 3, hs' =>
        rw [if_neg (by omega), if_neg (by omega), if_neg (by omega), if_neg (by omega), qr _ (by omega)]
        simp only [Array.getD_eq_getD_getElem?]
        rw [Array.getElem?_append_right (by simp)]
        simp [Array.getElem?_replicate]
        split <;> rfl
    rw [e]
    exact SlotR.eq T p (S.fsc s) _
  · simp [preF, okItem, hok]
end
end Go.Proofs.Ytalpfcckdjipoaa
