/-
  The whole run: a function of the family, called with the closure in one program, and with the method value in the other one, comes to the same.
-/
import Derived.Test.YtalpfcckdjipoaaSimEnd
namespace Go.Proofs.Ytalpfcckdjipoaa
set_option linter.unusedVariables false
set_option linter.unusedSimpArgs false

section
variable {P : Program} {F : Array Func} {T : Plan} {p : Value}

theorem ok_mk {f : Nat} {x : Item} {k : List Item} (h : okItem P T f x = true) (hk : k.all (okItem P T f) = true) : (x :: k).all (okItem P T f) = true := by rw [List.all_cons, h, hk]; rfl

theorem lock (S : Setup P F T) {fa fb : Frame} (h : FR P T p fa fb) {us vs : List Frame} (hL : Waits P T p us vs) (w : World) (ca cs : List Frame) :
    Ends (withF P F) (lone fa (us ++ ca) w) ∨ Both P F T p ca cs (lone fa (us ++ ca) w) (lone fb (vs ++ cs) w) ∨ (us = [] ∧ fa.mode ≠ .run) := by
  cases hm : fa.mode with
  | run =>
    have hm' : fb.mode = .run := h.mode.trans hm
    have to : ∀ k', k'.all (okItem P T fa.fn) = true → step (withF P F) (lone fa (us ++ ca) w) = .next (lone { fa with todo := k' } (us ++ ca) w) → step P (lone fb (vs ++ cs) w) = .next (lone { fb with todo := k' } (vs ++ cs) w) →
        Both P F T p ca cs (lone fa (us ++ ca) w) (lone fb (vs ++ cs) w) := fun k' hk s1 s2 => ⟨_, _, us, vs, w, s1, s2, Or.inl (h.todo_to k' hk), hL⟩
    have hok := h.ok
    cases ht : fa.todo with
    | nil =>
      have ht' : fb.todo = [] := h.todo.trans ht
      exact Or.inr (Or.inl ⟨_, _, us, vs, w, step_todo_nil hm ht h.ra, step_todo_nil hm' ht' h.rb, Or.inl (h.mode_to _), hL⟩)
    | cons x k =>
      have ht' : fb.todo = x :: k := h.todo.trans ht
      rw [ht] at hok
      obtain ⟨hx, hk⟩ := ok_cons hok
      cases x with
      | code c =>
        have hc : okCode P T fa.fn c = true := hx
        cases c with
        | skip => exact Or.inr (Or.inl (to k hk (step_todo_skip hm ht) (step_todo_skip hm' ht')))
        | ret => exact Or.inr (Or.inl ⟨_, _, us, vs, w, step_todo_ret hm ht h.ra, step_todo_ret hm' ht' h.rb, Or.inl (h.mode_to _), hL⟩)
        | seq a b =>
          simp only [okCode, Bool.and_eq_true] at hc
          exact Or.inr (Or.inl (to (.code a :: .code b :: k) (ok_mk hc.1 (ok_mk hc.2 hk)) (step_todo_seq hm ht) (step_todo_seq hm' ht')))
        | cond c a b =>
          simp only [okCode, Bool.and_eq_true] at hc
          have e := h.evalX hc.1.1
          by_cases hb : ∃ t, fa.eval c = .bool t
          · obtain ⟨t, hb⟩ := hb
            refine Or.inr (Or.inl (to (.code (if t then a else b) :: k) ?_ (step_todo_cond hm ht hb) (step_todo_cond hm' ht' (e ▸ hb))))
            cases t
            · exact ok_mk hc.2 hk
            · exact ok_mk hc.1.2 hk
          · exact Or.inl (step_todo_cond_bad hm ht (fun t he => hb ⟨t, he⟩))
        | block id a =>
          simp only [okCode] at hc
          exact Or.inr (Or.inl (to (.code a :: .inBlock id :: k) (ok_mk hc (ok_mk rfl hk)) (step_todo_block hm ht) (step_todo_block hm' ht')))
        | loop a =>
          simp only [okCode] at hc
          exact Or.inr (Or.inl (to (.code a :: .inLoop a :: k) (ok_mk hc (ok_mk hc hk)) (step_todo_loop hm ht) (step_todo_loop hm' ht')))
        | exit id =>
          cases he : exitTo id k with
          | none => exact Or.inl (step_todo_exit_bad hm ht he h.ra)
          | some k' => exact Or.inr (Or.inl (to k' (ok_exit hk he) (step_todo_exit hm ht he) (step_todo_exit hm' ht' he)))
        | region id ops draw =>
          simp only [okCode] at hc
          cases draw with
          | false => exact Or.inr (Or.inl (to (.inRegion ops (List.range ops.size) :: k) (ok_mk hc hk) (step_todo_region hm ht) (step_todo_region hm' ht')))
          | true =>
            obtain ⟨l, w', s1, s2⟩ := step_todo_draw (Q := withF P F) (cs := us ++ ca) (w := w) hm ht
            exact Or.inr (Or.inl ⟨_, _, us, vs, w', s1, s2 P fb (vs ++ cs) rfl hm' ht' h.fn, Or.inl (h.todo_to _ (ok_mk hc hk)), hL⟩)
        | _ => simp [okCode] at hc
      | inBlock id => exact Or.inr (Or.inl (to k hk (step_todo_inBlock hm ht) (step_todo_inBlock hm' ht')))
      | inLoop a =>
        have hc : okCode P T fa.fn a = true := hx
        exact Or.inr (Or.inl (to (.code a :: .inLoop a :: k) (ok_mk hc (ok_mk hc hk)) (step_todo_inLoop hm ht) (step_todo_inLoop hm' ht')))
      | inRegion ops l =>
        cases l with
        | nil => exact Or.inr (Or.inl (to k hk (step_todo_done hm ht) (step_todo_done hm' ht')))
        | cons i rest =>
          rcases lock_op S h hL w ca cs hm ht with h1 | h1
          · exact Or.inl h1
          · exact Or.inr (Or.inl h1)
      | _ => simp [okItem] at hx
  | returning =>
    cases hL with
    | nil => exact Or.inr (Or.inr ⟨rfl, by simp⟩)
    | @cons ga gb us vs hg ops i rest k ht hd hL =>
      obtain ⟨fn, fn', h1, h2, hr, hok⟩ := h.func S
      obtain ⟨v, v1, v2⟩ := results_eq h hok (withF P F) P fn' fn hr rfl w
      have s1 := step_return (Q := withF P F) (c := ga) (cs := us ++ ca) hm h.da h.ka h2 v1
      have s2 := step_return (Q := P) (fr := fb) (c := gb) (cs := vs ++ cs) (h.mode.trans hm) h.db h.kb (by rw [h.fn]; exact h1) v2
      refine Or.inr (Or.inl ⟨_, _, us, vs, w, s1, s2, Or.inl (hg.finish ht v v (fun d hd' => ?_)), hL⟩)
      rw [hd'] at hd
      obtain ⟨g1, g2⟩ := okD_slot hd
      exact ⟨g1, SlotR.eq T p g2 _⟩
  | panicking chain =>
    cases hL with
    | nil => exact Or.inr (Or.inr ⟨rfl, by simp⟩)
    | @cons ga gb us vs hg ops i rest k ht hd hL =>
      obtain ⟨fn, fn', h1, h2, hr, hok⟩ := h.func S
      have s1 := step_panics (Q := withF P F) (c := ga) (cs := us ++ ca) (w := w) hm h.da h2
      have s2 := step_panics (Q := P) (fr := fb) (c := gb) (cs := vs ++ cs) (w := w) (h.mode.trans hm) h.db (by rw [h.fn]; exact h1)
      exact Or.inr (Or.inl ⟨_, _, us, vs, w, s1, s2, Or.inl (hg.raise chain), hL⟩)

/-- who lies beneath all: whatever comes to it ends the run -/
def trap : Frame := { fn := 0, tmps := #[], todo := [], defers := [{ target := .fn (.method "") #[], args := #[] }], mode := .run, kind := .normal }

theorem trap_unwinds (Q : Program) (m : FrameMode) (hm : m ≠ .run) (w : World) : Ends Q (lone { trap with mode := m } [] w) := by
  refine ⟨.stuck "call: a method without a receiver" (Frame.pos Q { trap with mode := m, defers := [] }), w, step_lone_ended ?_⟩
  cases m with
  | run => exact absurd rfl hm
  | returning => simp [stepG, unwind, callDeferred, trap, invoke, stuck, Sem.run]
  | panicking c => simp [stepG, unwind, callDeferred, trap, invoke, stuck, Sem.run]

theorem lone_inj {fa fb : Frame} {cs ds : List Frame} {w v : World} (h : lone fa cs w = lone fb ds v) : fa = fb ∧ cs = ds ∧ w = v := by
  unfold lone at h
  injection h with h1 h2 h3
  have : ({ frame := fa, callers := cs, status := .running, dying := none } : Goroutine) = { frame := fb, callers := ds, status := .running, dying := none } := by
    have := congrArg (fun a : Array Goroutine => a[0]?) h2
    simpa using this
  injection this with e1 e2
  exact ⟨e1, e2, h1⟩

theorem runN_ends {Q : Program} {m : Machine} (h : Ends Q m) (n : Nat) (m' : Machine) : runN Q (n + 1) m ≠ .next m' := by
  obtain ⟨o, w, h⟩ := h
  simp [runN, h]

/-- a frame that leaves, with only the trap beneath it, never comes back -/
theorem leaves_never (S : Setup P F T) {fa fb : Frame} (h : FR P T p fa fb) (hm : fa.mode ≠ .run) (w we : World) (fe : Frame) (n : Nat) : runN (withF P F) (n + 1) (lone fa [trap] w) ≠ .next (lone fe [trap] we) := by
  obtain ⟨fn, fn', h1, h2, hr, hok⟩ := h.func S
  have two : ∀ (m : FrameMode), m ≠ .run → ∀ n, runN (withF P F) n (lone { trap with mode := m } [] w) ≠ .next (lone fe [trap] we) := by
    intro m hm n
    cases n with
    | zero => intro e; simp only [runN] at e; injection e with e; exact absurd (lone_inj e).2.1 (by simp)
    | succ n => exact runN_ends (trap_unwinds _ m hm w) n _
  cases hm' : fa.mode with
  | run => exact absurd hm' hm
  | returning =>
    obtain ⟨v, v1, v2⟩ := results_eq h hok (withF P F) P fn' fn hr rfl w
    have s1 := step_return (Q := withF P F) (c := trap) (cs := []) hm' h.da h.ka h2 v1
    have e0 : trap.finish v = trap := rfl
    rw [e0] at s1
    intro e
    simp only [runN, s1] at e
    cases n with
    | zero => simp only [runN] at e; injection e with e; exact absurd (lone_inj e).2.1 (by simp)
    | succ n =>
      have s2 : step (withF P F) (lone trap [] w) = .next (lone { trap with mode := .returning } [] w) := step_todo_nil rfl rfl rfl
      simp only [runN, s2] at e
      exact two .returning (by simp) n e
  | panicking chain =>
    have s1 := step_panics (Q := withF P F) (c := trap) (cs := []) (w := w) hm' h.da h2
    have e0 : trap.raise chain = { trap with mode := .panicking chain } := rfl
    rw [e0] at s1
    intro e
    simp only [runN, s1] at e
    exact two (.panicking chain) (by simp) n e

theorem sim (S : Setup P F T) (cs : List Frame) (fe : Frame) (we : World) (hfe : fe.mode = .returning) : ∀ (n : Nat) (fa fb : Frame) (us vs : List Frame) (w : World), Top P F T p fa fb → Waits P T p us vs →
    runN (withF P F) n (lone fa (us ++ [trap]) w) = .next (lone fe [trap] we) → ∃ fe', Steps P (lone fb (vs ++ cs) w) (lone fe' cs we) ∧ FR P T p fe fe'
  | 0, fa, fb, us, vs, w, hT, hL, hr => by
    simp only [runN] at hr
    injection hr with hr
    obtain ⟨e1, e2, e3⟩ := lone_inj hr
    subst e1 e3
    cases hL with
    | nil =>
      rcases hT with h | ⟨fn, c, rid, t, a, b, j, hj, _, _, _, _, _, _, e, _⟩
      · exact ⟨fb, Steps.refl _ _, h⟩
      · subst e
        match j, hj with
        | 0, _ => cases hfe
        | 1, _ => cases hfe
        | 2, _ => cases hfe
        | 3, _ => cases hfe
        | 4, _ => cases hfe
        | 5, _ => cases hfe
        | 6, _ => cases hfe
    | cons h ops i rest k ht hd hL' => simp at e2
  | n + 1, fa, fb, us, vs, w, hT, hL, hr => by
    rcases hT with h | ⟨fn, c, rid, t, a, b, j, hj, h1, hb, hok, hn, hn3, hpre, rfl, rfl⟩
    · rcases lock S h hL w [trap] cs with he | ⟨fa', fb', us', vs', w', s1, s2, hT', hL'⟩ | ⟨rfl, hmode⟩
      · exact absurd hr (runN_ends he n _)
      · simp only [runN, s1] at hr
        obtain ⟨fe', hs, hf⟩ := sim S cs fe we hfe n fa' fb' us' vs' w' hT' hL' hr
        exact ⟨fe', Steps.head s2 hs, hf⟩
      · exact absurd hr (leaves_never S h hmode w we fe n)
    · have s1 := pre_step (Q := withF P F) (f := T.cid) (rid := rid) (c := c) (cs := us ++ [trap]) (w := w) hn3 hpre j hj
      simp only [runN, s1] at hr
      refine sim S cs fe we hfe n _ _ us vs w ?_ hL hr
      by_cases h7 : j + 1 < 7
      · exact Or.inr ⟨fn, c, rid, t, a, b, j + 1, h7, h1, hb, hok, hn, hn3, hpre, rfl, rfl⟩
      · obtain rfl : j = 6 := by omega
        exact Or.inl (pre_done S h1 hb hok hn hn3 hpre)

/-- THE SAME COMES OF BOTH. -/
theorem calls_over (S : Setup P F T) {g : Nat} (hg : T.fam g = true) (xs ys : Array Value) (hsz : xs.size = ys.size) (hle : xs.size ≤ T.n g) (hxy : ∀ i, i < xs.size → SlotR T p g i (xs.getD i undef) (ys.getD i undef)) (w : World) {R : Ending → World → Prop}
    (h : Calls (withF P F) g xs w fun e w' => (∃ v, e = .returned v) ∧ R e w') : Calls P g ys w R := by
  intro cs
  obtain ⟨e, w', fr, ⟨⟨v, rfl⟩, hR⟩, hc, hfn, hleave⟩ := h [trap]
  obtain ⟨hmode, hdef, hkind, fn', hf', hres⟩ := hleave
  obtain ⟨n, hn⟩ := hc
  obtain ⟨fe', hs, hf⟩ := sim S cs fr w' hmode n _ _ [] [] w (Or.inl (enter_FR S hg xs ys hsz hle hxy)) Waits.nil hn
  obtain ⟨fn, fn2, h1, h2, hr, hok⟩ := hf.func S
  have hf2 : (withF P F).funcs[fr.fn]? = some fn2 := h2
  rw [hf2] at hf'
  injection hf' with hf'
  subst hf'
  obtain ⟨v', v1, v2⟩ := results_eq hf hok (withF P F) P fn2 fn hr rfl w'
  rw [v1] at hres
  injection hres with hres
  subst hres
  exact ⟨.returned v', w', fe', hR, hs, by rw [hf.fn]; exact hfn, hf.mode.trans hmode, hf.db, hf.kb, fn, by rw [hf.fn]; exact h1, v2⟩
end
end Go.Proofs.Ytalpfcckdjipoaa
