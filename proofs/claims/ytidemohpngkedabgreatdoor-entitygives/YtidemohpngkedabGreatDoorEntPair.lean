/-
  What an act does to an entity, as a plain machine. It names nothing of the program.
  The program's entity and the document's side by side; what moves the one leaves the other, and blocks that are neither's.
-/
import Derived.Test.YtidemohpngkedabGreatDoorEntPlain
import Derived.Test.YtidemohpngkedabGreatDoorCtrlMath
import Derived.Test.YtidemohpngkedabGreatDoorWaysMath
import Derived.Test.YtidemohpngkedabGreatDoorEntFrame
import Derived.Test.YtidemohpngkedabGreatDoorActE
import Derived.Test.YtidemohpngkedabGreatDoorEntAsks
import Derived.Test.YtidemohpngkedabGreatDoorRefMoves
namespace Go.Proofs.YtidemohpngkedabGreatDoor
open Go.RowKit
set_option linter.unusedVariables false
set_option maxRecDepth 100000

/-- the frame of an act -/
def Em.near (v n : Int) : Int := (v + n % 128) % 128
def Em.actF (e : Em.St) (q : ActE) : Em.Fr := if q.near then { q.f with nr := Em.near e.fl.va q.n, ns := Em.near e.fl.vr q.m } else q.f
/-- an act -/
def Em.stp (e : Em.St) (q : ActE) : Em.St × Int :=
  if q.d.tmod 6 = 0 then Em.ask e q.ask q.data
  else if q.d.tmod 6 = 2 ∨ q.d.tmod 6 = -2 then (Em.timeout e q.timer, 0)
  else if q.d.tmod 6 = 3 ∨ q.d.tmod 6 = -3 then Em.assign e q.tei
  else if q.d.tmod 6 = 4 ∨ q.d.tmod 6 = -4 then Em.remove e
  else (Em.frame e (Em.may (Em.actF e q)) (Em.actF e q), 0)
/-- between calls -/
def Em.rest (e : Em.St) : Em.St := { e with out := [] }
def Em.nxt (e : Em.St) (q : ActE) : Em.St := Em.rest (Em.stp e q).1
theorem Em.near_range (v n : Int) : 0 ≤ Em.near v n ∧ Em.near v n ≤ 127 := by unfold Em.near; omega
theorem Em.actF_range (e : Em.St) (q : ActE) (h : q.Ok) : I64 (Em.actF e q).ns ∧ I64 (Em.actF e q).nr ∧ (Em.actF e q).info.size ≤ 9223372036854775807 := by
  unfold Em.actF
  split
  · have h1 := Em.near_range e.fl.va q.n
    have h2 := Em.near_range e.fl.vr q.m
    exact ⟨⟨by show _ ≤ Em.near e.fl.vr q.m; omega, by show Em.near e.fl.vr q.m ≤ _; omega⟩, ⟨by show _ ≤ Em.near e.fl.va q.n; omega, by show Em.near e.fl.va q.n ≤ _; omega⟩, h.f.info⟩
  · exact ⟨h.f.ns, h.f.nr, h.f.info⟩
theorem Em.stp_ok {e : Em.St} (h : Em.Ok e) (q : ActE) (hq : q.Ok) : Em.Ok (Em.stp e q).1 := by
  unfold Em.stp
  split
  · exact Em.ask_ok h _ _
  · split
    · exact Em.timeout_ok h _
    · split
      · exact Em.assign_ok h _
      · split
        · exact Em.remove_ok h
        · exact Em.frame_ok h _ _
theorem Em.stp_tm {e : Em.St} (ho : Em.Ok e) (h : Em.Tm e) (q : ActE) : Em.Tm (Em.stp e q).1 := by
  unfold Em.stp
  split
  · exact Em.ask_tm h _ _
  · split
    · exact Em.timeout_tm h ho _
    · split
      · exact Em.assign_tm h _
      · split
        · exact Em.remove_tm h
        · exact Em.frame_tm h ho _ _
/-- what is refused tells nothing -/
theorem Em.est_err (e : Em.St) (h : (Em.establish e).2 ≠ 0) : (Em.establish e).1.out = e.out := by
  unfold Em.establish at h ⊢
  repeat' split
  all_goals first | rfl | (exfalso; simp_all)
theorem Em.rel_err (e : Em.St) (h : (Em.release e).2 ≠ 0) : (Em.release e).1.out = e.out := by
  unfold Em.release at h ⊢
  repeat' split
  all_goals first | rfl | (exfalso; simp_all)
theorem Em.data_err (e : Em.St) (s : ByteArray) (h : (Em.data e s).2 ≠ 0) : (Em.data e s).1.out = e.out := by
  unfold Em.data at h ⊢
  split
  · rename_i hm
    rw [if_pos hm] at h
    show (if Qm.pushN e.fl.mo e.fl.L s = 0 then _ else e).out = _
    rw [if_neg h]
  · rfl
theorem Em.units_err (e : Em.St) (s : ByteArray) (h : (Em.units e s).2 ≠ 0) : (Em.units e s).1.out = e.out := by
  unfold Em.units at h ⊢
  repeat' split
  all_goals first | rfl | (exfalso; simp_all)
theorem Em.busy_err (e : Em.St) (b : Bool) (h : (Em.busy e b).2 ≠ 0) : (Em.busy e b).1.out = e.out := by
  unfold Em.busy at h ⊢
  split
  · rename_i hm
    rw [if_pos hm] at h
    exact absurd rfl h
  · rfl
theorem Em.stp_err {e : Em.St} {q : ActE} (h : (Em.stp e q).2 ≠ 0) : (Em.stp e q).1.out = [] := by
  unfold Em.stp at h ⊢
  split
  · rename_i h0
    rw [if_pos h0] at h
    unfold Em.ask at h ⊢
    simp only [] at h ⊢
    split
    · rfl
    · rename_i h1
      rw [if_neg h1] at h
      split
      · rfl
      · rename_i h2
        rw [if_neg h2] at h
        split
        · rename_i h3; rw [if_pos h3] at h; exact Em.est_err _ h
        · rename_i h3
          rw [if_neg h3] at h
          split
          · rename_i h4; rw [if_pos h4] at h; exact Em.rel_err _ h
          · rename_i h4
            rw [if_neg h4] at h
            split
            · rename_i h5; rw [if_pos h5] at h; exact Em.data_err _ _ h
            · rename_i h5
              rw [if_neg h5] at h
              split
              · rename_i h6; rw [if_pos h6] at h; exact Em.units_err _ _ h
              · rename_i h6; rw [if_neg h6] at h; exact Em.busy_err _ _ h
  · rename_i h0
    rw [if_neg h0] at h
    split
    · rename_i h1; rw [if_pos h1] at h; exact absurd rfl h
    · rename_i h1
      rw [if_neg h1] at h
      split
      · rename_i h2
        rw [if_pos h2] at h
        unfold Em.assign at h ⊢
        simp only [] at h ⊢
        split
        · rfl
        · rename_i h3
          rw [if_neg h3] at h
          split
          · rfl
          · rename_i h4
            rw [if_neg h4] at h
            exact absurd rfl h
      · rename_i h2
        rw [if_neg h2] at h
        split
        · rename_i h3
          rw [if_pos h3] at h
          unfold Em.remove at h ⊢
          simp only [] at h ⊢
          split
          · rfl
          · rename_i h4
            rw [if_neg h4] at h
            exact absurd rfl h
        · rename_i h3; rw [if_neg h3] at h; exact absurd rfl h
end Go.Proofs.YtidemohpngkedabGreatDoor

namespace Go.Proofs.YtidemohpngkedabGreatDoor
open Go.RowKit
set_option linter.unusedVariables false
set_option maxRecDepth 100000
set_option linter.unusedSimpArgs false

/-- e the program's, r the document's; below b all is as in W0; the blocks F are neither's -/
structure Pr14 (b : Nat) (W0 w : World) (F : Nat → Prop) (C R : Nat) (e r : Em.St) : Prop where
  qu : ∃ lc lr, Ent C w lc e ∧ Rn R w lr r ∧ (∀ k, k < w.heap.size → lc k = 0 ∨ lr k = 0) ∧ (∀ k, k < b → lc k = 0 ∧ lr k = 0) ∧ ∀ k, F k → k < w.heap.size ∧ lc k = 0 ∧ lr k = 0
  bel : Below b W0 w
  bs : b ≤ w.heap.size
/-- what is moved: what isn't free, from b on -/
def Mov (b : Nat) (F : Nat → Prop) (w w' : World) : Prop := Kept w w' (fun k => b ≤ k ∧ ¬ F k)
section
variable {b : Nat} {W0 w w' : World} {F F' : Nat → Prop} {C R : Nat} {e r e1 r1 : Em.St}
theorem Pr14.weak (h : Pr14 b W0 w F C R e r) (hF : ∀ k, F' k → F k) : Pr14 b W0 w F' C R e r := by
  obtain ⟨lc, lr, h1, h2, h3, h4, h5⟩ := h.qu
  exact ⟨⟨lc, lr, h1, h2, h3, h4, fun k hk => h5 k (hF k hk)⟩, h.bel, h.bs⟩
/-- new memory, which is neither's -/
theorem Pr14.below (h : Pr14 b W0 w F C R e r) (hb : Below w.heap.size w w') (hF : ∀ k, F' k → F k ∨ (w.heap.size ≤ k ∧ k < w'.heap.size)) : Pr14 b W0 w' F' C R e r := by
  obtain ⟨lc, lr, h1, h2, h3, h4, h5⟩ := h.qu
  have hbs := h.bs
  refine ⟨⟨fresh lc w.heap.size 0, fresh lr w.heap.size 0, h1.below hb, (h2.relab (fun k hk => fresh_old hk)).below hb, fun k hk => ?_, fun k hk => ?_, fun k hk => ?_⟩, h.bel.trans (hb.mono h.bs), Nat.le_trans h.bs hb.size⟩
  · rcases Nat.lt_or_ge k w.heap.size with h' | h'
    · rw [fresh_old h', fresh_old h']; exact h3 k h'
    · rw [fresh_new h']; exact Or.inl rfl
  · rw [fresh_old (by omega), fresh_old (by omega)]; exact h4 k hk
  · rcases hF k hk with h' | ⟨h', h''⟩
    · obtain ⟨x1, x2, x3⟩ := h5 k h'
      rw [fresh_old x1, fresh_old x1]
      exact ⟨Nat.lt_of_lt_of_le x1 hb.size, x2, x3⟩
    · rw [fresh_new h', fresh_new h']
      exact ⟨h'', rfl, rfl⟩
theorem Pr14.same (h : Pr14 b W0 w F C R e r) (hb : Below w.heap.size w w') : Pr14 b W0 w' F C R e r := h.below hb (fun k hk => Or.inl hk)
/-- a store into a free block -/
theorem Pr14.free (h : Pr14 b W0 w F C R e r) {T : Nat → Prop} (hk : Kept w w' T) (hT : ∀ k, T k → F k ∧ b ≤ k) : Pr14 b W0 w' F C R e r := by
  obtain ⟨lc, lr, h1, h2, h3, h4, h5⟩ := h.qu
  have hbs := h.bs
  have n1 : ∀ k, k < w.heap.size → lc k ≠ 0 → ¬ T k := fun k hlt hn hx => hn (h5 k (hT k hx).1).2.1
  have n2 : ∀ k, k < w.heap.size → lr k ≠ 0 → ¬ T k := fun k hlt hn hx => hn (h5 k (hT k hx).1).2.2
  refine ⟨⟨fresh lc w.heap.size 0, fresh lr w.heap.size 0, ⟨h1.en.kept hk n1 (fun k hlt => fresh_old hlt), h1.out, fun k hk => ?_, h1.ok, h1.tm⟩, h2.kept hk n2 (fun k hlt => fresh_old hlt), fun k hk => ?_, fun k hk => ?_, fun k hk' => ?_⟩, h.bel.trans (hk.below h.bs (fun k hx => (hT k hx).2)), Nat.le_trans h.bs hk.size⟩
  · rcases Nat.lt_or_ge k w.heap.size with h' | h'
    · rw [fresh_old h']; exact h1.n5 k h'
    · rw [fresh_new h']; decide
  · rcases Nat.lt_or_ge k w.heap.size with h' | h'
    · rw [fresh_old h', fresh_old h']; exact h3 k h'
    · rw [fresh_new h']; exact Or.inl rfl
  · rw [fresh_old (by omega), fresh_old (by omega)]; exact h4 k hk
  · obtain ⟨x1, x2, x3⟩ := h5 k hk'
    rw [fresh_old x1, fresh_old x1]
    exact ⟨Nat.lt_of_lt_of_le x1 hk.size, x2, x3⟩
/-- the program's is moved -/
theorem Pr14.first (h : Pr14 b W0 w F C R e r) : ∃ lc, Ent C w lc e ∧ ∀ w' v e1, Told C w w' lc v e1 →
    w'.ownsRow w.heap.size 57 11 v e1.out.length (effsL e1.out) ∧ Pr14 b W0 w' (fun k => F k ∨ v.ownBlock = some k) C R (Em.rest e1) r ∧ Mov b F w w' := by
  obtain ⟨lc, lr, h1, h2, h3, h4, h5⟩ := h.qu
  have hbs := h.bs
  refine ⟨lc, h1, fun w' v e1 ht => ?_⟩
  obtain ⟨a, cap, lc', rfl, ho, hE, hk, hl, hz⟩ := ht
  have hg : ∀ B, (Value.slice a e1.out.length cap).ownBlock = some B → w.heap.size ≤ B ∧ B < w'.heap.size := fun B hB => ⟨by
    rcases ho.2 with ⟨h0, _⟩ | ⟨g, c, cur, hv, hb, _⟩
    · rw [h0] at hB; cases hB
    · rw [hv] at hB
      have : g = B := by simpa [Value.ownBlock] using hB
      omega, owns_blt ho hB⟩
  refine ⟨ho, ⟨⟨lc', fresh lr w.heap.size 0, hE, h2.kept hk (fun k hlt hn hx => ?_) (fun k hlt => fresh_old hlt), fun k hk' => ?_, fun k hk' => ?_, fun k hk' => ?_⟩, h.bel.trans (hk.below h.bs (fun k hx => ?_)), Nat.le_trans h.bs hk.size⟩, hk.mono (fun k hlt hx => ⟨?_, fun hF => hx (h5 k hF).2.1⟩)⟩
  · rcases h3 k hlt with h' | h'
    · exact hx h'
    · exact hn h'
  · rcases Nat.lt_or_ge k w.heap.size with h' | h'
    · rw [fresh_old h', hl k h']; exact h3 k h'
    · rw [fresh_new h']; exact Or.inr rfl
  · rw [hl k (by omega), fresh_old (by omega)]; exact h4 k hk'
  · rcases hk' with h' | h'
    · obtain ⟨x1, x2, x3⟩ := h5 k h'
      rw [hl k x1, fresh_old x1]
      exact ⟨Nat.lt_of_lt_of_le x1 hk.size, x2, x3⟩
    · obtain ⟨x1, x2⟩ := hg k h'
      rw [fresh_new x1]
      exact ⟨x2, hz k h', rfl⟩
  · rcases Nat.lt_or_ge k b with h' | h'
    · exact absurd (h4 k h').1 hx
    · exact h'
  · rcases Nat.lt_or_ge k b with h' | h'
    · exact absurd (h4 k h').1 hx
    · exact h'
/-- the document's is moved -/
theorem Pr14.second (h : Pr14 b W0 w F C R e r) : ∃ lr, Rn R w lr r ∧ ∀ w' r1, Mv (Rn R) w w' lr r1 → Pr14 b W0 w' F C R e r1 ∧ Mov b F w w' := by
  obtain ⟨lc, lr, h1, h2, h3, h4, h5⟩ := h.qu
  have hbs := h.bs
  refine ⟨lr, h2, fun w' r1 hm => ?_⟩
  obtain ⟨lr', hR, hk, hl⟩ := hm
  refine ⟨⟨⟨fresh lc w.heap.size 0, lr', ⟨h1.en.kept hk (fun k hlt hn hx => ?_) (fun k hlt => fresh_old hlt), h1.out, fun k hk => ?_, h1.ok, h1.tm⟩, hR, fun k hk' => ?_, fun k hk' => ?_, fun k hk' => ?_⟩, h.bel.trans (hk.below h.bs (fun k hx => ?_)), Nat.le_trans h.bs hk.size⟩, hk.mono (fun k hlt hx => ⟨?_, fun hF => hx (h5 k hF).2.2⟩)⟩
  · rcases h3 k hlt with h' | h'
    · exact hn h'
    · exact hx h'
  · rcases Nat.lt_or_ge k w.heap.size with h' | h'
    · rw [fresh_old h']; exact h1.n5 k h'
    · rw [fresh_new h']; decide
  · rcases Nat.lt_or_ge k w.heap.size with h' | h'
    · rw [fresh_old h', hl k h']; exact h3 k h'
    · rw [fresh_new h']; exact Or.inl rfl
  · rw [fresh_old (by omega), hl k (by omega)]; exact h4 k hk'
  · obtain ⟨x1, x2, x3⟩ := h5 k hk'
    rw [fresh_old x1, hl k x1]
    exact ⟨Nat.lt_of_lt_of_le x1 hk.size, x2, x3⟩
  · rcases Nat.lt_or_ge k b with h' | h'
    · exact absurd (h4 k h').2 hx
    · exact h'
  · rcases Nat.lt_or_ge k b with h' | h'
    · exact absurd (h4 k h').2 hx
    · exact h'
theorem Mov.trans {w1 : World} (h : Mov b F w w1) (h2 : Mov b F w1 w') : Mov b F w w' := Kept.trans h h2 (fun k _ x => x)
theorem Mov.of_below (hb : Below w.heap.size w w') : Mov b F w w' := Kept.of_below hb (fun k hk h' => by omega)
theorem Mov.weak (h : Mov b F' w w') (hF : ∀ k, k < w.heap.size → F k → F' k) : Mov b F w w' := Kept.mono h (fun k hlt hx => ⟨hx.1, fun hf => hx.2 (hF k hlt hf)⟩)
/-- what is free is as it was -/
theorem Mov.cell (h : Mov b F w w') {p : Addr} (hp : p.block < w.heap.size) (hF : F p.block) : w'.cell? p = w.cell? p := Kept.cell h hp (fun hx => hx.2 hF)
theorem Mov.owns (h : Mov b F w w') {base : Nat} {ty : TypeId} {sz n : Nat} {v : Value} {xs : List Value} (ho : w.ownsRow base ty sz v n xs) (hF : ∀ B, v.ownBlock = some B → F B) : w'.ownsRow base ty sz v n xs := Kept.owns h ho (fun k hk hx => hx.2 (hF k hk))
theorem owns_max {base : Nat} {ty : TypeId} {sz n : Nat} {v : Value} {xs : List Value} (h : w.ownsRow base ty sz v n xs) : n ≤ 9223372036854775807 := by
  rcases h.2 with ⟨_, h0⟩ | ⟨g, cap, cur, _, _, _, h1, h2, _⟩
  · omega
  · unfold maxLen at h2; omega
/-- a call of the program's -/
theorem Pr14.calls1 (h : Pr14 b W0 w F C R e r) {f : Nat} {args : Array Value} {ans : Value → Value} (hc : ∀ lc, Ent C w lc e → Calls Tryz.prog f args w fun x w' => ∃ v, x = .returned (ans v) ∧ Told C w w' lc v e1) :
    Calls Tryz.prog f args w fun x w' => ∃ a n cap, x = .returned (ans (.slice a n cap)) ∧ e1.out.length = n ∧ n ≤ 9223372036854775807 ∧ w'.ownsRow w.heap.size 57 11 (.slice a n cap) n (effsL e1.out) ∧ Pr14 b W0 w' (fun k => F k ∨ (Value.slice a n cap).ownBlock = some k) C R (Em.rest e1) r ∧ Mov b F w w' := by
  obtain ⟨lc, hE, hn⟩ := h.first
  refine (hc lc hE).mono ?_
  rintro x w' ⟨v, rfl, ht⟩
  obtain ⟨ho, hP, hM⟩ := hn _ _ _ ht
  have hf : ∃ a cap, v = .slice a e1.out.length cap := by
    obtain ⟨a, cap, lc', hv, _⟩ := ht
    exact ⟨a, cap, hv⟩
  obtain ⟨a, cap, rfl⟩ := hf
  exact ⟨a, _, cap, rfl, rfl, owns_max ho, ho, hP, hM⟩
/-- a call of the document's -/
theorem Pr14.calls2 (h : Pr14 b W0 w F C R e r) {f : Nat} {args : Array Value} {A : Ending} (hc : ∀ lr, Rn R w lr r → Calls Tryz.prog f args w fun x w' => x = A ∧ Mv (Rn R) w w' lr r1) :
    Calls Tryz.prog f args w fun x w' => x = A ∧ Pr14 b W0 w' F C R e r1 ∧ Mov b F w w' := by
  obtain ⟨lr, hR, hn⟩ := h.second
  exact (hc lr hR).mono fun x w' hx => ⟨hx.1, hn _ _ hx.2⟩
theorem Pr14.outR (h : Pr14 b W0 w F C R e r) : ∃ a cap, w.cell? ⟨R, 9, none⟩ = some (.slice a r.out.length cap) ∧ w.ownsRow 0 135 11 (.slice a r.out.length cap) r.out.length (effsL r.out) ∧ R < w.heap.size := by
  obtain ⟨lc, lr, h1, h2, _⟩ := h.qu
  obtain ⟨a, cap, c1, c2, _⟩ := h2.ot
  exact ⟨a, cap, c1, c2, h2.cs.lt⟩
theorem Pr14.ok (h : Pr14 b W0 w F C R e r) : Em.Ok e ∧ Em.Tm e ∧ e.out = [] := by
  obtain ⟨lc, lr, h1, h2, _⟩ := h.qu
  exact ⟨h1.ok, h1.tm, h1.out⟩
theorem Pr14.flt (h : Pr14 b W0 w F C R e r) {k : Nat} (hk : F k) : k < w.heap.size := by
  obtain ⟨lc, lr, _, _, _, _, h5⟩ := h.qu
  exact (h5 k hk).1
end
end Go.Proofs.YtidemohpngkedabGreatDoor
