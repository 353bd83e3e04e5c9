/-
  A queue of the call's own, and a call's data in a block beside it that stands.
-/
import Derived.Test.YteppelahpbgmjaaQueOwn
import Derived.Test.YteppelahpbgmjaaQActRows
namespace Go.Proofs.Yteppelahpbgmjaa
open Go.RowKit
set_option linter.unusedVariables false
set_option linter.unusedSimpArgs false

structure OwnA (b : Nat) (W0 w : World) (C : Nat) (mo : Int) (s : Nat) (q : ActV) (L : List ByteArray) (sn : Nat) : Prop where
  qu : ∃ G, Qu w C G mo L sn ∧ (∀ B, G = some B → b ≤ B) ∧ G ≠ some s
  c : b ≤ C
  bel : Below b W0 w
  act : q.At w s 0
  lt : s < w.heap.size
  ne : s ≠ C
section
variable {b : Nat} {W0 w : World} {C s : Nat} {q : ActV} {mo : Int} {L : List ByteArray} {sn : Nat}
theorem OwnA.own (h : OwnA b W0 w C mo s q L sn) : Own b W0 w C mo L sn := by
  obtain ⟨G, h1, h2, h3⟩ := h.qu
  exact ⟨⟨G, h1, h2⟩, h.c, h.bel⟩
/-- the call's data are laid down -/
theorem Own.act {W : World} {T : TypeId} (h : Own b W0 w C mo L sn) (hW : W = w.alloc (.cells #[.int .i64 q.d, .int .i64 q.n, .int .i64 q.o, .string q.s] T)) : OwnA b W0 W C mo w.heap.size q L sn := by
  subst hW
  obtain ⟨G, hq, hG⟩ := h.q
  have hb : Below w.heap.size w (w.alloc (.cells #[.int .i64 q.d, .int .i64 q.n, .int .i64 q.o, .string q.s] T)) := (Below.refl _ _).alloc (Nat.le_refl _) _
  refine ⟨⟨G, hq.below hb, hG, fun e => ?_⟩, h.c, h.bel.trans (hb.mono h.bs), ⟨by simp, by simp, by simp, by simp⟩, by simp, fun e => ?_⟩
  · have := hq.tlt (Or.inr e); omega
  · have := hq.lt; omega
theorem OwnA.below {w' : World} (h : OwnA b W0 w C mo s q L sn) (hb : Below w.heap.size w w') : OwnA b W0 w' C mo s q L sn := by
  obtain ⟨G, h1, h2, h3⟩ := h.qu
  exact ⟨⟨G, h1.below hb, h2, h3⟩, h.c, h.bel.trans (hb.mono h.own.bs), h.act.below hb h.lt, Nat.lt_of_lt_of_le h.lt hb.size, h.ne⟩
theorem OwnA.moved (h : OwnA b W0 w C mo s q L sn) : ∃ G, Qu w C G mo L sn ∧ ∀ w' L' sn', Mvq w w' C G mo L' sn' → OwnA b W0 w' C mo s q L' sn' := by
  obtain ⟨G, hq, hG, hs⟩ := h.qu
  have hbs := h.own.bs
  refine ⟨G, hq, fun w' L' sn' hm => ?_⟩
  obtain ⟨G', hq', hk, hf⟩ := hm
  have hT : ¬ tch C G s := by
    rintro (e | e)
    · exact h.ne e
    · exact hs e
  refine ⟨⟨G', hq', fun B hB => ?_, fun e => ?_⟩, h.c, h.bel.trans (hk.below hbs (fun k hk => ?_)), h.act.kept hk h.lt hT, Nat.lt_of_lt_of_le h.lt hk.size, h.ne⟩
  · rcases hf B hB with h' | h'
    · exact hG B h'
    · exact Nat.le_trans hbs h'
  · rcases hf s e with h' | h'
    · exact hs h'
    · have := h.lt; omega
  · rcases hk with rfl | hk
    · exact h.c
    · exact hG k hk

theorem owna_push (x : ByteArray) (h : OwnA b W0 w C mo s q L sn) (hs : x.size ≤ 9223372036854775807) :
    Calls Try.prog 19 #[.pointer (some ⟨C, 0, none⟩), .string x] w fun e w' => e = .returned (.int .i64 (Qm.pushN mo L x)) ∧ OwnA b W0 w' C mo s q (Qm.pushL mo L x) sn := by
  obtain ⟨G, hq, hm⟩ := h.moved
  exact (push_any C sn G mo L x w hq hs).mono fun e w' h => ⟨h.1, hm _ _ _ h.2⟩
theorem owna_take (h : OwnA b W0 w C mo s q L sn) :
    Calls Try.prog 11 #[.pointer (some ⟨C, 0, none⟩)] w fun e w' => e = .returned (.tuple #[.string (Qm.takeS L sn), .bool (Qm.takeB L sn)]) ∧ OwnA b W0 w' C mo s q L (Qm.takeN L sn) := by
  obtain ⟨G, hq, hm⟩ := h.moved
  exact (take_any C sn G mo L w hq).mono fun e w' h => ⟨h.1, hm _ _ _ h.2⟩
theorem owna_done (n : Int) (h : OwnA b W0 w C mo s q L sn) :
    Calls Try.prog 13 #[.pointer (some ⟨C, 0, none⟩), .int .i64 n] w fun e w' => e = .returned (.bool (Qm.okN sn n)) ∧ OwnA b W0 w' C mo s q (Qm.doneL L sn n) (Qm.doneS sn n) := by
  obtain ⟨G, hq, hm⟩ := h.moved
  exact (done_any C sn G mo L n w hq).mono fun e w' h => ⟨h.1, hm _ _ _ h.2⟩
theorem owna_back (n : Int) (h : OwnA b W0 w C mo s q L sn) :
    Calls Try.prog 15 #[.pointer (some ⟨C, 0, none⟩), .int .i64 n] w fun e w' => e = .returned (.bool (Qm.okN sn n)) ∧ OwnA b W0 w' C mo s q L (Qm.backS sn n) := by
  obtain ⟨G, hq, hm⟩ := h.moved
  exact (back_any C sn G mo L n w hq).mono fun e w' h => ⟨h.1, hm _ _ _ h.2⟩
theorem owna_list (h : OwnA b W0 w C mo s q L sn) :
    Calls Try.prog 21 #[.pointer (some ⟨C, 0, none⟩)] w fun e w' => ∃ v, e = .returned v ∧ w'.ownsRow w.heap.size 9 1 v L.length (L.map Value.string) ∧ OwnA b W0 w' C mo s q L sn := by
  obtain ⟨G, hq, hm⟩ := h.moved
  refine (list_any C sn G mo L w hq).mono ?_
  rintro e w' ⟨v, h1, h2, h3⟩
  exact ⟨v, h1, h2, h.below h3⟩
end
end Go.Proofs.Yteppelahpbgmjaa
