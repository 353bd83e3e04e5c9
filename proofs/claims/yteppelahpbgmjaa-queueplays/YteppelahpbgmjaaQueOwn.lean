/-
  A queue of the call's own: what each method leaves of it, and that all that was there ahead stands.
-/
import Derived.Test.YteppelahpbgmjaaQueDone
namespace Go.Proofs.Yteppelahpbgmjaa
open Go.RowKit
set_option linter.unusedVariables false
set_option linter.unusedSimpArgs false

/-- a queue in blocks from b on; below b all is as in W0 -/
structure Own (b : Nat) (W0 w : World) (C : Nat) (mo : Int) (L : List ByteArray) (sn : Nat) : Prop where
  q : ∃ G, Qu w C G mo L sn ∧ ∀ B, G = some B → b ≤ B
  c : b ≤ C
  bel : Below b W0 w
section
variable {b : Nat} {W0 w : World} {C : Nat} {mo : Int} {L : List ByteArray} {sn : Nat}

theorem Own.lt (h : Own b W0 w C mo L sn) : C < w.heap.size := by
  obtain ⟨G, hq, _⟩ := h.q
  exact hq.lt
theorem Own.bs (h : Own b W0 w C mo L sn) : b ≤ w.heap.size := by have := h.lt; have := h.c; omega
theorem Own.le (h : Own b W0 w C mo L sn) : L.length ≤ 256 := by
  obtain ⟨G, hq, _⟩ := h.q
  exact hq.le
theorem Own.sl (h : Own b W0 w C mo L sn) : sn ≤ L.length := by
  obtain ⟨G, hq, _⟩ := h.q
  exact hq.sn
theorem Own.len (h : Own b W0 w C mo L sn) : L.length ≤ Qm.takes mo := by
  obtain ⟨G, hq, _⟩ := h.q
  exact hq.len
theorem Own.below {w' : World} (h : Own b W0 w C mo L sn) (hb : Below w.heap.size w w') : Own b W0 w' C mo L sn := by
  obtain ⟨G, hq, hG⟩ := h.q
  exact ⟨⟨G, hq.below hb, hG⟩, h.c, h.bel.trans (hb.mono h.bs)⟩
theorem Own.moved (h : Own b W0 w C mo L sn) : ∃ G, Qu w C G mo L sn ∧ ∀ w' L' sn', Mvq w w' C G mo L' sn' → Own b W0 w' C mo L' sn' := by
  obtain ⟨G, hq, hG⟩ := h.q
  refine ⟨G, hq, fun w' L' sn' hm => ?_⟩
  obtain ⟨G', hq', hk, hf⟩ := hm
  refine ⟨⟨G', hq', fun B hB => ?_⟩, h.c, h.bel.trans (hk.below h.bs (fun k hk => ?_))⟩
  · rcases hf B hB with h' | h'
    · exact hG B h'
    · exact Nat.le_trans h.bs h'
  · rcases hk with rfl | hk
    · exact h.c
    · exact hG k hk
theorem own_new (hq : Qu w C none mo [] 0) (hc : b ≤ C) (hb : Below b W0 w) : Own b W0 w C mo [] 0 := ⟨⟨none, hq, fun B hB => by cases hB⟩, hc, hb⟩

theorem own_push (s : ByteArray) (h : Own b W0 w C mo L sn) (hs : s.size ≤ 9223372036854775807) :
    Calls Try.prog 19 #[.pointer (some ⟨C, 0, none⟩), .string s] w fun e w' => e = .returned (.int .i64 (Qm.pushN mo L s)) ∧ Own b W0 w' C mo (Qm.pushL mo L s) sn := by
  obtain ⟨G, hq, hm⟩ := h.moved
  exact (push_any C sn G mo L s w hq hs).mono fun e w' h => ⟨h.1, hm _ _ _ h.2⟩
theorem own_take (h : Own b W0 w C mo L sn) :
    Calls Try.prog 11 #[.pointer (some ⟨C, 0, none⟩)] w fun e w' => e = .returned (.tuple #[.string (Qm.takeS L sn), .bool (Qm.takeB L sn)]) ∧ Own b W0 w' C mo L (Qm.takeN L sn) := by
  obtain ⟨G, hq, hm⟩ := h.moved
  exact (take_any C sn G mo L w hq).mono fun e w' h => ⟨h.1, hm _ _ _ h.2⟩
theorem own_done (n : Int) (h : Own b W0 w C mo L sn) :
    Calls Try.prog 13 #[.pointer (some ⟨C, 0, none⟩), .int .i64 n] w fun e w' => e = .returned (.bool (Qm.okN sn n)) ∧ Own b W0 w' C mo (Qm.doneL L sn n) (Qm.doneS sn n) := by
  obtain ⟨G, hq, hm⟩ := h.moved
  exact (done_any C sn G mo L n w hq).mono fun e w' h => ⟨h.1, hm _ _ _ h.2⟩
theorem own_back (n : Int) (h : Own b W0 w C mo L sn) :
    Calls Try.prog 15 #[.pointer (some ⟨C, 0, none⟩), .int .i64 n] w fun e w' => e = .returned (.bool (Qm.okN sn n)) ∧ Own b W0 w' C mo L (Qm.backS sn n) := by
  obtain ⟨G, hq, hm⟩ := h.moved
  exact (back_any C sn G mo L n w hq).mono fun e w' h => ⟨h.1, hm _ _ _ h.2⟩
theorem own_clear (h : Own b W0 w C mo L sn) :
    Calls Try.prog 17 #[.pointer (some ⟨C, 0, none⟩)] w fun e w' => e = .returned (.int .i64 L.length) ∧ Own b W0 w' C mo [] 0 := by
  obtain ⟨G, hq, hm⟩ := h.moved
  exact (clear_any C sn G mo L w hq).mono fun e w' h => ⟨h.1, hm _ _ _ h.2⟩
theorem own_list (h : Own b W0 w C mo L sn) :
    Calls Try.prog 21 #[.pointer (some ⟨C, 0, none⟩)] w fun e w' => ∃ v, e = .returned v ∧ w'.ownsRow w.heap.size 9 1 v L.length (L.map Value.string) ∧ Below w.heap.size w w' ∧ Own b W0 w' C mo L sn := by
  obtain ⟨G, hq, hm⟩ := h.moved
  refine (list_any C sn G mo L w hq).mono ?_
  rintro e w' ⟨v, h1, h2, h3⟩
  exact ⟨v, h1, h2, h3, h.below h3⟩
theorem own_sent (h : Own b W0 w C mo L sn) :
    Calls Try.prog 22 #[.pointer (some ⟨C, 0, none⟩)] w fun e w' => e = .returned (.int .i64 sn) ∧ w' = w := by
  obtain ⟨G, hq, hm⟩ := h.moved
  exact (sent_any C sn w hq.c2 hq.lt).mono fun e w' h => ⟨h.1, h.2.symm⟩
theorem own_left (h : Own b W0 w C mo L sn) :
    Calls Try.prog 23 #[.pointer (some ⟨C, 0, none⟩)] w fun e w' => e = .returned (.int .i64 ((L.length - sn : Nat) : Int)) ∧ Own b W0 w' C mo L sn := by
  obtain ⟨G, hq, hm⟩ := h.moved
  obtain ⟨a, cap, h1, h2⟩ := hq.c1
  refine (left_any C sn L.length cap a w hq.c2 h1 hq.lt hq.sn (by have := hq.le; omega)).mono ?_
  rintro e w' ⟨rfl, k, rfl⟩
  exact ⟨rfl, h.below (drewN_blw (Below.refl _ _) k)⟩
end
end Go.Proofs.Yteppelahpbgmjaa
