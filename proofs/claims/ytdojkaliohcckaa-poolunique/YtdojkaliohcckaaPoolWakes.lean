/-
  A pool of the call's own, in a block from b on; the law's function 'wakes' answers true, and leaves all that was as it was.
-/
import Derived.Test.YtdojkaliohcckaaPoolAssign
import Derived.Test.YtdojkaliohcckaaPoolList
namespace Go.Proofs.Ytdojkaliohcckaa
open Go.RowKit
set_option linter.unusedVariables false
set_option linter.unusedSimpArgs false

/-- a pool in block C; below b all is as in W0 -/
structure Own (b : Nat) (W0 w : World) (C : Nat) (f : Nat → Bool) (nx : Nat) : Prop where
  pl : Pl w C f nx
  bC : b ≤ C
  bel : Below b W0 w
section
variable {b : Nat} {W0 w w' : World} {C nx : Nat} {f : Nat → Bool}
theorem Own.bs (h : Own b W0 w C f nx) : b ≤ w.heap.size := by have := h.pl.lt; have := h.bC; omega
theorem Own.below (h : Own b W0 w C f nx) (hb : Below w.heap.size w w') : Own b W0 w' C f nx := ⟨h.pl.below hb, h.bC, h.bel.trans (hb.mono h.bs)⟩
theorem Own.then {g : Nat → Bool} {ny : Nat} (h : Own b W0 w C f nx) (hp : Pl w' C g ny) (hk : Kept w w' (fun k => k = C)) : Own b W0 w' C g ny := ⟨hp, h.bC, h.bel.trans (hk.below h.bs (fun k hk' => by rw [hk']; exact h.bC))⟩
theorem own_new {w1 : World} (h : Pl w1 w.heap.size f nx) (hb : Below w.heap.size w w1) : Own w.heap.size w w1 w.heap.size f nx := ⟨h, Nat.le_refl _, hb⟩
theorem own_assign (h : Own b W0 w C f nx) : Calls Try.prog 14 #[.pointer (some ⟨C, 0, none⟩)] w fun e w' => e = .returned (.tuple #[.int .i64 (Pm.asT f nx), .int .i64 (Pm.asE f nx)]) ∧ Own b W0 w' C (Pm.asF f nx) (Pm.asX f nx) :=
  (passign_any C nx f w h.pl).mono fun e w' hx => ⟨hx.1, h.then hx.2.1 hx.2.2⟩
theorem own_claim (t : Int) (h : Own b W0 w C f nx) : Calls Try.prog 10 #[.pointer (some ⟨C, 0, none⟩), .int .i64 t] w fun e w' => e = .returned (.int .i64 (Pm.clN f t)) ∧ Own b W0 w' C (Pm.clF f t) nx :=
  (pclaim_any C nx f t w h.pl).mono fun e w' hx => ⟨hx.1, h.then hx.2.1 hx.2.2⟩
theorem own_free (t : Int) (h : Own b W0 w C f nx) : Calls Try.prog 12 #[.pointer (some ⟨C, 0, none⟩), .int .i64 t] w fun e w' => e = .returned (.bool (Pm.has f t)) ∧ Own b W0 w' C (Pm.frF f t) nx :=
  (pfree_any C nx f t w h.pl).mono fun e w' hx => ⟨hx.1, h.then hx.2.1 hx.2.2⟩
theorem own_has (t : Int) (h : Own b W0 w C f nx) : Calls Try.prog 18 #[.pointer (some ⟨C, 0, none⟩), .int .i64 t] w fun e w' => e = .returned (.bool (Pm.has f t)) ∧ w = w' := phas_any C nx f t w h.pl
theorem own_list (h : Own b W0 w C f nx) : Calls Try.prog 16 #[.pointer (some ⟨C, 0, none⟩)] w fun e w' => ∃ a cap, e = .returned (.slice a (Pm.ct f 63) cap) ∧ Lst w w' a cap (Pm.ls f 63) ∧ Own b W0 w' C f nx :=
  (plist_any C nx f w h.pl).mono fun e w' ⟨a, cap, h1, h2⟩ => ⟨a, cap, h1, h2, h.below h2.bel⟩
end

set_option maxHeartbeats 2000000 in
theorem pwakes_any (w : World) : Calls Try.prog 9 #[] w fun e w' => e = .returned (.bool true) ∧ Below w.heap.size w w' := by
  go_enter Try.func9, Try.ntmps9
  go_wp2_with fail
  refine (pnew_any _).mono ?_
  rintro e w1 ⟨rfl, h1, h2⟩
  have O1 := own_new h1 h2
  clear h1 h2
  obtain ⟨C, hC⟩ : ∃ C, C = w.heap.size := ⟨_, rfl⟩
  rw [← hC] at O1 ⊢
  have HC : Hid (C = w.heap.size) := hC
  clear hC
  obtain ⟨f0, hf0⟩ : ∃ f0 : Nat → Bool, f0 = fun _ => false := ⟨_, rfl⟩
  rw [← hf0] at O1
  obtain ⟨a1, a2, a3, a4⟩ := Pm.as_here (f := f0) (nx := 0) (by decide) (by rw [hf0])
  have H1 := own_assign O1
  rw [a1, a2, a3, a4] at H1
  clear a1 a2 a3 a4 O1
  go_wp2_with fail
  refine H1.mono ?_
  rintro e w2 ⟨rfl, O2⟩
  clear H1
  replace O2 : Own C w w2 C (Pm.upd f0 0 true) 1 := O2
  obtain ⟨a1, a2, a3, a4⟩ := Pm.as_here (f := Pm.upd f0 0 true) (nx := 1) (by decide) (by rw [hf0]; rfl)
  have H1 := own_assign O2
  rw [a1, a2, a3, a4] at H1
  clear a1 a2 a3 a4 O2
  go_wp2_with fail
  refine H1.mono ?_
  rintro e w3 ⟨rfl, O3⟩
  clear H1
  replace O3 : Own C w w3 C (Pm.upd (Pm.upd f0 0 true) 1 true) 2 := O3
  have H1 := own_free 64 O3
  rw [show Pm.has (Pm.upd (Pm.upd f0 0 true) 1 true) 64 = true from rfl] at H1
  clear O3
  go_wp2_with fail
  refine H1.mono ?_
  rintro e w4 ⟨rfl, O4⟩
  clear H1
  obtain ⟨a1, a2, a3, a4⟩ := Pm.as_here (f := Pm.frF (Pm.upd (Pm.upd f0 0 true) 1 true) 64) (nx := 2) (by decide) (by rw [hf0]; rfl)
  have H1 := own_assign O4
  rw [a1, a2, a3, a4] at H1
  clear a1 a2 a3 a4 O4
  go_wp2_with fail
  refine H1.mono ?_
  rintro e w5 ⟨rfl, O5⟩
  have HB : Hid (Below C w w5) := O5.bel
  clear H1 O5
  go_wp2
  go_ret
  exact ⟨rfl, by have := HB.out; rw [HC.out] at this; exact this⟩
end Go.Proofs.Ytdojkaliohcckaa
