/-
  A flow of the call's own: what each method leaves of it, and that all that was there ahead stands.
-/
import Derived.Test.YtejhhgpfkobjoaaFlowView
namespace Go.Proofs.Ytejhhgpfkobjoaa
open Go.RowKit
set_option linter.unusedVariables false
set_option linter.unusedSimpArgs false

/-- a flow in blocks from b on; below b all is as in W0 -/
structure OwnF (b : Nat) (W0 w : World) (C : Nat) (σ : Wm.St) : Prop where
  fl : ∃ G, Fl w C G σ ∧ ∀ B, G = some B → b ≤ B
  c : b ≤ C
  ok : σ.Ok
  bel : Below b W0 w
section
variable {b : Nat} {W0 w : World} {C : Nat} {σ : Wm.St}
theorem OwnF.bs (h : OwnF b W0 w C σ) : b ≤ w.heap.size := by
  obtain ⟨G, hq, _⟩ := h.fl
  have := hq.lt; have := h.c; omega
theorem OwnF.lt (h : OwnF b W0 w C σ) : C < w.heap.size := by
  obtain ⟨G, hq, _⟩ := h.fl
  exact hq.lt
theorem OwnF.below {w' : World} (h : OwnF b W0 w C σ) (hb : Below w.heap.size w w') : OwnF b W0 w' C σ := by
  obtain ⟨G, hq, hG⟩ := h.fl
  exact ⟨⟨G, hq.below hb, hG⟩, h.c, h.ok, h.bel.trans (hb.mono h.bs)⟩
theorem OwnF.moved (h : OwnF b W0 w C σ) : ∃ G, Fl w C G σ ∧ ∀ w' σ', Mvf w w' C G σ' → σ'.Ok → OwnF b W0 w' C σ' := by
  obtain ⟨G, hq, hG⟩ := h.fl
  refine ⟨G, hq, fun w' σ' hm ok => ?_⟩
  obtain ⟨G', hq', hk, hf⟩ := hm
  refine ⟨⟨G', hq', fun B hB => ?_⟩, h.c, ok, h.bel.trans (hk.below h.bs (fun k hk => ?_))⟩
  · rcases hf B hB with h' | h'
    · exact hG B h'
    · exact Nat.le_trans h.bs h'
  · rcases hk with rfl | hk
    · exact h.c
    · exact hG k hk
theorem ownf_new (k mo : Int) (w : World) (h0 : -9223372036854775808 ≤ k) (h1 : k ≤ 9223372036854775807) :
    Calls Try.prog 9 #[.int .i64 k, .int .i64 mo] w fun e w' => ∃ C, e = .returned (.pointer (some ⟨C, 0, none⟩)) ∧ OwnF w.heap.size w w' C (Wm.new k mo) := by
  refine (fnew_any k mo w).mono ?_
  rintro e w' ⟨C, he, hC, hf, hb⟩
  exact ⟨C, he, ⟨none, hf, fun B hB => by cases hB⟩, hC, Wm.new_ok k mo h0 h1, hb⟩
theorem ownf_push (s : ByteArray) (h : OwnF b W0 w C σ) (hs : s.size ≤ 9223372036854775807) :
    Calls Try.prog 15 #[.pointer (some ⟨C, 0, none⟩), .string s] w fun e w' => e = .returned (.int .i64 (Qm.pushN σ.mo σ.L s)) ∧ OwnF b W0 w' C (Wm.pushT σ s) := by
  obtain ⟨G, hq, hm⟩ := h.moved
  exact (fpush_any C G σ s w hq hs).mono fun e w' hx => ⟨hx.1, hm _ _ hx.2 (Wm.pushT_ok h.ok s)⟩
theorem ownf_take (h : OwnF b W0 w C σ) :
    Calls Try.prog 17 #[.pointer (some ⟨C, 0, none⟩)] w fun e w' => e = .returned (.tuple #[.int .i64 (Wm.takeN σ), .string (Wm.takeS σ), .bool (Wm.takeB σ)]) ∧ OwnF b W0 w' C (Wm.takeT σ) := by
  obtain ⟨G, hq, hm⟩ := h.moved
  exact (ftake_any C G σ w hq h.ok).mono fun e w' hx => ⟨hx.1, hm _ _ hx.2 (Wm.takeT_ok h.ok)⟩
theorem ownf_ack (nr : Int) (h : OwnF b W0 w C σ) (h0 : -9223372036854775808 ≤ nr) (h1 : nr ≤ 9223372036854775807) :
    Calls Try.prog 18 #[.pointer (some ⟨C, 0, none⟩), .int .i64 nr] w fun e w' => e = .returned (.tuple #[.int .i64 (Wm.ackN σ nr), .int .i64 (Wm.ackE σ nr)]) ∧ OwnF b W0 w' C (Wm.ackT σ nr) := by
  obtain ⟨G, hq, hm⟩ := h.moved
  exact (fack_any C G σ nr w hq h.ok h0 h1).mono fun e w' hx => ⟨hx.1, hm _ _ hx.2 (Wm.ackT_ok h.ok nr)⟩
theorem ownf_back (h : OwnF b W0 w C σ) :
    Calls Try.prog 19 #[.pointer (some ⟨C, 0, none⟩)] w fun e w' => e = .returned (.tuple #[]) ∧ OwnF b W0 w' C (Wm.backT σ) := by
  obtain ⟨G, hq, hm⟩ := h.moved
  exact (fback_any C G σ w hq).mono fun e w' hx => ⟨hx.1, hm _ _ hx.2 (Wm.backT_ok h.ok)⟩
theorem ownf_come (ns : Int) (h : OwnF b W0 w C σ) (h0 : -9223372036854775808 ≤ ns) (h1 : ns ≤ 9223372036854775807) :
    Calls Try.prog 20 #[.pointer (some ⟨C, 0, none⟩), .int .i64 ns] w fun e w' => e = .returned (.int .i64 (Wm.comeN σ ns)) ∧ OwnF b W0 w' C (Wm.comeT σ ns) := by
  obtain ⟨G, hq, hm⟩ := h.moved
  exact (fcome_any C G σ ns w hq h.ok h0 h1).mono fun e w' hx => ⟨hx.1, hm _ _ hx.2 (Wm.comeT_ok h.ok ns)⟩
theorem ownf_view (h : OwnF b W0 w C σ) :
    Calls Try.prog 14 #[.pointer (some ⟨C, 0, none⟩)] w fun e w' => e = .returned (vwV σ) ∧ OwnF b W0 w' C σ := by
  obtain ⟨G, hq, hm⟩ := h.moved
  exact (fview_any C G σ w hq).mono fun e w' hx => ⟨hx.1, h.below hx.2⟩
end
end Go.Proofs.Ytejhhgpfkobjoaa
