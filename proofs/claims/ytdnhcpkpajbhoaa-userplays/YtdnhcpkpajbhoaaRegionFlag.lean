/-
  A region that draws, in which one operation (number k) turns the world: B holds ahead of it, A behind it. It names nothing of the program.
-/
import Derived.Test.YtdnhcpkpajbhoaaRegionGuard
namespace Go.Proofs.Ytdnhcpkpajbhoaa
open Go.RowKit
set_option linter.unusedVariables false
set_option linter.unusedSimpArgs false

theorem flg_yet {md : Region.Mode} {ops : Array Oper} {l : Array Bool} {i : Nat} (h : i ∈ Region.ready md ops l) : l.getD i false = false ∧ (l.setIfInBounds i true).getD i false = true := by
  have hl : l.getD i true = false := by
    have h' := h
    simp only [Region.ready, List.mem_filter, List.mem_range] at h'
    have := h'.2
    simp only [Bool.and_eq_true] at this
    have h2 := this.1
    simpa using h2
  have hlt := unlisted_lt hl
  refine ⟨?_, by simp [hlt]⟩
  simp [hlt] at hl ⊢
  exact hl
theorem flg_other {l : Array Bool} {i j : Nat} (h : j ≠ i) : (l.setIfInBounds i true).getD j false = l.getD j false := by
  simp [Array.getElem?_setIfInBounds, Ne.symm h]
structure Flg (k : Nat) (B A : World → Prop) (l : Array Bool) (w : World) : Prop where
  yet : l.getD k false = false → B w
  did : l.getD k false = true → A w
section
variable {k i N : Nat} {B A : World → Prop} {l : Array Bool} {w w' : World}
theorem Flg.same (h : Flg k B A l w) (hi : k ≠ i) : Flg k B A (l.setIfInBounds i true) w :=
  ⟨fun hl => h.yet ((flg_other hi).symm.trans hl), fun hl => h.did ((flg_other hi).symm.trans hl)⟩
theorem Flg.on (h : Flg k B A l w) (hi : k ≠ i) (hB : B w → B w') (hA : A w → A w') : Flg k B A (l.setIfInBounds i true) w' :=
  ⟨fun hl => hB (h.yet ((flg_other hi).symm.trans hl)), fun hl => hA (h.did ((flg_other hi).symm.trans hl))⟩
theorem Flg.call {md : Region.Mode} {ops : Array Oper} (h : Flg k B A l w) (hr : k ∈ Region.ready md ops l) : B w ∧ ∀ w', A w' → Flg k B A (l.setIfInBounds k true) w' :=
  ⟨h.yet (flg_yet hr).1, fun w' ha => ⟨fun hl => absurd ((flg_yet hr).2.symm.trans hl) (by decide), fun _ => ha⟩⟩
theorem Flg.any {X : Prop} (h : Flg k B A l w) (hB : B w → X) (hA : A w → X) : X := by
  cases hl : l.getD k false with
  | false => exact hB (h.yet hl)
  | true => exact hA (h.did hl)
theorem Flg.start (h : B w) : Flg k B A (Array.replicate N false) w :=
  ⟨fun _ => h, fun hl => absurd ((rep_getD' N k).symm.trans hl) (by decide)⟩
end
end Go.Proofs.Ytdnhcpkpajbhoaa
