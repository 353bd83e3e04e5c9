/-
  A slice of strings that came in, told to a walk.
-/
import Derived.Test.YtdfoicngcahajaaDoorBase
import Derived.SliceStrings
namespace Go.Proofs.YtdfoicngcahajaaDoor
open Go.RowKit
set_option linter.unusedVariables false
set_option linter.unusedSimpArgs false

def StrRow (w : World) (a : Option Addr) (len cap : Nat) (zs : List ByteArray) : Prop :=
  zs.length = len ∧ len ≤ cap ∧ cap ≤ maxLen ∧ (∀ s ∈ zs, s.size ≤ maxLen) ∧
  (len = 0 ∨ ∃ b off, a = some ⟨b, off, none⟩ ∧ b < w.heap.size ∧ ∀ i, i < len → w.cell? ⟨b, off + i, none⟩ = some (.string (zs.getD i ByteArray.empty)))

theorem srow_nil (w : World) : StrRow w none 0 0 [] := ⟨rfl, Nat.le_refl _, Nat.zero_le _, fun s h => by simp at h, Or.inl rfl⟩
theorem srow_of {w : World} {x : Addr} {len cap : Nat} {zs : List ByteArray} (hl : len ≤ cap) (hm : cap ≤ maxLen) (hz : zs.length = cap)
    (hcell : ∀ i, i < zs.length → w.cell? (x.add i) = some (.string (zs.getD i ByteArray.empty))) (hwz : ∀ s ∈ zs, s.size ≤ maxLen) : StrRow w (some x) len cap (zs.take len) := by
  refine ⟨by simp; omega, hl, hm, fun s h => hwz s (List.mem_of_mem_take h), ?_⟩
  by_cases h0 : len = 0
  · exact Or.inl h0
  · obtain ⟨b, off, spot⟩ := x
    have hc := hcell 0 (by omega)
    have hspot : spot = none := by simpa [Addr.add] using World.cell?_spot hc
    subst hspot
    have hc0 : w.cell? ⟨b, off, none⟩ = some (.string (zs.getD 0 ByteArray.empty)) := by simpa [Addr.add] using hc
    refine Or.inr ⟨b, off, rfl, cell_lt hc0, fun i hi => ?_⟩
    have := hcell i (by omega)
    rw [show (⟨b, off, none⟩ : Addr).add i = ⟨b, off + i, none⟩ from by unfold Addr.add; split <;> simp_all] at this
    rw [this]
    simp [List.getD, List.getElem?_take, hi]
theorem StrRow.cut {w : World} {a : Option Addr} {len cap : Nat} {zs : List ByteArray} (h : StrRow w a len cap zs) (m : Nat) (hm : m ≤ len) : StrRow w a m cap (zs.take m) := by
  obtain ⟨h1, h2, h3, h4, h5⟩ := h
  refine ⟨by simp; omega, by omega, h3, fun s hs => h4 s (List.mem_of_mem_take hs), ?_⟩
  rcases h5 with h0 | ⟨b, off, e, hlt, hc⟩
  · exact Or.inl (by omega)
  · refine Or.inr ⟨b, off, e, hlt, fun i hi => ?_⟩
    rw [hc i (by omega)]
    simp [List.getD, List.getElem?_take, hi]
/-- its i-th string -/
theorem StrRow.at {w : World} {a : Option Addr} {len cap : Nat} {zs : List ByteArray} (h : StrRow w a len cap zs) (i : Nat) (hi : i < len) :
    ∃ b off s, a = some ⟨b, off, none⟩ ∧ b < w.heap.size ∧ w.cell? ⟨b, off + i, none⟩ = some (.string s) ∧ s.size ≤ 9223372036854775807 := by
  obtain ⟨h1, h2, h3, h4, h5⟩ := h
  rcases h5 with h0 | ⟨b, off, e, hlt, hc⟩
  · omega
  · refine ⟨b, off, _, e, hlt, hc i hi, ?_⟩
    have : zs.getD i ByteArray.empty ∈ zs := by
      rw [List.getD, List.getElem?_eq_getElem (by omega)]
      exact List.getElem_mem _
    have := h4 _ this
    unfold maxLen at this
    omega
end Go.Proofs.YtdfoicngcahajaaDoor
