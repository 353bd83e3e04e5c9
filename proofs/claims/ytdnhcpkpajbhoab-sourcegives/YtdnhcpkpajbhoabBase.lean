/-
  What several walks of this seat share, and what names no type of the program: how a slice of integers that came in is told to a walk ('Row'), a row of bytes that may be written ('BytesAt').
-/
import Derived.Test.YtdnhcpkpajbhoabRows
import Derived.Test.YtdnhcpkpajbhoabMath
import Derived.WalkKit
import Derived.ProofKit
import Derived.OpenShut
import Derived.WalkSpells
import Derived.WalkLawsBesides
import Derived.BigQuiet
import Derived.Deep.QuietTactic
import Derived.WalkSmall
import Derived.Laws.BytesArg
namespace Go.Proofs.Ytdnhcpkpajbhoab
open Go.RowKit
set_option linter.unusedVariables false
set_option linter.unusedSimpArgs false

theorem ret_int {k : IntKind} {a b : Int} (h : a = b) : Ending.returned (.int k a) = .returned (.int k b) := by rw [h]
theorem ret_bool {a b : Bool} (h : a = b) : Ending.returned (.bool a) = .returned (.bool b) := by rw [h]
theorem ret_str {a b : ByteArray} (h : a = b) : Ending.returned (.string a) = .returned (.string b) := by rw [h]

/-- A slice of integers that came in: its elements xs; where there are some, they lie one behind the other. -/
def Row (k : IntKind) (w : World) (a : Option Addr) (len cap : Nat) (xs : List Int) : Prop :=
  xs.length = len ∧ len ≤ cap ∧ cap ≤ maxLen ∧ (∀ n ∈ xs, (Lit.int k n).wf = true) ∧
  ((a = none ∧ len = 0 ∧ cap = 0) ∨ ((∃ x, a = some x) ∧ len = 0) ∨
    ∃ b off, a = some ⟨b, off, none⟩ ∧ 0 < len ∧ b < w.heap.size ∧ ∀ i, i < len → w.cell? ⟨b, off + i, none⟩ = some (.int k (xs.getD i 0)))

theorem row_nil (k : IntKind) (w : World) : Row k w none 0 0 [] := by
  refine ⟨rfl, Nat.le_refl _, Nat.zero_le _, ?_, Or.inl ⟨rfl, rfl, rfl⟩⟩
  intro n h; simp at h

theorem cell_lt {w : World} {b o : Nat} {v : Value} (h : w.cell? ⟨b, o, none⟩ = some v) : b < w.heap.size := by
  rcases Nat.lt_or_ge b w.heap.size with h' | h'
  · exact h'
  · have hn : w.heap[b]? = none := by simp [h']
    simp [World.cell?, hn] at h

theorem row_of {k : IntKind} {w : World} {x : Addr} {len cap : Nat} {zs : List Int} (hl : len ≤ cap) (hm : cap ≤ maxLen) (hz : zs.length = cap)
    (hcell : ∀ i, i < zs.length → w.cell? (x.add i) = some (.int k (zs.getD i 0))) (hwz : ∀ n ∈ zs, (Lit.int k n).wf = true) : Row k w (some x) len cap (zs.take len) := by
  refine ⟨by simp; omega, hl, hm, fun n h => hwz n (List.mem_of_mem_take h), ?_⟩
  by_cases h0 : len = 0
  · exact Or.inr (Or.inl ⟨⟨x, rfl⟩, h0⟩)
  · obtain ⟨b, off, spot⟩ := x
    have hc := hcell 0 (by omega)
    have hspot : spot = none := by simpa [Addr.add] using World.cell?_spot hc
    subst hspot
    have hc0 : w.cell? ⟨b, off, none⟩ = some (.int k (zs.getD 0 0)) := by simpa [Addr.add] using hc
    refine Or.inr (Or.inr ⟨b, off, rfl, by omega, cell_lt hc0, fun i hi => ?_⟩)
    have := hcell i (by omega)
    rw [show (⟨b, off, none⟩ : Addr).add i = ⟨b, off + i, none⟩ from by unfold Addr.add; split <;> simp_all] at this
    rw [this]
    simp [List.getD, List.getElem?_take, hi]

/-- what came in reads so in every later world -/
theorem Row.later {k : IntKind} {w w' : World} {a : Option Addr} {len cap : Nat} {xs : List Int} (h : Row k w a len cap xs) (hb : Below w.heap.size w w') : Row k w' a len cap xs := by
  obtain ⟨h1, h2, h3, h4, h5⟩ := h
  refine ⟨h1, h2, h3, h4, ?_⟩
  rcases h5 with h5 | h5 | ⟨b, off, e, h0, hlt, hc⟩
  · exact Or.inl h5
  · exact Or.inr (Or.inl h5)
  · exact Or.inr (Or.inr ⟨b, off, e, h0, Nat.lt_of_lt_of_le hlt hb.size, fun i hi => (hb.cell (by exact hlt)).trans (hc i hi)⟩)

/-- the first elements of what came in: the same place, a smaller length -/
theorem Row.cut {k : IntKind} {w : World} {a : Option Addr} {len cap : Nat} {xs : List Int} (h : Row k w a len cap xs) (m : Nat) (hm : m ≤ len) : Row k w a m cap (xs.take m) := by
  obtain ⟨h1, h2, h3, h4, h5⟩ := h
  refine ⟨by simp; omega, by omega, h3, fun n hn => h4 n (List.mem_of_mem_take hn), ?_⟩
  rcases h5 with ⟨e, h0, hc⟩ | ⟨e, h0⟩ | ⟨b, off, e, h0, hlt, hc⟩
  · exact Or.inl ⟨e, by omega, hc⟩
  · exact Or.inr (Or.inl ⟨e, by omega⟩)
  · by_cases hz : m = 0
    · exact Or.inr (Or.inl ⟨⟨_, e⟩, hz⟩)
    · refine Or.inr (Or.inr ⟨b, off, e, by omega, hlt, fun i hi => ?_⟩)
      rw [hc i (by omega)]
      simp [List.getD, List.getElem?_take, hi]

/-- the row that a slice of the call's own stands in is the call's own -/
theorem own_base {w : World} {base : Nat} {e : TypeId} {size : Nat} {v : Value} {n : Nat} {xs : List Value} (h : w.ownsRow base e size v n xs) : ∀ k, v.ownBlock = some k → base ≤ k := by
  intro k hk
  rcases h.2 with ⟨rfl, _⟩ | ⟨g, cap, cur, rfl, hb, _⟩
  · simp [Value.ownBlock] at hk
  · simp [Value.ownBlock] at hk; omega
/-- A row of bytes in block B that may be written. -/
def BytesAt (w : World) (B : Nat) (xs : List Int) : Prop :=
  B < w.heap.size ∧ (∀ j, j < xs.length → w.cell? ⟨B, j, none⟩ = some (.int .u8 (xs.getD j 0))) ∧ ∀ j, j < xs.length → w.frozen? ⟨B, j, none⟩ = false

theorem BytesAt.set {w : World} {B : Nat} {xs : List Int} (h : BytesAt w B xs) (i : Nat) (hi : i < xs.length) (v : Int) : BytesAt (w.setCell ⟨B, i, none⟩ (.int .u8 v)) B (xs.set i v) := by
  obtain ⟨h1, h2, h3⟩ := h
  refine ⟨by simpa [World.setCell] using h1, fun j hj => ?_, fun j hj => ?_⟩
  · have hj' : j < xs.length := by simpa using hj
    have hc := h2 j hj'
    by_cases e : j = i
    · subst e
      rw [World.cell?_setCell_same' w ⟨B, j, none⟩ (.int .u8 v) (by rw [hc]; rfl)]; simp [List.getD, hj']
    · have ho : (w.setCell ⟨B, i, none⟩ (.int .u8 v)).cell? ⟨B, j, none⟩ = w.cell? ⟨B, j, none⟩ := World.cell?_setCell_other w _ _ _ (fun h => e (by injection h with _ h2; exact h2.symm))
      rw [ho, hc]
      simp [List.getD, List.getElem?_set, Ne.symm e]
  · have hj' : j < xs.length := by simpa using hj
    have := h3 j hj'
    simpa using this
end Go.Proofs.Ytdnhcpkpajbhoab
