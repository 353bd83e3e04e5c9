/-
  slices.SortFunc at timers' keys, in the program beside this one: by the shelf's own contract.
-/
import Derived.Test.YtalpfcckdjipoaaSimPlan
import Derived.Shelf.SlSortCmp.WholeK
namespace Go.Proofs.Ytalpfcckdjipoaa
open Go.RowKit Go.Shelf Go.Lib Go.Sort
set_option linter.unusedVariables false
set_option linter.unusedSimpArgs false

/-- the numbers of the shelf's names in this program -/
def sortRen : Ren := ⟨fun | 6 => 22 | 14 => 25 | 15 => 26 | 20 => 30 | 21 => 31 | 22 => 32 | 23 => 33 | 24 => 34 | 25 => 35 | 26 => 36 | 27 => 37 | 28 => 38 | 29 => 39 | 46 => 42 | 47 => 43 | 48 => 44 | 49 => 45 | 50 => 46 | 57 => 47 | n => n, fun | 0 => 0 | 3 => 3 | 4 => 4 | 5 => 5 | 9 => 9 | 22 => 38 | 24 => 33 | 25 => 59 | 39 => 63 | 45 => 68 | 46 => 69 | 50 => 73 | 53 => 76 | 55 => 78 | 66 => 82 | 70 => 86 | 76 => 88 | 77 => 89 | n => n, fun n => n⟩

theorem bears_at {g : Nat} {fn B : Func} (h : Try.prog.funcs[g]? = some fn) (hne : g ≠ 23) (hg : (planTab g).isSome = true) (hn : (fn.name == "runtime.NumGoroutine") = false) (hB : fn = { B with name := fn.name }) : Bears (beside Try.prog) g B :=
  ⟨fn.name, hn, by
    show (besideF Try.prog)[g]? = _
    rw [beside_at h, if_neg hne, if_pos hg, ← hB]⟩
theorem plain_at {g : Nat} {fn B : Func} (h : Try.prog.funcs[g]? = some fn) (hne : g ≠ 23) (hg : (planTab g).isSome = true) (hB : fn = B) : (beside Try.prog).funcs[g]? = some B := by
  show (besideF Try.prog)[g]? = _
  rw [beside_at h, if_neg hne, if_pos hg, hB]

set_option maxRecDepth 100000 in
theorem sortLays : SlLaysF0.n6 (beside Try.prog) sortRen := {
  mixed := by kernel_rfl
  f6 := bears_at Try.func22 (by decide) (by kernel_rfl) (by kernel_rfl) (by kernel_rfl)
  f14 := bears_at Try.func25 (by decide) (by kernel_rfl) (by kernel_rfl) (by kernel_rfl)
  f15 := plain_at Try.func26 (by decide) (by kernel_rfl) (by kernel_rfl)
  f20 := bears_at Try.func30 (by decide) (by kernel_rfl) (by kernel_rfl) (by kernel_rfl)
  f21 := bears_at Try.func31 (by decide) (by kernel_rfl) (by kernel_rfl) (by kernel_rfl)
  f22 := bears_at Try.func32 (by decide) (by kernel_rfl) (by kernel_rfl) (by kernel_rfl)
  f23 := bears_at Try.func33 (by decide) (by kernel_rfl) (by kernel_rfl) (by kernel_rfl)
  f24 := bears_at Try.func34 (by decide) (by kernel_rfl) (by kernel_rfl) (by kernel_rfl)
  f25 := bears_at Try.func35 (by decide) (by kernel_rfl) (by kernel_rfl) (by kernel_rfl)
  f26 := bears_at Try.func36 (by decide) (by kernel_rfl) (by kernel_rfl) (by kernel_rfl)
  f27 := bears_at Try.func37 (by decide) (by kernel_rfl) (by kernel_rfl) (by kernel_rfl)
  f28 := plain_at Try.func38 (by decide) (by kernel_rfl) (by kernel_rfl)
  f29 := plain_at Try.func39 (by decide) (by kernel_rfl) (by kernel_rfl)
  f46 := bears_at Try.func42 (by decide) (by kernel_rfl) (by kernel_rfl) (by kernel_rfl)
  f47 := plain_at Try.func43 (by decide) (by kernel_rfl) (by kernel_rfl)
  f48 := plain_at Try.func44 (by decide) (by kernel_rfl) (by kernel_rfl)
  f49 := bears_at Try.func45 (by decide) (by kernel_rfl) (by kernel_rfl) (by kernel_rfl)
  f50 := bears_at Try.func46 (by decide) (by kernel_rfl) (by kernel_rfl) (by kernel_rfl)
  f57 := bears_at Try.func47 (by decide) (by kernel_rfl) (by kernel_rfl) (by kernel_rfl)
  t0 := by kernel_rfl
  a0 := fun _ => by rfl
  z0 := fun _ => by rfl
  v0 := fun _ => by rfl
  t3 := by kernel_rfl
  a3 := fun _ => by rfl
  z3 := fun _ => by rfl
  v3 := fun _ => by rfl
  t4 := by kernel_rfl
  a4 := fun _ => by rfl
  z4 := fun _ => by rfl
  v4 := fun _ => by rfl
  t5 := by kernel_rfl
  a5 := fun _ => by rfl
  z5 := fun _ => by rfl
  v5 := fun _ => by rfl
  t9 := by kernel_rfl
  a9 := fun _ => by rfl
  z9 := fun _ => by rfl
  v9 := fun _ => by rfl
  t22 := by kernel_rfl
  a22 := fun _ => by rfl
  z22 := fun _ => by rfl
  v22 := fun _ => by rfl
  t25 := by kernel_rfl
  a25 := fun _ => by rfl
  z25 := fun _ => by rfl
  v25 := fun _ => by rfl
  t39 := by kernel_rfl
  a39 := fun _ => by rfl
  z39 := fun _ => by rfl
  v39 := fun _ => by rfl
  t45 := by kernel_rfl
  a45 := fun _ => by rfl
  z45 := fun _ => by rfl
  v45 := fun _ => by rfl
  t46 := by kernel_rfl
  a46 := fun _ => by rfl
  z46 := fun _ => by rfl
  v46 := fun _ => by rfl
  t50 := by kernel_rfl
  a50 := fun _ => by rfl
  z50 := fun _ => by rfl
  v50 := fun _ => by rfl
  t53 := by kernel_rfl
  a53 := fun _ => by rfl
  z53 := fun _ => by rfl
  v53 := fun _ => by rfl
  t55 := by kernel_rfl
  a55 := fun _ => by rfl
  z55 := fun _ => by rfl
  v55 := fun _ => by rfl
  t66 := by kernel_rfl
  a66 := fun _ => by rfl
  z66 := fun _ => by rfl
  v66 := fun _ => by rfl
  t70 := by kernel_rfl
  a70 := fun _ => by rfl
  z70 := fun _ => by rfl
  v70 := fun _ => by rfl
  t76 := by kernel_rfl
  a76 := fun _ => by rfl
  z76 := fun _ => by rfl
  v76 := fun _ => by rfl
  t77 := by kernel_rfl
  a77 := fun _ => by rfl
  z77 := fun _ => by rfl
  v77 := fun _ => by rfl }
end Go.Proofs.Ytalpfcckdjipoaa
