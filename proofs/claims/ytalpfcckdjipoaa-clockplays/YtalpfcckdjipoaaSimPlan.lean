/-
  The program beside this one: its functions that sort, its comparisons; the one that stands for (*clock.Clock).order takes the clock last.
-/
import Derived.Test.YtalpfcckdjipoaaSimAll
import Derived.Test.YtalpfcckdjipoaaRows
import Derived.KernelRfl
namespace Go.Proofs.Ytalpfcckdjipoaa
set_option linter.unusedVariables false
set_option linter.unusedSimpArgs false

/-- which slots of a function hold the comparison, and how many slots it has -/
def planTab : Nat → Option (List Nat × Nat)
  | 22 => some ([1, 12], 14)
  | 25 => some ([4, 29, 36, 43, 51, 60, 79, 84, 102, 110, 133, 145], 148)
  | 26 => some ([], 8)
  | 30 => some ([3, 22], 53)
  | 31 => some ([3, 28, 58], 60)
  | 32 => some ([3], 67)
  | 33 => some ([3, 39, 43, 47, 53], 63)
  | 34 => some ([3], 34)
  | 35 => some ([3, 23, 72, 112], 141)
  | 36 => some ([4, 35, 54], 90)
  | 37 => some ([4, 36, 54, 109, 127], 178)
  | 38 => some ([], 19)
  | 39 => some ([], 25)
  | 42 => some ([4, 24, 43], 82)
  | 43 => some ([], 7)
  | 44 => some ([], 33)
  | 45 => some ([3, 16], 18)
  | 46 => some ([5, 18, 27, 36], 41)
  | 47 => some ([4, 12], 32)
  | 27 => some ([], 18)
  | 28 => some ([], 20)
  | 29 => some ([], 20)
  | 40 => some ([], 6)
  | 41 => some ([], 6)
  | _ => none

def plan : Plan where
  fam g := (planTab g).isSome
  fs f s := match planTab f with | some (l, _) => l.contains s | none => false
  n f := match planTab f with | some (_, n) => n | none => 32
  cid := 23

/-- the comparison's own code -/
def ordCode (P : Program) : Code := ((P.funcs[23]?).bind (·.body)).getD .skip
/-- .. with the clock handed over last -/
def ordF (P : Program) : Func := { (P.funcs[23]?).getD default with body := some (.seq (.region 99 (permOps 32) false) (ordCode P)), ntmps := 33 }
def besideF (P : Program) : Array Func := P.funcs.mapIdx fun i fn => if i = 23 then ordF P else if (planTab i).isSome then fn else default
def beside (P : Program) : Program := withF P (besideF P)

theorem beside_at {P : Program} {g : Nat} {fn : Func} (h : P.funcs[g]? = some fn) : (besideF P)[g]? = some (if g = 23 then ordF P else if (planTab g).isSome then fn else default) := by
  unfold besideF
  rw [Array.getElem?_mapIdx, h]
  rfl

/-- a function of the family, looked at -/
def famOk (P : Program) (g : Nat) (fn : Func) : Bool :=
  match fn.body with
  | some c => okCode P plan g c && decide (fn.ntmps = plan.n g) && !(fn.name == "runtime.NumGoroutine") && okRes plan g fn.results.toList && decide (g ≠ 23)
  | none => false

theorem fam_at {P : Program} {g : Nat} {fn : Func} (hg : (planTab g).isSome = true) (h : P.funcs[g]? = some fn) (hc : famOk P g fn = true) :
    ∃ fn c, P.funcs[g]? = some fn ∧ (besideF P)[g]? = some fn ∧ fn.body = some c ∧ okCode P plan g c = true ∧ fn.ntmps = plan.n g ∧ (fn.name == "runtime.NumGoroutine") = false ∧ okRes plan g fn.results.toList = true := by
  unfold famOk at hc
  split at hc
  · rename_i c hb
    simp only [Bool.and_eq_true, decide_eq_true_eq, Bool.not_eq_true'] at hc
    obtain ⟨⟨⟨⟨h1, h2⟩, h3⟩, h4⟩, h5⟩ := hc
    exact ⟨fn, c, h, by rw [beside_at h, if_neg h5, if_pos hg], hb, h1, h2, h3, h4⟩
  · cases hc

/-- all of them -/
def famAll (P : Program) (n : Nat) : Bool := (List.range n).all fun g => if (planTab g).isSome then (match P.funcs[g]? with | some fn => famOk P g fn | none => false) else true
/-- the comparison, looked at -/
def cmpOk (P : Program) (fn : Func) : Bool :=
  match fn.body with
  | some c => okCode P plan 23 c && decide (fn.ntmps = 32) && !(fn.name == "runtime.NumGoroutine") && okRes plan 23 fn.results.toList
  | none => false
/-- no function beside lays a package variable -/
def calm (fn : Func) : Bool := ((fn.body.map readies).getD []).isEmpty

set_option maxRecDepth 100000 in
theorem famAll_ok : famAll Try.prog 65 = true := by kernel_rfl
set_option maxRecDepth 100000 in
theorem cmp_ok : cmpOk Try.prog Try.f23 = true := by kernel_rfl
set_option maxRecDepth 100000 in
theorem calm_ok : (besideF Try.prog).all calm = true := by kernel_rfl
theorem tab_small : ∀ g, (planTab g).isSome = true → g < 65 := by
  intro g h
  unfold planTab at h
  split at h <;> first | omega | simp at h

theorem setup : Setup Try.prog (besideF Try.prog) plan where
  fam := by
    intro g hg
    have hg' : (planTab g).isSome = true := hg
    have h1 := List.all_eq_true.1 famAll_ok g (by simpa using tab_small g hg')
    rw [if_pos hg'] at h1
    split at h1
    · rename_i fn hfn
      exact fam_at hg' hfn h1
    · cases h1
  cmp := by
    have h := cmp_ok
    unfold cmpOk at h
    split at h
    · rename_i c hb
      simp only [Bool.and_eq_true, decide_eq_true_eq, Bool.not_eq_true'] at h
      obtain ⟨⟨⟨h1, h2⟩, h3⟩, h4⟩ := h
      have hf := Try.func23
      have hc : ordCode Try.prog = c := by unfold ordCode; rw [hf]; simp [hb]
      refine ⟨Try.f23, ordF Try.prog, c, 99, hf, by rw [show plan.cid = 23 from rfl, beside_at hf, if_pos rfl], hb, ?_, h1, h2, rfl, ?_, h4, h3, ?_, by decide⟩
      · show some (Code.seq (.region 99 (permOps 32) false) (ordCode Try.prog)) = _
        rw [hc]; rfl
      · show ((Try.prog.funcs[23]?).getD default).results = _
        rw [hf]; rfl
      · show (((Try.prog.funcs[23]?).getD default).name == "runtime.NumGoroutine") = false
        rw [hf]; exact h3
    · cases h
  fsc := fun s => rfl
  ready := by
    refine ⟨by kernel_rfl, fun g => ?_⟩
    show (besideF Try.prog).findIdx? _ = none
    rw [Array.findIdx?_eq_none_iff]
    intro fn hfn
    have hc := Array.all_eq_true'.1 calm_ok fn hfn
    unfold calm at hc
    cases hb : fn.body with
    | none => simp [hb]
    | some c => rw [hb] at hc; simp at hc; simp [hb, hc]
end Go.Proofs.Ytalpfcckdjipoaa
