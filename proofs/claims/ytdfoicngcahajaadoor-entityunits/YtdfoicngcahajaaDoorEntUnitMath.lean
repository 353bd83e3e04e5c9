/-
  Plain mathematics of units that wait, and go out. It names nothing of the program.
-/
import Derived.Test.YtdfoicngcahajaaDoorEntPlain
namespace Go.Proofs.YtdfoicngcahajaaDoor.Em
set_option linter.unusedVariables false
set_option linter.unusedSimpArgs false

/-- an entity that units wait for; was the link asked for, too? -/
def eU (us : List ByteArray) (call : Bool) : St := { new 7 3 with units := us, state := if call then 3 else if us.length = 0 then 1 else 2 }
theorem eU_nil : eU [] false = new 7 3 := rfl
theorem eU_out (us : List ByteArray) (c : Bool) : (eU us c).out = [] := rfl
theorem eU_st (us : List ByteArray) (c : Bool) : (eU us c).state = if c then 3 else if us.length = 0 then 1 else 2 := rfl
theorem eU_low (us : List ByteArray) (c : Bool) : 1 ≤ (eU us c).state ∧ (eU us c).state ≤ 3 := by
  rw [eU_st]
  split
  · omega
  · split <;> omega
theorem ask_3 (us : List ByteArray) (s : ByteArray) (hz : s.size ≤ 260) : ask (eU us false) 3 s = units (eU us false) s := by
  have h1 : ask (eU us false) 3 s = if (3 : Int) < 0 ∨ (5 : Int) < 3 then (eU us false, 2) else if ((3 : Int) = 2 ∨ (3 : Int) = 3) ∧ 260 < s.size then (eU us false, 5) else if (3 : Int) = 0 then establish (eU us false) else if (3 : Int) = 1 then release (eU us false) else if (3 : Int) = 2 then data (eU us false) s else if (3 : Int) = 3 then units (eU us false) s else busy (eU us false) (decide ((3 : Int) = 4)) := rfl
  rw [h1, if_neg (by decide), if_neg (fun hx => by omega)]
  rfl
theorem ask_long (us : List ByteArray) (s : ByteArray) (hz : 260 < s.size) : ask (eU us false) 3 s = (eU us false, 5) := by
  have h1 : ask (eU us false) 3 s = if (3 : Int) < 0 ∨ (5 : Int) < 3 then (eU us false, 2) else if ((3 : Int) = 2 ∨ (3 : Int) = 3) ∧ 260 < s.size then (eU us false, 5) else if (3 : Int) = 0 then establish (eU us false) else if (3 : Int) = 1 then release (eU us false) else if (3 : Int) = 2 then data (eU us false) s else if (3 : Int) = 3 then units (eU us false) s else busy (eU us false) (decide ((3 : Int) = 4)) := rfl
  rw [h1, if_neg (by decide), if_pos ⟨Or.inr rfl, hz⟩]
theorem units_full (us : List ByteArray) (s : ByteArray) (h : us.length = 256) : units (eU us false) s = (eU us false, 10) := by
  have h3 := (eU_low us false).2
  unfold units
  rw [if_neg (by omega), if_pos (show (eU us false).units.length = 256 from h)]
theorem units_first (s : ByteArray) : units (eU [] false) s = (tell { eU [] false with units := [s], state := 2 } 8 ByteArray.empty, 0) := rfl
theorem units_more (us : List ByteArray) (s : ByteArray) (h : us.length < 256) (h0 : us.length ≠ 0) : units (eU us false) s = (eU (us ++ [s]) false, 0) := by
  have h3 := (eU_low us false).2
  have hs : (eU us false).state = 2 := by rw [eU_st]; simp [h0]
  have h1 : (eU (us ++ [s]) false) = { eU us false with units := us ++ [s] } := by
    unfold eU
    have : (us ++ [s]).length ≠ 0 := by simp
    simp [h0, this]
  unfold units
  rw [if_neg (by omega), if_neg (show ¬ (eU us false).units.length = 256 by show ¬ us.length = 256; omega), if_neg (by omega), h1]
  rfl
/-- one more -/
theorem unit_ways (us : List ByteArray) (s : ByteArray) (h : us.length ≤ 256) :
    (s.size ≤ 260 ∧ us.length < 256 ∧ us.length = 0 ∧ (ask (eU us false) 3 s).2 = 0 ∧ (ask (eU us false) 3 s).1.out.length = 1 ∧ ({ (ask (eU us false) 3 s).1 with out := [] } : St) = eU (us ++ [s]) false) ∨
    (s.size ≤ 260 ∧ us.length < 256 ∧ us.length ≠ 0 ∧ (ask (eU us false) 3 s).2 = 0 ∧ (ask (eU us false) 3 s).1.out.length = 0 ∧ ({ (ask (eU us false) 3 s).1 with out := [] } : St) = eU (us ++ [s]) false) ∨
    (260 < s.size ∧ (ask (eU us false) 3 s).2 = 5 ∧ (ask (eU us false) 3 s).1.out.length = 0 ∧ ({ (ask (eU us false) 3 s).1 with out := [] } : St) = eU us false) ∨
    (s.size ≤ 260 ∧ us.length = 256 ∧ (ask (eU us false) 3 s).2 = 10 ∧ (ask (eU us false) 3 s).1.out.length = 0 ∧ ({ (ask (eU us false) 3 s).1 with out := [] } : St) = eU us false) := by
  by_cases hz : 260 < s.size
  · refine Or.inr (Or.inr (Or.inl ⟨hz, ?_⟩))
    rw [ask_long us s hz]
    exact ⟨rfl, rfl, rfl⟩
  · have hz' : s.size ≤ 260 := by omega
    rw [ask_3 us s hz']
    by_cases h6 : us.length = 256
    · refine Or.inr (Or.inr (Or.inr ⟨hz', h6, ?_⟩))
      rw [units_full us s h6]
      exact ⟨rfl, rfl, rfl⟩
    · by_cases h0 : us.length = 0
      · have hn : us = [] := List.eq_nil_of_length_eq_zero h0
        subst hn
        refine Or.inl ⟨hz', by omega, rfl, ?_⟩
        rw [units_first]
        exact ⟨rfl, rfl, rfl⟩
      · refine Or.inr (Or.inl ⟨hz', by omega, h0, ?_⟩)
        rw [units_more us s (by omega) h0]
        exact ⟨rfl, rfl, rfl⟩
theorem call_unit (us : List ByteArray) : ({ (ask (eU us false) 0 ByteArray.empty).1 with out := [] } : St) = eU us true := by
  by_cases h0 : us.length = 0
  · have hn : us = [] := List.eq_nil_of_length_eq_zero h0
    subst hn
    rfl
  · have hs : eU us false = { new 7 3 with units := us, state := 2 } := by
      unfold eU
      simp [h0]
    rw [hs]
    rfl
/-- a unit's effect -/
def uE (tei : Int) (s : ByteArray) : Eff := ⟨0, ⟨0, tei, true, 6, false, 0, 0, s⟩, ByteArray.empty, 0⟩
theorem unitsOut_out : ∀ (l : List ByteArray) (e : St), (unitsOut e l).out = e.out ++ l.map (uE e.tei)
  | [], e => by simp [unitsOut]
  | s :: l, e => by
    show (unitsOut (unit e s) l).out = _
    rw [unitsOut_out l (unit e s)]
    have h1 : (unit e s).out = e.out ++ [uE e.tei s] := rfl
    have h2 : (unit e s).tei = e.tei := rfl
    rw [h1, h2]
    simp
theorem assign_unit (us : List ByteArray) (call : Bool) (tei : Int) (h0 : 0 ≤ tei) (h1 : tei ≤ 126) :
    (assign (eU us call) tei).2 = 0 ∧ (assign (eU us call) tei).1.units.length = 0 ∧
    ∃ l, (assign (eU us call) tei).1.out = us.map (uE tei) ++ l ∧ l.length = (if call then 2 else 0) ∧ (call = true → ∃ f x, l = [⟨0, f, ByteArray.empty, 0⟩, x] ∧ f.k = 4) := by
  have hlow := (eU_low us call).2
  have hb : ¬ (tei < 0 ∨ 126 < tei) := by omega
  have h4 : ¬ 4 ≤ (eU us call).state := by omega
  have hA : assign (eU us call) tei = (if (eU us call).state = 3 then Em.call { { unitsOut { eU us call with out := [], tei := tei, state := 4 } us with units := [] } with asked := true } else { unitsOut { eU us call with out := [], tei := tei, state := 4 } us with units := [] }, 0) := by
    unfold assign
    simp only []
    rw [if_neg hb, if_neg (show ¬ 4 ≤ (eU us call).state from h4)]
    rfl
  rw [hA]
  have hk := unitsOut_keep us { eU us call with out := [], tei := tei, state := 4 }
  have ho : (unitsOut { eU us call with out := [], tei := tei, state := 4 } us).out = us.map (uE tei) := by
    rw [unitsOut_out]
    rfl
  have ht : (unitsOut { eU us call with out := [], tei := tei, state := 4 } us).t203 = false := by
    have : ∀ (l : List ByteArray) (e : St), (unitsOut e l).t203 = e.t203 := by
      intro l
      induction l with
      | nil => intro e; rfl
      | cons s l ih => intro e; exact ih (unit e s)
    rw [this]
    rfl
  generalize unitsOut { eU us call with out := [], tei := tei, state := 4 } us = e1 at hk ho ht
  obtain ⟨m, st, t, tr, asked, t2, t3, uu, fl, out⟩ := e1
  have ho' : out = us.map (uE tei) := ho
  have ht' : t3 = false := ht
  subst ho' ht'
  refine ⟨rfl, ?_, ?_⟩
  · split <;> rfl
  · cases call with
    | true =>
      have hs : (eU us true).state = 3 := rfl
      rw [if_pos hs]
      refine ⟨[⟨0, { bare true 4 true with tei := t, nr := (bare true 4 true).nr }, ByteArray.empty, 0⟩, ⟨9, fr0, ByteArray.empty, 200⟩], ?_, rfl, fun _ => ⟨_, _, rfl, rfl⟩⟩
      show ((us.map (uE tei) ++ [_]) ++ [_]) = _
      rw [List.append_assoc]
      rfl
    | false =>
      have hs : ¬ (eU us false).state = 3 := by rw [eU_st]; simp; split <;> omega
      rw [if_neg hs]
      exact ⟨[], by simp, rfl, fun h => by cases h⟩
end Go.Proofs.YtdfoicngcahajaaDoor.Em
