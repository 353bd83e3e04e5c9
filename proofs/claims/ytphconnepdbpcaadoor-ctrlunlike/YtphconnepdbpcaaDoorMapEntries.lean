/-
  A new key of a map that the call made, stored in two steps: the entry first, then its element (as an assignment of several values has it). It names nothing of the program.
-/
import Derived.Maps.OwnSet
namespace Go.Proofs.YtphconnepdbpcaaDoor
open Go.Maps Go.WideElems Go.MapKept Go.ChangeMaps Go.ChangeShapes Go.WideShapes
set_option linter.unusedVariables false
set_option linter.unusedSimpArgs false

theorem absent_at {D : DataW Unit} {kl : Lit} (hD : IsMap D) (hh : has D kl = false) (z : DataW Unit) : D.atKey kl z = z := by
  obtain ⟨es, rfl⟩ := hD
  rw [has_eq, List.any_eq_false] at hh
  simp only [DataW.atKey]
  cases hf : es.find? (fun p => p.1.sameKey kl) with
  | none => rfl
  | some p => exact absurd (List.find?_some hf) (hh p (List.mem_of_find?_eq_some hf))

theorem set_twice (w : World) (b : Nat) (o o' : Obj) : setBlock (setBlock w b o) b o' = setBlock w b o' := by
  simp [setBlock]

/-- the newest entry is the one that bears the newest stamp -/
theorem stamp_at (es : Array MapEntry) (x : MapEntry) (clock : Nat) (hx : x.born = clock) (h : ∀ y ∈ es.toList, y.born < clock) : (es.push x).findIdx? (fun e => ((e.born : Nat) : Int) == ((clock : Nat) : Int)) = some es.size := by
  have h0 : es.findIdx? (fun e => ((e.born : Nat) : Int) == ((clock : Nat) : Int)) = none := by
    rw [Array.findIdx?_eq_none_iff]
    intro y hy
    have := h y (by simpa using hy)
    rw [beq_eq_false_iff_ne]; omega
  rw [Array.findIdx?_push, h0]
  simp [hx]
/-- to turn the last of a row is to push what it is turned to -/
theorem last_turned (es : Array MapEntry) (x : MapEntry) (f : MapEntry → MapEntry) : (es.push x).modify es.size f = es.push (f x) := by
  refine Array.ext (by simp) fun i h1 h2 => ?_
  rw [Array.getElem_modify]
  by_cases hi : es.size = i
  · subst hi; simp
  · rw [if_neg hi, Array.getElem_push_lt (by simp at h2; omega), Array.getElem_push_lt (by simp at h2; omega)]

theorem entry_put {w : World} {P : Program} {k t e : TypeId} {b n : Nat} {D : DataW Unit} {R : Value → Option (DataW Unit × List MemPlace)} (h : w.ownsMap P k R b n D) (K : Keyed P k) (ht : P.underlying t = some (.map k e)) {z : Value}
    (hz : ∀ u : World, (zeroValue e).run P u = .ok z u) {key val : Value} {kl : Lit} {d : DataW Unit} {ps : List MemPlace} (hkey : keyOf P k key = some kl) (hh : has D kl = false) (hn : n < maxLen) (hv : R val = some (d, ps)) :
    ∃ (st : Nat) (W1 W2 : World), (Instr.mapEntry t (.map (some b)) key).run P w = .ok (.tuple #[z, .int .i64 (st : Int)]) W1 ∧ (Instr.entryStore t (.map (some b)) (.int .i64 (st : Int)) val).run P W1 = .ok () W2 ∧ W2.ownsMap P k R b (n + 1) (D.put kl d) ∧ w.grownBy W2 (some b) := by
  obtain ⟨w', hrun, hown', hgr⟩ := h.update K ht hn hkey hv
  have hat := absent_at h.isMap hh
  obtain ⟨es, clock, hb, F, hs, hD⟩ := h
  have hno : ∀ x ∈ es.toList, x.key ≠ key := by
    rcases Maps.fit_look false K ht (hz w) hb F hkey with ⟨_, h2, _⟩ | ⟨e0, y, _, _, _, _, h3, _⟩
    · exact h2
    · exfalso
      rw [hD] at hat
      have e1 := (h3 .nil).symm.trans (hat .nil)
      have e2 := (h3 (.lit (.bool false))).symm.trans (hat (.lit (.bool false)))
      rw [e1] at e2
      cases e2
  rcases K.find w hkey es.toList F.keys with ⟨h1, h2⟩ | ⟨j, e0, _, h2, h3⟩
  · obtain ⟨s1, s2, _⟩ := F.stamped
    have hup : (Instr.mapUpdate t (.map (some b)) key val).run P w = .ok () (setBlock w b (.map (es.push ⟨key, val, clock⟩) (clock + 1))) := by
      simp [Instr.mapUpdate, run_underlying ht, MapKept.run_getObj_map hb, K.check w false hkey, h1, MapKept.run_setObj_map _ hb, Result.andThen, setBlock]
    have hw' : w' = setBlock w b (.map (es.push ⟨key, val, clock⟩) (clock + 1)) := by
      rw [hup] at hrun
      injection hrun with _ hrun
      exact hrun.symm
    have hb1 := heap_setBlock_same hb (.map (es.push ⟨key, z, clock⟩) (clock + 1))
    refine ⟨clock, setBlock w b (.map (es.push ⟨key, z, clock⟩) (clock + 1)), w', ?_, ?_, hown', hgr⟩
    · simp [Instr.mapEntry, run_underlying ht, MapKept.run_getObj_map hb, K.check w false hkey, h1, hz, MapKept.run_setObj_map _ hb, Result.andThen, setBlock, goInt]
    · have hidx := stamp_at es ⟨key, z, clock⟩ clock rfl s1
      have hmod := last_turned es ⟨key, z, clock⟩ (fun e => { e with val := val })
      have hr : (Instr.entryStore t (.map (some b)) (.int .i64 (clock : Int)) val).run P (setBlock w b (.map (es.push ⟨key, z, clock⟩) (clock + 1))) = .ok () (setBlock (setBlock w b (.map (es.push ⟨key, z, clock⟩) (clock + 1))) b (.map (es.push ⟨key, val, clock⟩) (clock + 1))) := by
        simp [Instr.entryStore, MapKept.run_getObj_map hb1, asInt, asIntOf, hidx, hmod, MapKept.run_setObj_map _ hb1, Result.andThen]
        try rfl
      rw [hr, set_twice, hw']
  · exact absurd h3 (hno e0 (List.mem_of_getElem? h2))
end Go.Proofs.YtphconnepdbpcaaDoor
