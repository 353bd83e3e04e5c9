/-
  The walk of the law CtrlUnlike: it returns true.
-/
import Derived.Test.YtphconnepdbpcaaDoorCtrlUnlikeMath
import Derived.Test.YtphconnepdbpcaaDoorCtrlWakes
import Derived.Test.YtphconnepdbpcaaDoorMapEntries
import Derived.Deep.RegionWith
namespace Go.Proofs.YtphconnepdbpcaaDoor
open Go.RowKit Go.Maps Go.WideMaps
set_option linter.unusedVariables false
set_option linter.unusedSimpArgs false

theorem slaw : Keyed Tryd.prog 9 := string_keyed Tryd.underlying9
theorem blaw : Keyed Tryd.prog 5 := int_keyed Tryd.underlying5
theorem zeroBool (w : World) : (zeroValue 4).run Tryd.prog w = .ok (.bool false) w := by kernel_rfl

/-- how a bool reads -/
def boolElem (v : Value) : Option (DataW Unit × List MemPlace) := match v with | .bool b => some (.lit (.bool b), []) | _ => none
theorem boolElem_inv {v : Value} {b : Bool} {ps : List MemPlace} (h : boolElem v = some (.lit (.bool b), ps)) : v = .bool b := by
  unfold boolElem at h
  split at h
  · injection h with h
    injection h with h _
    injection h with h
    injection h with h
    rw [h]
  · exact absurd h (by simp)

def keyS (j : Nat) : Lit := .string (Cm.nameAt j).data.toList
def keyB (pf : Bool) (a : Int) (j : Nat) : Lit := .int .u8 (Cm.fo j pf a)
theorem keyS_of (j : Nat) (h : j < 10) : keyOf Tryd.prog 9 (.string (Cm.nameAt j)) = some (keyS j) :=
  keyOf_string_mk Tryd.underlying9 (by have := Cm.name_size j h; unfold maxLen; omega)
theorem keyB_wf (pf : Bool) (a : Int) (j : Nat) (ha : 0 ≤ a ∧ a ≤ 127) : (Lit.int .u8 (Cm.fo j pf a)).wf = true := by
  have := Cm.fo_bd j pf a ha
  simp [Lit.wf, IntKind.min, IntKind.max, IntKind.signed, IntKind.bits]; omega
theorem keyB_of (pf : Bool) (a : Int) (j : Nat) (ha : 0 ≤ a ∧ a ≤ 127) : keyOf Tryd.prog 5 (.int .u8 (Cm.fo j pf a)) = some (keyB pf a j) := keyOf_int_mk Tryd.underlying5 (keyB_wf pf a j ha)
theorem keyS_inj {i j : Nat} (hi : i < 10) (hj : j < 10) (h : keyS i = keyS j) : i = j := by
  unfold keyS at h
  injection h with h
  exact Cm.name_inj i hi j hj h
theorem keyB_inj {pf : Bool} {a : Int} {i j : Nat} (hi : i < 10) (hj : j < 10) (h : keyB pf a i = keyB pf a j) : i = j := by
  unfold keyB at h
  injection h with _ h
  exact Cm.fo_inj pf a i j hi hj h

/-- a map that has no key of the kinds that are still to come -/
def Fresh (key : Nat → Lit) (n : Nat) (D : DataW Unit) : Prop := ∀ j, n ≤ j → j < 10 → has D (key j) = false
theorem fresh_start (key : Nat → Lit) : Fresh key 0 (.map []) := fun j _ _ => by simp [has]
theorem Fresh.put {key : Nat → Lit} {n : Nat} {D : DataW Unit} (h : Fresh key n D) (hn : n < 10) (hi : ∀ i j, i < 10 → j < 10 → key i = key j → i = j) (d : DataW Unit) : Fresh key (n + 1) (D.put (key n) d) := by
  intro j h1 h2
  rw [has_put_other (fun e => by have := hi j n h2 hn e; omega)]
  exact h j (by omega) h2

/-- a key that isn't there is answered with false -/
theorem look_false {w : World} {k t : TypeId} {b n : Nat} {D : DataW Unit} (h : w.ownsMap Tryd.prog k boolElem b n D) (K : Keyed Tryd.prog k) (ht : Tryd.prog.underlying t = some (.map k 4)) {key : Value} {kl : Lit} (hkey : keyOf Tryd.prog k key = some kl) (hh : has D kl = false) :
    (Instr.lookup t (.map (some b)) key false).run Tryd.prog w = .ok (.bool false) w := by
  obtain ⟨v, ps, hrun, hv⟩ := h.lookup K ht (zeroBool w) (zd := .lit (.bool false)) (zp := []) rfl hkey
  have hD : D.atKey kl (.lit (.bool false)) = .lit (.bool false) := by
    obtain ⟨es, rfl⟩ := h.isMap
    simp only [has] at hh
    simp only [DataW.atKey]
    cases hf : es.find? (fun p => p.1.sameKey kl) with
    | none => rfl
    | some p =>
      have := List.find?_some hf
      have hm := List.mem_of_find?_eq_some hf
      exfalso
      rw [List.any_eq_false] at hh
      exact hh p hm this
  rw [hD] at hv
  rw [boolElem_inv hv] at hrun
  exact hrun

theorem map_later {w w' : World} {P : Program} {k : TypeId} {R : Value → Option (DataW Unit × List MemPlace)} {b n : Nat} {D : DataW Unit} (h : w.ownsMap P k R b n D) (hb : Below w.heap.size w w') : w'.ownsMap P k R b n D := by
  have hlt := h.lt
  obtain ⟨es, clock, h1, F, hs, hD⟩ := h
  exact ⟨es, clock, (hb.block b hlt).trans h1, F, hs, hD⟩

/-- the two maps -/
structure Unl (w wr : World) (pf : Bool) (a : Int) (n : Nat) : Prop where
  own1 : ∃ D, wr.ownsMap Tryd.prog 9 boolElem w.heap.size n D ∧ Fresh keyS n D
  own2 : ∃ D, wr.ownsMap Tryd.prog 5 boolElem (w.heap.size + 1) n D ∧ Fresh (keyB pf a) n D
  bel : Below w.heap.size w wr

theorem unl_start (w : World) (pf : Bool) (a : Int) : Unl w ((w.alloc (.map #[] 0)).alloc (.map #[] 0)) pf a 0 := by
  refine ⟨⟨_, (World.ownsMap_made w _ _ _).alloc _, fresh_start _⟩, ⟨.map [], ?_, fresh_start _⟩, ((Below.refl _ _).alloc (Nat.le_refl _) _).alloc (by simp) _⟩
  have h := World.ownsMap_made (w.alloc (.map #[] 0)) Tryd.prog 5 boolElem
  rwa [show (w.alloc (.map #[] 0)).heap.size = w.heap.size + 1 from by simp] at h

set_option maxHeartbeats 2000000 in
set_option maxRecDepth 100000 in
theorem walk_CtrlUnlike (ns nr : Int) (pf : Bool) (w : World) (hns : -9223372036854775808 ≤ ns ∧ ns ≤ 9223372036854775807) (hnr : -9223372036854775808 ≤ nr ∧ nr ≤ 9223372036854775807) (hT : First w) (hN : Names w) :
    Calls Tryd.prog 8 #[.int .i64 ns, .int .i64 nr, .bool pf] w fun e w' => e = .returned (.bool true) ∧ Below w.heap.size w w' := by
  obtain ⟨a, ha, ha0⟩ : ∃ a, bits .and .i64 ns 127 = a ∧ (0 ≤ a ∧ a ≤ 127) := ⟨_, rfl, Cm.mask_127 ns⟩
  obtain ⟨b, hb, hb0⟩ : ∃ b, bits .and .i64 nr 127 = b ∧ (0 ≤ b ∧ b ≤ 127) := ⟨_, rfl, Cm.mask_127 nr⟩
  have HA : Hid (0 ≤ a ∧ a ≤ 127) := ha0
  have HB : Hid (0 ≤ b ∧ b ≤ 127) := hb0
  clear ha0 hb0
  have hmm := @run_makeMap Tryd.prog
  go_enter Tryd.func8, Tryd.ntmps8
  go_wp2
  clear hmm
  go_loopw [9] (fun c wr => ∃ n : Nat, n ≤ 10 ∧ c = .int .i64 n ∧ Unl w wr pf a n) (fun c _ => 10 - (intOf c).toNat)
  case atStart => exact ⟨0, Nat.zero_le _, rfl, unl_start w pf a⟩
  case round =>
    obtain ⟨n, hn10, rfl, hU⟩ := hrel
    by_cases hlt : n < 10
    · obtain ⟨⟨D1, hown1, hf1⟩, ⟨D2, hown2, hf2⟩, hbel⟩ := hU
      obtain ⟨r, hput, hr1⟩ := Cm.put_first n pf a b hlt HA.out HB.out
      have hP := cput_any (n : Int) pf a b wr (hT.later hbel)
      have hfb := Cm.fo_bd n pf a HA.out
      obtain ⟨S, hS⟩ : ∃ S, S = strOfNums (Cm.fo n pf a :: r) := ⟨_, rfl⟩
      have hSs : 0 < S.size := by rw [hS, strOfNums_size]; simp
      have hS2 : S.size ≤ 2 := by rw [hS, strOfNums_size]; simp; omega
      have hS0 : (S[0].toNat : Int) = Cm.fo n pf a := by subst hS; exact Cm.first_at _ r hfb.1 hfb.2 hSs
      rw [hput, ← hS] at hP
      clear hput hS
      go_wp2_with fail
      refine hP.mono ?_
      rintro e w2 ⟨rfl, hb2⟩
      clear hP
      have hM1 := map_later hown1 hb2
      have hM2 := map_later hown2 hb2
      have hbel2 := hbel.trans (hb2.mono hbel.size)
      clear hown1 hown2 hb2 hbel
      have hname := name_any (n : Int) w2 (hN.later hbel2)
      rw [nameOf_in n hlt] at hname
      have look1 := look_false (t := 48) hM1 slaw Tryd.underlying48 (keyS_of n hlt) (hf1 n (Nat.le_refl _) hlt)
      have look2 := look_false (t := 49) hM2 blaw Tryd.underlying49 (keyB_of pf a n HA.out) (hf2 n (Nat.le_refl _) hlt)
      have hne := Cm.name_list n hlt
      obtain ⟨nm, hnm⟩ : ∃ nm, nm = Cm.nameAt n := ⟨_, rfl⟩
      have HM : Hid (nm = Cm.nameAt n) := hnm
      rw [← hnm] at hname look1 hne
      obtain ⟨y, hy⟩ : ∃ y, y = Cm.fo n pf a := ⟨_, rfl⟩
      have HY : Hid (y = Cm.fo n pf a) := hy
      rw [← hy] at hS0 look2 hfb
      clear hnm hy
      have hSi : (0 : Int) < (S.size : Int) := by omega
      have hSe : ((S.size : Int) == 0) = false := beq_eq_false_iff_ne.2 (by omega)
      go_wp2_with fail
      refine hname.mono ?_
      rintro e w' ⟨rfl, rfl⟩
      go_wp2_with fail
      refine hname.mono ?_
      rintro e w' ⟨rfl, rfl⟩
      have hmax : n < maxLen := by unfold maxLen; omega
      have hbel3 : Below w.heap.size w w2.drew := hbel2.drew
      have hname2 := name_any (n : Int) w2.drew (hN.later hbel3)
      rw [nameOf_in n hlt, ← HM.out] at hname2
      have hk1 := keyS_of n hlt
      have hk2 := keyB_of pf a n HA.out
      rw [← HM.out] at hk1
      rw [← HY.out] at hk2
      obtain ⟨st1, W1, W2, r1, r2, hO1, hg1⟩ := entry_put (t := 48) (val := .bool true) hM1.drew slaw Tryd.underlying48 zeroBool hk1 (hf1 n (Nat.le_refl _) hlt) hmax (d := .lit (.bool true)) (ps := []) rfl
      have hM2' := hM2.drew.kept hg1 (by simp)
      obtain ⟨st2, W3, W4, r3, r4, hO2, hg2⟩ := entry_put (t := 49) (val := .bool true) hM2' blaw Tryd.underlying49 zeroBool hk2 (hf2 n (Nat.le_refl _) hlt) hmax (d := .lit (.bool true)) (ps := []) rfl
      have hO1' := hO1.kept hg2 (by simp)
      have hbW2 : Below w.heap.size w W2 := hbel3.grown hg1 hbel3.size (fun j hj => by cases hj; exact Nat.le_refl _)
      have hbW4 : Below w.heap.size w W4 := hbW2.grown hg2 hbW2.size (fun j hj => by cases hj; exact Nat.le_succ _)
      have hUn : Hid (Unl w W4 pf a (n + 1)) := ⟨⟨_, hO1', hf1.put hlt (fun i j hi hj e => keyS_inj hi hj e) _⟩, ⟨_, hO2, hf2.put hlt (fun i j hi hj e => keyB_inj hi hj e) _⟩, hbW4⟩
      clear hO1 hO2 hO1' hM2' hM1 hM2 hg1 hg2 hbW2 hbW4 hk1 hk2 hbel2 hbel3 hf1 hf2 hname look1 look2
      go_wp2
      go_region_with (go_at_call 12; refine hname2.mono ?_; rintro e w' ⟨rfl, rfl⟩)
      all_goals
        clear r1 r2 r3 r4 hname2
        go_wp2
        go_roundw
        case rel => exact ⟨n + 1, by omega, by go_num, hUn.out⟩
        case measure => simp [intOf]; omega
    · have hbel := hU.bel
      clear hU
      go_wp2_with fail
      refine (cwakes_any _ (hT.later hbel) (hN.later hbel)).mono ?_
      rintro e w1 ⟨rfl, hb1⟩
      go_wp2
      go_ret
      exact ⟨rfl, hbel.trans (hb1.mono hbel.size)⟩
end Go.Proofs.YtphconnepdbpcaaDoor
