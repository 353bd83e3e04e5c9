/-
  The walks of wakes and made of layer 7, and of teimsg.Frame. Nothing that was there is turned.
-/
import Derived.Test.YtfpdkdaoomakgaaDoorTeimsgPutWalks
import Derived.Test.YtfpdkdaoomakgaaDoorCells
namespace Go.Proofs.YtfpdkdaoomakgaaDoor
open Go.RowKit
set_option linter.unusedVariables false
set_option linter.unusedSimpArgs false

theorem twakes_put : Tm.putRes 1 258 127 = (⟨#[15, 1, 2, 1, 255]⟩, 0) := by decide
theorem twakes_net : Tm.net 6 = true := by decide

set_option maxHeartbeats 400000 in
set_option maxRecDepth 100000 in
theorem twakes_any (w : World) :
    Calls Tryd.prog 6 #[] w fun e w' => e = .returned (.bool true) ∧ Below w.heap.size w w' := by
  have hP := tput_any 1 258 127 w
  rw [twakes_put] at hP
  have hN := twakes_net
  go_enter Tryd.func6, Tryd.ntmps6
  go_wp2_with fail
  refine hP.mono ?_
  rintro e w1 ⟨rfl, hb1⟩
  clear hP
  go_wp2_with fail
  refine (from_any 6 _).mono ?_
  rintro e w2 ⟨rfl, rfl⟩
  rw [hN]
  go_wp2
  go_ret
  exact ⟨by simp, hb1⟩

set_option maxHeartbeats 400000 in
set_option maxRecDepth 100000 in
theorem tmade_any (t ri ai : Int) (w : World) :
    Calls Tryd.prog 4 #[.agg #[.int .i64 t, .int .i64 ri, .int .i64 ai]] w fun e w' => e = .returned (.agg #[.int .i64 t, .int .i64 ri, .int .i64 ai]) ∧ Below w.heap.size w w' := by
  go_enter Tryd.func4, Tryd.ntmps4
  go_wp2
  exact bodyPost_ret (v := .agg #[.int .i64 t, .int .i64 ri, .int .i64 ai]) (by simp [results, Tryd.results4, go_sem]) rfl ⟨rfl, by
    have h : Below w.heap.size w ((w.alloc (.cells #[.int .i64 t, .int .i64 ri, .int .i64 ai] 23)).alloc (.cells #[.int .i64 t, .int .i64 ri, .int .i64 ai] 26)) := ((Below.refl _ _).alloc (Nat.le_refl _) _).alloc (by simp) _
    exact h⟩

/-- what Frame answers -/
def tfrV (t ri ai : Int) : Value :=
  if (Tm.putRes t ri ai).2 = 0 then .tuple #[frA 63 127 true 6 false 0 0 (Tm.putRes t ri ai).1, .int .i64 0] else .tuple #[frA 0 0 false 0 false 0 0 ByteArray.empty, .int .i64 (Tm.putRes t ri ai).2]
theorem tfr_in {t ri ai : Int} (h : (Tm.putRes t ri ai).2 = 0) : tfrV t ri ai = .tuple #[frA 63 127 true 6 false 0 0 (Tm.putRes t ri ai).1, .int .i64 0] := by rw [tfrV, if_pos h]
theorem tfr_out {t ri ai : Int} (h : (Tm.putRes t ri ai).2 ≠ 0) : tfrV t ri ai = .tuple #[frA 0 0 false 0 false 0 0 ByteArray.empty, .int .i64 (Tm.putRes t ri ai).2] := by rw [tfrV, if_neg h]

set_option maxHeartbeats 1000000 in
set_option maxRecDepth 100000 in
theorem tframe_any (t ri ai : Int) (w : World) :
    Calls Tryd.prog 8 #[.agg #[.int .i64 t, .int .i64 ri, .int .i64 ai]] w fun e w' => e = .returned (tfrV t ri ai) ∧ Below w.heap.size w w' := by
  have hP := tput_any t ri ai ((w.alloc (.cells #[.int .i64 t, .int .i64 ri, .int .i64 ai] 26)).alloc (.cells #[.int .i64 0, .int .i64 0, .bool false, .int .i64 0, .bool false, .int .i64 0, .int .i64 0, .string ByteArray.empty] 38))
  have hI := @tfr_in t ri ai
  have hO := @tfr_out t ri ai
  have hE0 := eight_new (w.alloc (.cells #[.int .i64 t, .int .i64 ri, .int .i64 ai] 26)) (.int .i64 0) (.int .i64 0) (.bool false) (.int .i64 0) (.bool false) (.int .i64 0) (.int .i64 0) (.string ByteArray.empty) 38
  rw [show (w.alloc (.cells #[.int .i64 t, .int .i64 ri, .int .i64 ai] 26)).heap.size = w.heap.size + 1 from by simp] at hE0
  have hq0 : Below w.heap.size w ((w.alloc (.cells #[.int .i64 t, .int .i64 ri, .int .i64 ai] 26)).alloc (.cells #[.int .i64 0, .int .i64 0, .bool false, .int .i64 0, .bool false, .int .i64 0, .int .i64 0, .string ByteArray.empty] 38)) := ((Below.refl _ _).alloc (Nat.le_refl _) _).alloc (by simp) _
  obtain ⟨⟨S, e0⟩, hR⟩ : ∃ P, P = Tm.putRes t ri ai := ⟨_, rfl⟩
  rw [← hR] at hP hI hO
  have HI : Hid (e0 = 0 → tfrV t ri ai = .tuple #[frA 63 127 true 6 false 0 0 S, .int .i64 0]) := hI
  have HO : Hid (e0 ≠ 0 → tfrV t ri ai = .tuple #[frA 0 0 false 0 false 0 0 ByteArray.empty, .int .i64 e0]) := hO
  clear hR hI hO
  go_enter Tryd.func8, Tryd.ntmps8
  go_wp2_with fail
  refine hP.mono ?_
  rintro e w1 ⟨rfl, hb1⟩
  have hq1 := hq0.trans (hb1.mono hq0.size)
  have hE1 := hE0.later hb1
  clear hP hE0 hq0 hb1
  by_cases h0 : e0 = 0
  · subst h0
    have HI2 : Hid _ := HI.out rfl
    clear HI HO
    go_wp2_with fail
    refine (link_any _).mono ?_
    rintro e w2 ⟨rfl, hb2⟩
    have hq2 := hq1.trans (hb2.mono hq1.size)
    have hE2 := hE1.later hb2
    have HE : Hid (Eight w2 (w.heap.size + 1)) := hE2
    clear hE1 hq1 hb2
    have hlt := hE2.lt
    obtain ⟨v0, v1, v2, v3, v4, v5, v6, v7, c0, c1, c2, c3, c4, c5, c6, c7, f0, f1, f2, f3, f4, f5, f6, f7⟩ := hE2.parts
    clear hE2
    go_wp2
    obtain ⟨z0, z1, z2, z3, z4, z5, z6, z7⟩ := set8_is HE.out (.int .i64 63) (.int .i64 127) (.bool true) (.int .i64 6) (.bool false) (.int .i64 0) (.int .i64 0) (.string S)
    unfold set8 at z0 z1 z2 z3 z4 z5 z6 z7
    exact bodyPost_ret (v := .tuple #[frA 63 127 true 6 false 0 0 S, .int .i64 0]) (by simp [results, Tryd.results8, go_sem, frA, z0, z1, z2, z3, z4, z5, z6, z7]) rfl ⟨by rw [HI2.out], set8_below' hq2 (Nat.le_succ _) _ _ _ _ _ _ _ _⟩
  · have HO2 : Hid _ := HO.out h0
    have tb : (e0 != 0) = true := by simpa using h0
    clear HI HO h0
    have HE : Hid (Eight w1 (w.heap.size + 1)) := hE1
    have hlt := hE1.lt
    obtain ⟨v0, v1, v2, v3, v4, v5, v6, v7, c0, c1, c2, c3, c4, c5, c6, c7, f0, f1, f2, f3, f4, f5, f6, f7⟩ := hE1.parts
    clear hE1
    go_wp2
    obtain ⟨z0, z1, z2, z3, z4, z5, z6, z7⟩ := set8_is HE.out (.int .i64 0) (.int .i64 0) (.bool false) (.int .i64 0) (.bool false) (.int .i64 0) (.int .i64 0) (.string ⟨#[]⟩)
    unfold set8 at z0 z1 z2 z3 z4 z5 z6 z7
    have he : ByteArray.empty = ⟨#[]⟩ := rfl
    exact bodyPost_ret (v := .tuple #[frA 0 0 false 0 false 0 0 ByteArray.empty, .int .i64 e0]) (by simp [results, Tryd.results8, go_sem, frA, he, z0, z1, z2, z3, z4, z5, z6, z7]) rfl ⟨by rw [HO2.out], set8_below' hq1 (Nat.le_succ _) _ _ _ _ _ _ _ _⟩
end Go.Proofs.YtfpdkdaoomakgaaDoor
