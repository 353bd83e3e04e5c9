/-
  The walk of the law TeimsgBack: it returns true.
-/
import Derived.Test.YtfpdkdaoomakgaaDoorTeimsgOfWalks
import Derived.Test.YtfpdkdaoomakgaaDoorTeimsgWakes
import Derived.Test.YtfpdkdaoomakgaaDoorFrameGetTwo
namespace Go.Proofs.YtfpdkdaoomakgaaDoor
open Go.RowKit
set_option linter.unusedVariables false
set_option linter.unusedSimpArgs false

/-- a message's frame has octets -/
theorem tei_put (S : ByteArray) (net : Bool) (h : S.size = 5) : (Xm.putRes ⟨63, 127, true, 6, false, 0, 0, S⟩ net).2 = 0 := by
  have h1 : Xm.mayB 6 true = true := by decide
  have h2 : (Cm.putRes 6 false 0 0).2 = 0 := by decide
  have h3 : (Am.putRes 63 127 (true == net)).2 = 0 := by cases net <;> decide
  have h4 : Xm.carB 6 (S.size : Int) = true := by rw [h]; decide
  rw [Xm.put_is (f := ⟨63, 127, true, 6, false, 0, 0, S⟩) h1 h2 h3 h4]
/-- which are read back as it -/
theorem tei_back (S : ByteArray) (net : Bool) (h : S.size = 5) : Xm.getRes (Xm.putRes ⟨63, 127, true, 6, false, 0, 0, S⟩ net).1 net = (⟨63, 127, true, 6, false, 0, 0, S⟩, 0) := by
  rw [Xm.back (tei_put S net h)]; rfl
theorem tei_size (S : ByteArray) (net : Bool) (h : S.size = 5) : (Xm.putRes ⟨63, 127, true, 6, false, 0, 0, S⟩ net).1.size ≤ 1000 := by
  have h1 := (Xm.put_size (tei_put S net h)).1
  have h2 := Xm.ctl_size (f := ⟨63, 127, true, 6, false, 0, 0, S⟩) (Xm.put_ok (tei_put S net h)).2.1
  have h3 : (⟨63, 127, true, 6, false, 0, 0, S⟩ : Xm.Fr).info.size = 5 := h
  omega

/-- the message, and the law's tables, behind whatever was made since -/
structure BackH (w0 : World) (B : Nat) (t ri ai : Int) (w : World) : Prop where
  m : Msg3 w B t ri ai
  bel : Below w0.heap.size w0 w
theorem BackH.later {w0 w w' : World} {B : Nat} {t ri ai : Int} (h : BackH w0 B t ri ai w) (hb : Below w.heap.size w w') : BackH w0 B t ri ai w' := ⟨h.m.later hb, h.bel.trans (hb.mono h.bel.size)⟩

set_option maxHeartbeats 4000000 in
set_option maxRecDepth 100000 in
theorem walk_TeimsgBack (t ri ai : Int) (w : World) (hL : Laws6 w) :
    Calls Tryd.prog 3 #[.agg #[.int .i64 t, .int .i64 ri, .int .i64 ai]] w fun e w' => e = .returned (.bool true) ∧ Below w.heap.size w w' := by
  have hq0 : Below w.heap.size w (w.alloc (.cells #[.int .i64 t, .int .i64 ri, .int .i64 ai] 23)) := (Below.refl _ _).alloc (Nat.le_refl _) _
  have hP := fun W => tput_any t ri ai W
  have hF := fun W => tframe_any t ri ai W
  go_enter Tryd.func3, Tryd.ntmps3
  go_wp2_with fail
  refine (tmade_any t ri ai _).mono ?_
  rintro e w1 ⟨rfl, hb1⟩
  have hq1 := hq0.trans (hb1.mono hq0.size)
  have hM1 : BackH w w1.heap.size t ri ai (w1.alloc (.cells #[.int .i64 t, .int .i64 ri, .int .i64 ai] 26)) := ⟨msg3_new w1 t ri ai _, hq1.alloc hq1.size _⟩
  clear hb1 hq0 hq1
  go_wp2_with fail
  refine (hP _).mono ?_
  rintro e w2 ⟨rfl, hb2⟩
  have hM2 := hM1.later hb2
  clear hP hM1 hb2
  by_cases h0 : (Tm.putRes t ri ai).2 = 0
  · rw [tfr_in h0] at hF
    simp only [frA] at hF
    rw [h0]
    have HG := Tm.get_back h0
    have hsz := Tm.put_five h0
    clear h0
    generalize (Tm.putRes t ri ai).1 = S at HG hsz hF ⊢
    have hG := fun W => tget_any S W (by omega)
    rw [HG] at hG
    simp only [tgetV, msgV] at hG
    have hN := fun W => from_any t W
    have hO1 : Tm.ofRes 63 127 true 6 S (Tm.net t) = ((t, ri, ai), true) := by rw [Tm.of_in ⟨rfl, rfl, rfl, rfl⟩ (by rw [HG]) (by rw [HG]), HG]
    have hO2 : Tm.ofRes 63 127 true 6 S (!Tm.net t) = ((0, 0, 0), false) := Tm.of_out (fun q => by have := q.2.2; rw [HG] at this; revert this; cases Tm.net t <;> simp)
    clear HG
    generalize Tm.net t = b at hN hO1 hO2
    have hP1 := fun W => tof_any 63 127 true 6 false 0 0 S b W (by omega)
    have hP2 := fun W => tof_any 63 127 true 6 false 0 0 S (!b) W (by omega)
    rw [hO1] at hP1
    rw [hO2] at hP2
    simp only [tofV, msgV] at hP1 hP2
    clear hO1 hO2
    have hU := fun W hW => fput_any 63 127 true 6 false 0 0 S b W (by omega) hW
    have hV := fun W hW => fget_any (Xm.putRes ⟨63, 127, true, 6, false, 0, 0, S⟩ b).1 b W (by have := tei_size S b hsz; omega) hW
    rw [tei_put S b hsz] at hU
    rw [tei_back S b hsz] at hV
    simp only [fgetV, frV] at hV
    clear hsz
    generalize (Xm.putRes ⟨63, 127, true, 6, false, 0, 0, S⟩ b).1 = T at hU hV
    go_wp2_with fail
    refine (twakes_any _).mono ?_
    rintro e w3 ⟨rfl, hb3⟩
    have hM3 := hM2.later hb3
    clear hM2 hb3
    go_wp2_with fail
    refine (hG _).mono ?_
    rintro e w4 ⟨rfl, hb4⟩
    have hM4 := hM3.later hb4
    clear hM3 hb4 hG
    have hK4 := msg3_new w4 t ri ai 26
    have hM5 := hM4.later ((Below.refl _ _).alloc (Nat.le_refl _) (.cells #[.int .i64 t, .int .i64 ri, .int .i64 ai] 26))
    obtain ⟨l4, c0, c1, c2⟩ := hM4.m
    clear hM4
    go_wp2_with fail
    refine (hF _).mono ?_
    rintro e w5 ⟨rfl, hb5⟩
    have hM6 := hM5.later hb5
    have hK6 := hK4.later hb5
    clear hM5 hK4 hb5 hF l4 c0 c1 c2
    have hM7 := hM6.later ((Below.refl _ _).alloc (Nat.le_refl _) (.cells #[.int .i64 63, .int .i64 127, .bool true, .int .i64 6, .bool false, .int .i64 0, .int .i64 0, .string S] 38))
    have hK7 := hK6.later ((Below.refl _ _).alloc (Nat.le_refl _) (.cells #[.int .i64 63, .int .i64 127, .bool true, .int .i64 6, .bool false, .int .i64 0, .int .i64 0, .string S] 38))
    obtain ⟨l6, c0, c1, c2⟩ := hM6.m
    clear hM6 hK6
    go_wp2_with fail
    refine (hN _).mono ?_
    rintro e w' ⟨rfl, rfl⟩
    clear hN l6 c0 c1 c2
    have hU' := hU _ (hL.later hM7.bel)
    go_wp2_with fail
    refine hU'.mono ?_
    rintro e w6 ⟨rfl, hb6⟩
    have hM8 := hM7.later hb6
    have hK8 := hK7.later hb6
    clear hM7 hK7 hb6 hU hU'
    have hV' := hV _ (hL.later hM8.bel)
    go_wp2_with fail
    refine hV'.mono ?_
    rintro e w7 ⟨rfl, hb7⟩
    have hM9 := hM8.later hb7
    have hK9 := hK8.later hb7
    clear hM8 hK8 hb7 hV hV'
    have hA9 := frc_new w7 63 127 true 6 false 0 0 S 38
    have hM10 := hM9.later ((Below.refl _ _).alloc (Nat.le_refl _) (.cells #[.int .i64 63, .int .i64 127, .bool true, .int .i64 6, .bool false, .int .i64 0, .int .i64 0, .string S] 38))
    have hK10 := hK9.later ((Below.refl _ _).alloc (Nat.le_refl _) (.cells #[.int .i64 63, .int .i64 127, .bool true, .int .i64 6, .bool false, .int .i64 0, .int .i64 0, .string S] 38))
    clear hM9 hK9
    go_wp2_with fail
    refine (hP1 _).mono ?_
    rintro e w8 ⟨rfl, hb8⟩
    have hM11 := hM10.later hb8
    have hK11 := hK10.later hb8
    have hA11 := hA9.later hb8
    clear hM10 hK10 hA9 hb8 hP1
    have hN11 := msg3_new w8 t ri ai 26
    have hM12 := hM11.later ((Below.refl _ _).alloc (Nat.le_refl _) (.cells #[.int .i64 t, .int .i64 ri, .int .i64 ai] 26))
    have hK12 := hK11.later ((Below.refl _ _).alloc (Nat.le_refl _) (.cells #[.int .i64 t, .int .i64 ri, .int .i64 ai] 26))
    clear hM11 hK11
    obtain ⟨l11, a0, a1, a2, a3, a4, a5, a6, a7⟩ := hA11
    go_wp2_with fail
    refine (hP2 _).mono ?_
    rintro e w9 ⟨rfl, hb9⟩
    have hM13 := hM12.later hb9
    have hK13 := hK12.later hb9
    have hN13 := hN11.later hb9
    clear hM12 hK12 hN11 hb9 hP2 l11 a0 a1 a2 a3 a4 a5 a6 a7
    have hbel := hM13.bel.alloc hM13.bel.size (.cells #[.int .i64 0, .int .i64 0, .int .i64 0] 26)
    obtain ⟨l13, c0, c1, c2⟩ := hM13.m
    obtain ⟨k13, d0, d1, d2⟩ := hK13
    obtain ⟨n13, e0, e1, e2⟩ := hN13
    clear hM13
    go_wp2
    go_ret
    exact ⟨by simp, hbel⟩
  · have te : ((Tm.putRes t ri ai).2 != 0) = true := by simpa using h0
    rw [Tm.put_err h0]
    clear h0 hF
    generalize (Tm.putRes t ri ai).2 = g at te ⊢
    go_wp2_with fail
    refine (twakes_any _).mono ?_
    rintro e w3 ⟨rfl, hb3⟩
    have hM3 := hM2.later hb3
    clear hM2 hb3
    go_wp2_with fail
    refine (twakes_any _).mono ?_
    rintro e w4 ⟨rfl, hb4⟩
    have hM4 := hM3.later hb4
    clear hM3 hb4
    go_wp2
    go_ret
    exact ⟨by simp, hM4.bel⟩
end Go.Proofs.YtfpdkdaoomakgaaDoor
