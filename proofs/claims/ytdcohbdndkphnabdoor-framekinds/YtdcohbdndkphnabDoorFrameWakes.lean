/-
  The walk of wakes of layer 6. Nothing that was there is turned.
-/
import Derived.Test.YtdcohbdndkphnabDoorFramePutWalks
import Derived.Test.YtdcohbdndkphnabDoorFrameGetTwo
namespace Go.Proofs.YtdcohbdndkphnabDoor
open Go.RowKit
set_option linter.unusedVariables false
set_option linter.unusedSimpArgs false

theorem fwakes_put : Xm.putRes ⟨0, 64, false, 1, true, 0, 1, ⟨#[]⟩⟩ false = (Fm.sealB ⟨#[2, 129, 1, 3]⟩, 0) := by
  rw [Xm.put_is (by decide) (by decide) (by decide) (by decide), show Xm.body ⟨0, 64, false, 1, true, 0, 1, ⟨#[]⟩⟩ false = ⟨#[2, 129, 1, 3]⟩ from by decide]
theorem fwakes_may : Xm.mayB 1 true = true := by decide

set_option maxHeartbeats 400000 in
theorem fwakes_any (w : World) (hL : Laws6 w) :
    Calls Tryd.prog 10 #[] w fun e w' => e = .returned (.bool true) ∧ Below w.heap.size w w' := by
  have hP := fput_any 0 64 false 1 true 0 1 ⟨#[]⟩ false w (by decide) hL
  rw [fwakes_put] at hP
  obtain ⟨T, hT⟩ : ∃ T, T = Fm.sealB ⟨#[2, 129, 1, 3]⟩ := ⟨_, rfl⟩
  rw [← hT] at hP
  have HT : Hid (Fm.sealB ⟨#[2, 129, 1, 3]⟩ = T) := hT.symm
  have hTT : (T.toList == T.toList) = true := str_eq rfl
  clear hT
  go_enter Tryd.func10, Tryd.ntmps10
  go_wp2_with fail
  refine hP.mono ?_
  rintro e w1 ⟨rfl, hb1⟩
  clear hP
  have hS := seal_any ⟨#[2, 129, 1, 3]⟩ w1 (by decide)
  rw [HT.out] at hS
  go_wp2_with fail
  refine hS.mono ?_
  rintro e w2 ⟨rfl, hb2⟩
  clear hS
  have hq2 := hb1.trans (hb2.mono hb1.size)
  have hM := may_any 1 true w2 (hL.later hq2).ways
  rw [fwakes_may] at hM
  go_wp2_with fail
  refine hM.mono ?_
  rintro e w' ⟨rfl, rfl⟩
  go_wp2
  go_ret
  exact ⟨by simp, hq2⟩

end Go.Proofs.YtdcohbdndkphnabDoor
