/-
  The document's flow: a payload is taken in; the two stores that set what an end says of itself.
-/
import Derived.Test.YtidemohpngkedabGreatDoorFlowRef
namespace Go.Proofs.YtidemohpngkedabGreatDoor
open Go.RowKit
set_option linter.unusedVariables false
set_option maxRecDepth 100000
set_option linter.unusedSimpArgs false

theorem push_takes (mo : Int) (L : List ByteArray) (x : ByteArray) : Qm.pushN (Qm.takes mo : Nat) L x = Qm.pushN mo L x ∧ Qm.pushL (Qm.takes mo : Nat) L x = Qm.pushL mo L x := by
  unfold Qm.pushN Qm.pushL
  rw [Qm.takes_takes]
  exact ⟨rfl, rfl⟩
theorem rfpush_any {R D : Nat} {H : Option Nat} {σ : Wm.St} {w : World} (s : ByteArray) (h : Rf w R D H σ) (hs : s.size ≤ 9223372036854775807) :
    Calls Tryz.prog 109 #[.pointer (some ⟨D, 0, none⟩), .string s] w fun e w' => e = .returned (.int .i64 (Qm.pushN σ.mo σ.L s)) ∧ Mvr w w' R D H (Wm.pushT σ s) := by
  refine (rpush_any D σ.sn H _ σ.L s w h.qu (by rw [Qm.takes_takes]) hs).mono fun e w' hx => ?_
  obtain ⟨e1, e2⟩ := push_takes σ.mo σ.L s
  rw [e1, e2] at hx
  exact ⟨hx.1, h.queue hx.2⟩
theorem rpeer_set {w : World} {R D : Nat} {H : Option Nat} {σ : Wm.St} (h : Rf w R D H σ) (b : Bool) : Mvr w (w.setCell ⟨R, 3, none⟩ (.bool b)) R D H (Wm.peerT σ b) :=
  h.set 3 (by decide) _ (fun i hi => seven (P := fun i => fval (Wm.peerT σ b) i = if i = 3 then .bool b else fval σ i) rfl rfl rfl rfl rfl rfl rfl i hi) rfl rfl rfl
theorem rown_set {w : World} {R D : Nat} {H : Option Nat} {σ : Wm.St} (h : Rf w R D H σ) (b : Bool) : Mvr w (w.setCell ⟨R, 4, none⟩ (.bool b)) R D H (Wm.ownT σ b) :=
  h.set 4 (by decide) _ (fun i hi => seven (P := fun i => fval (Wm.ownT σ b) i = if i = 4 then .bool b else fval σ i) rfl rfl rfl rfl rfl rfl rfl i hi) rfl rfl rfl
end Go.Proofs.YtidemohpngkedabGreatDoor
