/-
  strings.Clone: the same octets; nothing that was there is turned. (internal/stringslite.Clone by the shelf's own contract, at this program's numbers.)
-/
import Derived.Test.YtfpdkdaoomakgaaDoorCommon
import Derived.Shelf.Pu.Clone
namespace Go.Proofs.YtfpdkdaoomakgaaDoor
open Go.RowKit Go.Shelf
set_option linter.unusedVariables false
set_option linter.unusedSimpArgs false

/-- the numbers of the shelf's names in this program -/
def cloneRen : Ren := ⟨fun | 25 => 39 | n => n, fun | 0 => 0 | 3 => 3 | 4 => 4 | 5 => 5 | 9 => 9 | 37 => 50 | 47 => 82 | n => n, fun n => n⟩

set_option maxRecDepth 100000 in
theorem cloneLays : LaysPu.n25 Tryd.prog cloneRen := {
  mixed := by kernel_rfl
  f25 := by kernel_rfl
  t0 := by kernel_rfl
  a0 := fun _ => by rfl
  z0 := fun _ => by rfl
  v0 := fun _ => by rfl
  i0 := by kernel_rfl
  t3 := by kernel_rfl
  a3 := fun _ => by rfl
  z3 := fun _ => by rfl
  v3 := fun _ => by rfl
  i3 := by kernel_rfl
  t4 := by kernel_rfl
  a4 := fun _ => by rfl
  z4 := fun _ => by rfl
  v4 := fun _ => by rfl
  i4 := by kernel_rfl
  t5 := by kernel_rfl
  a5 := fun _ => by rfl
  z5 := fun _ => by rfl
  v5 := fun _ => by rfl
  i5 := by kernel_rfl
  t9 := by kernel_rfl
  a9 := fun _ => by rfl
  z9 := fun _ => by rfl
  v9 := fun _ => by rfl
  i9 := by kernel_rfl
  t37 := by kernel_rfl
  a37 := fun _ => by rfl
  z37 := fun _ => by rfl
  v37 := fun _ => by rfl
  i37 := by kernel_rfl
  t47 := by kernel_rfl
  a47 := fun _ => by rfl
  z47 := fun _ => by rfl
  v47 := fun _ => by rfl
  i47 := by kernel_rfl }

theorem clone_in (s : ByteArray) (w : World) (hs : s.size ≤ 140737488351232) :
    Calls Tryd.prog 39 #[.string s] w fun e w' => e = .returned (.string s) ∧ Below w.heap.size w w' :=
  AnyPu.stringslite_Clone cloneLays s w (by omega)

set_option maxHeartbeats 400000 in
theorem clone_any (s : ByteArray) (w : World) (hs : s.size ≤ 140737488351232) :
    Calls Tryd.prog 36 #[.string s] w fun e w' => e = .returned (.string s) ∧ Below w.heap.size w w' := by
  go_enter Tryd.func36, Tryd.ntmps36
  go_wp2_with fail
  refine (clone_in s _ hs).mono ?_
  rintro e w1 ⟨rfl, hb⟩
  go_wp2
  go_ret
  exact ⟨rfl, hb⟩
end Go.Proofs.YtfpdkdaoomakgaaDoor
