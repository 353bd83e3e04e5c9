/-
  The walk of frame.Get: it answers 'getRes'. Nothing that was there is turned.
-/
import Derived.Test.YtfpdkdaoomakgaaDoorFramePutWalks
import Derived.Test.YtfpdkdaoomakgaaDoorGetWalks
import Derived.Test.YtfpdkdaoomakgaaDoorCtrlGetTwo
namespace Go.Proofs.YtfpdkdaoomakgaaDoor
open Go.RowKit
set_option linter.unusedVariables false
set_option linter.unusedSimpArgs false

/-- what Get hands back -/
def frV (f : Xm.Fr) : Value := .agg #[.int .i64 f.sapi, .int .i64 f.tei, .bool f.c, .int .i64 f.k, .bool f.pf, .int .i64 f.ns, .int .i64 f.nr, .string f.info]
def fgetV (r : Xm.Fr × Int) : Value := .tuple #[frV r.1, .int .i64 r.2]

set_option maxHeartbeats 1000000 in
theorem fget_sum (s : ByteArray) (net : Bool) (w : World) (hs : s.size ≤ 140737488351232) (hk : (checkRes s).2 ≠ 0) :
    Calls Tryd.prog 11 #[.string s, .bool net] w fun e w' => e = .returned (fgetV (Xm.zero, 6)) ∧ Below w.heap.size w w' := by
  have hC := check_any s (w.alloc (.cells #[.int .i64 0, .int .i64 0, .bool false, .int .i64 0, .bool false, .int .i64 0, .int .i64 0, .string ByteArray.empty] 38)) hs
  have hq0 : Below w.heap.size w (w.alloc (.cells #[.int .i64 0, .int .i64 0, .bool false, .int .i64 0, .bool false, .int .i64 0, .int .i64 0, .string ByteArray.empty] 38)) := (Below.refl _ _).alloc (Nat.le_refl _) _
  have hE0 := eight_new w (.int .i64 0) (.int .i64 0) (.bool false) (.int .i64 0) (.bool false) (.int .i64 0) (.int .i64 0) (.string ByteArray.empty) 38
  have tk : ((checkRes s).2 != 0) = true := by simpa using hk
  clear hk
  go_enter Tryd.func11, Tryd.ntmps11
  go_wp2_with fail
  refine hC.mono ?_
  rintro e w1 ⟨rfl, hb1⟩
  clear hC
  have hq1 := hq0.trans (hb1.mono hq0.size)
  have hE := hE0.later hb1
  have HE : Hid (Eight w1 w.heap.size) := hE
  clear hb1 hq0 hE0
  have hlt := hE.lt
  obtain ⟨v0, c0⟩ := hE.c 0 (by decide)
  obtain ⟨v1, c1⟩ := hE.c 1 (by decide)
  obtain ⟨v2, c2⟩ := hE.c 2 (by decide)
  obtain ⟨v3, c3⟩ := hE.c 3 (by decide)
  obtain ⟨v4, c4⟩ := hE.c 4 (by decide)
  obtain ⟨v5, c5⟩ := hE.c 5 (by decide)
  obtain ⟨v6, c6⟩ := hE.c 6 (by decide)
  obtain ⟨v7, c7⟩ := hE.c 7 (by decide)
  have f0 := hE.f 0 (by decide)
  have f1 := hE.f 1 (by decide)
  have f2 := hE.f 2 (by decide)
  have f3 := hE.f 3 (by decide)
  have f4 := hE.f 4 (by decide)
  have f5 := hE.f 5 (by decide)
  have f6 := hE.f 6 (by decide)
  have f7 := hE.f 7 (by decide)
  clear hE
  go_wp2
  obtain ⟨z0, z1, z2, z3, z4, z5, z6, z7⟩ := set8_is HE.out (.int .i64 0) (.int .i64 0) (.bool false) (.int .i64 0) (.bool false) (.int .i64 0) (.int .i64 0) (.string ⟨#[]⟩)
  unfold set8 at z0 z1 z2 z3 z4 z5 z6 z7
  have he : ByteArray.empty = ⟨#[]⟩ := rfl
  exact bodyPost_ret (v := fgetV (Xm.zero, 6)) (by simp [results, Tryd.results11, go_sem, fgetV, frV, Xm.zero, he, z0, z1, z2, z3, z4, z5, z6, z7]) rfl ⟨rfl, set8_below hq1 _ _ _ _ _ _ _ _⟩
end Go.Proofs.YtfpdkdaoomakgaaDoor
