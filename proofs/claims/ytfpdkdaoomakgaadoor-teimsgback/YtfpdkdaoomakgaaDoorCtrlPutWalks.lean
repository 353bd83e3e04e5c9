/-
  The walks of ctrl.bit, ctrl.numberOctet and ctrl.Put: Put answers 'putRes'. Nothing that was there is turned.
-/
import Derived.Test.YtfpdkdaoomakgaaDoorPackWalks
import Derived.Test.YtfpdkdaoomakgaaDoorFieldWalks
import Derived.Test.YtfpdkdaoomakgaaDoorCtrlSmall
import Derived.Deep.RegionWith
namespace Go.Proofs.YtfpdkdaoomakgaaDoor
open Go.RowKit
set_option linter.unusedVariables false
set_option linter.unusedSimpArgs false

set_option maxHeartbeats 400000 in
theorem cbit_any (c : Bool) (w : World) :
    Calls Tryd.prog 33 #[.bool c] w fun e w' => e = .returned (.int .i64 (Am.crN c)) ∧ w = w' := by
  cases c
  · go_enter Tryd.func33, Tryd.ntmps33
    go_wp2
    go_ret
    exact ⟨rfl, rfl⟩
  · go_enter Tryd.func33, Tryd.ntmps33
    go_wp2
    go_ret
    exact ⟨rfl, rfl⟩

theorem pair_row (w : World) (x y : Int) : ∀ i, i < 2 → (w.alloc (.cells #[.int .i64 1, .int .i64 x, .int .i64 7, .int .i64 y] 48)).cell? ⟨w.heap.size, 0 + i * 2, none⟩ = some (.int .i64 ([(1, x), (7, y)].getD i (0, 0) : Int × Int).1) ∧
    (w.alloc (.cells #[.int .i64 1, .int .i64 x, .int .i64 7, .int .i64 y] 48)).cell? ⟨w.heap.size, 0 + i * 2 + 1, none⟩ = some (.int .i64 ([(1, x), (7, y)].getD i (0, 0) : Int × Int).2) := by
  intro i hi
  have : i = 0 ∨ i = 1 := by omega
  rcases this with rfl | rfl <;> simp

set_option maxHeartbeats 400000 in
theorem numOct_any (low n : Int) (w : World) (hl : 0 ≤ low ∧ low ≤ 1) :
    Calls Tryd.prog 32 #[.int .i64 low, .int .i64 n] w fun e w' => e = .returned (.tuple #[.int .u8 (Cm.no low n).1, .int .i64 (Cm.no low n).2]) ∧ Below w.heap.size w w' := by
  have HP := pack_some w.heap.size 0 2 2 [(1, low), (7, n)] _ (by simp) rfl (by decide) (pair_row w low n)
  rw [Cm.pack_low low n hl] at HP
  have HN : Hid (Cm.no low n = if 0 ≤ n ∧ n ≤ 127 then (2 * n + low, 0) else (0, 2)) := rfl
  rw [← HN.out] at HP
  clear HN
  obtain ⟨R, hR⟩ : ∃ R, R = Cm.no low n := ⟨_, rfl⟩
  rw [← hR] at HP ⊢
  clear hR
  go_enter Tryd.func32, Tryd.ntmps32
  go_wp2_with fail
  refine HP.mono ?_
  rintro e w' ⟨rfl, hb⟩
  go_wp2
  go_ret2
  exact ⟨rfl, ((Below.refl _ _).alloc (Nat.le_refl _) _).trans (hb.mono (by simp))⟩

theorem conv_one (w : World) (x : Int) : (convert 50 9 (.slice (some ⟨w.heap.size, 0, none⟩) 1 1)).run Tryd.prog (w.alloc (.cells #[.int .u8 x] 5)) = .ok (.string (strOfNums [x])) (w.alloc (.cells #[.int .u8 x] 5)) := by
  refine run_convert_bytes_arg _ 50 5 Tryd.underlying50 Tryd.underlying5 w.heap.size 0 1 1 [x] rfl (fun i hi => ?_) 9 Tryd.underlying9
  have : i = 0 := by omega
  subst this; simp
theorem conv_pair (w : World) (x y : Int) : (convert 50 9 (.slice (some ⟨w.heap.size, 0, none⟩) 2 2)).run Tryd.prog (w.alloc (.cells #[.int .u8 x, .int .u8 y] 5)) = .ok (.string (strOfNums [x, y])) (w.alloc (.cells #[.int .u8 x, .int .u8 y] 5)) := by
  refine run_convert_bytes_arg _ 50 5 Tryd.underlying50 Tryd.underlying5 w.heap.size 0 2 2 [x, y] rfl (fun i hi => ?_) 9 Tryd.underlying9
  have : i = 0 ∨ i = 1 := by omega
  rcases this with rfl | rfl <;> simp

/-- a control field lies where it was put, behind whatever was made since -/
structure Ctl (w : World) (B : Nat) (k : Int) (pf : Bool) (ns nr : Int) : Prop where
  lt : B < w.heap.size
  c0 : w.cell? ⟨B, 0, none⟩ = some (.int .i64 k)
  c1 : w.cell? ⟨B, 1, none⟩ = some (.bool pf)
  c2 : w.cell? ⟨B, 2, none⟩ = some (.int .i64 ns)
  c3 : w.cell? ⟨B, 3, none⟩ = some (.int .i64 nr)
theorem Ctl.later {w w' : World} {B : Nat} {k : Int} {pf : Bool} {ns nr : Int} (h : Ctl w B k pf ns nr) (hb : Below w.heap.size w w') : Ctl w' B k pf ns nr :=
  ⟨Nat.lt_of_lt_of_le h.lt hb.size, (hb.cell (p := ⟨B, 0, none⟩) h.lt).trans h.c0, (hb.cell (p := ⟨B, 1, none⟩) h.lt).trans h.c1, (hb.cell (p := ⟨B, 2, none⟩) h.lt).trans h.c2, (hb.cell (p := ⟨B, 3, none⟩) h.lt).trans h.c3⟩
theorem ctl_new (w : World) (k : Int) (pf : Bool) (ns nr : Int) (t : TypeId) : Ctl (w.alloc (.cells #[.int .i64 k, .bool pf, .int .i64 ns, .int .i64 nr] t)) w.heap.size k pf ns nr := ⟨by simp, by simp, by simp, by simp, by simp⟩

set_option maxHeartbeats 1000000 in
theorem cput_none (k : Int) (pf : Bool) (ns nr : Int) (w : World) (h : ¬ Cm.known k) :
    Calls Tryd.prog 18 #[.agg #[.int .i64 k, .bool pf, .int .i64 ns, .int .i64 nr]] w fun e w' => e = .returned (.tuple #[.string (Cm.putRes k pf ns nr).1, .int .i64 (Cm.putRes k pf ns nr).2]) ∧ Below w.heap.size w w' := by
  rw [Cm.put_none k pf ns nr h]
  go_enter Tryd.func18, Tryd.ntmps18
  go_wp2_with fail
  refine (known_any k _).mono ?_
  rintro e w' ⟨rfl, rfl⟩
  rw [Cm.kn_out h]
  go_wp2
  go_ret2
  exact ⟨rfl, (Below.refl _ _).alloc (Nat.le_refl _) _⟩

set_option maxHeartbeats 1000000 in
theorem cput_high (n : Nat) (pf : Bool) (ns nr : Int) (w : World) (hn : n < 10) (h4 : 4 ≤ n) (hT : First w) :
    Calls Tryd.prog 18 #[.agg #[.int .i64 (n : Int), .bool pf, .int .i64 ns, .int .i64 nr]] w fun e w' => e = .returned (.tuple #[.string (Cm.putRes (n : Int) pf ns nr).1, .int .i64 (Cm.putRes (n : Int) pf ns nr).2]) ∧ Below w.heap.size w w' := by
  have hT1 : First (w.alloc (.cells #[.int .i64 (n : Int), .bool pf, .int .i64 ns, .int .i64 nr] 56)) := hT.later ((Below.refl _ _).alloc (Nat.le_refl _) _)
  have hF := firstOctet_any n pf _ hn hT1
  obtain ⟨x, hx⟩ : ∃ x, x = Cm.foct n pf := ⟨_, rfl⟩
  have hP : Cm.putRes (n : Int) pf ns nr = (strOfNums [x], 0) := by rw [hx]; exact Cm.put_high n pf ns nr hn h4
  rw [← hx] at hF
  rw [hP]
  clear hx hP hT hT1
  have hcv := conv_one (w.alloc (.cells #[.int .i64 (n : Int), .bool pf, .int .i64 ns, .int .i64 nr] 56)) x
  rw [show (w.alloc (.cells #[.int .i64 (n : Int), .bool pf, .int .i64 ns, .int .i64 nr] 56)).heap.size = w.heap.size + 1 from by simp] at hcv
  go_enter Tryd.func18, Tryd.ntmps18
  go_wp2_with fail
  refine (known_any (n : Int) _).mono ?_
  rintro e w' ⟨rfl, rfl⟩
  rw [Cm.kn_in ⟨by omega, by omega⟩]
  go_wp2_with fail
  refine hF.mono ?_
  rintro e w' ⟨rfl, rfl⟩
  clear hF
  go_wp2_with fail
  refine (numbered_any (n : Int) _).mono ?_
  rintro e w' ⟨rfl, rfl⟩
  rw [numd_high n h4]
  go_wp2
  go_ret2
  exact ⟨rfl, ((Below.refl _ _).alloc (Nat.le_refl _) _).alloc (by simp) _⟩
end Go.Proofs.YtfpdkdaoomakgaaDoor
