/-
  The walk of ctrl.begin: it answers 'beg'. Nothing that was there is turned.
-/
import Derived.Test.YtfpdkdaoomakgaaDoorFieldWalks
import Derived.Test.YtfpdkdaoomakgaaDoorCtrlSmall
namespace Go.Proofs.YtfpdkdaoomakgaaDoor
open Go.RowKit
set_option linter.unusedVariables false
set_option linter.unusedSimpArgs false

/-- what begin hands back -/
def begV (r : Option (Int × Bool × Int)) : Value :=
  match r with
  | some (k, pf, ns) => .tuple #[.agg #[.int .i64 k, .bool pf, .int .i64 ns, .int .i64 0], .bool true]
  | none => .tuple #[.agg #[.int .i64 0, .bool false, .int .i64 0, .int .i64 0], .bool false]

theorem below4 {w w1 : World} (hq : Below w.heap.size w w1) (x y z u : Value) : Below w.heap.size w ((((w1.setCell ⟨w.heap.size, 0, none⟩ x).setCell ⟨w.heap.size, 1, none⟩ y).setCell ⟨w.heap.size, 2, none⟩ z).setCell ⟨w.heap.size, 3, none⟩ u) :=
  (((hq.setCell (p := ⟨w.heap.size, 0, none⟩) (Nat.le_refl _) _).setCell (p := ⟨w.heap.size, 1, none⟩) (Nat.le_refl _) _).setCell (p := ⟨w.heap.size, 2, none⟩) (Nat.le_refl _) _).setCell (p := ⟨w.heap.size, 3, none⟩) (Nat.le_refl _) _

set_option maxHeartbeats 1000000 in
theorem begin_even (x : Int) (w : World) (hx0 : 0 ≤ x) (hx1 : x ≤ 255) (hx : x % 2 = 0) :
    Calls Tryd.prog 37 #[.int .u8 x] w fun e w' => e = .returned (begV (Cm.beg x)) ∧ Below w.heap.size w w' := by
  rw [Cm.beg_even x hx]
  have tx : (x % 2 == 0) = true := by simp [hx]
  clear hx
  go_enter Tryd.func37, Tryd.ntmps37
  go_wp2_with fail
  refine (field_any x 0 1 _ hx0 hx1 (by decide)).mono ?_
  rintro e w' ⟨rfl, n1, rfl⟩
  rw [Am.fld_01]
  go_wp2_with fail
  refine (field_any x 1 7 _ hx0 hx1 (by decide)).mono ?_
  rintro e w' ⟨rfl, n2, rfl⟩
  rw [Am.fld_17 x hx0 hx1]
  go_wp2
  exact bodyPost_ret (v := begV (some (0, false, x / 2))) (by simp [results, Tryd.results37, go_sem, begV]) rfl ⟨rfl, below4 (below_drewN ((Below.refl _ _).alloc (Nat.le_refl _) _) _) _ _ _ _⟩

set_option maxHeartbeats 1000000 in
theorem begin_odd (x : Int) (w : World) (hx0 : 0 ≤ x) (hx1 : x ≤ 255) (hx : x % 2 ≠ 0) (hT : First w) :
    Calls Tryd.prog 37 #[.int .u8 x] w fun e w' => e = .returned (begV (Cm.beg x)) ∧ Below w.heap.size w w' := by
  have HG : Hid (Cm.beg x = (Cm.begFrom x 9 1).map fun q => ((q.1 : Int), q.2, (0 : Int))) := Cm.beg_odd x hx
  have tx : (x % 2 == 0) = false := by simp [hx]
  clear hx
  go_enter Tryd.func37, Tryd.ntmps37
  go_wp2_with fail
  refine (field_any x 0 1 _ hx0 hx1 (by decide)).mono ?_
  rintro e w' ⟨rfl, n1, rfl⟩
  rw [Am.fld_01]
  go_wp2
  have hq : Below w.heap.size w ((w.alloc (.cells #[.int .i64 0, .bool false, .int .i64 0, .int .i64 0] 56)).drewN n1) := below_drewN ((Below.refl w.heap.size w).alloc (Nat.le_refl _) _) _
  have hT1 := hT.later hq
  go_loop [4] (fun c => ∃ n m : Nat, n + m = 10 ∧ 1 ≤ n ∧ c = .int .i64 n ∧ Hid (Cm.begFrom x 9 1 = Cm.begFrom x m n)) (fun c => 10 - (intOf c).toNat)
  case atStart => exact ⟨1, 9, rfl, by decide, rfl, rfl⟩
  case round =>
    obtain ⟨n, m, hnm, hn1, rfl, HB⟩ := hrel
    by_cases hlt : n < 10
    · have hF := firstOctet_any n false _ hlt hT1
      have hF2 := firstOctet_any n true _ hlt hT1
      obtain ⟨m', rfl⟩ : ∃ m', m = m' + 1 := ⟨m - 1, by omega⟩
      obtain ⟨y, hy⟩ : ∃ y, y = Cm.foct n false := ⟨_, rfl⟩
      obtain ⟨z, hz⟩ : ∃ z, z = Cm.foct n true := ⟨_, rfl⟩
      rw [← hy] at hF
      rw [← hz] at hF2
      by_cases h1 : x = y
      · have HR : Hid (Cm.beg x = some ((n : Int), false, 0)) := by
          show _ = _
          rw [HG.out, HB.out, Cm.begFrom_hit x m' n (h1.trans hy)]; rfl
        have t1 : (x == y) = true := by simp [h1]
        clear h1 hy hz HG HB hF2
        go_wp2_with fail
        refine hF.mono ?_
        rintro e w' ⟨rfl, rfl⟩
        go_wp2
        rw [HR.out]
        exact bodyPost_ret (v := begV (some ((n : Int), false, 0))) (by simp [results, Tryd.results37, go_sem, begV]) rfl ⟨rfl, below4 hq _ _ _ _⟩
      · have t1 : (x == y) = false := by simp [h1]
        by_cases h2 : x = z
        · have HR : Hid (Cm.beg x = some ((n : Int), true, 0)) := by
            show _ = _
            rw [HG.out, HB.out, Cm.begFrom_hit2 x m' n (fun h => h1 (h.trans hy.symm)) (h2.trans hz)]; rfl
          have t2 : (x == z) = true := by simp [h2]
          clear h1 h2 hy hz HG HB
          go_wp2_with fail
          refine hF.mono ?_
          rintro e w' ⟨rfl, rfl⟩
          clear hF
          go_wp2_with fail
          refine hF2.mono ?_
          rintro e w' ⟨rfl, rfl⟩
          clear hF2
          go_wp2
          rw [HR.out]
          exact bodyPost_ret (v := begV (some ((n : Int), true, 0))) (by simp [results, Tryd.results37, go_sem, begV]) rfl ⟨rfl, below4 hq _ _ _ _⟩
        · have HB2 : Hid (Cm.begFrom x 9 1 = Cm.begFrom x m' (n + 1)) := by
            show _ = _
            rw [HB.out, Cm.begFrom_miss x m' n (fun h => h1 (h.trans hy.symm)) (fun h => h2 (h.trans hz.symm))]
          have t2 : (x == z) = false := by simp [h2]
          clear h1 h2 hy hz HB
          go_wp2_with fail
          refine hF.mono ?_
          rintro e w' ⟨rfl, rfl⟩
          clear hF
          go_wp2_with fail
          refine hF2.mono ?_
          rintro e w' ⟨rfl, rfl⟩
          clear hF2
          go_wp2
          go_round
          case rel => exact ⟨n + 1, m', by omega, by omega, by go_num, HB2⟩
          case measure => simp [intOf]; omega
    · obtain rfl : m = 0 := by omega
      have HR : Hid (Cm.beg x = none) := by show _ = _; rw [HG.out, HB.out]; rfl
      clear HG HB
      go_wp2
      rw [HR.out]
      exact bodyPost_ret (v := begV none) (by simp [results, Tryd.results37, go_sem, begV]) rfl ⟨rfl, below4 hq _ _ _ _⟩

theorem begin_any (x : Int) (w : World) (hx0 : 0 ≤ x) (hx1 : x ≤ 255) (hT : First w) :
    Calls Tryd.prog 37 #[.int .u8 x] w fun e w' => e = .returned (begV (Cm.beg x)) ∧ Below w.heap.size w w' := by
  by_cases h : x % 2 = 0
  · exact begin_even x w hx0 hx1 h
  · exact begin_odd x w hx0 hx1 h hT
end Go.Proofs.YtfpdkdaoomakgaaDoor
