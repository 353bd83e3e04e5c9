/-
  The walk of the document's Put: it answers 'putRes'. Nothing that was there is turned.
-/
import Derived.Test.YtdcohbdndkphnaaDoorCtrlPutWalks
import Derived.Test.YtdcohbdndkphnaaDoorCtrlRefSmall
namespace Go.Proofs.YtdcohbdndkphnaaDoor
open Go.RowKit
set_option linter.unusedVariables false
set_option linter.unusedSimpArgs false

set_option maxHeartbeats 1000000 in
set_option maxRecDepth 100000 in
theorem ref_cput_none (k : Int) (pf : Bool) (ns nr : Int) (w : World) (h : ¬ Cm.known k) :
    Calls Tryd.prog 30 #[.agg #[.int .i64 k, .bool pf, .int .i64 ns, .int .i64 nr]] w fun e w' => e = .returned (.tuple #[.string (Cm.putRes k pf ns nr).1, .int .i64 (Cm.putRes k pf ns nr).2]) ∧ Below w.heap.size w w' := by
  rw [Cm.put_none k pf ns nr h]
  have h' : ¬ (0 ≤ k ∧ k ≤ 9) := h
  clear h
  go_enter Tryd.func30, Tryd.ntmps30
  by_cases h0 : k < 0
  · clear h'
    go_wp2
    go_ret2
    exact ⟨rfl, (Below.refl _ _).alloc (Nat.le_refl _) _⟩
  · have h9 : 10 ≤ k := by omega
    clear h'
    go_wp2
    go_ret2
    exact ⟨rfl, (Below.refl _ _).alloc (Nat.le_refl _) _⟩

set_option maxHeartbeats 1000000 in
set_option maxRecDepth 100000 in
theorem ref_cput_high (n : Nat) (pf : Bool) (ns nr : Int) (w : World) (hn : n < 10) (h4 : 4 ≤ n) :
    Calls Tryd.prog 30 #[.agg #[.int .i64 (n : Int), .bool pf, .int .i64 ns, .int .i64 nr]] w fun e w' => e = .returned (.tuple #[.string (Cm.putRes (n : Int) pf ns nr).1, .int .i64 (Cm.putRes (n : Int) pf ns nr).2]) ∧ Below w.heap.size w w' := by
  have hO := ref_octet_any n (w.alloc (.cells #[.int .i64 (n : Int), .bool pf, .int .i64 ns, .int .i64 nr] 68)) hn
  have hM := ref_numbered_any (n : Int) (w.alloc (.cells #[.int .i64 (n : Int), .bool pf, .int .i64 ns, .int .i64 nr] 68))
  rw [numd_high n h4] at hM
  have hb := Cm.octs_bd n
  obtain ⟨x, hx⟩ : ∃ x, x = Cm.octs.getD n 0 := ⟨_, rfl⟩
  have hP : Cm.putRes (n : Int) pf ns nr = (strOfNums [if pf then x + 16 else x], 0) := by
    rw [Cm.put_high n pf ns nr hn h4]
    cases pf
    · rw [Cm.foct_false, ← hx]; rfl
    · rw [Cm.foct_high n h4, ← hx]; rfl
  rw [hP]
  rw [← hx] at hO hb
  obtain ⟨hb0, hb1⟩ := hb
  have hcv := conv_one (w.alloc (.cells #[.int .i64 (n : Int), .bool pf, .int .i64 ns, .int .i64 nr] 68)) (if pf then x + 16 else x)
  rw [show (w.alloc (.cells #[.int .i64 (n : Int), .bool pf, .int .i64 ns, .int .i64 nr] 68)).heap.size = w.heap.size + 1 from by simp] at hcv
  clear hx hP
  cases pf
  all_goals
    simp only [if_true, Bool.false_eq_true, if_false] at hcv ⊢
    go_enter Tryd.func30, Tryd.ntmps30
    go_wp2_with fail
    refine hO.mono ?_
    rintro e w' ⟨rfl, rfl⟩
    clear hO
    go_wp2_with fail
    refine hM.mono ?_
    rintro e w' ⟨rfl, rfl⟩
    clear hM
    go_wp2
    go_ret2
    exact ⟨rfl, ((Below.refl _ _).alloc (Nat.le_refl _) _).alloc (by simp) _⟩

set_option maxHeartbeats 1000000 in
set_option maxRecDepth 100000 in
theorem ref_cput_low (n : Nat) (pf : Bool) (ns nr : Int) (w : World) (h4 : n < 4) :
    Calls Tryd.prog 30 #[.agg #[.int .i64 (n : Int), .bool pf, .int .i64 ns, .int .i64 nr]] w fun e w' => e = .returned (.tuple #[.string (Cm.putRes (n : Int) pf ns nr).1, .int .i64 (Cm.putRes (n : Int) pf ns nr).2]) ∧ Below w.heap.size w w' := by
  have hO := ref_octet_any n (w.alloc (.cells #[.int .i64 (n : Int), .bool pf, .int .i64 ns, .int .i64 nr] 68)) (by omega)
  have hM := ref_numbered_any (n : Int) (w.alloc (.cells #[.int .i64 (n : Int), .bool pf, .int .i64 ns, .int .i64 nr] 68))
  rw [numd_low n h4] at hM
  have hb := Cm.octs_bd n
  obtain ⟨x, hx⟩ : ∃ x, x = Cm.octs.getD n 0 := ⟨_, rfl⟩
  rw [← hx] at hO hb
  obtain ⟨hb0, hb1⟩ := hb
  have HX : Hid (x = Cm.octs.getD n 0) := hx
  clear hx
  by_cases hr : 0 ≤ nr ∧ nr ≤ 127
  · have HR : Hid (0 ≤ nr ∧ nr ≤ 127) := hr
    obtain ⟨hr0, hr1⟩ := hr
    by_cases h0 : n = 0
    · subst h0
      clear HX
      rw [show ((0 : Nat) : Int) = 0 from rfl] at hO hM ⊢
      by_cases hs : 0 ≤ ns ∧ ns ≤ 127
      · have HP : Hid (Cm.putRes 0 pf ns nr = (strOfNums [2 * ns, 2 * nr + Am.crN pf], 0)) := Cm.put_i pf ns nr hs HR.out
        rw [HP.out]
        obtain ⟨hs0, hs1⟩ := hs
        have hcv := conv_pair (w.alloc (.cells #[.int .i64 0, .bool pf, .int .i64 ns, .int .i64 nr] 68)) (2 * ns) (2 * nr + Am.crN pf)
        rw [show (w.alloc (.cells #[.int .i64 0, .bool pf, .int .i64 ns, .int .i64 nr] 68)).heap.size = w.heap.size + 1 from by simp] at hcv
        cases pf
        all_goals
          simp only [show Am.crN false = 0 from rfl, show Am.crN true = 1 from rfl, Int.add_zero] at hcv ⊢
          go_enter Tryd.func30, Tryd.ntmps30
          go_wp2_with fail
          refine hO.mono ?_
          rintro e w' ⟨rfl, rfl⟩
          clear hO
          go_wp2_with fail
          refine hM.mono ?_
          rintro e w' ⟨rfl, rfl⟩
          clear hM
          go_wp2
          go_ret2
          exact ⟨rfl, ((Below.refl _ _).alloc (Nat.le_refl _) _).alloc (by simp) _⟩
      · have HP : Hid (Cm.putRes 0 pf ns nr = (ByteArray.empty, 2)) := Cm.put_badns pf ns nr hs
        rw [HP.out]
        go_enter Tryd.func30, Tryd.ntmps30
        go_wp2_with fail
        refine hO.mono ?_
        rintro e w' ⟨rfl, rfl⟩
        clear hO
        go_wp2_with fail
        refine hM.mono ?_
        rintro e w' ⟨rfl, rfl⟩
        clear hM
        by_cases hs0 : ns < 0
        · clear hs
          go_wp2
          go_ret2
          exact ⟨rfl, (Below.refl _ _).alloc (Nat.le_refl _) _⟩
        · have hs1 : 127 < ns := by omega
          clear hs
          go_wp2
          go_ret2
          exact ⟨rfl, (Below.refl _ _).alloc (Nat.le_refl _) _⟩
    · have HP : Hid (Cm.putRes (n : Int) pf ns nr = (strOfNums [x, 2 * nr + Am.crN pf], 0)) := by
        show _ = _; rw [HX.out, ← Cm.foct_false]; exact Cm.put_s n pf ns nr (by omega) h4 HR.out
      rw [HP.out]
      have hne : ((n : Int) == 0) = false := by simp; omega
      have hcv := conv_pair (w.alloc (.cells #[.int .i64 (n : Int), .bool pf, .int .i64 ns, .int .i64 nr] 68)) x (2 * nr + Am.crN pf)
      rw [show (w.alloc (.cells #[.int .i64 (n : Int), .bool pf, .int .i64 ns, .int .i64 nr] 68)).heap.size = w.heap.size + 1 from by simp] at hcv
      clear h0 HX
      cases pf
      all_goals
        simp only [show Am.crN false = 0 from rfl, show Am.crN true = 1 from rfl, Int.add_zero] at hcv ⊢
        go_enter Tryd.func30, Tryd.ntmps30
        go_wp2_with fail
        refine hO.mono ?_
        rintro e w' ⟨rfl, rfl⟩
        clear hO
        go_wp2_with fail
        refine hM.mono ?_
        rintro e w' ⟨rfl, rfl⟩
        clear hM
        go_wp2
        go_ret2
        exact ⟨rfl, ((Below.refl _ _).alloc (Nat.le_refl _) _).alloc (by simp) _⟩
  · have HP : Hid (Cm.putRes (n : Int) pf ns nr = (ByteArray.empty, 2)) := Cm.put_badnr n pf ns nr h4 hr
    rw [HP.out]
    go_enter Tryd.func30, Tryd.ntmps30
    go_wp2_with fail
    refine hO.mono ?_
    rintro e w' ⟨rfl, rfl⟩
    clear hO
    go_wp2_with fail
    refine hM.mono ?_
    rintro e w' ⟨rfl, rfl⟩
    clear hM
    by_cases hr0 : nr < 0
    · clear hr
      go_wp2
      go_ret2
      exact ⟨rfl, (Below.refl _ _).alloc (Nat.le_refl _) _⟩
    · have hr1 : 127 < nr := by omega
      clear hr
      go_wp2
      go_ret2
      exact ⟨rfl, (Below.refl _ _).alloc (Nat.le_refl _) _⟩

theorem ref_cput_any (k : Int) (pf : Bool) (ns nr : Int) (w : World) :
    Calls Tryd.prog 30 #[.agg #[.int .i64 k, .bool pf, .int .i64 ns, .int .i64 nr]] w fun e w' => e = .returned (.tuple #[.string (Cm.putRes k pf ns nr).1, .int .i64 (Cm.putRes k pf ns nr).2]) ∧ Below w.heap.size w w' := by
  by_cases h : Cm.known k
  · obtain ⟨n, rfl⟩ : ∃ n : Nat, k = (n : Int) := ⟨k.toNat, by have : 0 ≤ k := h.1; omega⟩
    have hn : n < 10 := by have : (n : Int) ≤ 9 := h.2; omega
    by_cases h4 : 4 ≤ n
    · exact ref_cput_high n pf ns nr w hn h4
    · exact ref_cput_low n pf ns nr w (by omega)
  · exact ref_cput_none k pf ns nr w h
end Go.Proofs.YtdcohbdndkphnaaDoor
