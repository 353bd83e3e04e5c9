/-
  The walk of ctrl.Get: it answers 'getRes'. Nothing that was there is turned.
-/
import Derived.Test.YtfpdkdaoomakgaaDoorBeginWalks
import Derived.Test.YtfpdkdaoomakgaaDoorCells
import Derived.Deep.RegionWith
namespace Go.Proofs.YtfpdkdaoomakgaaDoor
open Go.RowKit
set_option linter.unusedVariables false
set_option linter.unusedSimpArgs false

/-- what Get hands back -/
def getV (r : (Int × Bool × Int × Int) × Int × Int) : Value :=
  .tuple #[.agg #[.int .i64 r.1.1, .bool r.1.2.1, .int .i64 r.1.2.2.1, .int .i64 r.1.2.2.2], .int .i64 r.2.1, .int .i64 r.2.2]

/-- a struct of four cells that may be written -/
structure Four (w : World) (B : Nat) : Prop where
  lt : B < w.heap.size
  c : ∀ j, j < 4 → ∃ v, w.cell? ⟨B, j, none⟩ = some v
  f : ∀ j, j < 4 → w.frozen? ⟨B, j, none⟩ = false
theorem Four.later {w w' : World} {B : Nat} (h : Four w B) (hb : Below w.heap.size w w') : Four w' B :=
  ⟨Nat.lt_of_lt_of_le h.lt hb.size, fun j hj => by obtain ⟨v, hv⟩ := h.c j hj; exact ⟨v, (hb.cell (p := ⟨B, j, none⟩) h.lt).trans hv⟩, fun j hj => (hb.frozen (p := ⟨B, j, none⟩) h.lt).trans (h.f j hj)⟩
theorem four_new (w : World) (a b c d : Value) (t : TypeId) : Four (w.alloc (.cells #[a, b, c, d] t)) w.heap.size := by
  refine ⟨by simp, fun j hj => ?_, fun j hj => ?_⟩
  · have : j = 0 ∨ j = 1 ∨ j = 2 ∨ j = 3 := by omega
    rcases this with rfl | rfl | rfl | rfl
    · exact ⟨a, by simp⟩
    · exact ⟨b, by simp⟩
    · exact ⟨c, by simp⟩
    · exact ⟨d, by simp⟩
  · have : j = 0 ∨ j = 1 ∨ j = 2 ∨ j = 3 := by omega
    rcases this with rfl | rfl | rfl | rfl <;> simp

/-- four cells written -/
def set4 (w : World) (B : Nat) (a b c d : Value) : World := (((w.setCell ⟨B, 0, none⟩ a).setCell ⟨B, 1, none⟩ b).setCell ⟨B, 2, none⟩ c).setCell ⟨B, 3, none⟩ d
theorem set4_size (w : World) (B : Nat) (a b c d : Value) : (set4 w B a b c d).heap.size = w.heap.size := by simp [set4]
theorem set4_cells {w : World} {B : Nat} (h : Four w B) (a b c d : Value) : (set4 w B a b c d).cell? ⟨B, 0, none⟩ = some a ∧ (set4 w B a b c d).cell? ⟨B, 1, none⟩ = some b ∧ (set4 w B a b c d).cell? ⟨B, 2, none⟩ = some c ∧ (set4 w B a b c d).cell? ⟨B, 3, none⟩ = some d := by
  unfold set4
  refine ⟨?_, ?_, ?_, ?_⟩
  · rw [set_other (by decide), set_other (by decide), set_other (by decide)]
    exact set_same (h.c 0 (by decide))
  · rw [set_other (by decide), set_other (by decide)]
    refine set_same ?_
    rw [set_other (by decide)]; exact h.c 1 (by decide)
  · rw [set_other (by decide)]
    refine set_same ?_
    rw [set_other (by decide), set_other (by decide)]; exact h.c 2 (by decide)
  · refine set_same ?_
    rw [set_other (by decide), set_other (by decide), set_other (by decide)]; exact h.c 3 (by decide)
theorem set4_alloc {w : World} {B : Nat} (h : Four w B) (a b c d : Value) (o : Obj) : ((set4 w B a b c d).alloc o).cell? ⟨B, 0, none⟩ = some a ∧ ((set4 w B a b c d).alloc o).cell? ⟨B, 1, none⟩ = some b ∧ ((set4 w B a b c d).alloc o).cell? ⟨B, 2, none⟩ = some c ∧ ((set4 w B a b c d).alloc o).cell? ⟨B, 3, none⟩ = some d := by
  have hq : Below (set4 w B a b c d).heap.size (set4 w B a b c d) ((set4 w B a b c d).alloc o) := (Below.refl _ _).alloc (Nat.le_refl _) _
  have hlt : B < (set4 w B a b c d).heap.size := by rw [set4_size]; exact h.lt
  obtain ⟨h0, h1, h2, h3⟩ := set4_cells h a b c d
  exact ⟨(hq.cell (p := ⟨B, 0, none⟩) hlt).trans h0, (hq.cell (p := ⟨B, 1, none⟩) hlt).trans h1, (hq.cell (p := ⟨B, 2, none⟩) hlt).trans h2, (hq.cell (p := ⟨B, 3, none⟩) hlt).trans h3⟩
theorem set4_below {w w1 : World} (hq : Below w.heap.size w w1) (a b c d : Value) : Below w.heap.size w (set4 w1 w.heap.size a b c d) := below4 hq a b c d

set_option maxHeartbeats 1000000 in
theorem cget_empty (s : ByteArray) (w : World) (h : s.size = 0) :
    Calls Tryd.prog 25 #[.string s] w fun e w' => e = .returned (getV (Cm.getRes s)) ∧ Below w.heap.size w w' := by
  have HG : Hid (Cm.getRes s = ((0, false, 0, 0), 0, 3)) := by
    show _ = _
    rw [Cm.getRes, show Bm.nums s = [] from List.eq_nil_of_length_eq_zero (by rw [Bm.nums_length]; exact h)]; rfl
  go_enter Tryd.func25, Tryd.ntmps25
  go_wp2
  exact bodyPost_ret (v := getV ((0, false, 0, 0), 0, 3)) (by simp [results, Tryd.results25, go_sem, getV]) rfl ⟨by rw [HG.out], (Below.refl _ _).alloc (Nat.le_refl _) _⟩

set_option maxHeartbeats 1000000 in
theorem cget_none (s : ByteArray) (w : World) (hs : s.size ≤ 140737488355328) (h : 0 < s.size) (hB : Cm.beg (s[0].toNat : Int) = none) (hT : First w) :
    Calls Tryd.prog 25 #[.string s] w fun e w' => e = .returned (getV (Cm.getRes s)) ∧ Below w.heap.size w w' := by
  have HG : Hid (Cm.getRes s = ((0, false, 0, 0), 0, 4)) := by
    show _ = _
    obtain ⟨r, hr, _⟩ := Cm.nums_one s h
    rw [Cm.getRes, hr, Cm.getN_none r hB]
  have b0 : 0 ≤ (s[0].toNat : Int) ∧ (s[0].toNat : Int) ≤ 255 := by have := s[0].toNat_lt; omega
  have h0' : (0 : Int) < (s.size : Int) := by omega
  have hq0 : Below w.heap.size w (w.alloc (.cells #[.int .i64 0, .bool false, .int .i64 0, .int .i64 0] 56)) := (Below.refl _ _).alloc (Nat.le_refl _) _
  have hbeg := begin_any (s[0].toNat : Int) _ b0.1 b0.2 (hT.later hq0)
  rw [hB] at hbeg
  clear hB hT
  have hF := four_new w (.int .i64 0) (.bool false) (.int .i64 0) (.int .i64 0) 56
  go_enter Tryd.func25, Tryd.ntmps25
  go_wp2_with fail
  refine hbeg.mono ?_
  rintro e w1 ⟨rfl, hb1⟩
  have hq1 := hq0.trans (hb1.mono hq0.size)
  have hF1 := hF.later hb1
  have HF : Hid (Four w1 w.heap.size) := hF1
  clear hF hb1 hq0 hbeg
  have hlt := hF1.lt
  obtain ⟨v0, c0⟩ := hF1.c 0 (by decide)
  obtain ⟨v1, c1⟩ := hF1.c 1 (by decide)
  obtain ⟨v2, c2⟩ := hF1.c 2 (by decide)
  obtain ⟨v3, c3⟩ := hF1.c 3 (by decide)
  have f0 := hF1.f 0 (by decide)
  have f1 := hF1.f 1 (by decide)
  have f2 := hF1.f 2 (by decide)
  have f3 := hF1.f 3 (by decide)
  clear hF1
  simp only [begV]
  go_wp2
  obtain ⟨z0, z1, z2, z3⟩ := set4_alloc HF.out (.int .i64 0) (.bool false) (.int .i64 0) (.int .i64 0) (.cells #[.int .i64 0, .bool false, .int .i64 0, .int .i64 0] 56)
  unfold set4 at z0 z1 z2 z3
  exact bodyPost_ret (v := getV ((0, false, 0, 0), 0, 4)) (by simp [results, Tryd.results25, go_sem, getV, z0, z1, z2, z3]) rfl ⟨by rw [HG.out], (set4_below hq1 _ _ _ _).alloc (by rw [set4_size]; exact hq1.size) _⟩

set_option maxHeartbeats 1000000 in
theorem cget_one (s : ByteArray) (w : World) (hs : s.size ≤ 140737488355328) (h : 0 < s.size) (n : Nat) (pf : Bool) (h4 : 4 ≤ n) (hB : Cm.beg (s[0].toNat : Int) = some ((n : Int), pf, 0)) (hT : First w) :
    Calls Tryd.prog 25 #[.string s] w fun e w' => e = .returned (getV (Cm.getRes s)) ∧ Below w.heap.size w w' := by
  have HG : Hid (Cm.getRes s = (((n : Int), pf, 0, 0), 1, 0)) := by
    show _ = _
    obtain ⟨r, hr, _⟩ := Cm.nums_one s h
    rw [Cm.getRes, hr, Cm.getN_one r hB (by omega)]
  have b0 : 0 ≤ (s[0].toNat : Int) ∧ (s[0].toNat : Int) ≤ 255 := by have := s[0].toNat_lt; omega
  have h0' : (0 : Int) < (s.size : Int) := by omega
  have hq0 : Below w.heap.size w (w.alloc (.cells #[.int .i64 0, .bool false, .int .i64 0, .int .i64 0] 56)) := (Below.refl _ _).alloc (Nat.le_refl _) _
  have hbeg := begin_any (s[0].toNat : Int) _ b0.1 b0.2 (hT.later hq0)
  rw [hB] at hbeg
  clear hB hT
  have hF := four_new w (.int .i64 0) (.bool false) (.int .i64 0) (.int .i64 0) 56
  go_enter Tryd.func25, Tryd.ntmps25
  go_wp2_with fail
  refine hbeg.mono ?_
  rintro e w1 ⟨rfl, hb1⟩
  have hq1 := hq0.trans (hb1.mono hq0.size)
  have hF1 := hF.later hb1
  have HF : Hid (Four w1 w.heap.size) := hF1
  clear hF hb1 hq0 hbeg
  have hlt := hF1.lt
  obtain ⟨v0, c0⟩ := hF1.c 0 (by decide)
  obtain ⟨v1, c1⟩ := hF1.c 1 (by decide)
  obtain ⟨v2, c2⟩ := hF1.c 2 (by decide)
  obtain ⟨v3, c3⟩ := hF1.c 3 (by decide)
  have f0 := hF1.f 0 (by decide)
  have f1 := hF1.f 1 (by decide)
  have f2 := hF1.f 2 (by decide)
  have f3 := hF1.f 3 (by decide)
  clear hF1
  simp only [begV]
  go_wp2_with fail
  refine (numbered_any (n : Int) _).mono ?_
  rintro e w' ⟨rfl, rfl⟩
  rw [numd_high n h4]
  go_wp2
  obtain ⟨z0, z1, z2, z3⟩ := set4_alloc HF.out (.int .i64 (n : Int)) (.bool pf) (.int .i64 0) (.int .i64 0) (.cells #[.int .i64 (n : Int), .bool pf, .int .i64 0, .int .i64 0] 56)
  unfold set4 at z0 z1 z2 z3
  exact bodyPost_ret (v := getV (((n : Int), pf, 0, 0), 1, 0)) (by simp [results, Tryd.results25, go_sem, getV, z0, z1, z2, z3]) rfl ⟨by rw [HG.out], (set4_below hq1 _ _ _ _).alloc (by rw [set4_size]; exact hq1.size) _⟩

set_option maxHeartbeats 1000000 in
theorem cget_short (s : ByteArray) (w : World) (hs : s.size ≤ 140737488355328) (h : 0 < s.size) (h2 : s.size < 2) (n : Nat) (pf : Bool) (ns : Int) (h4 : n < 4) (hB : Cm.beg (s[0].toNat : Int) = some ((n : Int), pf, ns)) (hT : First w) :
    Calls Tryd.prog 25 #[.string s] w fun e w' => e = .returned (getV (Cm.getRes s)) ∧ Below w.heap.size w w' := by
  have HG : Hid (Cm.getRes s = ((0, false, 0, 0), 0, 3)) := by
    show _ = _
    obtain ⟨r, hr, he⟩ := Cm.nums_one s h
    rw [Cm.getRes, hr, he h2, Cm.getN_short hB (by omega)]
  have b0 : 0 ≤ (s[0].toNat : Int) ∧ (s[0].toNat : Int) ≤ 255 := by have := s[0].toNat_lt; omega
  have h0' : (0 : Int) < (s.size : Int) := by omega
  have hq0 : Below w.heap.size w (w.alloc (.cells #[.int .i64 0, .bool false, .int .i64 0, .int .i64 0] 56)) := (Below.refl _ _).alloc (Nat.le_refl _) _
  have hbeg := begin_any (s[0].toNat : Int) _ b0.1 b0.2 (hT.later hq0)
  rw [hB] at hbeg
  clear hB hT
  have hF := four_new w (.int .i64 0) (.bool false) (.int .i64 0) (.int .i64 0) 56
  go_enter Tryd.func25, Tryd.ntmps25
  go_wp2_with fail
  refine hbeg.mono ?_
  rintro e w1 ⟨rfl, hb1⟩
  have hq1 := hq0.trans (hb1.mono hq0.size)
  have hF1 := hF.later hb1
  have HF : Hid (Four w1 w.heap.size) := hF1
  clear hF hb1 hq0 hbeg
  have hlt := hF1.lt
  obtain ⟨v0, c0⟩ := hF1.c 0 (by decide)
  obtain ⟨v1, c1⟩ := hF1.c 1 (by decide)
  obtain ⟨v2, c2⟩ := hF1.c 2 (by decide)
  obtain ⟨v3, c3⟩ := hF1.c 3 (by decide)
  have f0 := hF1.f 0 (by decide)
  have f1 := hF1.f 1 (by decide)
  have f2 := hF1.f 2 (by decide)
  have f3 := hF1.f 3 (by decide)
  clear hF1
  simp only [begV]
  go_wp2_with fail
  refine (numbered_any (n : Int) _).mono ?_
  rintro e w' ⟨rfl, rfl⟩
  rw [numd_low n h4]
  go_wp2
  obtain ⟨z0, z1, z2, z3⟩ := set4_alloc HF.out (.int .i64 0) (.bool false) (.int .i64 0) (.int .i64 0) (.cells #[.int .i64 (n : Int), .bool pf, .int .i64 ns, .int .i64 0] 56)
  unfold set4 at z0 z1 z2 z3
  exact bodyPost_ret (v := getV ((0, false, 0, 0), 0, 3)) (by simp [results, Tryd.results25, go_sem, getV, z0, z1, z2, z3]) rfl ⟨by rw [HG.out], (set4_below hq1 _ _ _ _).alloc (by rw [set4_size]; exact hq1.size) _⟩

end Go.Proofs.YtfpdkdaoomakgaaDoor
