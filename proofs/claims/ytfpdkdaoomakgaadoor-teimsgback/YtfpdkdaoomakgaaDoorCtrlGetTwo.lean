/-
  The walk of ctrl.Get of octets that begin with two of a numbered kind; and of all octets: it answers 'getRes'. Nothing that was there is turned.
-/
import Derived.Test.YtfpdkdaoomakgaaDoorCtrlGetWalks
namespace Go.Proofs.YtfpdkdaoomakgaaDoor
open Go.RowKit
set_option linter.unusedVariables false
set_option linter.unusedSimpArgs false

/-- the two numbers are written into the control field that was begun -/
theorem two_set {w w1 : World} (hq : Below w.heap.size w w1) (hF : Four w1 w.heap.size) (m : Nat) (k : Int) (pf : Bool) (ns : Int) (b : Bool) (y : Int) :
    Below w.heap.size w ((((w1.alloc (.cells #[.int .i64 k, .bool pf, .int .i64 ns, .int .i64 0] 56)).drewN m).setCell ⟨w1.heap.size, 1, none⟩ (.bool b)).setCell ⟨w1.heap.size, 3, none⟩ (.int .i64 y)) ∧
    Four ((((w1.alloc (.cells #[.int .i64 k, .bool pf, .int .i64 ns, .int .i64 0] 56)).drewN m).setCell ⟨w1.heap.size, 1, none⟩ (.bool b)).setCell ⟨w1.heap.size, 3, none⟩ (.int .i64 y)) w.heap.size ∧
    w1.heap.size < ((((w1.alloc (.cells #[.int .i64 k, .bool pf, .int .i64 ns, .int .i64 0] 56)).drewN m).setCell ⟨w1.heap.size, 1, none⟩ (.bool b)).setCell ⟨w1.heap.size, 3, none⟩ (.int .i64 y)).heap.size ∧
    ((((w1.alloc (.cells #[.int .i64 k, .bool pf, .int .i64 ns, .int .i64 0] 56)).drewN m).setCell ⟨w1.heap.size, 1, none⟩ (.bool b)).setCell ⟨w1.heap.size, 3, none⟩ (.int .i64 y)).cell? ⟨w1.heap.size, 0, none⟩ = some (.int .i64 k) ∧
    ((((w1.alloc (.cells #[.int .i64 k, .bool pf, .int .i64 ns, .int .i64 0] 56)).drewN m).setCell ⟨w1.heap.size, 1, none⟩ (.bool b)).setCell ⟨w1.heap.size, 3, none⟩ (.int .i64 y)).cell? ⟨w1.heap.size, 1, none⟩ = some (.bool b) ∧
    ((((w1.alloc (.cells #[.int .i64 k, .bool pf, .int .i64 ns, .int .i64 0] 56)).drewN m).setCell ⟨w1.heap.size, 1, none⟩ (.bool b)).setCell ⟨w1.heap.size, 3, none⟩ (.int .i64 y)).cell? ⟨w1.heap.size, 2, none⟩ = some (.int .i64 ns) ∧
    ((((w1.alloc (.cells #[.int .i64 k, .bool pf, .int .i64 ns, .int .i64 0] 56)).drewN m).setCell ⟨w1.heap.size, 1, none⟩ (.bool b)).setCell ⟨w1.heap.size, 3, none⟩ (.int .i64 y)).cell? ⟨w1.heap.size, 3, none⟩ = some (.int .i64 y) := by
  obtain ⟨W, hWd⟩ : ∃ W, W = (w1.alloc (.cells #[.int .i64 k, .bool pf, .int .i64 ns, .int .i64 0] 56)).drewN m := ⟨_, rfl⟩
  have hqW : Below w1.heap.size w1 W := by rw [hWd]; exact below_drewN ((Below.refl _ _).alloc (Nat.le_refl _) _) _
  have hc : ∀ j, W.cell? ⟨w1.heap.size, j, none⟩ = (w1.alloc (.cells #[.int .i64 k, .bool pf, .int .i64 ns, .int .i64 0] 56)).cell? ⟨w1.heap.size, j, none⟩ := fun j => by rw [hWd]; rfl
  have hsz : W.heap.size = w1.heap.size + 1 := by rw [hWd]; show (w1.alloc _).heap.size = _; simp
  rw [← hWd]
  clear hWd
  have hB := (hqW.setCell (p := ⟨w1.heap.size, 1, none⟩) (Nat.le_refl _) (.bool b)).setCell (p := ⟨w1.heap.size, 3, none⟩) (Nat.le_refl _) (.int .i64 y)
  refine ⟨hq.trans (hB.mono hq.size), hF.later hB, by simp [hsz], ?_, ?_, ?_, ?_⟩
  · rw [World.cell?_setCell_other _ _ _ _ (fun e => by injection e with _ e2; exact absurd e2 (by decide)), World.cell?_setCell_other _ _ _ _ (fun e => by injection e with _ e2; exact absurd e2 (by decide)), hc]; simp
  · rw [World.cell?_setCell_other _ _ _ _ (fun e => by injection e with _ e2; exact absurd e2 (by decide))]
    exact World.cell?_setCell_same' _ _ _ (by rw [hc]; simp)
  · rw [World.cell?_setCell_other _ _ _ _ (fun e => by injection e with _ e2; exact absurd e2 (by decide)), World.cell?_setCell_other _ _ _ _ (fun e => by injection e with _ e2; exact absurd e2 (by decide)), hc]; simp
  · refine World.cell?_setCell_same' _ _ _ ?_
    rw [World.cell?_setCell_other _ _ _ _ (fun e => by injection e with _ e2; exact absurd e2 (by decide)), hc]; simp

set_option maxHeartbeats 1000000 in
theorem cget_two (s : ByteArray) (w : World) (hs : s.size ≤ 140737488355328) (h : 0 < s.size) (h2 : 1 < s.size) (n : Nat) (pf : Bool) (ns : Int) (h4 : n < 4) (hB : Cm.beg (s[0].toNat : Int) = some ((n : Int), pf, ns)) (hT : First w) :
    Calls Tryd.prog 25 #[.string s] w fun e w' => e = .returned (getV (Cm.getRes s)) ∧ Below w.heap.size w w' := by
  have HG : Hid (Cm.getRes s = (((n : Int), (s[1].toNat : Int) % 2 == 1, ns, (s[1].toNat : Int) / 2), 2, 0)) := by
    show _ = _
    obtain ⟨r, hr⟩ := Cm.nums_two s h2
    rw [Cm.getRes, hr, Cm.getN_two _ _ hB (by omega)]
  have b0 : 0 ≤ (s[0].toNat : Int) ∧ (s[0].toNat : Int) ≤ 255 := by have := s[0].toNat_lt; omega
  have h0' : (0 : Int) < (s.size : Int) := by omega
  have hq0 : Below w.heap.size w (w.alloc (.cells #[.int .i64 0, .bool false, .int .i64 0, .int .i64 0] 56)) := (Below.refl _ _).alloc (Nat.le_refl _) _
  have hbeg := begin_any (s[0].toNat : Int) _ b0.1 b0.2 (hT.later hq0)
  rw [hB] at hbeg
  clear hB hT
  have hF := four_new w (.int .i64 0) (.bool false) (.int .i64 0) (.int .i64 0) 56
  go_enter Tryd.func25, Tryd.ntmps25
  go_wp2_with fail
  refine hbeg.mono ?_
  rintro e w1 ⟨rfl, hb1⟩
  have hq1 := hq0.trans (hb1.mono hq0.size)
  have hF1 := hF.later hb1
  have HF : Hid (Four w1 w.heap.size) := hF1
  clear hF hb1 hq0 hbeg
  have hlt := hF1.lt
  obtain ⟨v0, c0⟩ := hF1.c 0 (by decide)
  obtain ⟨v1, c1⟩ := hF1.c 1 (by decide)
  obtain ⟨v2, c2⟩ := hF1.c 2 (by decide)
  obtain ⟨v3, c3⟩ := hF1.c 3 (by decide)
  have f0 := hF1.f 0 (by decide)
  have f1 := hF1.f 1 (by decide)
  have f2 := hF1.f 2 (by decide)
  have f3 := hF1.f 3 (by decide)
  clear hF1
  simp only [begV]
  go_wp2_with fail
  refine (numbered_any (n : Int) _).mono ?_
  rintro e w' ⟨rfl, rfl⟩
  rw [numd_low n h4]
  have h2' : (1 : Int) < (s.size : Int) := by omega
  have b1 : 0 ≤ (s[1].toNat : Int) ∧ (s[1].toNat : Int) ≤ 255 := by have := s[1].toNat_lt; omega
  obtain ⟨y0, y1⟩ := b1
  go_wp2
  go_region_with (go_at_call 15; refine (field_any _ _ _ _ y0 y1 (by decide)).mono ?_; rintro e w' ⟨rfl, n5, rfl⟩; first | rw [Am.fld_01] | rw [Am.fld_17 _ y0 y1])
  all_goals
    obtain ⟨y, hy⟩ : ∃ y : Int, y = (s[1].toNat : Int) := ⟨_, rfl⟩
    rw [← hy] at HG ⊢
    obtain ⟨hq2, hF2, hz, k0, k1, k2, k3⟩ := two_set hq1 HF.out _ (n : Int) pf ns (y % 2 == 1) (y / 2)
    generalize ((((w1.alloc (.cells #[.int .i64 (n : Int), .bool pf, .int .i64 ns, .int .i64 0] 56)).drewN _).setCell ⟨w1.heap.size, 1, none⟩ (.bool (y % 2 == 1))).setCell ⟨w1.heap.size, 3, none⟩ (.int .i64 (y / 2))) = W2 at hq2 hF2 hz k0 k1 k2 k3 ⊢
    clear hq1 HF hlt c0 c1 c2 c3 f0 f1 f2 f3 hy y0 y1
    have HF : Hid (Four W2 w.heap.size) := hF2
    have hlt := hF2.lt
    obtain ⟨v0, c0⟩ := hF2.c 0 (by decide)
    obtain ⟨v1, c1⟩ := hF2.c 1 (by decide)
    obtain ⟨v2, c2⟩ := hF2.c 2 (by decide)
    obtain ⟨v3, c3⟩ := hF2.c 3 (by decide)
    have f0 := hF2.f 0 (by decide)
    have f1 := hF2.f 1 (by decide)
    have f2 := hF2.f 2 (by decide)
    have f3 := hF2.f 3 (by decide)
    clear hF2
    go_wp2
    obtain ⟨z0, z1, z2, z3⟩ := set4_cells HF.out (.int .i64 (n : Int)) (.bool (y % 2 == 1)) (.int .i64 ns) (.int .i64 (y / 2))
    unfold set4 at z0 z1 z2 z3
    exact bodyPost_ret (v := getV (((n : Int), y % 2 == 1, ns, y / 2), 2, 0)) (by simp [results, Tryd.results25, go_sem, getV, z0, z1, z2, z3]) rfl ⟨by rw [HG.out], set4_below hq2 _ _ _ _⟩

theorem cget_any (s : ByteArray) (w : World) (hs : s.size ≤ 140737488355328) (hT : First w) :
    Calls Tryd.prog 25 #[.string s] w fun e w' => e = .returned (getV (Cm.getRes s)) ∧ Below w.heap.size w w' := by
  by_cases h : s.size = 0
  · exact cget_empty s w h
  · have h0 : 0 < s.size := by omega
    match hB : Cm.beg (s[0].toNat : Int) with
    | none => exact cget_none s w hs h0 hB hT
    | some (k, pf, ns) =>
      obtain ⟨n, rfl, hn, hc⟩ := Cm.beg_some hB
      by_cases h4 : 4 ≤ n
      · obtain rfl : ns = 0 := by
          rcases hc with ⟨h1, _⟩ | ⟨_, h1, _⟩
          · omega
          · exact h1
        exact cget_one s w hs h0 n pf h4 hB hT
      · by_cases h2 : s.size < 2
        · exact cget_short s w hs h0 h2 n pf ns (by omega) hB hT
        · exact cget_two s w hs h0 (by omega) n pf ns (by omega) hB hT
end Go.Proofs.YtfpdkdaoomakgaaDoor
