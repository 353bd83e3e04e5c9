/-
  The walk of the law BitsPacks: it returns true. And how a slice of pairs that came in is opened.
-/
import Derived.Test.YtpihicgmfjaghaaRefPackWalks
import Derived.Deep.Slices
namespace Go.Proofs.Ytpihicgmfjaghaa
open Go.RowKit
set_option linter.unusedVariables false
set_option linter.unusedSimpArgs false

theorem pack_one : Bm.packRes [(1, 1), (1, 0), (6, 63)] = (253, 0) := by decide

/-- the three pairs, in a new block -/
theorem row2_three (w : World) : Row2 (w.alloc (.cells #[.int .i64 1, .int .i64 1, .int .i64 1, .int .i64 0, .int .i64 6, .int .i64 63] 40)) (some ⟨w.heap.size, 0, none⟩) 3 3 [(1, 1), (1, 0), (6, 63)] := by
  refine ⟨rfl, Nat.le_refl _, by decide, ?_, Or.inr (Or.inr ⟨w.heap.size, 0, rfl, by decide, by simp, fun i hi => ?_⟩)⟩
  · intro q h; simp at h; rcases h with rfl | rfl | rfl <;> decide
  · have : i = 0 ∨ i = 1 ∨ i = 2 := by omega
    rcases this with rfl | rfl | rfl <;> simp

set_option maxHeartbeats 400000 in
theorem walk_BitsPacks (a : Option Addr) (len cap : Nat) (ps : List (Int × Int)) (w : World) (hr : Row2 w a len cap ps) :
    Calls Try.prog 7 #[.slice a len cap] w fun e w' => e = .returned (.bool true) ∧ Below w.heap.size w w' := by
  have e1 : Hid (Bm.packRes [(1, 1), (1, 0), (6, 63)] = (253, 0)) := pack_one
  have hr' := hr
  obtain ⟨h1, h2, h3, h4, h5⟩ := hr'
  unfold maxLen at h3
  clear h4
  rcases h5 with ⟨rfl, rfl, rfl⟩ | ⟨⟨x, rfl⟩, rfl⟩ | ⟨b, off, rfl, h0, hlt, hc⟩
  · go_enter Try.func7, Try.ntmps7
    go_wp2_with fail
    refine (pack_any _ _ _ ps _ (by omega) hr).mono ?_
    rintro e w1 ⟨rfl, hb1⟩
    generalize hR : Bm.packRes ps = R
    have HR : Hid (Bm.packRes ps = R) := hR
    clear hR
    go_wp2_with fail
    refine (ref_pack_any _ _ _ ps _ (by omega) (hr.later hb1)).mono ?_
    rintro e w2 ⟨rfl, rfl⟩
    rw [HR.out]
    go_wp2_with fail
    refine (pack_any _ _ _ [(1, 1), (1, 0), (6, 63)] _ (by decide) (row2_three w1)).mono ?_
    rintro e w3 ⟨rfl, hb3⟩
    rw [e1.out]
    go_wp2
    go_ret
    exact ⟨by simp, (hb1.alloc hb1.size _).trans (hb3.mono (by have := hb1.size; simp; omega))⟩
  · go_enter Try.func7, Try.ntmps7
    go_wp2_with fail
    refine (pack_any _ _ _ ps _ (by omega) hr).mono ?_
    rintro e w1 ⟨rfl, hb1⟩
    generalize hR : Bm.packRes ps = R
    have HR : Hid (Bm.packRes ps = R) := hR
    clear hR
    go_wp2_with fail
    refine (ref_pack_any _ _ _ ps _ (by omega) (hr.later hb1)).mono ?_
    rintro e w2 ⟨rfl, rfl⟩
    rw [HR.out]
    go_wp2_with fail
    refine (pack_any _ _ _ [(1, 1), (1, 0), (6, 63)] _ (by decide) (row2_three w1)).mono ?_
    rintro e w3 ⟨rfl, hb3⟩
    rw [e1.out]
    go_wp2
    go_ret
    exact ⟨by simp, (hb1.alloc hb1.size _).trans (hb3.mono (by have := hb1.size; simp; omega))⟩
  · clear hc h1
    by_cases h50 : len ≤ 50
    · go_enter Try.func7, Try.ntmps7
      go_wp2_with fail
      refine (pack_any _ _ _ ps _ (by omega) hr).mono ?_
      rintro e w1 ⟨rfl, hb1⟩
      generalize hR : Bm.packRes ps = R
      have HR : Hid (Bm.packRes ps = R) := hR
      clear hR
      go_wp2_with fail
      refine (ref_pack_any _ _ _ ps _ (by omega) (hr.later hb1)).mono ?_
      rintro e w2 ⟨rfl, rfl⟩
      rw [HR.out]
      go_wp2_with fail
      refine (pack_any _ _ _ [(1, 1), (1, 0), (6, 63)] _ (by decide) (row2_three w1)).mono ?_
      rintro e w3 ⟨rfl, hb3⟩
      rw [e1.out]
      go_wp2
      go_ret
      exact ⟨by simp, (hb1.alloc hb1.size _).trans (hb3.mono (by have := hb1.size; simp; omega))⟩
    · replace hr := hr.cut 50 (by omega)
      go_enter Try.func7, Try.ntmps7
      go_wp2_with fail
      refine (pack_any _ _ _ (ps.take 50) _ (by omega) hr).mono ?_
      rintro e w1 ⟨rfl, hb1⟩
      generalize hR : Bm.packRes (ps.take 50) = R
      have HR : Hid (Bm.packRes (ps.take 50) = R) := hR
      clear hR
      go_wp2_with fail
      refine (ref_pack_any _ _ _ (ps.take 50) _ (by omega) (hr.later hb1)).mono ?_
      rintro e w2 ⟨rfl, rfl⟩
      rw [HR.out]
      go_wp2_with fail
      refine (pack_any _ _ _ [(1, 1), (1, 0), (6, 63)] _ (by decide) (row2_three w1)).mono ?_
      rintro e w3 ⟨rfl, hb3⟩
      rw [e1.out]
      go_wp2
      go_ret
      exact ⟨by simp, (hb1.alloc hb1.size _).trans (hb3.mono (by have := hb1.size; simp; omega))⟩

theorem add_plain (b off i : Nat) : (⟨b, off, none⟩ : Addr).add i = ⟨b, off + i, none⟩ := by unfold Addr.add; split <;> simp_all

set_option maxRecDepth 100000 in
theorem open_BitsPacks0 {H : Type} {enc : TypeId × Value → H} {w : World} {a : Option Addr} {len cap : Nat} {d : DataW H} {p : List MemPlace}
    (h : DataW.Trod enc Try.prog w 0 (fun _ => true) true 35 (.slice a len cap) d p) : ∃ ps, Row2 w a len cap ps := by
  obtain ⟨fuel, hf⟩ := h
  have ce : Try.prog.cellsOf 40 = 2 := by kernel_rfl
  have ci : Try.prog.cellsOf 3 = 1 := by kernel_rfl
  rcases Deep.open_slice Try.underlying35 hf with ⟨hcs, _⟩ | ⟨x, l, c, m, n, D, Pl, hcs, _, hl, hm, hmm, _, hx⟩
  · simp [Value.cells] at hcs
    obtain ⟨rfl, rfl, rfl⟩ := hcs
    exact ⟨[], rfl, Nat.le_refl _, Nat.zero_le _, fun q h => by simp at h, Or.inl ⟨rfl, rfl, rfl⟩⟩
  · simp [Value.cells] at hcs
    obtain ⟨rfl, rfl, rfl⟩ := hcs
    have hmc : m = cap := by rw [hmm]; rfl
    subst hmc
    rw [ce] at hx
    have each : ∀ i, i < m → ∃ q : Int × Int, (w.cell? (x.add (i * 2)) = some (.int .i64 q.1) ∧ w.cell? (x.add (i * 2 + 1)) = some (.int .i64 q.2)) ∧ (Lit.int .i64 q.1).wf = true ∧ (Lit.int .i64 q.2).wf = true := by
      intro i hi
      obtain ⟨cs', h1, h2⟩ := hx i hi
      obtain ⟨_, hlen, hcell⟩ := World.cells?_some h1
      obtain ⟨xs, k, hk, hxy, _, hxl, hfe⟩ := DataW.trod_array Try.underlying40 h2
      match xs, hxl, cs', hlen with
      | [y0, y1], _, [v0, v1], _ =>
        have g0 := hfe 0 (by decide)
        have g1 := hfe 1 (by decide)
        simp [ci] at g0 g1
        have e0 := hcell 0 (by decide)
        have e1 := hcell 1 (by decide)
        rw [Deep.add_add] at e0 e1
        obtain ⟨a0, ea, _, wa⟩ := DataW.trod_int Try.underlying3 g0
        obtain ⟨a1, eb, _, wb⟩ := DataW.trod_int Try.underlying3 g1
        simp at ea eb
        subst ea eb
        exact ⟨(a0, a1), ⟨by simpa using e0, by simpa using e1⟩, wa, wb⟩
    obtain ⟨q, hq⟩ := Deep.choose_lt each
    refine ⟨(List.range len).map q, by simp, hl, hm, ?_, ?_⟩
    · intro z hz
      simp only [List.mem_map, List.mem_range] at hz
      obtain ⟨i, hi, rfl⟩ := hz
      exact ⟨bounds_i64 (hq i (by omega)).2.1, bounds_i64 (hq i (by omega)).2.2⟩
    · by_cases h0 : len = 0
      · exact Or.inr (Or.inl ⟨⟨x, rfl⟩, h0⟩)
      · obtain ⟨b, off, spot⟩ := x
        have hc := (hq 0 (by omega)).1.1
        have hspot : spot = none := by simpa [Addr.add] using World.cell?_spot hc
        subst hspot
        have hadd : ∀ i, (⟨b, off, none⟩ : Addr).add i = ⟨b, off + i, none⟩ := add_plain b off
        refine Or.inr (Or.inr ⟨b, off, rfl, by omega, cell_lt (by rw [hadd] at hc; exact hc), fun i hi => ?_⟩)
        have h1 := (hq i (by omega)).1
        rw [hadd, hadd] at h1
        have e : ((List.range len).map q).getD i (0, 0) = q i := by simp [List.getD, hi]
        rw [e]
        exact h1
end Go.Proofs.Ytpihicgmfjaghaa
