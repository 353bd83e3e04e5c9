/-
  The walks of a source's small functions: made, send, good, isFree, await, free, ask.
-/
import Derived.Test.YtdnhcpkpajbhoabSrcRow
import Derived.Test.YtdnhcpkpajbhoabPoolWalks
import Derived.Test.YtdnhcpkpajbhoabPoolAssign
import Derived.Test.YtdnhcpkpajbhoabTeimsgPutWalks
import Derived.Test.YtdnhcpkpajbhoabKindWalks
import Derived.OwnWalk
namespace Go.Proofs.Ytdnhcpkpajbhoab
open Go.RowKit
set_option linter.unusedVariables false
set_option linter.unusedSimpArgs false
set_option maxRecDepth 100000

theorem smade_any (C P M : Nat) (s : Zm.St) (w : World) (h : Sr w C P M s) :
    Calls Try.prog 28 #[.pointer (some ⟨C, 0, none⟩)] w fun r w' => r = .returned (.bool true) ∧ w = w' := by
  have c0 := h.c0
  have hlt := h.lt
  clear h
  go_enter Try.func28, Try.ntmps28
  go_wp2
  go_ret
  exact ⟨rfl, rfl⟩
theorem smade_nil (w : World) :
    Calls Try.prog 28 #[.pointer none] w fun r w' => r = .returned (.bool false) ∧ w = w' := by
  go_enter Try.func28, Try.ntmps28
  go_wp2
  go_ret
  exact ⟨rfl, rfl⟩
theorem send_any (ty ri ai : Int) (w : World) :
    Calls Try.prog 34 #[.int .i64 ty, .int .i64 ri, .int .i64 ai] w fun r w' => r = .returned (.agg #[.int .i64 0, .int .i64 ty, .int .i64 ri, .int .i64 ai, .int .i64 0]) ∧ Below w.heap.size w w' := by
  go_enter Try.func34, Try.ntmps34
  go_wp2
  refine bodyPost_ret (v := .agg #[.int .i64 0, .int .i64 ty, .int .i64 ri, .int .i64 ai, .int .i64 0]) (by simp [results, Try.results34, go_sem]) rfl ⟨rfl, ?_⟩
  repeat' first | exact (Below.refl _ _).alloc (Nat.le_refl _) _ | refine Below.setCell ?_ (Nat.le_refl _) _
theorem good_any (ty ri ai : Int) (w : World) :
    Calls Try.prog 39 #[.agg #[.int .i64 ty, .int .i64 ri, .int .i64 ai]] w fun r w' => r = .returned (.bool (Zm.good ty ri ai)) ∧ Below w.heap.size w w' := by
  have HG : Hid (Zm.good ty ri ai = decide ((Tm.putRes ty ri ai).2 = 0)) := rfl
  obtain ⟨W1, hW1⟩ : ∃ W1, W1 = w.alloc (.cells #[.int .i64 ty, .int .i64 ri, .int .i64 ai] 51) := ⟨_, rfl⟩
  have HB1 : Hid (Below w.heap.size w W1) := by rw [hW1]; exact (Below.refl _ _).alloc (Nat.le_refl _) _
  go_enter Try.func39, Try.ntmps39
  go_wp2_with fail
  rw [← hW1]
  clear hW1
  refine (tput_any ty ri ai W1).mono ?_
  rintro r w2 ⟨rfl, hb⟩
  have HB2 : Hid (Below w.heap.size w w2) := HB1.out.trans (hb.mono HB1.out.size)
  clear hb HB1
  generalize (Tm.putRes ty ri ai).2 = e at HG
  generalize (Tm.putRes ty ri ai).1 = z
  go_wp2
  go_ret
  exact ⟨by rw [HG.out]; rfl, HB2.out⟩
theorem kind_au (t : Int) : (Am.kind t == 2) = Pm.au t := by
  have e : Am.kind t = if 0 ≤ t ∧ t ≤ 63 then 1 else if 64 ≤ t ∧ t ≤ 126 then 2 else if t = 127 then 3 else 0 := rfl
  unfold Pm.au
  rw [e]
  split
  · rw [decide_eq_false (by omega)]; rfl
  · split
    · rename_i h; rw [decide_eq_true h]; rfl
    · rename_i h
      rw [decide_eq_false h]
      split <;> rfl
theorem isFree_any (C P M : Nat) (s : Zm.St) (t : Int) (w : World) (h : Sr w C P M s) :
    Calls Try.prog 61 #[.pointer (some ⟨C, 0, none⟩), .int .i64 t] w fun r w' => r = .returned (.bool (Zm.isFree s t)) ∧ w = w' := by
  have c0 := h.c0
  have hlt := h.lt
  have HH := phas_any P s.nx s.f t w h.pl
  have HK := kind_any t w
  have hk := kind_au t
  have HF : Hid (Zm.isFree s t = (Pm.au t && !Pm.has s.f t)) := rfl
  generalize Pm.has s.f t = b at HH HF
  generalize Am.kind t = k at HK hk
  clear h
  cases hu : Pm.au t with
  | false =>
    rw [hu] at hk HF
    go_enter Try.func61, Try.ntmps61
    go_wp2_with fail
    refine HK.mono ?_
    rintro r w1 ⟨rfl, rfl⟩
    clear HK
    go_wp2
    go_ret
    exact ⟨by rw [HF.out]; rfl, rfl⟩
  | true =>
    rw [hu] at hk HF
    go_enter Try.func61, Try.ntmps61
    go_wp2_with fail
    refine HK.mono ?_
    rintro r w1 ⟨rfl, rfl⟩
    clear HK
    go_wp2_with fail
    refine HH.mono ?_
    rintro r w1 ⟨rfl, rfl⟩
    clear HH
    go_wp2
    go_ret
    exact ⟨by rw [HF.out]; rfl, rfl⟩
theorem await_any (C P M p k : Nat) (s : Zm.St) (w : World) (h : Sr w C P M s) (hp : p < 63) (hf : s.f p = true) (hk : 0 < k) (hk2 : k ≤ 2) :
    Calls Try.prog 35 #[.pointer (some ⟨C, 0, none⟩), .int .i64 (64 + (p : Int)), .int .i64 k] w fun r w' => r = .returned (.agg #[.int .i64 3, .int .i64 0, .int .i64 0, .int .i64 0, .int .i64 (64 + (p : Int))]) ∧ Mvs w w' C P M (Zm.setC s p k 0) := by
  have hb1 : Below w.heap.size w (w.alloc (.cells #[.int .i64 0, .int .i64 0, .int .i64 0, .int .i64 0, .int .i64 0] 53)) := (Below.refl _ _).alloc (Nat.le_refl _) _
  have h1 := h.below hb1
  have c1 := h.c1
  have hlt := h.lt
  obtain ⟨w2, hs, hc2, hk'⟩ := h1.ch.store hp hk (n := 0)
  have HM : Hid (Mvs w w2 C P M (Zm.setC s p k 0)) := Mvs.ahead hb1 (h1.checks hc2 hk' rfl rfl (Zm.setC_ok h.ok hp (fun _ => hf) hk2 (by decide) (fun _ => rfl)))
  have HL : Hid (C < w.heap.size ∧ P < w.heap.size ∧ M < w.heap.size) := ⟨h.lt, h.pl.lt, h.ch.lt⟩
  have hl : w.heap.size < w2.heap.size := by have := hk'.size; simp at this; omega
  have hcell : ∀ j, j < 5 → w2.cell? ⟨w.heap.size, j, none⟩ = some (.int .i64 0) ∧ w2.frozen? ⟨w.heap.size, j, none⟩ = false := by
    intro j hj
    have hm : ¬ w.heap.size = M := by have := h.ch.lt; omega
    rw [hk'.cell (p := ⟨w.heap.size, j, none⟩) (by simp) hm, hk'.frozen (p := ⟨w.heap.size, j, none⟩) (by simp) hm]
    have : j = 0 ∨ j = 1 ∨ j = 2 ∨ j = 3 ∨ j = 4 := by omega
    rcases this with rfl | rfl | rfl | rfl | rfl <;> simp
  obtain ⟨z0, g0⟩ := hcell 0 (by decide)
  obtain ⟨z1, g1⟩ := hcell 1 (by decide)
  obtain ⟨z2, g2⟩ := hcell 2 (by decide)
  obtain ⟨z3, g3⟩ := hcell 3 (by decide)
  obtain ⟨z4, g4⟩ := hcell 4 (by decide)
  unfold chV at hs
  rw [show ((0 : Nat) : Int) = 0 from rfl] at hs
  obtain ⟨t, ht⟩ : ∃ t : Int, t = 64 + (p : Int) := ⟨_, rfl⟩
  rw [← ht] at hs ⊢
  clear hb1 h1 h hc2 hk' hcell hf hk ht
  go_enter Try.func35, Try.ntmps35
  go_wp2
  refine bodyPost_ret (v := .agg #[.int .i64 3, .int .i64 0, .int .i64 0, .int .i64 0, .int .i64 t]) (by simp [results, Try.results35, go_sem, z0, z1, z2, z3, z4]) rfl ⟨rfl, ?_⟩
  obtain ⟨x1, x2, x3⟩ := HL.out
  exact ((((HM.out.put (Nat.le_refl _) x1 x2 x3).put (Nat.le_refl _) x1 x2 x3).put (Nat.le_refl _) x1 x2 x3).put (Nat.le_refl _) x1 x2 x3).put (Nat.le_refl _) x1 x2 x3
theorem sfree_any (C P M : Nat) (s : Zm.St) (t : Int) (w : World) (h : Sr w C P M s) (hu : Zm.under s t = false) :
    Calls Try.prog 38 #[.pointer (some ⟨C, 0, none⟩), .int .i64 t] w fun r w' => ∃ v, r = .returned v ∧ Out w.heap.size w' v (Zm.freeE s t) ∧ Mvs w w' C P M (Zm.free s t) := by
  have c0 := h.c0
  have hlt := h.lt
  have HF := pfree_any P s.nx s.f t w h.pl
  have HS : Hid (∀ w', Pl w' P (Pm.frF s.f t) s.nx → Kept w w' (fun k => k = P) → Mvs w w' C P M (Zm.free s t)) := fun w' hp hk => h.pool hp hk rfl rfl (Zm.free_ok h.ok hu)
  clear h hu
  have HE : Hid (Zm.freeE s t = if Pm.has s.f t then [Zm.tell 2 t] else []) := rfl
  generalize Pm.has s.f t = b at HF HE
  cases b with
  | false =>
    go_enter Try.func38, Try.ntmps38
    go_wp2_with fail
    refine HF.mono ?_
    rintro r w1 ⟨rfl, hp, hk⟩
    have HM : Hid (Mvs w w1 C P M (Zm.free s t)) := HS.out w1 hp hk
    clear HF hp hk
    go_wp2
    go_ret
    exact ⟨_, rfl, by rw [HE.out]; exact out_nil _ _, HM.out⟩
  | true =>
    go_enter Try.func38, Try.ntmps38
    go_wp2_with fail
    refine HF.mono ?_
    rintro r w1 ⟨rfl, hp, hk⟩
    have HM : Hid (Mvs w w1 C P M (Zm.free s t)) := HS.out w1 hp hk
    have hsz := hk.size
    clear HF hp hk
    go_wp2
    go_ret
    refine ⟨_, rfl, ?_, HM.out.then ((Below.refl _ _).alloc (Nat.le_refl _) _)⟩
    rw [HE.out, if_pos trivial]
    exact out_made w1 [Zm.tell 2 t] hsz rfl (by simp)
theorem sask_any (C P M p k : Nat) (s : Zm.St) (w : World) (h : Sr w C P M s) (hp : p < 63) (hf : s.f p = true) (hk : 0 < k) (hk2 : k ≤ 2) :
    Calls Try.prog 33 #[.pointer (some ⟨C, 0, none⟩), .int .i64 (64 + (p : Int)), .int .i64 k] w fun r w' => ∃ v, r = .returned v ∧ Out w.heap.size w' v (Zm.askE (64 + (p : Int))) ∧ Mvs w w' C P M (Zm.setC s p k 0) := by
  have HA : Hid (∀ w1, Below w.heap.size w w1 → Sr w1 C P M s) := fun w1 hb => h.below hb
  go_enter Try.func33, Try.ntmps33
  go_wp2_with fail
  refine (send_any 4 0 (64 + (p : Int)) w).mono ?_
  rintro r w1 ⟨rfl, hb⟩
  have h1 := await_any C P M p k s w1 (HA.out w1 hb) hp hf hk hk2
  have HB : Hid (Below w.heap.size w w1) := hb
  have hs1 := hb.size
  clear hb HA h
  go_wp2_with fail
  refine h1.mono ?_
  rintro r w2 ⟨rfl, hm⟩
  have HM : Hid (Mvs w w2 C P M (Zm.setC s p k 0)) := Mvs.ahead HB.out hm
  have hs2 := hm.2.size
  clear hm h1 HB
  have hw : w.heap.size ≤ w2.heap.size := by omega
  obtain ⟨t, ht⟩ : ∃ t : Int, t = 64 + (p : Int) := ⟨_, rfl⟩
  have HQ : Hid (Zm.askE t = Zm.askE (64 + (p : Int))) := by rw [ht]; rfl
  rw [← ht]
  clear ht
  go_wp2
  go_ret
  exact ⟨_, rfl, by first | exact out_made (b := w.heap.size) w2 (Zm.askE t) hw rfl (by simp [Zm.askE]) | (rw [← HQ.out]; exact out_made (b := w.heap.size) w2 (Zm.askE t) hw rfl (by simp [Zm.askE])), HM.out.then ((Below.refl _ _).alloc (Nat.le_refl _) _)⟩
end Go.Proofs.Ytdnhcpkpajbhoab
