/-
  A source of the call's own; the law's 'wakes' answers true, and leaves all that was as it was; the law's 'made'.
-/
import Derived.Test.YtdnhcpkpajbhoabSrcDoors
namespace Go.Proofs.Ytdnhcpkpajbhoab
open Go.RowKit
set_option linter.unusedVariables false
set_option linter.unusedSimpArgs false
set_option maxRecDepth 100000

/-- a source in blocks from b on; below b all is as in W0 -/
structure OwnS (b : Nat) (W0 w : World) (C P M : Nat) (s : Zm.St) : Prop where
  sr : Sr w C P M s
  bC : b ≤ C
  bP : b ≤ P
  bM : b ≤ M
  bel : Below b W0 w
section
variable {b : Nat} {W0 w w' : World} {C P M : Nat} {s : Zm.St}
theorem OwnS.bs (h : OwnS b W0 w C P M s) : b ≤ w.heap.size := by have := h.sr.lt; have := h.bC; omega
theorem OwnS.below (h : OwnS b W0 w C P M s) (hb : Below w.heap.size w w') : OwnS b W0 w' C P M s := ⟨h.sr.below hb, h.bC, h.bP, h.bM, h.bel.trans (hb.mono h.bs)⟩
theorem OwnS.then {s' : Zm.St} (h : OwnS b W0 w C P M s) (hm : Mvs w w' C P M s') : OwnS b W0 w' C P M s' :=
  ⟨hm.1, h.bC, h.bP, h.bM, h.bel.trans (hm.2.below h.bs (fun k hk => by rcases hk with rfl | rfl; exact h.bP; exact h.bM))⟩
theorem owns_new (w : World) : Calls Try.prog 7 #[] w fun r w' => ∃ C P M, r = .returned (.pointer (some ⟨C, 0, none⟩)) ∧ OwnS w.heap.size w w' C P M Zm.new :=
  (snew_any w).mono fun r w' ⟨C, P, M, h1, h2, h3, h4, h5, h6⟩ => ⟨C, P, M, h1, h2, h4, h5, h6, h3⟩
theorem owns_message (ty ri ai : Int) (h : OwnS b W0 w C P M s) : Calls Try.prog 19 #[.pointer (some ⟨C, 0, none⟩), .agg #[.int .i64 ty, .int .i64 ri, .int .i64 ai]] w fun r w' => ∃ a cap, r = .returned (.slice a (Zm.message s ty ri ai).2.length cap) ∧ Out w.heap.size w' (.slice a (Zm.message s ty ri ai).2.length cap) (Zm.message s ty ri ai).2 ∧ Mvs w w' C P M (Zm.message s ty ri ai).1 ∧ OwnS b W0 w' C P M (Zm.message s ty ri ai).1 := by
  refine (smessage_any C P M s ty ri ai w h.sr).mono ?_
  rintro r w' ⟨v, rfl, h2, h3⟩
  obtain ⟨a, cap, rfl⟩ := h2.form
  exact ⟨a, cap, rfl, h2, h3, h.then h3⟩
theorem owns_check (t : Int) (h : OwnS b W0 w C P M s) : Calls Try.prog 15 #[.pointer (some ⟨C, 0, none⟩), .int .i64 t] w fun r w' => ∃ a cap, r = .returned (.tuple #[.slice a (Zm.check s t).2.length cap, .int .i64 (Zm.checkN s t)]) ∧ Out w.heap.size w' (.slice a (Zm.check s t).2.length cap) (Zm.check s t).2 ∧ Mvs w w' C P M (Zm.check s t).1 ∧ OwnS b W0 w' C P M (Zm.check s t).1 := by
  refine (scheck_any C P M s t w h.sr).mono ?_
  rintro r w' ⟨v, rfl, h2, h3⟩
  obtain ⟨a, cap, rfl⟩ := h2.form
  exact ⟨a, cap, rfl, h2, h3, h.then h3⟩
theorem owns_rem (t : Int) (h : OwnS b W0 w C P M s) : Calls Try.prog 17 #[.pointer (some ⟨C, 0, none⟩), .int .i64 t] w fun r w' => ∃ a cap, r = .returned (.tuple #[.slice a (Zm.removeOp s t).2.length cap, .int .i64 (Zm.removeN t)]) ∧ Out w.heap.size w' (.slice a (Zm.removeOp s t).2.length cap) (Zm.removeOp s t).2 ∧ Mvs w w' C P M (Zm.removeOp s t).1 ∧ OwnS b W0 w' C P M (Zm.removeOp s t).1 := by
  refine (srem_any C P M s t w h.sr).mono ?_
  rintro r w' ⟨v, rfl, h2, h3⟩
  obtain ⟨a, cap, rfl⟩ := h2.form
  exact ⟨a, cap, rfl, h2, h3, h.then h3⟩
theorem owns_audit (h : OwnS b W0 w C P M s) : Calls Try.prog 16 #[.pointer (some ⟨C, 0, none⟩)] w fun r w' => ∃ a cap, r = .returned (.slice a (Zm.auditE s).length cap) ∧ Out w.heap.size w' (.slice a (Zm.auditE s).length cap) (Zm.auditE s) ∧ Mvs w w' C P M (Zm.audit s) ∧ OwnS b W0 w' C P M (Zm.audit s) := by
  refine (saudit_any C P M s w h.sr).mono ?_
  rintro r w' ⟨v, rfl, h2, h3⟩
  obtain ⟨a, cap, rfl⟩ := h2.form
  exact ⟨a, cap, rfl, h2, h3, h.then h3⟩
theorem owns_timeout (t : Int) (ht : In64 t) (h : OwnS b W0 w C P M s) : Calls Try.prog 18 #[.pointer (some ⟨C, 0, none⟩), .int .i64 t] w fun r w' => ∃ a cap, r = .returned (.slice a (Zm.timeout s t).2.length cap) ∧ Out w.heap.size w' (.slice a (Zm.timeout s t).2.length cap) (Zm.timeout s t).2 ∧ Mvs w w' C P M (Zm.timeout s t).1 ∧ OwnS b W0 w' C P M (Zm.timeout s t).1 := by
  refine (stimeout_any C P M s t w h.sr ht).mono ?_
  rintro r w' ⟨v, rfl, h2, h3⟩
  obtain ⟨a, cap, rfl⟩ := h2.form
  exact ⟨a, cap, rfl, h2, h3, h.then h3⟩
theorem owns_list (h : OwnS b W0 w C P M s) : Calls Try.prog 11 #[.pointer (some ⟨C, 0, none⟩)] w fun r w' => ∃ a cap, r = .returned (.slice a (Pm.ct s.f 63) cap) ∧ Lst w w' a cap (Pm.ls s.f 63) ∧ OwnS b W0 w' C P M s :=
  (slist_any C P M s w h.sr).mono fun r w' ⟨a, cap, h1, h2⟩ => ⟨a, cap, h1, h2, h.below h2.bel⟩
/-- what was handed out, told by places -/
theorem Out.own {l : List Zm.Ef} {a : Option Addr} {cap : Nat} (h : Out b w (.slice a l.length cap) l) (hn : 0 < l.length) : ∃ g, a = some ⟨g, 0, none⟩ ∧ b ≤ g ∧ g < w.heap.size ∧ l.length ≤ cap ∧ ∀ k u, (efsL l)[k]? = some u → w.cell? ⟨g, k, none⟩ = some u := by
  obtain ⟨g, c, hv, hb, hg⟩ := World.ownsRow.form h hn
  injection hv with e1 _ e2
  subst e1 e2
  refine ⟨g, rfl, hb, hg, ?_, fun k u hk => ?_⟩
  · rcases h.2 with ⟨h1, h2⟩ | ⟨g', c', cur, hv, _, _, hle, _⟩
    · omega
    · injection hv with _ _ e
      omega
  · have hlt : k < (efsL l).length := (List.getElem?_eq_some_iff.1 hk).1
    rw [efsL_len] at hlt
    exact (World.ownsRow.cellAt h k hlt).trans hk
end

def Zm.wk1 : Zm.St := (Zm.message Zm.new 1 7 127).1
def Zm.wk2 : Zm.St := (Zm.check Zm.wk1 64).1
def Zm.wk3 : Zm.St := (Zm.message Zm.wk2 5 0 64).1
theorem wk_a : (Zm.message Zm.new 1 7 127).2 = [Zm.say 2 7 64, Zm.tell 1 64] := by first | rfl | kernel_rfl
theorem wk_b : Zm.checkN Zm.wk1 64 = 0 := by first | rfl | kernel_rfl
theorem wk_c : (Zm.message Zm.wk3 5 0 64).2 = [Zm.say 6 0 64, Zm.say 6 0 64, Zm.tell 4 64, Zm.tell 2 64] := by first | rfl | kernel_rfl
set_option maxHeartbeats 2000000 in
theorem swakes_any (w : World) : Calls Try.prog 9 #[] w fun r w' => r = .returned (.bool true) ∧ Below w.heap.size w w' := by
  go_enter Try.func9, Try.ntmps9
  go_wp2_with fail
  refine (owns_new w).mono ?_
  rintro r w1 ⟨C, P, M, rfl, O1⟩
  have H1 := owns_message 1 7 127 O1
  rw [wk_a] at H1
  have HL : Hid (w.heap.size ≤ P ∧ w.heap.size ≤ M) := ⟨O1.bP, O1.bM⟩
  have HQ : Hid (Low w1 C P M) := O1.sr.low
  clear O1
  go_wp2_with fail
  refine H1.mono ?_
  rintro r w2 ⟨a, cap, rfl, ho, hm, O2⟩
  replace O2 : OwnS w.heap.size w w2 C P M Zm.wk1 := O2
  have H2 := owns_check 64 O2
  rw [wk_b] at H2
  have HO1 : Hid (Out w1.heap.size w2 (.slice a 2 cap) [Zm.say 2 7 64, Zm.tell 1 64]) := ho
  clear O2 H1 ho hm
  go_wp2_with fail
  refine H2.mono ?_
  rintro r w3 ⟨a2, cap2, rfl, -, hm, O3⟩
  replace O3 : OwnS w.heap.size w w3 C P M Zm.wk2 := O3
  have H3 := owns_message 5 0 64 O3
  have HO2 : Hid (Out w1.heap.size w3 (.slice a 2 cap) [Zm.say 2 7 64, Zm.tell 1 64]) := HO1.out.mvs hm HQ.out.2.1 HQ.out.2.2
  clear O3 H2 hm HO1
  generalize (Zm.check Zm.wk1 64).2.length = n2
  go_wp2_with fail
  refine H3.mono ?_
  rintro r w4 ⟨a3, cap3, rfl, -, hm, O4⟩
  replace O4 : OwnS w.heap.size w w4 C P M Zm.wk3 := O4
  have H4 := owns_message 5 0 64 O4
  rw [wk_c] at H4
  have HO3 : Hid (Out w1.heap.size w4 (.slice a 2 cap) [Zm.say 2 7 64, Zm.tell 1 64]) := HO2.out.mvs hm HQ.out.2.1 HQ.out.2.2
  clear O4 H3 hm HO2
  generalize (Zm.message Zm.wk2 5 0 64).2.length = n3
  go_wp2_with fail
  refine H4.mono ?_
  rintro r w5 ⟨a4, cap4, rfl, ho4, hm, O5⟩
  have ho1 := HO3.out.mvs hm HQ.out.2.1 HQ.out.2.2
  have HB : Hid (Below w.heap.size w w5) := O5.bel
  obtain ⟨g, rfl, _, hg, hc, hx⟩ := ho1.own (by simp)
  obtain ⟨g4, rfl, _, hg4, hc4, hx4⟩ := ho4.own (by simp)
  have x1 : w5.cell? ⟨g, 1, none⟩ = some (.int .i64 2) := hx 1 _ rfl
  have x2 : w5.cell? ⟨g, 2, none⟩ = some (.int .i64 7) := hx 2 _ rfl
  have x3 : w5.cell? ⟨g, 3, none⟩ = some (.int .i64 64) := hx 3 _ rfl
  have x9 : w5.cell? ⟨g, 9, none⟩ = some (.int .i64 64) := hx 9 _ rfl
  have y0 : w5.cell? ⟨g4, 15, none⟩ = some (.int .i64 2) := hx4 15 _ rfl
  have y1 : w5.cell? ⟨g4, 16, none⟩ = some (.int .i64 0) := hx4 16 _ rfl
  have y2 : w5.cell? ⟨g4, 17, none⟩ = some (.int .i64 0) := hx4 17 _ rfl
  have y3 : w5.cell? ⟨g4, 18, none⟩ = some (.int .i64 0) := hx4 18 _ rfl
  have y4 : w5.cell? ⟨g4, 19, none⟩ = some (.int .i64 64) := hx4 19 _ rfl
  have hc' : 2 ≤ cap := hc
  have hc4' : 4 ≤ cap4 := hc4
  clear hx hx4 ho1 ho4 hm O5 H4 HO3 hc hc4
  go_wp2
  go_ret
  exact ⟨rfl, HB.out⟩
theorem made_any15 (d ty ri ai often : Int) (w : World) :
    Calls Try.prog 20 #[.agg #[.int .i64 d, .int .i64 ty, .int .i64 ri, .int .i64 ai, .int .i64 often]] w fun r w' => r = .returned (.agg #[.int .i64 ty, .int .i64 ri, .int .i64 ai]) ∧ Below w.heap.size w w' := by
  have hb : Below w.heap.size w ((w.alloc (.cells #[.int .i64 d, .int .i64 ty, .int .i64 ri, .int .i64 ai, .int .i64 often] 29)).alloc (.cells #[.int .i64 0, .int .i64 0, .int .i64 0] 51)) := ((Below.refl _ _).alloc (Nat.le_refl _) _).alloc (by simp) _
  go_enter Try.func20, Try.ntmps20
  go_wp2
  refine bodyPost_ret (v := .agg #[.int .i64 ty, .int .i64 ri, .int .i64 ai]) (by simp [results, Try.results20, go_sem]) rfl ⟨rfl, ?_⟩
  exact ((Below.refl _ _).alloc (Nat.le_refl _) _).alloc (by simp) _
end Go.Proofs.Ytdnhcpkpajbhoab
