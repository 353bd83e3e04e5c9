/-
  The law's function 'act': both entities do the same.
-/
import Derived.Test.YtidemohpngkedabGreatDoorEntPair
import Derived.Test.YtidemohpngkedabGreatDoorEntFrameOf
import Derived.Test.YtidemohpngkedabGreatDoorEntEffs
import Derived.Test.YtidemohpngkedabGreatDoorEntFrame
import Derived.Test.YtidemohpngkedabGreatDoorRefOpen
import Derived.Test.YtidemohpngkedabGreatDoorRefCalls
import Derived.Test.YtidemohpngkedabGreatDoorRefMoves
namespace Go.Proofs.YtidemohpngkedabGreatDoor
open Go.RowKit
set_option linter.unusedVariables false
set_option maxRecDepth 100000
set_option linter.unusedSimpArgs false


set_option maxHeartbeats 4000000 in
theorem act_ask (b : Nat) (W0 w : World) (F : Nat → Prop) (C R : Nat) (e : Em.St) (o : List Em.Eff) (q : ActE) (h : Pr14 b W0 w F C R e { e with out := o }) (hq : q.Ok) (hd : q.d.tmod 6 = 0) :
    Calls Tryz.prog 13 #[.pointer (some ⟨C, 0, none⟩), .pointer (some ⟨R, 0, none⟩), q.v] w fun r w' => r = .returned (.bool true) ∧ Pr14 b W0 w' F C R (Em.nxt e q) (Em.stp e q).1 ∧ Mov b F w w' := by
  have hst : Em.stp e q = Em.ask e q.ask q.data := by unfold Em.stp; rw [hd]; rfl
  have HERR : Hid ((Em.stp e q).2 ≠ 0 → (Em.stp e q).1.out = []) := Em.stp_err
  obtain ⟨W, hW⟩ : ∃ W, W = w.alloc (.cells (actL q).toArray 34) := ⟨_, rfl⟩
  have hbW : Below w.heap.size w W := by rw [hW]; exact (Below.refl _ _).alloc (Nat.le_refl _) _
  have hWs : W.heap.size = w.heap.size + 1 := by rw [hW]; simp
  have hcell : ∀ j u, (actL q)[j]? = some u → W.cell? ⟨w.heap.size, j, none⟩ = some u := fun j u hj => by
    rw [hW]
    exact (cell_of_row _ _ j _ _ _ (heap_alloc_new w _)).trans (by simpa using hj)
  have H1 : Pr14 b W0 W (fun k => F k ∨ k = w.heap.size) C R e { e with out := o } := h.below hbW (fun k hk => by rcases hk with h' | h'; exact Or.inl h'; exact Or.inr ⟨by omega, by omega⟩)
  have HM0 : Hid (Mov b F w W) := Mov.of_below hbW
  have hokr : Em.Ok { e with out := o } := h.ok.1.fresh o
  have HP := H1.calls1 (ans := (fun v => .tuple #[v, .int .i64 (Em.stp e q).2])) (e1 := (Em.stp e q).1) (f := 15) (args := #[.pointer (some ⟨C, 0, none⟩), .int .i64 q.ask, .string q.data]) (fun lc hE => by rw [hst]; exact eask_any C lc e q.ask q.data W hE hq.data)
  have HD : Hid (∀ w2 F2, Pr14 b W0 w2 F2 C R (Em.nxt e q) { e with out := o } → Calls Tryz.prog 27 #[.pointer (some ⟨R, 0, none⟩), .int .i64 q.ask, .string q.data] w2 fun r w3 => r = .returned (.int .i64 (Em.stp e q).2) ∧ Pr14 b W0 w3 F2 C R (Em.nxt e q) (Em.stp e q).1 ∧ Mov b F2 w2 w3) := fun w2 F2 hp => hp.calls2 (fun lr hR => by rw [hst]; exact rask_any R lr { e with out := o } q.ask q.data w2 hR hokr hq.data)
  generalize hxx : (Em.stp e q).2 = x at HP HD
  have HXC : Hid ((Em.stp e q).2 = x) := hxx
  have x1 : W.cell? ⟨w.heap.size, 1, none⟩ = some (.int .i64 q.ask) := hcell 1 _ rfl
  have x4 : W.cell? ⟨w.heap.size, 4, none⟩ = some (.string q.data) := hcell 4 _ rfl
  have y0 : W.cell? ⟨w.heap.size, 0, none⟩ = some (.int .i64 q.d) := hcell 0 _ rfl
  have hls : w.heap.size < W.heap.size := by omega
  clear h hq H1 hbW hcell hokr hxx hst hWs
  go_enter Tryz.func13, Tryz.ntmps13
  unfold ActE.v
  go_wp2_with fail
  rw [show (#[.int .i64 q.d, .int .i64 q.ask, .int .i64 q.timer, .int .i64 q.tei, .string q.data, .int .i64 q.f.sapi, .int .i64 q.f.tei, .bool q.f.c, .int .i64 q.f.k, .bool q.f.pf, .int .i64 q.f.ns, .int .i64 q.f.nr, .string q.f.info, .bool q.near, .int .i64 q.n, .int .i64 q.m] : Array Value) = (actL q).toArray from rfl]
  rw [← hW]
  clear hW
  refine HP.mono ?_
  rintro r w2 ⟨a, n, cap, rfl, hl1, hl2, ho2, hP2, hM2⟩
  have HN : Hid ((Em.stp e q).1.out.length = n ∧ n ≤ 9223372036854775807) := ⟨hl1, hl2⟩
  have HO2 : Hid (w2.ownsRow W.heap.size 57 11 (.slice a n cap) n (effsL (Em.stp e q).1.out)) := ho2
  have HM2 : Hid (Mov b F w w2) := HM0.out.trans (hM2.weak (fun k _ hk => Or.inl hk))
  have z1 : w2.cell? ⟨w.heap.size, 1, none⟩ = some (.int .i64 q.ask) := (hM2.cell (p := ⟨w.heap.size, 1, none⟩) hls (Or.inr rfl)).trans x1
  clear x1
  have z4 : w2.cell? ⟨w.heap.size, 4, none⟩ = some (.string q.data) := (hM2.cell (p := ⟨w.heap.size, 4, none⟩) hls (Or.inr rfl)).trans x4
  clear x4
  have HD2 := HD.out w2 _ hP2
  have hls2 : w.heap.size < w2.heap.size := Nat.lt_of_lt_of_le hls hM2.size
  clear hP2 hM2 HP ho2 hl1 hl2 y0 hls HM0
  go_wp2_with fail
  refine HD2.mono ?_
  rintro r w3 ⟨rfl, hP3, hM3⟩
  clear HD2 hls2
  obtain ⟨a9, cap9, c9, r9, l9⟩ := hP3.outR
  rw [HN.out.1] at c9 r9
  have HR9 : Hid (w3.ownsRow 0 135 11 (.slice a9 n cap9) n (effsL (Em.stp e q).1.out)) := r9
  have HO3 : Hid (w3.ownsRow W.heap.size 57 11 (.slice a n cap) n (effsL (Em.stp e q).1.out)) := hM3.owns HO2.out (fun B hB => Or.inr hB)
  have HFIN : Hid (Pr14 b W0 w3 F C R (Em.nxt e q) (Em.stp e q).1 ∧ Mov b F w w3) := ⟨hP3.weak (fun k hk => Or.inl (Or.inl hk)), (HM2.out.trans (hM3.weak (fun k _ hk => Or.inl (Or.inl hk))))⟩
  clear hP3 hM3 HO2 HM2 HD r9
  by_cases hx : x = 0
  · subst hx
    have HS := sameEffects_any (Em.stp e q).1.out (.slice a n cap) (.slice a9 n cap9) _ 0 w3 (by rw [HN.out.1]; exact HO3.out) (by rw [HN.out.1]; exact HR9.out) (by rw [HN.out.1]; exact HN.out.2)
    have HG : Hid (∀ w', Below w3.heap.size w3 w' → Pr14 b W0 w' F C R (Em.nxt e q) (Em.stp e q).1 ∧ Mov b F w w') := fun w' hb => ⟨HFIN.out.1.same hb, HFIN.out.2.trans (Mov.of_below hb)⟩
    clear HFIN HO3 HR9
    go_wp2_with fail
    refine HS.mono ?_
    rintro r w4 ⟨rfl, hb⟩
    have HX : Hid (Pr14 b W0 w4 F C R (Em.nxt e q) (Em.stp e q).1 ∧ Mov b F w w4) := HG.out w4 hb
    clear hb HG HS c9 l9
    go_wp2
    go_ret
    exact ⟨rfl, HX.out.1, HX.out.2⟩
  · have hn0 : n = 0 := by rw [← HN.out.1, HERR.out (by rw [HXC.out]; exact hx)]; rfl
    subst hn0
    have hx1 : (x == 0) = false := by simp; exact hx
    clear c9 l9 HO3 HR9
    go_wp2
    go_ret
    exact ⟨rfl, HFIN.out.1, HFIN.out.2⟩


set_option maxHeartbeats 4000000 in
theorem act_time (b : Nat) (W0 w : World) (F : Nat → Prop) (C R : Nat) (e : Em.St) (o : List Em.Eff) (q : ActE) (h : Pr14 b W0 w F C R e { e with out := o }) (hq : q.Ok) (hd : q.d.tmod 6 = 2) :
    Calls Tryz.prog 13 #[.pointer (some ⟨C, 0, none⟩), .pointer (some ⟨R, 0, none⟩), q.v] w fun r w' => r = .returned (.bool true) ∧ Pr14 b W0 w' F C R (Em.nxt e q) (Em.stp e q).1 ∧ Mov b F w w' := by
  have hst : Em.stp e q = (Em.timeout e q.timer, 0) := by unfold Em.stp; rw [hd]; rfl
  have HERR : Hid ((Em.stp e q).2 ≠ 0 → (Em.stp e q).1.out = []) := Em.stp_err
  obtain ⟨W, hW⟩ : ∃ W, W = w.alloc (.cells (actL q).toArray 34) := ⟨_, rfl⟩
  have hbW : Below w.heap.size w W := by rw [hW]; exact (Below.refl _ _).alloc (Nat.le_refl _) _
  have hWs : W.heap.size = w.heap.size + 1 := by rw [hW]; simp
  have hcell : ∀ j u, (actL q)[j]? = some u → W.cell? ⟨w.heap.size, j, none⟩ = some u := fun j u hj => by
    rw [hW]
    exact (cell_of_row _ _ j _ _ _ (heap_alloc_new w _)).trans (by simpa using hj)
  have H1 : Pr14 b W0 W (fun k => F k ∨ k = w.heap.size) C R e { e with out := o } := h.below hbW (fun k hk => by rcases hk with h' | h'; exact Or.inl h'; exact Or.inr ⟨by omega, by omega⟩)
  have HM0 : Hid (Mov b F w W) := Mov.of_below hbW
  have hokr : Em.Ok { e with out := o } := h.ok.1.fresh o
  have HP := H1.calls1 (ans := (fun v => v)) (e1 := (Em.stp e q).1) (f := 16) (args := #[.pointer (some ⟨C, 0, none⟩), .int .i64 q.timer]) (fun lc hE => by rw [hst]; exact etime_any C lc e q.timer W hE hq.timer.1 hq.timer.2)
  have HD : Hid (∀ w2 F2, Pr14 b W0 w2 F2 C R (Em.nxt e q) { e with out := o } → Calls Tryz.prog 28 #[.pointer (some ⟨R, 0, none⟩), .int .i64 q.timer] w2 fun r w3 => r = .returned (.tuple #[]) ∧ Pr14 b W0 w3 F2 C R (Em.nxt e q) (Em.stp e q).1 ∧ Mov b F2 w2 w3) := fun w2 F2 hp => hp.calls2 (fun lr hR => by rw [hst]; exact rtime_any R lr { e with out := o } q.timer w2 hR hokr)
  generalize hxx : (Em.stp e q).2 = x at HP HD
  have HXC : Hid ((Em.stp e q).2 = x) := hxx
  have x2 : W.cell? ⟨w.heap.size, 2, none⟩ = some (.int .i64 q.timer) := hcell 2 _ rfl
  have y0 : W.cell? ⟨w.heap.size, 0, none⟩ = some (.int .i64 q.d) := hcell 0 _ rfl
  have hls : w.heap.size < W.heap.size := by omega
  clear h hq H1 hbW hcell hokr hxx hst hWs
  go_enter Tryz.func13, Tryz.ntmps13
  unfold ActE.v
  go_wp2_with fail
  rw [show (#[.int .i64 q.d, .int .i64 q.ask, .int .i64 q.timer, .int .i64 q.tei, .string q.data, .int .i64 q.f.sapi, .int .i64 q.f.tei, .bool q.f.c, .int .i64 q.f.k, .bool q.f.pf, .int .i64 q.f.ns, .int .i64 q.f.nr, .string q.f.info, .bool q.near, .int .i64 q.n, .int .i64 q.m] : Array Value) = (actL q).toArray from rfl]
  rw [← hW]
  clear hW
  refine HP.mono ?_
  rintro r w2 ⟨a, n, cap, rfl, hl1, hl2, ho2, hP2, hM2⟩
  have HN : Hid ((Em.stp e q).1.out.length = n ∧ n ≤ 9223372036854775807) := ⟨hl1, hl2⟩
  have HO2 : Hid (w2.ownsRow W.heap.size 57 11 (.slice a n cap) n (effsL (Em.stp e q).1.out)) := ho2
  have HM2 : Hid (Mov b F w w2) := HM0.out.trans (hM2.weak (fun k _ hk => Or.inl hk))
  have z2 : w2.cell? ⟨w.heap.size, 2, none⟩ = some (.int .i64 q.timer) := (hM2.cell (p := ⟨w.heap.size, 2, none⟩) hls (Or.inr rfl)).trans x2
  clear x2
  have HD2 := HD.out w2 _ hP2
  have hls2 : w.heap.size < w2.heap.size := Nat.lt_of_lt_of_le hls hM2.size
  clear hP2 hM2 HP ho2 hl1 hl2 y0 hls HM0
  go_wp2_with fail
  refine HD2.mono ?_
  rintro r w3 ⟨rfl, hP3, hM3⟩
  clear HD2 hls2
  obtain ⟨a9, cap9, c9, r9, l9⟩ := hP3.outR
  rw [HN.out.1] at c9 r9
  have HR9 : Hid (w3.ownsRow 0 135 11 (.slice a9 n cap9) n (effsL (Em.stp e q).1.out)) := r9
  have HO3 : Hid (w3.ownsRow W.heap.size 57 11 (.slice a n cap) n (effsL (Em.stp e q).1.out)) := hM3.owns HO2.out (fun B hB => Or.inr hB)
  have HFIN : Hid (Pr14 b W0 w3 F C R (Em.nxt e q) (Em.stp e q).1 ∧ Mov b F w w3) := ⟨hP3.weak (fun k hk => Or.inl (Or.inl hk)), (HM2.out.trans (hM3.weak (fun k _ hk => Or.inl (Or.inl hk))))⟩
  clear hP3 hM3 HO2 HM2 HD r9
  have HS := sameEffects_any (Em.stp e q).1.out (.slice a n cap) (.slice a9 n cap9) _ 0 w3 (by rw [HN.out.1]; exact HO3.out) (by rw [HN.out.1]; exact HR9.out) (by rw [HN.out.1]; exact HN.out.2)
  have HG : Hid (∀ w', Below w3.heap.size w3 w' → Pr14 b W0 w' F C R (Em.nxt e q) (Em.stp e q).1 ∧ Mov b F w w') := fun w' hb => ⟨HFIN.out.1.same hb, HFIN.out.2.trans (Mov.of_below hb)⟩
  clear HFIN HO3 HR9
  go_wp2_with fail
  refine HS.mono ?_
  rintro r w4 ⟨rfl, hb⟩
  have HX : Hid (Pr14 b W0 w4 F C R (Em.nxt e q) (Em.stp e q).1 ∧ Mov b F w w4) := HG.out w4 hb
  clear hb HG HS c9 l9
  go_wp2
  go_ret
  exact ⟨rfl, HX.out.1, HX.out.2⟩


set_option maxHeartbeats 4000000 in
theorem act_timem (b : Nat) (W0 w : World) (F : Nat → Prop) (C R : Nat) (e : Em.St) (o : List Em.Eff) (q : ActE) (h : Pr14 b W0 w F C R e { e with out := o }) (hq : q.Ok) (hd : q.d.tmod 6 = -2) :
    Calls Tryz.prog 13 #[.pointer (some ⟨C, 0, none⟩), .pointer (some ⟨R, 0, none⟩), q.v] w fun r w' => r = .returned (.bool true) ∧ Pr14 b W0 w' F C R (Em.nxt e q) (Em.stp e q).1 ∧ Mov b F w w' := by
  have hst : Em.stp e q = (Em.timeout e q.timer, 0) := by unfold Em.stp; rw [hd]; rfl
  have HERR : Hid ((Em.stp e q).2 ≠ 0 → (Em.stp e q).1.out = []) := Em.stp_err
  obtain ⟨W, hW⟩ : ∃ W, W = w.alloc (.cells (actL q).toArray 34) := ⟨_, rfl⟩
  have hbW : Below w.heap.size w W := by rw [hW]; exact (Below.refl _ _).alloc (Nat.le_refl _) _
  have hWs : W.heap.size = w.heap.size + 1 := by rw [hW]; simp
  have hcell : ∀ j u, (actL q)[j]? = some u → W.cell? ⟨w.heap.size, j, none⟩ = some u := fun j u hj => by
    rw [hW]
    exact (cell_of_row _ _ j _ _ _ (heap_alloc_new w _)).trans (by simpa using hj)
  have H1 : Pr14 b W0 W (fun k => F k ∨ k = w.heap.size) C R e { e with out := o } := h.below hbW (fun k hk => by rcases hk with h' | h'; exact Or.inl h'; exact Or.inr ⟨by omega, by omega⟩)
  have HM0 : Hid (Mov b F w W) := Mov.of_below hbW
  have hokr : Em.Ok { e with out := o } := h.ok.1.fresh o
  have HP := H1.calls1 (ans := (fun v => v)) (e1 := (Em.stp e q).1) (f := 16) (args := #[.pointer (some ⟨C, 0, none⟩), .int .i64 q.timer]) (fun lc hE => by rw [hst]; exact etime_any C lc e q.timer W hE hq.timer.1 hq.timer.2)
  have HD : Hid (∀ w2 F2, Pr14 b W0 w2 F2 C R (Em.nxt e q) { e with out := o } → Calls Tryz.prog 28 #[.pointer (some ⟨R, 0, none⟩), .int .i64 q.timer] w2 fun r w3 => r = .returned (.tuple #[]) ∧ Pr14 b W0 w3 F2 C R (Em.nxt e q) (Em.stp e q).1 ∧ Mov b F2 w2 w3) := fun w2 F2 hp => hp.calls2 (fun lr hR => by rw [hst]; exact rtime_any R lr { e with out := o } q.timer w2 hR hokr)
  generalize hxx : (Em.stp e q).2 = x at HP HD
  have HXC : Hid ((Em.stp e q).2 = x) := hxx
  have x2 : W.cell? ⟨w.heap.size, 2, none⟩ = some (.int .i64 q.timer) := hcell 2 _ rfl
  have y0 : W.cell? ⟨w.heap.size, 0, none⟩ = some (.int .i64 q.d) := hcell 0 _ rfl
  have hls : w.heap.size < W.heap.size := by omega
  clear h hq H1 hbW hcell hokr hxx hst hWs
  go_enter Tryz.func13, Tryz.ntmps13
  unfold ActE.v
  go_wp2_with fail
  rw [show (#[.int .i64 q.d, .int .i64 q.ask, .int .i64 q.timer, .int .i64 q.tei, .string q.data, .int .i64 q.f.sapi, .int .i64 q.f.tei, .bool q.f.c, .int .i64 q.f.k, .bool q.f.pf, .int .i64 q.f.ns, .int .i64 q.f.nr, .string q.f.info, .bool q.near, .int .i64 q.n, .int .i64 q.m] : Array Value) = (actL q).toArray from rfl]
  rw [← hW]
  clear hW
  refine HP.mono ?_
  rintro r w2 ⟨a, n, cap, rfl, hl1, hl2, ho2, hP2, hM2⟩
  have HN : Hid ((Em.stp e q).1.out.length = n ∧ n ≤ 9223372036854775807) := ⟨hl1, hl2⟩
  have HO2 : Hid (w2.ownsRow W.heap.size 57 11 (.slice a n cap) n (effsL (Em.stp e q).1.out)) := ho2
  have HM2 : Hid (Mov b F w w2) := HM0.out.trans (hM2.weak (fun k _ hk => Or.inl hk))
  have z2 : w2.cell? ⟨w.heap.size, 2, none⟩ = some (.int .i64 q.timer) := (hM2.cell (p := ⟨w.heap.size, 2, none⟩) hls (Or.inr rfl)).trans x2
  clear x2
  have HD2 := HD.out w2 _ hP2
  have hls2 : w.heap.size < w2.heap.size := Nat.lt_of_lt_of_le hls hM2.size
  clear hP2 hM2 HP ho2 hl1 hl2 y0 hls HM0
  go_wp2_with fail
  refine HD2.mono ?_
  rintro r w3 ⟨rfl, hP3, hM3⟩
  clear HD2 hls2
  obtain ⟨a9, cap9, c9, r9, l9⟩ := hP3.outR
  rw [HN.out.1] at c9 r9
  have HR9 : Hid (w3.ownsRow 0 135 11 (.slice a9 n cap9) n (effsL (Em.stp e q).1.out)) := r9
  have HO3 : Hid (w3.ownsRow W.heap.size 57 11 (.slice a n cap) n (effsL (Em.stp e q).1.out)) := hM3.owns HO2.out (fun B hB => Or.inr hB)
  have HFIN : Hid (Pr14 b W0 w3 F C R (Em.nxt e q) (Em.stp e q).1 ∧ Mov b F w w3) := ⟨hP3.weak (fun k hk => Or.inl (Or.inl hk)), (HM2.out.trans (hM3.weak (fun k _ hk => Or.inl (Or.inl hk))))⟩
  clear hP3 hM3 HO2 HM2 HD r9
  have HS := sameEffects_any (Em.stp e q).1.out (.slice a n cap) (.slice a9 n cap9) _ 0 w3 (by rw [HN.out.1]; exact HO3.out) (by rw [HN.out.1]; exact HR9.out) (by rw [HN.out.1]; exact HN.out.2)
  have HG : Hid (∀ w', Below w3.heap.size w3 w' → Pr14 b W0 w' F C R (Em.nxt e q) (Em.stp e q).1 ∧ Mov b F w w') := fun w' hb => ⟨HFIN.out.1.same hb, HFIN.out.2.trans (Mov.of_below hb)⟩
  clear HFIN HO3 HR9
  go_wp2_with fail
  refine HS.mono ?_
  rintro r w4 ⟨rfl, hb⟩
  have HX : Hid (Pr14 b W0 w4 F C R (Em.nxt e q) (Em.stp e q).1 ∧ Mov b F w w4) := HG.out w4 hb
  clear hb HG HS c9 l9
  go_wp2
  go_ret
  exact ⟨rfl, HX.out.1, HX.out.2⟩


set_option maxHeartbeats 4000000 in
theorem act_asgn (b : Nat) (W0 w : World) (F : Nat → Prop) (C R : Nat) (e : Em.St) (o : List Em.Eff) (q : ActE) (h : Pr14 b W0 w F C R e { e with out := o }) (hq : q.Ok) (hd : q.d.tmod 6 = 3) :
    Calls Tryz.prog 13 #[.pointer (some ⟨C, 0, none⟩), .pointer (some ⟨R, 0, none⟩), q.v] w fun r w' => r = .returned (.bool true) ∧ Pr14 b W0 w' F C R (Em.nxt e q) (Em.stp e q).1 ∧ Mov b F w w' := by
  have hst : Em.stp e q = Em.assign e q.tei := by unfold Em.stp; rw [hd]; rfl
  have HERR : Hid ((Em.stp e q).2 ≠ 0 → (Em.stp e q).1.out = []) := Em.stp_err
  obtain ⟨W, hW⟩ : ∃ W, W = w.alloc (.cells (actL q).toArray 34) := ⟨_, rfl⟩
  have hbW : Below w.heap.size w W := by rw [hW]; exact (Below.refl _ _).alloc (Nat.le_refl _) _
  have hWs : W.heap.size = w.heap.size + 1 := by rw [hW]; simp
  have hcell : ∀ j u, (actL q)[j]? = some u → W.cell? ⟨w.heap.size, j, none⟩ = some u := fun j u hj => by
    rw [hW]
    exact (cell_of_row _ _ j _ _ _ (heap_alloc_new w _)).trans (by simpa using hj)
  have H1 : Pr14 b W0 W (fun k => F k ∨ k = w.heap.size) C R e { e with out := o } := h.below hbW (fun k hk => by rcases hk with h' | h'; exact Or.inl h'; exact Or.inr ⟨by omega, by omega⟩)
  have HM0 : Hid (Mov b F w W) := Mov.of_below hbW
  have hokr : Em.Ok { e with out := o } := h.ok.1.fresh o
  have HP := H1.calls1 (ans := (fun v => .tuple #[v, .int .i64 (Em.stp e q).2])) (e1 := (Em.stp e q).1) (f := 22) (args := #[.pointer (some ⟨C, 0, none⟩), .int .i64 q.tei]) (fun lc hE => by rw [hst]; exact eassign_any C lc e q.tei W hE hq.tei.1 hq.tei.2)
  have HD : Hid (∀ w2 F2, Pr14 b W0 w2 F2 C R (Em.nxt e q) { e with out := o } → Calls Tryz.prog 29 #[.pointer (some ⟨R, 0, none⟩), .int .i64 q.tei] w2 fun r w3 => r = .returned (.int .i64 (Em.stp e q).2) ∧ Pr14 b W0 w3 F2 C R (Em.nxt e q) (Em.stp e q).1 ∧ Mov b F2 w2 w3) := fun w2 F2 hp => hp.calls2 (fun lr hR => by rw [hst]; exact rassign14_any R lr { e with out := o } q.tei w2 hR hokr)
  generalize hxx : (Em.stp e q).2 = x at HP HD
  have HXC : Hid ((Em.stp e q).2 = x) := hxx
  have x3 : W.cell? ⟨w.heap.size, 3, none⟩ = some (.int .i64 q.tei) := hcell 3 _ rfl
  have y0 : W.cell? ⟨w.heap.size, 0, none⟩ = some (.int .i64 q.d) := hcell 0 _ rfl
  have hls : w.heap.size < W.heap.size := by omega
  clear h hq H1 hbW hcell hokr hxx hst hWs
  go_enter Tryz.func13, Tryz.ntmps13
  unfold ActE.v
  go_wp2_with fail
  rw [show (#[.int .i64 q.d, .int .i64 q.ask, .int .i64 q.timer, .int .i64 q.tei, .string q.data, .int .i64 q.f.sapi, .int .i64 q.f.tei, .bool q.f.c, .int .i64 q.f.k, .bool q.f.pf, .int .i64 q.f.ns, .int .i64 q.f.nr, .string q.f.info, .bool q.near, .int .i64 q.n, .int .i64 q.m] : Array Value) = (actL q).toArray from rfl]
  rw [← hW]
  clear hW
  refine HP.mono ?_
  rintro r w2 ⟨a, n, cap, rfl, hl1, hl2, ho2, hP2, hM2⟩
  have HN : Hid ((Em.stp e q).1.out.length = n ∧ n ≤ 9223372036854775807) := ⟨hl1, hl2⟩
  have HO2 : Hid (w2.ownsRow W.heap.size 57 11 (.slice a n cap) n (effsL (Em.stp e q).1.out)) := ho2
  have HM2 : Hid (Mov b F w w2) := HM0.out.trans (hM2.weak (fun k _ hk => Or.inl hk))
  have z3 : w2.cell? ⟨w.heap.size, 3, none⟩ = some (.int .i64 q.tei) := (hM2.cell (p := ⟨w.heap.size, 3, none⟩) hls (Or.inr rfl)).trans x3
  clear x3
  have HD2 := HD.out w2 _ hP2
  have hls2 : w.heap.size < w2.heap.size := Nat.lt_of_lt_of_le hls hM2.size
  clear hP2 hM2 HP ho2 hl1 hl2 y0 hls HM0
  go_wp2_with fail
  refine HD2.mono ?_
  rintro r w3 ⟨rfl, hP3, hM3⟩
  clear HD2 hls2
  obtain ⟨a9, cap9, c9, r9, l9⟩ := hP3.outR
  rw [HN.out.1] at c9 r9
  have HR9 : Hid (w3.ownsRow 0 135 11 (.slice a9 n cap9) n (effsL (Em.stp e q).1.out)) := r9
  have HO3 : Hid (w3.ownsRow W.heap.size 57 11 (.slice a n cap) n (effsL (Em.stp e q).1.out)) := hM3.owns HO2.out (fun B hB => Or.inr hB)
  have HFIN : Hid (Pr14 b W0 w3 F C R (Em.nxt e q) (Em.stp e q).1 ∧ Mov b F w w3) := ⟨hP3.weak (fun k hk => Or.inl (Or.inl hk)), (HM2.out.trans (hM3.weak (fun k _ hk => Or.inl (Or.inl hk))))⟩
  clear hP3 hM3 HO2 HM2 HD r9
  by_cases hx : x = 0
  · subst hx
    have HS := sameEffects_any (Em.stp e q).1.out (.slice a n cap) (.slice a9 n cap9) _ 0 w3 (by rw [HN.out.1]; exact HO3.out) (by rw [HN.out.1]; exact HR9.out) (by rw [HN.out.1]; exact HN.out.2)
    have HG : Hid (∀ w', Below w3.heap.size w3 w' → Pr14 b W0 w' F C R (Em.nxt e q) (Em.stp e q).1 ∧ Mov b F w w') := fun w' hb => ⟨HFIN.out.1.same hb, HFIN.out.2.trans (Mov.of_below hb)⟩
    clear HFIN HO3 HR9
    go_wp2_with fail
    refine HS.mono ?_
    rintro r w4 ⟨rfl, hb⟩
    have HX : Hid (Pr14 b W0 w4 F C R (Em.nxt e q) (Em.stp e q).1 ∧ Mov b F w w4) := HG.out w4 hb
    clear hb HG HS c9 l9
    go_wp2
    go_ret
    exact ⟨rfl, HX.out.1, HX.out.2⟩
  · have hn0 : n = 0 := by rw [← HN.out.1, HERR.out (by rw [HXC.out]; exact hx)]; rfl
    subst hn0
    have hx1 : (x == 0) = false := by simp; exact hx
    clear c9 l9 HO3 HR9
    go_wp2
    go_ret
    exact ⟨rfl, HFIN.out.1, HFIN.out.2⟩


set_option maxHeartbeats 4000000 in
theorem act_asgnm (b : Nat) (W0 w : World) (F : Nat → Prop) (C R : Nat) (e : Em.St) (o : List Em.Eff) (q : ActE) (h : Pr14 b W0 w F C R e { e with out := o }) (hq : q.Ok) (hd : q.d.tmod 6 = -3) :
    Calls Tryz.prog 13 #[.pointer (some ⟨C, 0, none⟩), .pointer (some ⟨R, 0, none⟩), q.v] w fun r w' => r = .returned (.bool true) ∧ Pr14 b W0 w' F C R (Em.nxt e q) (Em.stp e q).1 ∧ Mov b F w w' := by
  have hst : Em.stp e q = Em.assign e q.tei := by unfold Em.stp; rw [hd]; rfl
  have HERR : Hid ((Em.stp e q).2 ≠ 0 → (Em.stp e q).1.out = []) := Em.stp_err
  obtain ⟨W, hW⟩ : ∃ W, W = w.alloc (.cells (actL q).toArray 34) := ⟨_, rfl⟩
  have hbW : Below w.heap.size w W := by rw [hW]; exact (Below.refl _ _).alloc (Nat.le_refl _) _
  have hWs : W.heap.size = w.heap.size + 1 := by rw [hW]; simp
  have hcell : ∀ j u, (actL q)[j]? = some u → W.cell? ⟨w.heap.size, j, none⟩ = some u := fun j u hj => by
    rw [hW]
    exact (cell_of_row _ _ j _ _ _ (heap_alloc_new w _)).trans (by simpa using hj)
  have H1 : Pr14 b W0 W (fun k => F k ∨ k = w.heap.size) C R e { e with out := o } := h.below hbW (fun k hk => by rcases hk with h' | h'; exact Or.inl h'; exact Or.inr ⟨by omega, by omega⟩)
  have HM0 : Hid (Mov b F w W) := Mov.of_below hbW
  have hokr : Em.Ok { e with out := o } := h.ok.1.fresh o
  have HP := H1.calls1 (ans := (fun v => .tuple #[v, .int .i64 (Em.stp e q).2])) (e1 := (Em.stp e q).1) (f := 22) (args := #[.pointer (some ⟨C, 0, none⟩), .int .i64 q.tei]) (fun lc hE => by rw [hst]; exact eassign_any C lc e q.tei W hE hq.tei.1 hq.tei.2)
  have HD : Hid (∀ w2 F2, Pr14 b W0 w2 F2 C R (Em.nxt e q) { e with out := o } → Calls Tryz.prog 29 #[.pointer (some ⟨R, 0, none⟩), .int .i64 q.tei] w2 fun r w3 => r = .returned (.int .i64 (Em.stp e q).2) ∧ Pr14 b W0 w3 F2 C R (Em.nxt e q) (Em.stp e q).1 ∧ Mov b F2 w2 w3) := fun w2 F2 hp => hp.calls2 (fun lr hR => by rw [hst]; exact rassign14_any R lr { e with out := o } q.tei w2 hR hokr)
  generalize hxx : (Em.stp e q).2 = x at HP HD
  have HXC : Hid ((Em.stp e q).2 = x) := hxx
  have x3 : W.cell? ⟨w.heap.size, 3, none⟩ = some (.int .i64 q.tei) := hcell 3 _ rfl
  have y0 : W.cell? ⟨w.heap.size, 0, none⟩ = some (.int .i64 q.d) := hcell 0 _ rfl
  have hls : w.heap.size < W.heap.size := by omega
  clear h hq H1 hbW hcell hokr hxx hst hWs
  go_enter Tryz.func13, Tryz.ntmps13
  unfold ActE.v
  go_wp2_with fail
  rw [show (#[.int .i64 q.d, .int .i64 q.ask, .int .i64 q.timer, .int .i64 q.tei, .string q.data, .int .i64 q.f.sapi, .int .i64 q.f.tei, .bool q.f.c, .int .i64 q.f.k, .bool q.f.pf, .int .i64 q.f.ns, .int .i64 q.f.nr, .string q.f.info, .bool q.near, .int .i64 q.n, .int .i64 q.m] : Array Value) = (actL q).toArray from rfl]
  rw [← hW]
  clear hW
  refine HP.mono ?_
  rintro r w2 ⟨a, n, cap, rfl, hl1, hl2, ho2, hP2, hM2⟩
  have HN : Hid ((Em.stp e q).1.out.length = n ∧ n ≤ 9223372036854775807) := ⟨hl1, hl2⟩
  have HO2 : Hid (w2.ownsRow W.heap.size 57 11 (.slice a n cap) n (effsL (Em.stp e q).1.out)) := ho2
  have HM2 : Hid (Mov b F w w2) := HM0.out.trans (hM2.weak (fun k _ hk => Or.inl hk))
  have z3 : w2.cell? ⟨w.heap.size, 3, none⟩ = some (.int .i64 q.tei) := (hM2.cell (p := ⟨w.heap.size, 3, none⟩) hls (Or.inr rfl)).trans x3
  clear x3
  have HD2 := HD.out w2 _ hP2
  have hls2 : w.heap.size < w2.heap.size := Nat.lt_of_lt_of_le hls hM2.size
  clear hP2 hM2 HP ho2 hl1 hl2 y0 hls HM0
  go_wp2_with fail
  refine HD2.mono ?_
  rintro r w3 ⟨rfl, hP3, hM3⟩
  clear HD2 hls2
  obtain ⟨a9, cap9, c9, r9, l9⟩ := hP3.outR
  rw [HN.out.1] at c9 r9
  have HR9 : Hid (w3.ownsRow 0 135 11 (.slice a9 n cap9) n (effsL (Em.stp e q).1.out)) := r9
  have HO3 : Hid (w3.ownsRow W.heap.size 57 11 (.slice a n cap) n (effsL (Em.stp e q).1.out)) := hM3.owns HO2.out (fun B hB => Or.inr hB)
  have HFIN : Hid (Pr14 b W0 w3 F C R (Em.nxt e q) (Em.stp e q).1 ∧ Mov b F w w3) := ⟨hP3.weak (fun k hk => Or.inl (Or.inl hk)), (HM2.out.trans (hM3.weak (fun k _ hk => Or.inl (Or.inl hk))))⟩
  clear hP3 hM3 HO2 HM2 HD r9
  by_cases hx : x = 0
  · subst hx
    have HS := sameEffects_any (Em.stp e q).1.out (.slice a n cap) (.slice a9 n cap9) _ 0 w3 (by rw [HN.out.1]; exact HO3.out) (by rw [HN.out.1]; exact HR9.out) (by rw [HN.out.1]; exact HN.out.2)
    have HG : Hid (∀ w', Below w3.heap.size w3 w' → Pr14 b W0 w' F C R (Em.nxt e q) (Em.stp e q).1 ∧ Mov b F w w') := fun w' hb => ⟨HFIN.out.1.same hb, HFIN.out.2.trans (Mov.of_below hb)⟩
    clear HFIN HO3 HR9
    go_wp2_with fail
    refine HS.mono ?_
    rintro r w4 ⟨rfl, hb⟩
    have HX : Hid (Pr14 b W0 w4 F C R (Em.nxt e q) (Em.stp e q).1 ∧ Mov b F w w4) := HG.out w4 hb
    clear hb HG HS c9 l9
    go_wp2
    go_ret
    exact ⟨rfl, HX.out.1, HX.out.2⟩
  · have hn0 : n = 0 := by rw [← HN.out.1, HERR.out (by rw [HXC.out]; exact hx)]; rfl
    subst hn0
    have hx1 : (x == 0) = false := by simp; exact hx
    clear c9 l9 HO3 HR9
    go_wp2
    go_ret
    exact ⟨rfl, HFIN.out.1, HFIN.out.2⟩


set_option maxHeartbeats 4000000 in
theorem act_rem (b : Nat) (W0 w : World) (F : Nat → Prop) (C R : Nat) (e : Em.St) (o : List Em.Eff) (q : ActE) (h : Pr14 b W0 w F C R e { e with out := o }) (hq : q.Ok) (hd : q.d.tmod 6 = 4) :
    Calls Tryz.prog 13 #[.pointer (some ⟨C, 0, none⟩), .pointer (some ⟨R, 0, none⟩), q.v] w fun r w' => r = .returned (.bool true) ∧ Pr14 b W0 w' F C R (Em.nxt e q) (Em.stp e q).1 ∧ Mov b F w w' := by
  have hst : Em.stp e q = Em.remove e := by unfold Em.stp; rw [hd]; rfl
  have HERR : Hid ((Em.stp e q).2 ≠ 0 → (Em.stp e q).1.out = []) := Em.stp_err
  obtain ⟨W, hW⟩ : ∃ W, W = w.alloc (.cells (actL q).toArray 34) := ⟨_, rfl⟩
  have hbW : Below w.heap.size w W := by rw [hW]; exact (Below.refl _ _).alloc (Nat.le_refl _) _
  have hWs : W.heap.size = w.heap.size + 1 := by rw [hW]; simp
  have hcell : ∀ j u, (actL q)[j]? = some u → W.cell? ⟨w.heap.size, j, none⟩ = some u := fun j u hj => by
    rw [hW]
    exact (cell_of_row _ _ j _ _ _ (heap_alloc_new w _)).trans (by simpa using hj)
  have H1 : Pr14 b W0 W (fun k => F k ∨ k = w.heap.size) C R e { e with out := o } := h.below hbW (fun k hk => by rcases hk with h' | h'; exact Or.inl h'; exact Or.inr ⟨by omega, by omega⟩)
  have HM0 : Hid (Mov b F w W) := Mov.of_below hbW
  have hokr : Em.Ok { e with out := o } := h.ok.1.fresh o
  have HP := H1.calls1 (ans := (fun v => .tuple #[v, .int .i64 (Em.stp e q).2])) (e1 := (Em.stp e q).1) (f := 30) (args := #[.pointer (some ⟨C, 0, none⟩)]) (fun lc hE => by rw [hst]; exact eremove_any C lc e W hE)
  have HD : Hid (∀ w2 F2, Pr14 b W0 w2 F2 C R (Em.nxt e q) { e with out := o } → Calls Tryz.prog 31 #[.pointer (some ⟨R, 0, none⟩)] w2 fun r w3 => r = .returned (.int .i64 (Em.stp e q).2) ∧ Pr14 b W0 w3 F2 C R (Em.nxt e q) (Em.stp e q).1 ∧ Mov b F2 w2 w3) := fun w2 F2 hp => hp.calls2 (fun lr hR => by rw [hst]; exact rremove_any R lr { e with out := o } w2 hR hokr)
  generalize hxx : (Em.stp e q).2 = x at HP HD
  have HXC : Hid ((Em.stp e q).2 = x) := hxx
  have y0 : W.cell? ⟨w.heap.size, 0, none⟩ = some (.int .i64 q.d) := hcell 0 _ rfl
  have hls : w.heap.size < W.heap.size := by omega
  clear h hq H1 hbW hcell hokr hxx hst hWs
  go_enter Tryz.func13, Tryz.ntmps13
  unfold ActE.v
  go_wp2_with fail
  rw [show (#[.int .i64 q.d, .int .i64 q.ask, .int .i64 q.timer, .int .i64 q.tei, .string q.data, .int .i64 q.f.sapi, .int .i64 q.f.tei, .bool q.f.c, .int .i64 q.f.k, .bool q.f.pf, .int .i64 q.f.ns, .int .i64 q.f.nr, .string q.f.info, .bool q.near, .int .i64 q.n, .int .i64 q.m] : Array Value) = (actL q).toArray from rfl]
  rw [← hW]
  clear hW
  refine HP.mono ?_
  rintro r w2 ⟨a, n, cap, rfl, hl1, hl2, ho2, hP2, hM2⟩
  have HN : Hid ((Em.stp e q).1.out.length = n ∧ n ≤ 9223372036854775807) := ⟨hl1, hl2⟩
  have HO2 : Hid (w2.ownsRow W.heap.size 57 11 (.slice a n cap) n (effsL (Em.stp e q).1.out)) := ho2
  have HM2 : Hid (Mov b F w w2) := HM0.out.trans (hM2.weak (fun k _ hk => Or.inl hk))
  have HD2 := HD.out w2 _ hP2
  have hls2 : w.heap.size < w2.heap.size := Nat.lt_of_lt_of_le hls hM2.size
  clear hP2 hM2 HP ho2 hl1 hl2 y0 hls HM0
  go_wp2_with fail
  refine HD2.mono ?_
  rintro r w3 ⟨rfl, hP3, hM3⟩
  clear HD2 hls2
  obtain ⟨a9, cap9, c9, r9, l9⟩ := hP3.outR
  rw [HN.out.1] at c9 r9
  have HR9 : Hid (w3.ownsRow 0 135 11 (.slice a9 n cap9) n (effsL (Em.stp e q).1.out)) := r9
  have HO3 : Hid (w3.ownsRow W.heap.size 57 11 (.slice a n cap) n (effsL (Em.stp e q).1.out)) := hM3.owns HO2.out (fun B hB => Or.inr hB)
  have HFIN : Hid (Pr14 b W0 w3 F C R (Em.nxt e q) (Em.stp e q).1 ∧ Mov b F w w3) := ⟨hP3.weak (fun k hk => Or.inl (Or.inl hk)), (HM2.out.trans (hM3.weak (fun k _ hk => Or.inl (Or.inl hk))))⟩
  clear hP3 hM3 HO2 HM2 HD r9
  by_cases hx : x = 0
  · subst hx
    have HS := sameEffects_any (Em.stp e q).1.out (.slice a n cap) (.slice a9 n cap9) _ 0 w3 (by rw [HN.out.1]; exact HO3.out) (by rw [HN.out.1]; exact HR9.out) (by rw [HN.out.1]; exact HN.out.2)
    have HG : Hid (∀ w', Below w3.heap.size w3 w' → Pr14 b W0 w' F C R (Em.nxt e q) (Em.stp e q).1 ∧ Mov b F w w') := fun w' hb => ⟨HFIN.out.1.same hb, HFIN.out.2.trans (Mov.of_below hb)⟩
    clear HFIN HO3 HR9
    go_wp2_with fail
    refine HS.mono ?_
    rintro r w4 ⟨rfl, hb⟩
    have HX : Hid (Pr14 b W0 w4 F C R (Em.nxt e q) (Em.stp e q).1 ∧ Mov b F w w4) := HG.out w4 hb
    clear hb HG HS c9 l9
    go_wp2
    go_ret
    exact ⟨rfl, HX.out.1, HX.out.2⟩
  · have hn0 : n = 0 := by rw [← HN.out.1, HERR.out (by rw [HXC.out]; exact hx)]; rfl
    subst hn0
    have hx1 : (x == 0) = false := by simp; exact hx
    clear c9 l9 HO3 HR9
    go_wp2
    go_ret
    exact ⟨rfl, HFIN.out.1, HFIN.out.2⟩


set_option maxHeartbeats 4000000 in
theorem act_remm (b : Nat) (W0 w : World) (F : Nat → Prop) (C R : Nat) (e : Em.St) (o : List Em.Eff) (q : ActE) (h : Pr14 b W0 w F C R e { e with out := o }) (hq : q.Ok) (hd : q.d.tmod 6 = -4) :
    Calls Tryz.prog 13 #[.pointer (some ⟨C, 0, none⟩), .pointer (some ⟨R, 0, none⟩), q.v] w fun r w' => r = .returned (.bool true) ∧ Pr14 b W0 w' F C R (Em.nxt e q) (Em.stp e q).1 ∧ Mov b F w w' := by
  have hst : Em.stp e q = Em.remove e := by unfold Em.stp; rw [hd]; rfl
  have HERR : Hid ((Em.stp e q).2 ≠ 0 → (Em.stp e q).1.out = []) := Em.stp_err
  obtain ⟨W, hW⟩ : ∃ W, W = w.alloc (.cells (actL q).toArray 34) := ⟨_, rfl⟩
  have hbW : Below w.heap.size w W := by rw [hW]; exact (Below.refl _ _).alloc (Nat.le_refl _) _
  have hWs : W.heap.size = w.heap.size + 1 := by rw [hW]; simp
  have hcell : ∀ j u, (actL q)[j]? = some u → W.cell? ⟨w.heap.size, j, none⟩ = some u := fun j u hj => by
    rw [hW]
    exact (cell_of_row _ _ j _ _ _ (heap_alloc_new w _)).trans (by simpa using hj)
  have H1 : Pr14 b W0 W (fun k => F k ∨ k = w.heap.size) C R e { e with out := o } := h.below hbW (fun k hk => by rcases hk with h' | h'; exact Or.inl h'; exact Or.inr ⟨by omega, by omega⟩)
  have HM0 : Hid (Mov b F w W) := Mov.of_below hbW
  have hokr : Em.Ok { e with out := o } := h.ok.1.fresh o
  have HP := H1.calls1 (ans := (fun v => .tuple #[v, .int .i64 (Em.stp e q).2])) (e1 := (Em.stp e q).1) (f := 30) (args := #[.pointer (some ⟨C, 0, none⟩)]) (fun lc hE => by rw [hst]; exact eremove_any C lc e W hE)
  have HD : Hid (∀ w2 F2, Pr14 b W0 w2 F2 C R (Em.nxt e q) { e with out := o } → Calls Tryz.prog 31 #[.pointer (some ⟨R, 0, none⟩)] w2 fun r w3 => r = .returned (.int .i64 (Em.stp e q).2) ∧ Pr14 b W0 w3 F2 C R (Em.nxt e q) (Em.stp e q).1 ∧ Mov b F2 w2 w3) := fun w2 F2 hp => hp.calls2 (fun lr hR => by rw [hst]; exact rremove_any R lr { e with out := o } w2 hR hokr)
  generalize hxx : (Em.stp e q).2 = x at HP HD
  have HXC : Hid ((Em.stp e q).2 = x) := hxx
  have y0 : W.cell? ⟨w.heap.size, 0, none⟩ = some (.int .i64 q.d) := hcell 0 _ rfl
  have hls : w.heap.size < W.heap.size := by omega
  clear h hq H1 hbW hcell hokr hxx hst hWs
  go_enter Tryz.func13, Tryz.ntmps13
  unfold ActE.v
  go_wp2_with fail
  rw [show (#[.int .i64 q.d, .int .i64 q.ask, .int .i64 q.timer, .int .i64 q.tei, .string q.data, .int .i64 q.f.sapi, .int .i64 q.f.tei, .bool q.f.c, .int .i64 q.f.k, .bool q.f.pf, .int .i64 q.f.ns, .int .i64 q.f.nr, .string q.f.info, .bool q.near, .int .i64 q.n, .int .i64 q.m] : Array Value) = (actL q).toArray from rfl]
  rw [← hW]
  clear hW
  refine HP.mono ?_
  rintro r w2 ⟨a, n, cap, rfl, hl1, hl2, ho2, hP2, hM2⟩
  have HN : Hid ((Em.stp e q).1.out.length = n ∧ n ≤ 9223372036854775807) := ⟨hl1, hl2⟩
  have HO2 : Hid (w2.ownsRow W.heap.size 57 11 (.slice a n cap) n (effsL (Em.stp e q).1.out)) := ho2
  have HM2 : Hid (Mov b F w w2) := HM0.out.trans (hM2.weak (fun k _ hk => Or.inl hk))
  have HD2 := HD.out w2 _ hP2
  have hls2 : w.heap.size < w2.heap.size := Nat.lt_of_lt_of_le hls hM2.size
  clear hP2 hM2 HP ho2 hl1 hl2 y0 hls HM0
  go_wp2_with fail
  refine HD2.mono ?_
  rintro r w3 ⟨rfl, hP3, hM3⟩
  clear HD2 hls2
  obtain ⟨a9, cap9, c9, r9, l9⟩ := hP3.outR
  rw [HN.out.1] at c9 r9
  have HR9 : Hid (w3.ownsRow 0 135 11 (.slice a9 n cap9) n (effsL (Em.stp e q).1.out)) := r9
  have HO3 : Hid (w3.ownsRow W.heap.size 57 11 (.slice a n cap) n (effsL (Em.stp e q).1.out)) := hM3.owns HO2.out (fun B hB => Or.inr hB)
  have HFIN : Hid (Pr14 b W0 w3 F C R (Em.nxt e q) (Em.stp e q).1 ∧ Mov b F w w3) := ⟨hP3.weak (fun k hk => Or.inl (Or.inl hk)), (HM2.out.trans (hM3.weak (fun k _ hk => Or.inl (Or.inl hk))))⟩
  clear hP3 hM3 HO2 HM2 HD r9
  by_cases hx : x = 0
  · subst hx
    have HS := sameEffects_any (Em.stp e q).1.out (.slice a n cap) (.slice a9 n cap9) _ 0 w3 (by rw [HN.out.1]; exact HO3.out) (by rw [HN.out.1]; exact HR9.out) (by rw [HN.out.1]; exact HN.out.2)
    have HG : Hid (∀ w', Below w3.heap.size w3 w' → Pr14 b W0 w' F C R (Em.nxt e q) (Em.stp e q).1 ∧ Mov b F w w') := fun w' hb => ⟨HFIN.out.1.same hb, HFIN.out.2.trans (Mov.of_below hb)⟩
    clear HFIN HO3 HR9
    go_wp2_with fail
    refine HS.mono ?_
    rintro r w4 ⟨rfl, hb⟩
    have HX : Hid (Pr14 b W0 w4 F C R (Em.nxt e q) (Em.stp e q).1 ∧ Mov b F w w4) := HG.out w4 hb
    clear hb HG HS c9 l9
    go_wp2
    go_ret
    exact ⟨rfl, HX.out.1, HX.out.2⟩
  · have hn0 : n = 0 := by rw [← HN.out.1, HERR.out (by rw [HXC.out]; exact hx)]; rfl
    subst hn0
    have hx1 : (x == 0) = false := by simp; exact hx
    clear c9 l9 HO3 HR9
    go_wp2
    go_ret
    exact ⟨rfl, HFIN.out.1, HFIN.out.2⟩


set_option maxHeartbeats 4000000 in
theorem act_frame (b : Nat) (W0 w : World) (F : Nat → Prop) (C R : Nat) (e : Em.St) (o : List Em.Eff) (q : ActE) (h : Pr14 b W0 w F C R e { e with out := o }) (hq : q.Ok) (hWy : Ways w) (hd : q.d.tmod 6 = 1 ∨ q.d.tmod 6 = -1 ∨ q.d.tmod 6 = 5 ∨ q.d.tmod 6 = -5) :
    Calls Tryz.prog 13 #[.pointer (some ⟨C, 0, none⟩), .pointer (some ⟨R, 0, none⟩), q.v] w fun r w' => r = .returned (.bool true) ∧ Pr14 b W0 w' F C R (Em.nxt e q) (Em.stp e q).1 ∧ Mov b F w w' := by
  have hst : Em.stp e q = (Em.frame e (Em.may (Em.actF e q)) (Em.actF e q), 0) := by
    unfold Em.stp
    rcases hd with hd | hd | hd | hd <;> rw [hd] <;> rfl
  obtain ⟨f, hf⟩ : ∃ f, f = Em.actF e q := ⟨_, rfl⟩
  have hrg := Em.actF_range e q hq
  rw [← hf] at hst hrg
  obtain ⟨W, hW⟩ : ∃ W, W = w.alloc (.cells (actL q).toArray 34) := ⟨_, rfl⟩
  have hbW : Below w.heap.size w W := by rw [hW]; exact (Below.refl _ _).alloc (Nat.le_refl _) _
  have hWs : W.heap.size = w.heap.size + 1 := by rw [hW]; simp
  have hcell : ∀ j u, (actL q)[j]? = some u → W.cell? ⟨w.heap.size, j, none⟩ = some u := fun j u hj => by
    rw [hW]
    exact (cell_of_row _ _ j _ _ _ (heap_alloc_new w _)).trans (by simpa using hj)
  have y0 : W.cell? ⟨w.heap.size, 0, none⟩ = some (.int .i64 q.d) := hcell 0 _ rfl
  have y1 : W.cell? ⟨w.heap.size, 1, none⟩ = some (.int .i64 q.ask) := hcell 1 _ rfl
  have y2 : W.cell? ⟨w.heap.size, 2, none⟩ = some (.int .i64 q.timer) := hcell 2 _ rfl
  have y3 : W.cell? ⟨w.heap.size, 3, none⟩ = some (.int .i64 q.tei) := hcell 3 _ rfl
  have y4 : W.cell? ⟨w.heap.size, 4, none⟩ = some (.string q.data) := hcell 4 _ rfl
  have y5 : W.cell? ⟨w.heap.size, 5, none⟩ = some (.int .i64 q.f.sapi) := hcell 5 _ rfl
  have y6 : W.cell? ⟨w.heap.size, 6, none⟩ = some (.int .i64 q.f.tei) := hcell 6 _ rfl
  have y7 : W.cell? ⟨w.heap.size, 7, none⟩ = some (.bool q.f.c) := hcell 7 _ rfl
  have y8 : W.cell? ⟨w.heap.size, 8, none⟩ = some (.int .i64 q.f.k) := hcell 8 _ rfl
  have y9 : W.cell? ⟨w.heap.size, 9, none⟩ = some (.bool q.f.pf) := hcell 9 _ rfl
  have y10 : W.cell? ⟨w.heap.size, 10, none⟩ = some (.int .i64 q.f.ns) := hcell 10 _ rfl
  have y11 : W.cell? ⟨w.heap.size, 11, none⟩ = some (.int .i64 q.f.nr) := hcell 11 _ rfl
  have y12 : W.cell? ⟨w.heap.size, 12, none⟩ = some (.string q.f.info) := hcell 12 _ rfl
  have y13 : W.cell? ⟨w.heap.size, 13, none⟩ = some (.bool q.near) := hcell 13 _ rfl
  have y14 : W.cell? ⟨w.heap.size, 14, none⟩ = some (.int .i64 q.n) := hcell 14 _ rfl
  have y15 : W.cell? ⟨w.heap.size, 15, none⟩ = some (.int .i64 q.m) := hcell 15 _ rfl
  have HFO : Hid (Calls Tryz.prog 18 #[.pointer (some ⟨R, 0, none⟩), q.v] W fun x w' => x = .returned (frmV f) ∧ Below W.heap.size W w') := by
    obtain ⟨lc, lr, h1, h2, _⟩ := h.qu
    rw [hf]
    exact frameOf_any R lr { e with out := o } e q W (h2.below hbW) rfl h1.ok
  have HPr : Hid (∀ w2, Below w.heap.size w w2 → ∀ F', (∀ k, F' k → F k ∨ (w.heap.size ≤ k ∧ k < w2.heap.size)) → Pr14 b W0 w2 F' C R e { e with out := o }) := fun w2 hb F' hF => h.below hb hF
  have hokr : Em.Ok { e with out := o } := h.ok.1.fresh o
  have HBW : Hid (Below w.heap.size w W) := hbW
  have HRG : Hid (I64 f.ns ∧ I64 f.nr ∧ f.info.size ≤ 9223372036854775807) := hrg
  have HWy : Hid (Ways w) := hWy
  have HST : Hid (Em.stp e q = (Em.frame e (Em.may f) f, 0)) := hst
  have HOK : Hid (Em.Ok { e with out := o }) := hokr
  have HFl : Hid (∀ k, F k → k < w.heap.size) := fun k hk => h.flt hk
  have hls : w.heap.size < W.heap.size := by omega
  clear h hq hcell hokr hst hWs hbW hf hrg hWy
  unfold ActE.v at HFO
  go_enter Tryz.func13, Tryz.ntmps13
  unfold ActE.v
  rcases hd with hd | hd | hd | hd
  all_goals
    go_wp2_with fail
    rw [show (#[.int .i64 q.d, .int .i64 q.ask, .int .i64 q.timer, .int .i64 q.tei, .string q.data, .int .i64 q.f.sapi, .int .i64 q.f.tei, .bool q.f.c, .int .i64 q.f.k, .bool q.f.pf, .int .i64 q.f.ns, .int .i64 q.f.nr, .string q.f.info, .bool q.near, .int .i64 q.n, .int .i64 q.m] : Array Value) = (actL q).toArray from rfl]
    rw [← hW]
    clear hW
    first
      | refine HFO.out.mono ?_
      | (rw [show (Value.agg (actL q).toArray) = q.v from rfl]; refine HFO.out.mono ?_)
    rintro r w1 ⟨rfl, hb1⟩
    clear HFO y0 y1 y2 y3 y4 y5 y6 y7 y8 y9 y10 y11 y12 y13 y14 y15
    have HB1 : Hid (Below w.heap.size w w1) := HBW.out.trans (hb1.mono HBW.out.size)
    clear hb1
    unfold frmV
    go_wp2_with fail
    refine (frames7_any f.sapi f.tei f.c f.k f.pf f.ns f.nr f.info w1).mono ?_
    rintro r w2 ⟨rfl, hb2⟩
    have HB2 : Hid (Below w.heap.size w w2) := HB1.out.trans (hb2.mono HB1.out.size)
    clear hb2 HB1
    unfold frA
    obtain ⟨W3, hW3⟩ : ∃ W3, W3 = (w2.alloc (.cells (frmL f).toArray 49)).alloc (.cells (frmL f).toArray 50) := ⟨_, rfl⟩
    have hb0 : Below w2.heap.size w2 (w2.alloc (.cells (frmL f).toArray 49)) := (Below.refl _ _).alloc (Nat.le_refl _) _
    have hs0 : (w2.alloc (.cells (frmL f).toArray 49)).heap.size = w2.heap.size + 1 := by simp
    have hbb : Below (w2.alloc (.cells (frmL f).toArray 49)).heap.size (w2.alloc (.cells (frmL f).toArray 49)) W3 := by rw [hW3]; exact (Below.refl _ _).alloc (Nat.le_refl _) _
    have hz3 : W3.heap.size = w2.heap.size + 1 + 1 := by rw [hW3]; simp
    have hb3 : Below w2.heap.size w2 W3 := hb0.trans (hbb.mono (by omega))
    have k1 : ∀ j u, (frmL f)[j]? = some u → W3.cell? ⟨w2.heap.size, j, none⟩ = some u := fun j u hj => by
      refine (hbb.cell (p := ⟨w2.heap.size, j, none⟩) (by show w2.heap.size < _; omega)).trans ?_
      exact (cell_of_row _ _ j _ _ _ (heap_alloc_new w2 _)).trans (by simpa using hj)
    have k2 : ∀ j u, (frmL f)[j]? = some u → W3.cell? ⟨w2.heap.size + 1, j, none⟩ = some u := fun j u hj => by
      have hh := heap_alloc_new (w2.alloc (.cells (frmL f).toArray 49)) (.cells (frmL f).toArray 50)
      rw [hs0, ← hW3] at hh
      exact (cell_of_row _ _ j _ _ _ hh).trans (by simpa using hj)
    have HB3 : Hid (Below w.heap.size w W3) := HB2.out.trans (hb3.mono HB2.out.size)
    have H3 := HPr.out W3 HB3.out (fun k => F k ∨ k = w2.heap.size ∨ k = w2.heap.size + 1) (fun k hk => by
      have := HB2.out.size
      rcases hk with h' | h' | h'
      · exact Or.inl h'
      · exact Or.inr ⟨by omega, by omega⟩
      · exact Or.inr ⟨by omega, by omega⟩)
    have HK : Hid ((∀ j u, (frmL f)[j]? = some u → W3.cell? ⟨w2.heap.size + 1, j, none⟩ = some u) ∧ w2.heap.size + 1 < W3.heap.size) := ⟨k2, by omega⟩
    have g0 : W3.cell? ⟨w2.heap.size, 0, none⟩ = some (.int .i64 f.sapi) := k1 0 _ rfl
    have g1 : W3.cell? ⟨w2.heap.size, 1, none⟩ = some (.int .i64 f.tei) := k1 1 _ rfl
    have g2 : W3.cell? ⟨w2.heap.size, 2, none⟩ = some (.bool f.c) := k1 2 _ rfl
    have g3 : W3.cell? ⟨w2.heap.size, 3, none⟩ = some (.int .i64 f.k) := k1 3 _ rfl
    have g4 : W3.cell? ⟨w2.heap.size, 4, none⟩ = some (.bool f.pf) := k1 4 _ rfl
    have g5 : W3.cell? ⟨w2.heap.size, 5, none⟩ = some (.int .i64 f.ns) := k1 5 _ rfl
    have g6 : W3.cell? ⟨w2.heap.size, 6, none⟩ = some (.int .i64 f.nr) := k1 6 _ rfl
    have g7 : W3.cell? ⟨w2.heap.size, 7, none⟩ = some (.string f.info) := k1 7 _ rfl
    have HP := H3.calls1 (ans := fun v => v) (e1 := (Em.stp e q).1) (f := 19) (args := #[.pointer (some ⟨C, 0, none⟩), frmV f]) (fun lc hE => by rw [HST.out]; exact eframe_any C lc e f W3 hE (HWy.out.later HB3.out) HRG.out.1.1 HRG.out.1.2 HRG.out.2.1.1 HRG.out.2.1.2 HRG.out.2.2)
    have HD : Hid (∀ w2 F2, Pr14 b W0 w2 F2 C R (Em.nxt e q) { e with out := o } → Calls Tryz.prog 32 #[.pointer (some ⟨R, 0, none⟩), frmV f] w2 fun r w3 => r = .returned (.tuple #[]) ∧ Pr14 b W0 w3 F2 C R (Em.nxt e q) (Em.stp e q).1 ∧ Mov b F2 w2 w3) := fun w2 F2 hp => hp.calls2 (fun lr hR => by rw [HST.out]; exact rframe14_any R lr { e with out := o } f w2 hR HOK.out HRG.out.1.1 HRG.out.1.2 HRG.out.2.1.1 HRG.out.2.1.2)
    have hl3 : w2.heap.size < W3.heap.size := by omega
    clear H3 k1 k2 hb0 hs0 hbb hz3 hb3
    unfold frmV at HP HD
    go_wp2_with fail
    rw [show (#[.int .i64 f.sapi, .int .i64 f.tei, .bool f.c, .int .i64 f.k, .bool f.pf, .int .i64 f.ns, .int .i64 f.nr, .string f.info] : Array Value) = (frmL f).toArray from rfl]
    try rw [← hW3]
    clear hW3
    rw [show (frmL f).toArray = (#[.int .i64 f.sapi, .int .i64 f.tei, .bool f.c, .int .i64 f.k, .bool f.pf, .int .i64 f.ns, .int .i64 f.nr, .string f.info] : Array Value) from rfl]
    refine HP.mono ?_
    rintro r w4 ⟨a, n, cap, rfl, hl1, hl2, ho2, hP4, hM4⟩
    have HN : Hid ((Em.stp e q).1.out.length = n ∧ n ≤ 9223372036854775807) := ⟨hl1, hl2⟩
    have HO2 : Hid (w4.ownsRow W3.heap.size 57 11 (.slice a n cap) n (effsL (Em.stp e q).1.out)) := ho2
    have HM2 : Hid (Mov b F w w4) := (Mov.of_below HB3.out).trans (hM4.weak (fun k _ hk => Or.inl hk))
    have q0 : w4.cell? ⟨w2.heap.size + 1, 0, none⟩ = some (.int .i64 f.sapi) := (hM4.cell (p := ⟨w2.heap.size + 1, 0, none⟩) HK.out.2 (Or.inr (Or.inr rfl))).trans (HK.out.1 0 _ rfl)
    have q1 : w4.cell? ⟨w2.heap.size + 1, 1, none⟩ = some (.int .i64 f.tei) := (hM4.cell (p := ⟨w2.heap.size + 1, 1, none⟩) HK.out.2 (Or.inr (Or.inr rfl))).trans (HK.out.1 1 _ rfl)
    have q2 : w4.cell? ⟨w2.heap.size + 1, 2, none⟩ = some (.bool f.c) := (hM4.cell (p := ⟨w2.heap.size + 1, 2, none⟩) HK.out.2 (Or.inr (Or.inr rfl))).trans (HK.out.1 2 _ rfl)
    have q3 : w4.cell? ⟨w2.heap.size + 1, 3, none⟩ = some (.int .i64 f.k) := (hM4.cell (p := ⟨w2.heap.size + 1, 3, none⟩) HK.out.2 (Or.inr (Or.inr rfl))).trans (HK.out.1 3 _ rfl)
    have q4 : w4.cell? ⟨w2.heap.size + 1, 4, none⟩ = some (.bool f.pf) := (hM4.cell (p := ⟨w2.heap.size + 1, 4, none⟩) HK.out.2 (Or.inr (Or.inr rfl))).trans (HK.out.1 4 _ rfl)
    have q5 : w4.cell? ⟨w2.heap.size + 1, 5, none⟩ = some (.int .i64 f.ns) := (hM4.cell (p := ⟨w2.heap.size + 1, 5, none⟩) HK.out.2 (Or.inr (Or.inr rfl))).trans (HK.out.1 5 _ rfl)
    have q6 : w4.cell? ⟨w2.heap.size + 1, 6, none⟩ = some (.int .i64 f.nr) := (hM4.cell (p := ⟨w2.heap.size + 1, 6, none⟩) HK.out.2 (Or.inr (Or.inr rfl))).trans (HK.out.1 6 _ rfl)
    have q7 : w4.cell? ⟨w2.heap.size + 1, 7, none⟩ = some (.string f.info) := (hM4.cell (p := ⟨w2.heap.size + 1, 7, none⟩) HK.out.2 (Or.inr (Or.inr rfl))).trans (HK.out.1 7 _ rfl)
    have HD2 := HD.out w4 _ hP4
    have hls2 : w2.heap.size + 1 < w4.heap.size := Nat.lt_of_lt_of_le HK.out.2 hM4.size
    clear hP4 hM4 HP ho2 hl1 hl2 g0 g1 g2 g3 g4 g5 g6 g7 hl3 HB3 HB2 HPr HBW
    go_wp2_with fail
    refine HD2.mono ?_
    rintro r w3 ⟨rfl, hP3, hM3⟩
    clear HD2 hls2 q0 q1 q2 q3 q4 q5 q6 q7 HK
    obtain ⟨a9, cap9, c9, r9, l9⟩ := hP3.outR
    rw [HN.out.1] at c9 r9
    have HR9 : Hid (w3.ownsRow 0 135 11 (.slice a9 n cap9) n (effsL (Em.stp e q).1.out)) := r9
    have HO3 : Hid (w3.ownsRow W3.heap.size 57 11 (.slice a n cap) n (effsL (Em.stp e q).1.out)) := hM3.owns HO2.out (fun B hB => Or.inr hB)
    have HFIN : Hid (Pr14 b W0 w3 F C R (Em.nxt e q) (Em.stp e q).1 ∧ Mov b F w w3) := ⟨hP3.weak (fun k hk => Or.inl (Or.inl hk)), (HM2.out.trans (hM3.weak (fun k _ hk => Or.inl (Or.inl hk))))⟩
    clear hP3 hM3 HO2 HM2 HD r9
    have HS := sameEffects_any (Em.stp e q).1.out (.slice a n cap) (.slice a9 n cap9) _ 0 w3 (by rw [HN.out.1]; exact HO3.out) (by rw [HN.out.1]; exact HR9.out) (by rw [HN.out.1]; exact HN.out.2)
    have HG : Hid (∀ w', Below w3.heap.size w3 w' → Pr14 b W0 w' F C R (Em.nxt e q) (Em.stp e q).1 ∧ Mov b F w w') := fun w' hb => ⟨HFIN.out.1.same hb, HFIN.out.2.trans (Mov.of_below hb)⟩
    clear HFIN HO3 HR9
    go_wp2_with fail
    refine HS.mono ?_
    rintro r w4 ⟨rfl, hb⟩
    have HX : Hid (Pr14 b W0 w4 F C R (Em.nxt e q) (Em.stp e q).1 ∧ Mov b F w w4) := HG.out w4 hb
    clear hb HG HS c9 l9
    go_wp2
    go_ret
    exact ⟨rfl, HX.out.1, HX.out.2⟩

theorem act_any (b : Nat) (W0 w : World) (F : Nat → Prop) (C R : Nat) (e : Em.St) (o : List Em.Eff) (q : ActE) (h : Pr14 b W0 w F C R e { e with out := o }) (hq : q.Ok) (hWy : Ways w) :
    Calls Tryz.prog 13 #[.pointer (some ⟨C, 0, none⟩), .pointer (some ⟨R, 0, none⟩), q.v] w fun r w' => r = .returned (.bool true) ∧ Pr14 b W0 w' F C R (Em.nxt e q) (Em.stp e q).1 ∧ Mov b F w w' := by
  have h1 : -6 < q.d.tmod 6 := by
    have := Int.lt_tmod_of_pos q.d (show (0 : Int) < 6 by omega)
    omega
  have h2 : q.d.tmod 6 < 6 := Int.tmod_lt_of_pos q.d (by omega)
  rcases (show q.d.tmod 6 = 0 ∨ q.d.tmod 6 = 2 ∨ q.d.tmod 6 = -2 ∨ q.d.tmod 6 = 3 ∨ q.d.tmod 6 = -3 ∨ q.d.tmod 6 = 4 ∨ q.d.tmod 6 = -4 ∨ (q.d.tmod 6 = 1 ∨ q.d.tmod 6 = -1 ∨ q.d.tmod 6 = 5 ∨ q.d.tmod 6 = -5) by omega) with hd | hd | hd | hd | hd | hd | hd | hd
  · exact act_ask b W0 w F C R e o q h hq hd
  · exact act_time b W0 w F C R e o q h hq hd
  · exact act_timem b W0 w F C R e o q h hq hd
  · exact act_asgn b W0 w F C R e o q h hq hd
  · exact act_asgnm b W0 w F C R e o q h hq hd
  · exact act_rem b W0 w F C R e o q h hq hd
  · exact act_remm b W0 w F C R e o q h hq hd
  · exact act_frame b W0 w F C R e o q h hq hWy hd
end Go.Proofs.YtidemohpngkedabGreatDoor
