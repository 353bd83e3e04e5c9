/-
  The law ClockOver's walk: each timer that is started is over once, at its time, in order.
-/
import Derived.Test.YtalpfcckdjipoaaClockSteps
namespace Go.Proofs.Ytalpfcckdjipoaa
open Go.RowKit Go.Maps
set_option linter.unusedVariables false
set_option linter.unusedSimpArgs false

theorem off_moved {C k : Nat} {m m' : Option Nat} {w : World} (h : ¬ tch C m k) (hk : k < w.heap.size) (hf : ∀ B, m' = some B → m = some B ∨ w.heap.size ≤ B) : ¬ tch C m' k := by
  rintro (rfl | h')
  · exact h (Or.inl rfl)
  · rcases hf k h' with h2 | h2
    · exact h (Or.inr h2)
    · omega
theorem Mine.more {b C n : Nat} {w : World} {m : Option Nat} {L : List Km.Tmr} (h : Mine b w C m n L) : Mine b w C m (n + 1) L := by
  refine ⟨⟨h.clk.lt, h.clk.c, h.clk.f, h.clk.ok, ?_⟩, h.c, h.m⟩
  rcases h.clk.map with h' | ⟨B, e1, e2, e3⟩
  · exact Or.inl h'
  · exact Or.inr ⟨B, e1, e2, e3.mono (Nat.le_succ _)⟩

theorem due_early {a : Km.Tmr} {r : List Km.Tmr} (h : Km.Ok (a :: r)) : Km.dueL (a.1 - 1) (a :: r) = [] ∧ Km.restL (a.1 - 1) (a :: r) = a :: r :=
  ⟨Km.due_cons_out h (by omega), Km.rest_cons_out h (by omega)⟩
theorem due_at {a : Km.Tmr} {r : List Km.Tmr} (h : Km.Ok (a :: r)) : ∀ b ∈ Km.dueL a.1 (a :: r), b.1 = a.1 := by
  intro b hb
  obtain ⟨h1, h2⟩ := Km.mem_due.1 hb
  have := h.first b h1
  omega
theorem due_some {a : Km.Tmr} {r : List Km.Tmr} : 0 < (Km.dueL a.1 (a :: r)).length := by
  rw [Km.due_cons_in (Int.le_refl _)]; simp
theorem keys_nodup {L : List Km.Tmr} (h : Km.Ok L) (n : Int) : ((Km.dueL n L).map (·.2)).Nodup := by
  have := (h.due n).uniq
  rw [List.Nodup, List.pairwise_map]
  exact this
/-- the j-th key still runs, till just then, when those ahead of it are gone -/
theorem look_left {a : Km.Tmr} {r : List Km.Tmr} (h : Km.Ok (a :: r)) {ks : List (Int × Int)} (hks : ks = (Km.dueL a.1 (a :: r)).map (·.2)) (j : Nat) (hj : j < ks.length) :
    Km.runs (Km.remAll (ks.take j) (a :: r)) ks[j] = true ∧ Km.till (Km.remAll (ks.take j) (a :: r)) ks[j] = a.1 := by
  have hnd : ks.Nodup := by rw [hks]; exact keys_nodup h a.1
  have hm : ks[j] ∈ ks := List.getElem_mem _
  have hm2 : ∀ k ∈ ks, ∃ b ∈ Km.dueL a.1 (a :: r), b.2 = k := by intro k hk; rw [hks] at hk; exact List.mem_map.1 hk
  obtain ⟨b, hb, he⟩ := hm2 _ hm
  have hb1 := due_at h b hb
  have hbL := (Km.mem_due.1 hb).1
  have hnot : ks[j] ∉ ks.take j := by
    intro hin
    obtain ⟨i, hi, e⟩ := List.mem_iff_getElem.1 hin
    rw [List.getElem_take] at e
    have hi' : i < j := by simp at hi; omega
    exact (List.pairwise_iff_getElem.1 hnd i j (by omega) hj hi') e
  have hmem : (a.1, ks[j]) ∈ Km.remAll (ks.take j) (a :: r) := by
    refine List.mem_filter.2 ⟨?_, by simpa using hnot⟩
    have : b = (a.1, ks[j]) := Prod.ext hb1 he
    rw [← this]; exact hbL
  have hl := Km.look_of (h.filter _) hmem
  refine ⟨?_, ?_⟩
  · unfold Km.runs
    have : Km.look (Km.remAll (ks.take j) (a :: r)) ks[j] = some a.1 := hl
    rw [this]; rfl
  · unfold Km.till
    have : Km.look (Km.remAll (ks.take j) (a :: r)) ks[j] = some a.1 := hl
    rw [this]; rfl

set_option maxHeartbeats 4000000 in
set_option maxRecDepth 100000 in
theorem walk_ClockOver (a : Option Addr) (len cap : Nat) (ps : List ActV) (w : World) (hr : RowA w a len cap ps) :
    Calls Try.prog 4 #[.slice a len cap] w fun e w' => e = .returned (.bool true) ∧ Below w.heap.size w w' := by
  have hlc : len ≤ cap := hr.2.1
  have hcm : cap ≤ 9223372036854775807 := by have := hr.2.2.1; unfold maxLen at this; exact this
  obtain ⟨m, hmin, hm100, hml⟩ : ∃ m : Nat, min (len : Int) 100 = (m : Int) ∧ m ≤ 100 ∧ m ≤ len := ⟨(min (len : Int) 100).toNat, by omega, by omega, by omega⟩
  have hfr : a.map (·.add 0) = a := by
    cases a with
    | none => rfl
    | some x => simp [Addr.add]
  have HR : Hid (RowA w a len cap ps) := hr
  clear hr
  have hmm := @run_makeMap Try.prog
  go_enter Try.func4, Try.ntmps4
  go_wp2_with fail
  refine (new_any _).mono ?_
  rintro e w1 ⟨rfl, hc1, hb1⟩
  have hlt1 : w.heap.size < w1.heap.size := hc1.lt
  obtain ⟨W2, hW2⟩ : ∃ W2, W2 = w1.alloc (.map #[] 0) := ⟨_, rfl⟩
  have q2 : Below w1.heap.size w1 W2 := by rw [hW2]; exact (Below.refl _ _).alloc (Nat.le_refl _) _
  have hT : Hid (MapIs W2 w1.heap.size 0 []) := by rw [hW2]; exact mapIs_made _
  have hM1 : Hid (Mine w.heap.size W2 w.heap.size none 0 []) := ⟨hc1.below q2, Nat.le_refl _, fun B hB => by cases hB⟩
  have hO1 : Hid (¬ tch w.heap.size none w1.heap.size) := by
    rintro (h | h)
    · omega
    · cases h
  have hbw : Hid (Below w.heap.size w W2) := hb1.trans (q2.mono hb1.size)
  clear hc1 hb1 q2
  go_wp2
  rw [← hW2]
  clear hmin hfr hW2 hmm
  go_loopw [25] (fun c wr => ∃ (i : Nat) (L : List Km.Tmr) (mc : Option Nat), i ≤ m ∧ c = .int .i64 i ∧ L.length ≤ i ∧ Hid (Mine w.heap.size wr w.heap.size mc i L) ∧ Hid (MapIs wr w1.heap.size i L) ∧ Hid (¬ tch w.heap.size mc w1.heap.size) ∧ Hid (Below w.heap.size w wr)) (fun c _ => m - (intOf c).toNat)
  case atStart => exact ⟨0, [], none, Nat.zero_le _, rfl, Nat.le_refl _, hM1, hT, hO1, hbw⟩
  case round =>
    obtain ⟨i, L, mc, him, rfl, hLl, HA, HT, HOa, HW⟩ := hrel
    clear hM1 hT hO1 hbw
    by_cases hlt : i < m
    · obtain ⟨bb, off, q, rfl, hbb, hqe, hat, hok⟩ := HR.out.at i (by omega)
      have hat' := hat.below HW.out hbb
      have hbr : bb < wr.heap.size := Nat.lt_of_lt_of_le hbb HW.out.size
      obtain ⟨d0, d1, d2, d3, d4⟩ := hat'
      have HO : Hid q.Ok := hok
      have hAI : ActIn q (actW wr q) wr.heap.size := actIn_made wr q
      have hqb := actW_below wr q
      have hqs := actW_size wr q
      have A0 := HA.out.below hqb
      have T0 := HT.out.below hqb HT.out.lt
      have hkey : InK (q.o, q.t) := ⟨hok.o, hok.t⟩
      have hS := start_any w.heap.size i mc L (q.o, q.t) q.n q.p _ A0.clk hkey (by omega) hok.n hok.p
      have sw : w.heap.size ≤ (actW wr q).heap.size := by have := HW.out.size; omega
      have ta : Hid (∀ k, tch w.heap.size mc k → k < wr.heap.size) := fun k hk => HA.out.clk.tlt hk
      have HWq : Hid (Below w.heap.size w (actW wr q)) := HW.out.trans (hqb.mono HW.out.size)
      have hW0 : actW wr q = (wr.alloc (.cells #[.int .i64 q.d, .int .i64 q.o, .int .i64 q.t, .int .i64 q.n, .int .i64 q.p] 24)).alloc (.cells #[.int .i64 q.o, .int .i64 q.t] 33) := rfl
      unfold keyV at hS
      clear hat hqe hok hqb
      go_wp2_with fail
      rw [← hW0]
      clear d0 d1 d2 d3 d4
      refine hS.mono ?_
      rintro e w3 ⟨rfl, hm3⟩
      obtain ⟨mc', A3, b3, k3, f3⟩ := A0.moved hm3 sw
      have I3 := hAI.kept k3 (fun h => by have := ta.out _ h; omega) (fun h => by have := ta.out _ h; omega)
      have T3 := T0.kept k3 HOa.out
      have s3 := k3.size
      have Oa3 : Hid (¬ tch w.heap.size mc' w1.heap.size) := off_moved HOa.out T0.lt f3
      have W3 : Hid (Below w.heap.size w w3) := HWq.out.trans b3
      have l4 : (startT (q.o, q.t) q.n q.p L).length ≤ i + 1 := by have := startT_length (q.o, q.t) q.n q.p L; omega
      have hOkL := HA.out.clk.ok
      obtain ⟨i0, i1, i2, i3, i4, ik0, ik1, il⟩ := I3
      have A3' : Hid (Mine w.heap.size w3 w.heap.size mc' (i + 1) (startT (q.o, q.t) q.n q.p L)) := A3
      clear hS hm3 hAI A0 T0 hW0 A3 HA HT
      by_cases hg : Km.good q.n q.p
      · have n0 : startN q.n q.p = 0 := by unfold startN; rw [if_pos hg]
        have t0 : startT (q.o, q.t) q.n q.p L = Km.startL (q.o, q.t) (q.n + q.p) L := by unfold startT; rw [if_pos hg]
        obtain ⟨w4, hrun, T4, ht⟩ := T3.store hOkL (by unfold maxLen; omega) (good_in hkey hg)
        have k4 : Kept w3 w4 (fun k => k = w1.heap.size) := Kept.of_grown ht.grown (fun k e => by injection e with e; exact e.symm)
        have T4' : Hid (MapIs w4 w1.heap.size (i + 1) (startT (q.o, q.t) q.n q.p L)) := by rw [t0]; exact T4
        have A4 : Hid (Mine w.heap.size w4 w.heap.size mc' (i + 1) (startT (q.o, q.t) q.n q.p L)) := ⟨A3'.out.clk.kept k4 (fun e => Oa3.out (Or.inl e.symm)) (fun B hB e => Oa3.out (Or.inr (by rw [← e]; exact hB))), A3'.out.c, A3'.out.m⟩
        have W4 : Hid (Below w.heap.size w w4) := W3.out.trans (k4.below W3.out.size (fun k e => by omega))
        obtain ⟨⟨v1, v2⟩, v3, v4⟩ := hg
        unfold keyV at hrun
        rw [n0]
        clear k3 b3 f3 T3 T4 ht k4 t0 n0 A3' hOkL
        go_wp2
        go_roundw
        case rel => exact ⟨i + 1, _, mc', by omega, by go_num, l4, A4, T4', Oa3, W4⟩
        case measure => simp [intOf]; omega
      · have n0 : startN q.n q.p = 2 := by unfold startN; rw [if_neg hg]
        have t0 : startT (q.o, q.t) q.n q.p L = L := by unfold startT; rw [if_neg hg]
        have T4' : Hid (MapIs w3 w1.heap.size (i + 1) (startT (q.o, q.t) q.n q.p L)) := by rw [t0]; exact T3.mono (Nat.le_succ _)
        rw [n0]
        clear k3 b3 f3 T3 t0 n0 hOkL hg
        go_wp2
        go_roundw
        case rel => exact ⟨i + 1, _, mc', by omega, by go_num, l4, A3', T4', Oa3, W3⟩
        case measure => simp [intOf]; omega
    · have hie : i = m := by omega
      subst hie
      have HLst : Hid (∀ b ∈ L, (-1 : Int) < b.1) := fun b hb => by have := (HA.out.clk.ok.inn b hb).lo; omega
      clear hlt him
      have hbwr := HW.out.size
      go_wp2
      go_loopw [8] (fun c wq => ∃ (last : Int) (L : List Km.Tmr), c = .int .i64 last ∧ -1 ≤ last ∧ last ≤ 9007199255789568 ∧ L.length ≤ i ∧ Hid (∀ b ∈ L, last < b.1) ∧ Hid (Mine w.heap.size wq w.heap.size mc i L) ∧ Hid (MapIs wq w1.heap.size i L) ∧ Hid (Below w.heap.size w wq)) (fun c _ => (9007199255789569 - intOf c).toNat)
      case atStart => exact ⟨-1, L, rfl, by decide, by decide, hLl, HLst, HA, HT, HW⟩
      case round =>
        clear HLst HA HT HW hLl hbwr
        obtain ⟨last, L, rfl, hla0, hla1, hLl, HLst, HA, HT, HW⟩ := hrel
        have hN := next_any w.heap.size i mc L wr HA.out.clk
        go_wp2_with fail
        refine hN.mono ?_
        rintro e w3 ⟨rfl, b3⟩
        have A3 : Hid (Mine w.heap.size w3 w.heap.size mc i L) := HA.out.below b3
        have T3 : Hid (MapIs w3 w1.heap.size i L) := HT.out.below b3 HT.out.lt
        have W3 : Hid (Below w.heap.size w w3) := HW.out.trans (b3.mono HW.out.size)
        clear hN b3 HA HT HW
        cases L with
        | nil =>
          have e1 : Km.nextN [] = 0 := rfl
          have e2 : Km.nextB [] = false := rfl
          rw [e1, e2]
          clear e1 e2
          go_wp2_with fail
          refine (wakes_any _).mono ?_
          rintro e w4 ⟨rfl, b4⟩
          have T4 := T3.out.below b4 T3.out.lt
          have hlen := T4.len0
          have W4 : Hid (Below w.heap.size w w4) := W3.out.trans (b4.mono W3.out.size)
          clear T4 b4
          go_wp2
          go_ret
          exact ⟨rfl, W4.out⟩
        | cons x r =>
          have e1 : Km.nextN (x :: r) = x.1 := rfl
          have e2 : Km.nextB (x :: r) = true := rfl
          rw [e1, e2]
          clear e1 e2
          have hOk := A3.out.clk.ok
          have HOk : Hid (Km.Ok (x :: r)) := hOk
          have hx1 := (hOk.inn x (by simp)).lo
          have hx2 := (hOk.inn x (by simp)).hi
          have hx3 := HLst.out x (by simp)
          have hD1 := due_any w.heap.size i mc (x :: r) (x.1 - 1) w3 A3.out.clk (by omega)
          obtain ⟨ee1, ee2⟩ := due_early hOk
          rw [ee1, ee2] at hD1
          clear ee1 ee2 hOk
          obtain ⟨n, hn⟩ : ∃ n, n = x.1 := ⟨_, rfl⟩
          rw [← hn] at hx1 hx2 hx3 hD1 ⊢
          have HN : Hid (n = x.1) := hn
          clear hn
          go_wp2_with fail
          refine hD1.mono ?_
          rintro e w4 ⟨v4, rfl, o4, c4, k4⟩
          obtain ⟨A4, b4⟩ := A3.out.due c4 k4 W3.out.size
          have T4 : Hid (MapIs w4 w1.heap.size i (x :: r)) := T3.out.kept k4 HOa.out
          have W4 : Hid (Below w.heap.size w w4) := W3.out.trans b4
          have hD2 := due_any w.heap.size i mc (x :: r) n w4 A4.clk (by omega)
          obtain ⟨a4, cap4, rfl⟩ := own_empty o4
          have A4' : Hid (Mine w.heap.size w4 w.heap.size mc i (x :: r)) := A4
          clear hD1 o4 c4 k4 b4 A4 A3 T3
          go_wp2_with fail
          refine hD2.mono ?_
          rintro e w5 ⟨v5, rfl, o5, c5, k5⟩
          obtain ⟨A5, b5⟩ := A4'.out.due c5 k5 W4.out.size
          have T5 : Hid (MapIs w5 w1.heap.size i (x :: r)) := T4.out.kept k5 HOa.out
          have W5 : Hid (Below w.heap.size w w5) := W4.out.trans b5
          have A5' : Hid (Mine w.heap.size w5 w.heap.size mc i (Km.restL n (x :: r))) := A5
          have tl : Hid (w1.heap.size < w4.heap.size) := T4.out.lt
          obtain ⟨ks, hks⟩ : ∃ ks, ks = (Km.dueL n (x :: r)).map (·.2) := ⟨_, rfl⟩
          have HKS : Hid (ks = (Km.dueL x.1 (x :: r)).map (·.2)) := by rw [hks, HN.out]; rfl
          have hkl : ks.length ≤ 1000000 := by have h1 := Km.due_length n (x :: r); rw [hks]; simp at h1 hLl ⊢; omega
          have hk0 : 0 < ks.length := by rw [hks, HN.out]; simp; exact due_some
          have HRA : Hid (Km.remAll ks (x :: r) = Km.restL n (x :: r)) := by rw [hks]; exact Km.remAll_due HOk.out n
          rw [← hks] at o5
          clear hD2 c5 k5 b5 A5 hks A4' T4
          obtain ⟨g, cap5, rfl, hc5, hgl, hcell⟩ := own_cells o5 hk0
          have HCE : Hid (∀ j (hj : j < ks.length), w5.cell? ⟨g, j * 2, none⟩ = some (.int .i64 ks[j].1) ∧ w5.cell? ⟨g, j * 2 + 1, none⟩ = some (.int .i64 ks[j].2)) := fun j hj => ⟨hcell _ _ (flatDue_at ks j hj).1, hcell _ _ (flatDue_at ks j hj).2⟩
          have hgb : w4.heap.size ≤ g := own_base o5 g rfl
          have hgT : g ≠ w1.heap.size := by have := tl.out; omega
          clear o5 hcell hgb
          go_wp2
          go_loopw [77] (fun c wq => ∃ j : Nat, j ≤ ks.length ∧ c = .int .i64 j ∧ Hid (MapIs wq w1.heap.size i (Km.remAll (ks.take j) (x :: r))) ∧ Hid (Kept w5 wq (fun k => k = w1.heap.size))) (fun c _ => ks.length - (intOf c).toNat)
          case atStart => exact ⟨0, Nat.zero_le _, rfl, by show MapIs _ _ _ _; rw [List.take_zero, Km.remAll_nil]; exact T5.out, Kept.refl _ _⟩
          case round =>
            obtain ⟨j, hj, rfl, HMq, HKq⟩ := hrel
            by_cases hjl : j < ks.length
            · obtain ⟨e0, e1⟩ := HCE.out j hjl
              have f0 := (HKq.out.cell (p := ⟨g, j * 2, none⟩) hgl hgT).trans e0
              have f1 := (HKq.out.cell (p := ⟨g, j * 2 + 1, none⟩) hgl hgT).trans e1
              have hin : InK ks[j] := by
                have hm : ks[j] ∈ (Km.dueL x.1 (x :: r)).map (·.2) := by rw [← HKS.out]; exact List.getElem_mem _
                obtain ⟨b, hb, he⟩ := List.mem_map.1 hm
                rw [← he]; exact In.key (HOk.out.inn b (Km.mem_due.1 hb).1)
              obtain ⟨lk1, lk2⟩ := look_left HOk.out HKS.out j hjl
              have hOk2 : Km.Ok (Km.remAll (ks.take j) (x :: r)) := HOk.out.filter _
              have htk : ks.take (j + 1) = ks.take j ++ [ks[j]] := List.take_succ_eq_append_getElem hjl
              obtain ⟨⟨x1, y1⟩, x2⟩ : ∃ x1, ks[j] = x1 := ⟨_, rfl⟩
              rw [x2] at f0 f1 hin lk1 lk2 htk
              simp only at f0 f1
              have lg : g < wr.heap.size := Nat.lt_of_lt_of_le hgl HKq.out.size
              have qa : Below wr.heap.size wr (wr.alloc (.cells #[.int .i64 x1, .int .i64 y1] 33)) := (Below.refl _ _).alloc (Nat.le_refl _) _
              have Ma := HMq.out.below qa HMq.out.lt
              have hlk := Ma.look_ok hOk2 hin
              rw [lk1, lk2, ← HN.out] at hlk
              obtain ⟨w9, hrun, hM9, ht⟩ := Ma.drop hOk2 hin 0
              have HM9 : Hid (MapIs w9 w1.heap.size i (Km.remAll (ks.take (j + 1)) (x :: r))) := by rw [htk, Km.remAll_snoc]; exact hM9
              have HK9 : Hid (Kept w5 w9 (fun k => k = w1.heap.size)) := (HKq.out.alloc _).trans (T' := fun k => k = w1.heap.size) (Kept.of_grown ht.grown (fun k e => by injection e with e; exact e.symm)) (fun k _ e => e)
              unfold keyV at hrun hlk
              clear e0 e1 lk1 lk2 hOk2 htk x2 qa Ma hM9 ht HMq HKq hin
              go_wp2
              go_roundw
              case rel => exact ⟨j + 1, by omega, by go_num, HM9, HK9⟩
              case measure => simp [intOf]; omega
            · have hje : j = ks.length := by omega
              subst hje
              have M6 : Hid (MapIs wr w1.heap.size i (Km.restL n (x :: r))) := by
                have h1 := HMq.out
                rw [List.take_length, HRA.out] at h1
                exact h1
              have A6 : Hid (Mine w.heap.size wr w.heap.size mc i (Km.restL n (x :: r))) := ⟨A5'.out.clk.kept HKq.out (fun e => HOa.out (Or.inl e.symm)) (fun B hB e => HOa.out (Or.inr (by rw [← e]; exact hB))), A5'.out.c, A5'.out.m⟩
              have W6 : Hid (Below w.heap.size w wr) := W5.out.trans (HKq.out.below W5.out.size (fun k e => by omega))
              have L6 : Hid (∀ b ∈ Km.restL n (x :: r), n < b.1) := fun b hb => (Km.mem_rest.1 hb).2
              have z6 : (Km.restL n (x :: r)).length ≤ i := by have := Km.rest_length n (x :: r); omega
              clear HMq HKq
              go_wp2
              go_roundw
              case rel => exact ⟨n, _, rfl, by omega, hx2, z6, L6, A6, M6, W6⟩
              case measure => simp [intOf]; omega
end Go.Proofs.Ytalpfcckdjipoaa
