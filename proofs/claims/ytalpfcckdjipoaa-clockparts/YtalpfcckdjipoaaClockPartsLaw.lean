/-
  The law ClockParts' walk: what is over by one time and then by a later one is what is over by the later one, in order.
-/
import Derived.Test.YtalpfcckdjipoaaClockSteps
namespace Go.Proofs.Ytalpfcckdjipoaa
open Go.RowKit Go.Maps
set_option linter.unusedVariables false
set_option linter.unusedSimpArgs false

set_option maxHeartbeats 2000000 in
set_option maxRecDepth 100000 in
theorem walk_ClockParts (a : Option Addr) (len cap : Nat) (ps : List ActV) (x y : Int) (w : World) (hr : RowA w a len cap ps) (hx : -9223372036854775808 ≤ x ∧ x ≤ 9223372036854775807) (hy : -9223372036854775808 ≤ y ∧ y ≤ 9223372036854775807) :
    Calls Try.prog 7 #[.slice a len cap, .int .i64 x, .int .i64 y] w fun e w' => e = .returned (.bool true) ∧ Below w.heap.size w w' := by
  have hlc : len ≤ cap := hr.2.1
  have hcm : cap ≤ 9223372036854775807 := by have := hr.2.2.1; unfold maxLen at this; exact this
  obtain ⟨m, hmin, hm100, hml⟩ : ∃ m : Nat, min (len : Int) 100 = (m : Int) ∧ m ≤ 100 ∧ m ≤ len := ⟨(min (len : Int) 100).toNat, by omega, by omega, by omega⟩
  have hfr : a.map (·.add 0) = a := by
    cases a with
    | none => rfl
    | some x => simp [Addr.add]
  have HR : Hid (RowA w a len cap ps) := hr
  clear hr
  go_enter Try.func7, Try.ntmps7
  go_wp2_with fail
  refine (new_any _).mono ?_
  rintro e w1 ⟨rfl, hc1, hb1⟩
  go_wp2_with fail
  refine (new_any _).mono ?_
  rintro e w2 ⟨rfl, hc2, hb2⟩
  have hbw : Below w.heap.size w w2 := hb1.trans (hb2.mono hb1.size)
  have hlt1 : w.heap.size < w1.heap.size := hc1.lt
  have hM1 : Hid (Mine w.heap.size w2 w.heap.size none 0 []) := ⟨hc1.below hb2, Nat.le_refl _, fun B hB => by cases hB⟩
  have hM2 : Hid (Mine w.heap.size w2 w1.heap.size none 0 []) := ⟨hc2, Nat.le_of_lt hlt1, fun B hB => by cases hB⟩
  have hAp : Hid (Apart w.heap.size none w1.heap.size none) := by
    rintro k (rfl | h1) (h2 | h2)
    · omega
    · cases h2
    · cases h1
    · cases h1
  clear hc1 hb1 hc2 hb2
  go_wp2
  clear hmin hfr
  obtain ⟨Ca, hCa⟩ : ∃ C, C = w.heap.size := ⟨_, rfl⟩
  obtain ⟨Cb, hCb⟩ : ∃ C, C = w1.heap.size := ⟨_, rfl⟩
  go_loopw [23] (fun c wr => ∃ (i : Nat) (L : List Km.Tmr) (ma mb : Option Nat), i ≤ m ∧ c = .int .i64 i ∧ L.length ≤ i ∧ Hid (Mine w.heap.size wr w.heap.size ma i L) ∧ Hid (Mine w.heap.size wr w1.heap.size mb i L) ∧ Hid (Apart w.heap.size ma w1.heap.size mb) ∧ Hid (Below w.heap.size w wr)) (fun c _ => m - (intOf c).toNat)
  case atStart => exact ⟨0, [], none, none, Nat.zero_le _, rfl, Nat.le_refl _, hM1, hM2, hAp, hbw⟩
  case round =>
    obtain ⟨i, L, ma, mb, him, rfl, hLl, HA, HB, HP, HW⟩ := hrel
    clear hM1 hM2 hAp hbw
    by_cases hlt : i < m
    · obtain ⟨bb, off, q, rfl, hbb, hqe, hat, hok⟩ := HR.out.at i (by omega)
      have hat' := hat.below HW.out hbb
      have hbr : bb < wr.heap.size := Nat.lt_of_lt_of_le hbb HW.out.size
      obtain ⟨d0, d1, d2, d3, d4⟩ := hat'
      have HO : Hid q.Ok := hok
      have hAI : ActIn q (actW wr q) wr.heap.size := actIn_made wr q
      have hqb := actW_below wr q
      have hqs := actW_size wr q
      have A0 := HA.out.below hqb
      have B0 := HB.out.below hqb
      have hkey : InK (q.o, q.t) := ⟨hok.o, hok.t⟩
      have hS := start_any w.heap.size i ma L (q.o, q.t) q.n q.p _ A0.clk hkey (by omega) hok.n hok.p
      have sw : w.heap.size ≤ (actW wr q).heap.size := by have := HW.out.size; omega
      have ta : Hid (∀ k, tch w.heap.size ma k → k < wr.heap.size) := fun k hk => HA.out.clk.tlt hk
      have tb : Hid (∀ k, tch w1.heap.size mb k → k < wr.heap.size) := fun k hk => HB.out.clk.tlt hk
      have HWq : Hid (Below w.heap.size w (actW wr q)) := HW.out.trans (hqb.mono HW.out.size)
      have hW0 : actW wr q = (wr.alloc (.cells #[.int .i64 q.d, .int .i64 q.o, .int .i64 q.t, .int .i64 q.n, .int .i64 q.p] 24)).alloc (.cells #[.int .i64 q.o, .int .i64 q.t] 33) := rfl
      unfold keyV at hS
      clear hat hqe hok hqb
      go_wp2_with fail
      rw [← hW0]
      clear d0 d1 d2 d3 d4
      refine hS.mono ?_
      rintro e w3 ⟨rfl, hm3⟩
      obtain ⟨ma', A3, b3, k3, f3⟩ := A0.moved hm3 sw
      have I3 := hAI.kept k3 (fun h => by have := ta.out _ h; omega) (fun h => by have := ta.out _ h; omega)
      have B3 := B0.beside HP.out.symm k3
      have P3 : Apart w.heap.size ma' w1.heap.size mb := (HP.out.symm.moved B0.clk f3).symm
      have s3 := k3.size
      have W3 : Hid (Below w.heap.size w w3) := HWq.out.trans b3
      have hS2 := start_any w1.heap.size i mb L (q.o, q.t) q.n q.p _ B3.clk hkey (by omega) HO.out.n HO.out.p
      obtain ⟨i0, i1, i2, i3, i4, ik0, ik1, il⟩ := I3
      unfold keyV at hS2
      clear hS hm3 hAI A0 B0 hW0
      go_wp2_with fail
      refine hS2.mono ?_
      rintro e w4 ⟨rfl, hm4⟩
      obtain ⟨mb', B4, b4, k4, f4⟩ := B3.moved hm4 (by omega)
      have A4 : Hid (Mine w.heap.size w4 w.heap.size ma' (i + 1) (startT (q.o, q.t) q.n q.p L)) := A3.beside P3 k4
      have P4 : Hid (Apart w.heap.size ma' w1.heap.size mb') := P3.moved A3.clk f4
      have W4 : Hid (Below w.heap.size w w4) := W3.out.trans b4
      have B4' : Hid (Mine w.heap.size w4 w1.heap.size mb' (i + 1) (startT (q.o, q.t) q.n q.p L)) := B4
      have l4 : (startT (q.o, q.t) q.n q.p L).length ≤ i + 1 := by have := startT_length (q.o, q.t) q.n q.p L; omega
      clear hS2 hm4 B4 b4 k4 f4 A3 B3 P3 k3 b3 f3 i0 i1 i2 i3 i4 ik0 ik1
      go_wp2
      go_roundw
      case rel => exact ⟨i + 1, _, ma', mb', by omega, by go_num, l4, A4, B4', P4, W4⟩
      case measure => simp [intOf]; omega
    · have hie : i = m := by omega
      subst hie
      have hxy : min x y ≤ max x y := by omega
      have ta : Hid (∀ k, tch w.heap.size ma k → k < wr.heap.size) := fun k hk => HA.out.clk.tlt hk
      have tb : Hid (∀ k, tch w1.heap.size mb k → k < wr.heap.size) := fun k hk => HB.out.clk.tlt hk
      have HX : Hid (min x y ≤ max x y) := hxy
      have HE : Hid (Km.dueL (min x y) L ++ Km.dueL (max x y) (Km.restL (min x y) L) = Km.dueL (max x y) L) := Km.due_parts HA.out.clk.ok hxy
      have hD1 := due_any w.heap.size i ma L (min x y) wr HA.out.clk (by omega)
      clear hxy
      go_wp2_with fail
      refine hD1.mono ?_
      rintro e w3 ⟨v1, rfl, o1, c3, k3⟩
      obtain ⟨A3, b3⟩ := HA.out.due c3 k3 HW.out.size
      have B3 := HB.out.beside HP.out.symm k3
      have W3 : Hid (Below w.heap.size w w3) := HW.out.trans b3
      have z3 := k3.size
      have hD2 := due_any w.heap.size i ma (Km.restL (min x y) L) (max x y) w3 A3.clk (by omega)
      clear hD1 c3 k3 b3 HA HB
      go_wp2_with fail
      refine hD2.mono ?_
      rintro e w4 ⟨v2, rfl, o2, c4, k4⟩
      obtain ⟨A4, b4⟩ := A3.due c4 k4 W3.out.size
      have B4 := B3.beside HP.out.symm k4
      have W4 : Hid (Below w.heap.size w w4) := W3.out.trans b4
      have z4 := k4.size
      have p1 := k4.owns o1 (fun k hk h => by have := own_base o1 k hk; have := ta.out k h; omega)
      have ll1 := Km.due_length (min x y) L
      have ll2 := Km.due_length (max x y) (Km.restL (min x y) L)
      have ll3 := Km.rest_length (min x y) L
      clear hD2 c4 b4 A3 A4 B3 o1
      go_wp2_with (at_builtin; refine append_due rfl _ _ rfl wr.heap.size w3.heap.size v1 v2 _ _ rfl p1 rfl o2 (by simp; omega) (by omega) ?_)
      intro v5 w5 o5 g5
      have o5' : w5.ownsRow wr.heap.size 33 2 v5 ((Km.dueL (max x y) L).map (·.2)).length (flatDue ((Km.dueL (max x y) L).map (·.2))) := by
        rw [← HE.out, List.length_map, List.length_append]
        first | exact o5 | (rw [List.map_append]; simpa using o5)
      have k5 : Kept w4 w5 (fun k => v1.ownBlock = some k) := Kept.of_grown g5 (fun k e => e)
      have B5 : Mine w.heap.size w5 w1.heap.size mb i L := ⟨B4.clk.kept k5 (fun h => by have := own_base p1 _ h; have := tb.out _ (Or.inl rfl); omega) (fun B hB h => by have := own_base p1 _ h; have := tb.out _ (Or.inr hB); omega), B4.c, B4.m⟩
      have W5 : Hid (Below w.heap.size w w5) := W4.out.grown g5 (by have := W4.out.size; omega) (fun k hk => by have := own_base p1 k hk; have := HW.out.size; omega)
      have z5 := k5.size
      have hD3 := due_any w1.heap.size i mb L (max x y) w5 B5.clk (by omega)
      clear p1 o2 g5 k5 B4 ll1 ll2 ll3
      go_wp2_with fail
      refine hD3.mono ?_
      rintro e w6 ⟨v6, rfl, o6, c6, k6⟩
      obtain ⟨B6, b6⟩ := B5.due c6 k6 W5.out.size
      have W6 : Hid (Below w.heap.size w w6) := W5.out.trans b6
      have p5 := k6.owns o5' (fun k hk h => by have := own_base o5' k hk; have := tb.out k h; omega)
      clear hD3 c6 b6 k6 B5 B6 o5 o5'
      go_wp2_with fail
      refine (wakes_any _).mono ?_
      rintro e w7 ⟨rfl, b7⟩
      have k7 : Kept w6 w7 (fun _ => False) := Kept.of_below b7 (fun k hk h => by omega)
      have W7 : Hid (Below w.heap.size w w7) := W6.out.trans (b7.mono W6.out.size)
      have q5 := k7.owns p5 (fun _ _ h => h)
      have q6 := k7.owns o6 (fun _ _ h => h)
      clear p5 o6 b7 k7
      obtain ⟨ks, hks⟩ : ∃ ks, ks = (Km.dueL (max x y) L).map (·.2) := ⟨_, rfl⟩
      have hkl : ks.length ≤ 1000000 := by have := Km.due_length (max x y) L; rw [hks]; simp; omega
      rw [← hks] at q5 q6
      obtain ⟨a5, cap5, rfl, s5⟩ := own_shape q5
      obtain ⟨a6, cap6, rfl, s6⟩ := own_shape q6
      have S5 : Hid _ := s5
      have S6 : Hid _ := s6
      clear q5 q6 s5 s6 hks
      go_wp2
      go_loopw [74] (fun c wq => ∃ j : Nat, j ≤ ks.length ∧ c = .int .i64 j ∧ Hid (Below w7.heap.size w7 wq)) (fun c _ => ks.length - (intOf c).toNat)
      case atStart => exact ⟨0, Nat.zero_le _, rfl, Below.refl _ _⟩
      case round =>
        obtain ⟨j, hj, rfl, HQ⟩ := hrel
        by_cases hjl : j < ks.length
        · obtain ⟨g5, rfl, hg5, _, hc5, e50, e51⟩ := S5.out j hjl
          obtain ⟨g6, rfl, hg6, _, hc6, e60, e61⟩ := S6.out j hjl
          have f50 := (HQ.out.cell (p := ⟨g5, j * 2, none⟩) hg5).trans e50
          have f51 := (HQ.out.cell (p := ⟨g5, j * 2 + 1, none⟩) hg5).trans e51
          have f60 := (HQ.out.cell (p := ⟨g6, j * 2, none⟩) hg6).trans e60
          have f61 := (HQ.out.cell (p := ⟨g6, j * 2 + 1, none⟩) hg6).trans e61
          obtain ⟨x1, x2⟩ : ∃ x1, ks[j].1 = x1 := ⟨_, rfl⟩
          obtain ⟨y1, y2⟩ : ∃ y1, ks[j].2 = y1 := ⟨_, rfl⟩
          rw [x2] at f50 f60
          rw [y2] at f51 f61
          have l5 : g5 < wr.heap.size := Nat.lt_of_lt_of_le hg5 HQ.out.size
          have l6 : g6 < wr.heap.size := Nat.lt_of_lt_of_le hg6 HQ.out.size
          have HQ2 : Hid (Below w7.heap.size w7 wr.drew) := HQ.out.drew
          clear e50 e51 e60 e61 x2 y2
          go_wp2
          go_region
          go_wp2
          go_roundw
          case rel => exact ⟨j + 1, by omega, by go_num, HQ2⟩
          case measure => simp [intOf]; omega
        · have hje : j = ks.length := by omega
          subst hje
          have HF : Hid (Below w.heap.size w wr) := W7.out.trans (HQ.out.mono W7.out.size)
          go_wp2
          go_ret
          exact ⟨rfl, HF.out⟩
end Go.Proofs.Ytalpfcckdjipoaa
