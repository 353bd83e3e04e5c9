/-
  The law ClockStops' walk: a timer that was stopped is never over; all others are as if it had never been.
-/
import Derived.Test.YtalpfcckdjipoaaClockSteps
import Derived.BigQuiet
namespace Go.Proofs.Ytalpfcckdjipoaa
open Go.RowKit Go.Maps
set_option linter.unusedVariables false
set_option linter.unusedSimpArgs false

theorem remT_other {k g : Int × Int} {now per : Int} {L : List Km.Tmr} (hL : Km.Ok L) (hk : InK k) (hne : k ≠ g) : Km.rem g (startT k now per L) = startT k now per (Km.rem g L) := by
  unfold startT
  split
  · rename_i h; exact Km.rem_start_other hL (good_in hk h) hne
  · rfl
theorem remT_same {g : Int × Int} {now per : Int} {L : List Km.Tmr} (hL : Km.Ok L) (hk : InK g) : Km.rem g (startT g now per L) = Km.rem g L := by
  unfold startT
  split
  · rename_i h; exact Km.rem_start_same hL (good_in hk h)
  · rfl
theorem due_rem_ne {g : Int × Int} {now : Int} {L : List Km.Tmr} : ∀ k ∈ (Km.dueL now (Km.rem g L)).map (·.2), k ≠ g := by
  intro k hk
  obtain ⟨a, ha, rfl⟩ := List.mem_map.1 hk
  exact (Km.mem_rem.1 (Km.mem_due.1 ha).1).2

theorem off_moved {C k : Nat} {m m' : Option Nat} {w : World} (h : ¬ tch C m k) (hk : k < w.heap.size) (hf : ∀ B, m' = some B → m = some B ∨ w.heap.size ≤ B) : ¬ tch C m' k := by
  rintro (rfl | h')
  · exact h (Or.inl rfl)
  · rcases hf k h' with h2 | h2
    · exact h (Or.inr h2)
    · omega
theorem drewN_below {B : Nat} {a b : World} (h : Below B a b) : ∀ n, Below B a (b.drewN n)
  | 0 => h
  | n + 1 => (drewN_below h n).drew
/-- a key in a block of its own -/
structure KeyAt (w : World) (G : Nat) (k : Int × Int) : Prop where
  lt : G < w.heap.size
  c0 : w.cell? ⟨G, 0, none⟩ = some (.int .i64 k.1)
  c1 : w.cell? ⟨G, 1, none⟩ = some (.int .i64 k.2)
theorem KeyAt.kept {w w' : World} {G : Nat} {k : Int × Int} {T : Nat → Prop} (h : KeyAt w G k) (hk : Kept w w' T) (hn : ¬ T G) : KeyAt w' G k :=
  ⟨Nat.lt_of_lt_of_le h.lt hk.size, (hk.cell (p := ⟨G, 0, none⟩) h.lt hn).trans h.c0, (hk.cell (p := ⟨G, 1, none⟩) h.lt hn).trans h.c1⟩
theorem KeyAt.below {w w' : World} {G : Nat} {k : Int × Int} (h : KeyAt w G k) (hb : Below w.heap.size w w') : KeyAt w' G k :=
  h.kept (T := fun _ => False) (Kept.of_below hb (fun k hk h' => by omega)) (fun x => x)

set_option maxHeartbeats 4000000 in
set_option maxRecDepth 100000 in
theorem walk_ClockStops (a : Option Addr) (len cap : Nat) (ps : List ActV) (b0 b1 b2 b3 b4 : Int) (w : World) (hr : RowA w a len cap ps) (h0 : -9223372036854775808 ≤ b0 ∧ b0 ≤ 9223372036854775807) (h1 : -9223372036854775808 ≤ b1 ∧ b1 ≤ 9223372036854775807) (h2 : -9223372036854775808 ≤ b2 ∧ b2 ≤ 9223372036854775807) (h3 : -9223372036854775808 ≤ b3 ∧ b3 ≤ 9223372036854775807) (h4 : -9223372036854775808 ≤ b4 ∧ b4 ≤ 9223372036854775807) :
    Calls Try.prog 6 #[.slice a len cap, .agg #[.int .i64 b0, .int .i64 b1, .int .i64 b2, .int .i64 b3, .int .i64 b4]] w fun e w' => e = .returned (.bool true) ∧ Below w.heap.size w w' := by
  have hlc : len ≤ cap := hr.2.1
  have hcm : cap ≤ 9223372036854775807 := by have := hr.2.2.1; unfold maxLen at this; exact this
  obtain ⟨m, hmin, hm100, hml⟩ : ∃ m : Nat, min (len : Int) 100 = (m : Int) ∧ m ≤ 100 ∧ m ≤ len := ⟨(min (len : Int) 100).toNat, by omega, by omega, by omega⟩
  have hfr : a.map (·.add 0) = a := by
    cases a with
    | none => rfl
    | some x => simp [Addr.add]
  have HR : Hid (RowA w a len cap ps) := hr
  clear hr
  go_enter Try.func6, Try.ntmps6
  obtain ⟨W00, hW00⟩ : ∃ W00, W00 = w.alloc (.cells #[.int .i64 b0, .int .i64 b1, .int .i64 b2, .int .i64 b3, .int .i64 b4] 24) := ⟨_, rfl⟩
  have q00 : Below w.heap.size w W00 := by rw [hW00]; exact (Below.refl _ _).alloc (Nat.le_refl _) _
  have z00 : W00.heap.size = w.heap.size + 1 := by rw [hW00]; simp
  have f1 : W00.cell? ⟨w.heap.size, 1, none⟩ = some (.int .i64 b1) := by rw [hW00]; simp
  have f2 : W00.cell? ⟨w.heap.size, 2, none⟩ = some (.int .i64 b2) := by rw [hW00]; simp
  go_wp2_with fail
  rw [← hW00]
  refine (new_any _).mono ?_
  rintro e w1 ⟨rfl, hc1, hb1⟩
  rw [z00] at hc1 hb1 ⊢
  clear hW00
  have z1 := hb1.size
  go_wp2_with fail
  refine (new_any _).mono ?_
  rintro e w2 ⟨rfl, hc2, hb2⟩
  have z2 := hb2.size
  have hlt1 : w.heap.size + 1 < w1.heap.size := hc1.lt
  have hlt2 : w1.heap.size < w2.heap.size := hc2.lt
  have hbw : Below w.heap.size w w2 := (q00.trans (hb1.mono (by omega))).trans (hb2.mono (by omega))
  have f1' := (hb2.cell (p := ⟨w.heap.size, 1, none⟩) (by show w.heap.size < _; omega)).trans ((hb1.cell (p := ⟨w.heap.size, 1, none⟩) (by show w.heap.size < _; omega)).trans f1)
  have f2' := (hb2.cell (p := ⟨w.heap.size, 2, none⟩) (by show w.heap.size < _; omega)).trans ((hb1.cell (p := ⟨w.heap.size, 2, none⟩) (by show w.heap.size < _; omega)).trans f2)
  obtain ⟨W3, hW3⟩ : ∃ W3, W3 = w2.alloc (.cells #[.int .i64 b1, .int .i64 b2] 33) := ⟨_, rfl⟩
  have q3 : Below w2.heap.size w2 W3 := by rw [hW3]; exact (Below.refl _ _).alloc (Nat.le_refl _) _
  have hKA : Hid (KeyAt W3 w2.heap.size (b1, b2)) := by rw [hW3]; exact ⟨by simp, by simp, by simp⟩
  have hM1 : Hid (Mine w.heap.size W3 (w.heap.size + 1) none 0 []) := ⟨(hc1.below hb2).below q3, by omega, fun B hB => by cases hB⟩
  have hM2 : Hid (Mine w.heap.size W3 w1.heap.size none 0 []) := ⟨hc2.below q3, by omega, fun B hB => by cases hB⟩
  have hAp : Hid (Apart (w.heap.size + 1) none w1.heap.size none) := by
    rintro k (rfl | h1) (h2 | h2)
    · omega
    · cases h2
    · cases h1
    · cases h1
  have hO1 : Hid (¬ tch (w.heap.size + 1) none w2.heap.size) := by
    rintro (h | h)
    · omega
    · cases h
  have hO2 : Hid (¬ tch w1.heap.size none w2.heap.size) := by
    rintro (h | h)
    · omega
    · cases h
  have hbw3 : Hid (Below w.heap.size w W3) := hbw.trans (q3.mono (by omega))
  clear hc1 hb1 hc2 hb2 hbw f1 f2 q00 q3
  have hlW2 : w.heap.size < w2.heap.size := by omega
  go_wp2
  rw [← hW3]
  clear hmin hfr hW3 f1' f2'
  have HGK : Hid (InK (b1, b2)) := ⟨h1, h2⟩
  go_loopw [29] (fun c wr => ∃ (i : Nat) (L : List Km.Tmr) (ma mb : Option Nat), i ≤ m ∧ c = .int .i64 i ∧ L.length ≤ i ∧ Hid (Mine w.heap.size wr (w.heap.size + 1) ma i L) ∧ Hid (Mine w.heap.size wr w1.heap.size mb i (Km.rem (b1, b2) L)) ∧ Hid (Apart (w.heap.size + 1) ma w1.heap.size mb) ∧ Hid (Below w.heap.size w wr) ∧ Hid (KeyAt wr w2.heap.size (b1, b2)) ∧ Hid (¬ tch (w.heap.size + 1) ma w2.heap.size) ∧ Hid (¬ tch w1.heap.size mb w2.heap.size)) (fun c _ => m - (intOf c).toNat)
  case atStart => exact ⟨0, [], none, none, Nat.zero_le _, rfl, Nat.le_refl _, hM1, hM2, hAp, hbw3, hKA, hO1, hO2⟩
  case round =>
    obtain ⟨i, L, ma, mb, him, rfl, hLl, HA, HB, HP, HW, HK, HOa, HOb⟩ := hrel
    clear hM1 hM2 hAp hbw3 hKA hO1 hO2
    by_cases hlt : i < m
    · obtain ⟨bb, off, q, rfl, hbb, hqe, hat, hok⟩ := HR.out.at i (by omega)
      have hat' := hat.below HW.out hbb
      have hbr : bb < wr.heap.size := Nat.lt_of_lt_of_le hbb HW.out.size
      obtain ⟨d0, d1, d2, d3, d4⟩ := hat'
      have HO : Hid q.Ok := hok
      have hAI : ActIn q (actW wr q) wr.heap.size := actIn_made wr q
      have hqb := actW_below wr q
      have hqs := actW_size wr q
      have A0 := HA.out.below hqb
      have B0 := HB.out.below hqb
      have K0 := HK.out.below hqb
      have hkey : InK (q.o, q.t) := ⟨hok.o, hok.t⟩
      have hS := start_any (w.heap.size + 1) i ma L (q.o, q.t) q.n q.p _ A0.clk hkey (by omega) hok.n hok.p
      have sw : w.heap.size ≤ (actW wr q).heap.size := by have := HW.out.size; omega
      have ta : Hid (∀ k, tch (w.heap.size + 1) ma k → k < wr.heap.size) := fun k hk => HA.out.clk.tlt hk
      have HWq : Hid (Below w.heap.size w (actW wr q)) := HW.out.trans (hqb.mono HW.out.size)
      have hW0 : actW wr q = (wr.alloc (.cells #[.int .i64 q.d, .int .i64 q.o, .int .i64 q.t, .int .i64 q.n, .int .i64 q.p] 24)).alloc (.cells #[.int .i64 q.o, .int .i64 q.t] 33) := rfl
      unfold keyV at hS
      clear hat hqe hok hqb
      go_wp2_with fail
      rw [← hW0]
      clear d0 d1 d2 d3 d4
      refine hS.mono ?_
      rintro e w3 ⟨rfl, hm3⟩
      obtain ⟨ma', A3, b3, k3, f3⟩ := A0.moved hm3 sw
      have I3 := hAI.kept k3 (fun h => by have := ta.out _ h; omega) (fun h => by have := ta.out _ h; omega)
      have B3 := B0.beside HP.out.symm k3
      have P3 : Apart (w.heap.size + 1) ma' w1.heap.size mb := (HP.out.symm.moved B0.clk f3).symm
      have s3 := k3.size
      have K3 := K0.kept k3 HOa.out
      have Oa3 : Hid (¬ tch (w.heap.size + 1) ma' w2.heap.size) := off_moved HOa.out K0.lt f3
      have W3' : Hid (Below w.heap.size w w3) := HWq.out.trans b3
      have l4 : (startT (q.o, q.t) q.n q.p L).length ≤ i + 1 := by have := startT_length (q.o, q.t) q.n q.p L; omega
      have hOkL := HA.out.clk.ok
      obtain ⟨i0, i1, i2, i3, i4, ik0, ik1, il⟩ := I3
      obtain ⟨g2, g0, g1⟩ := K3
      have K3' : Hid (KeyAt w3 w2.heap.size (b1, b2)) := ⟨g2, g0, g1⟩
      have A3' : Hid (Mine w.heap.size w3 (w.heap.size + 1) ma' (i + 1) (startT (q.o, q.t) q.n q.p L)) := A3
      clear hS hm3 hAI A0 B0 hW0 K0 A3 HA HB HK
      simp only at g0 g1
      by_cases hyg : q.o = b1 ∧ q.t = b2
      · obtain ⟨y1, y2⟩ := hyg
        have hsame : Km.rem (b1, b2) (startT (q.o, q.t) q.n q.p L) = Km.rem (b1, b2) L := by rw [y1, y2]; exact remT_same hOkL HGK.out
        have B3' : Hid (Mine w.heap.size w3 w1.heap.size mb (i + 1) (Km.rem (b1, b2) (startT (q.o, q.t) q.n q.p L))) := by
          rw [hsame]
          refine ⟨⟨B3.clk.lt, B3.clk.c, B3.clk.f, B3.clk.ok, ?_⟩, B3.c, B3.m⟩
          rcases B3.clk.map with h' | ⟨B, e1, e2, e3⟩
          · exact Or.inl h'
          · exact Or.inr ⟨B, e1, e2, e3.mono (Nat.le_succ _)⟩
        have P3' : Hid (Apart (w.heap.size + 1) ma' w1.heap.size mb) := P3
        rw [← y1] at g0
        rw [← y2] at g1
        clear hsame B3 P3 k3 b3 f3 i0 i1 i2 i3 i4 y1 y2 hOkL
        go_wp2
        go_roundw
        case rel => exact ⟨i + 1, _, ma', mb, by omega, by go_num, l4, A3', B3', P3', W3', K3', Oa3, HOb⟩
        case measure => simp [intOf]; omega
      · have hother : Km.rem (b1, b2) (startT (q.o, q.t) q.n q.p L) = startT (q.o, q.t) q.n q.p (Km.rem (b1, b2) L) := remT_other hOkL hkey (fun e => hyg (by injection e with e1 e2; exact ⟨e1, e2⟩))
        have hS2 := start_any w1.heap.size i mb (Km.rem (b1, b2) L) (q.o, q.t) q.n q.p _ B3.clk hkey (by omega) HO.out.n HO.out.p
        unfold keyV at hS2
        have HOT : Hid (Km.rem (b1, b2) (startT (q.o, q.t) q.n q.p L) = startT (q.o, q.t) q.n q.p (Km.rem (b1, b2) L)) := hother
        have hP3 : Hid (Apart (w.heap.size + 1) ma' w1.heap.size mb) := P3
        have hB3 : Hid _ := B3
        clear k3 b3 f3 hOkL hother B3 P3
        have hcs : (q.o = b1 ∧ (q.t == b2) = false) ∨ (q.o == b1) = false := by
          by_cases y1 : q.o = b1
          · exact Or.inl ⟨y1, by simpa using fun e => hyg ⟨y1, e⟩⟩
          · exact Or.inr (by simpa using y1)
        clear hyg
        rcases hcs with ⟨y1, t2⟩ | t1
        · rw [← y1] at g0
          clear y1
          go_wp2_with fail
          refine hS2.mono ?_
          rintro e w4 ⟨rfl, hm4⟩
          obtain ⟨mb', B4, b4, k4, f4⟩ := hB3.out.moved hm4 W3'.out.size
          have A4 : Hid (Mine w.heap.size w4 (w.heap.size + 1) ma' (i + 1) (startT (q.o, q.t) q.n q.p L)) := A3'.out.beside hP3.out k4
          have P4 : Hid (Apart (w.heap.size + 1) ma' w1.heap.size mb') := hP3.out.moved A3'.out.clk f4
          have W4 : Hid (Below w.heap.size w w4) := W3'.out.trans b4
          have B4' : Hid (Mine w.heap.size w4 w1.heap.size mb' (i + 1) (Km.rem (b1, b2) (startT (q.o, q.t) q.n q.p L))) := by rw [HOT.out]; exact B4
          have K4 : Hid (KeyAt w4 w2.heap.size (b1, b2)) := K3'.out.kept k4 HOb.out
          have Ob4 : Hid (¬ tch w1.heap.size mb' w2.heap.size) := off_moved HOb.out K3'.out.lt f4
          clear hS2 hm4 B4 b4 k4 f4 i0 i1 i2 i3 i4 ik0 ik1 g0 g1
          go_wp2
          go_roundw
          case rel => exact ⟨i + 1, _, ma', mb', by omega, by go_num, l4, A4, B4', P4, W4, K4, Oa3, Ob4⟩
          case measure => simp [intOf]; omega
        · go_wp2_with fail
          refine hS2.mono ?_
          rintro e w4 ⟨rfl, hm4⟩
          obtain ⟨mb', B4, b4, k4, f4⟩ := hB3.out.moved hm4 W3'.out.size
          have A4 : Hid (Mine w.heap.size w4 (w.heap.size + 1) ma' (i + 1) (startT (q.o, q.t) q.n q.p L)) := A3'.out.beside hP3.out k4
          have P4 : Hid (Apart (w.heap.size + 1) ma' w1.heap.size mb') := hP3.out.moved A3'.out.clk f4
          have W4 : Hid (Below w.heap.size w w4) := W3'.out.trans b4
          have B4' : Hid (Mine w.heap.size w4 w1.heap.size mb' (i + 1) (Km.rem (b1, b2) (startT (q.o, q.t) q.n q.p L))) := by rw [HOT.out]; exact B4
          have K4 : Hid (KeyAt w4 w2.heap.size (b1, b2)) := K3'.out.kept k4 HOb.out
          have Ob4 : Hid (¬ tch w1.heap.size mb' w2.heap.size) := off_moved HOb.out K3'.out.lt f4
          clear hS2 hm4 B4 b4 k4 f4 i0 i1 i2 i3 i4 ik0 ik1 g0 g1
          go_wp2
          go_roundw
          case rel => exact ⟨i + 1, _, ma', mb', by omega, by go_num, l4, A4, B4', P4, W4, K4, Oa3, Ob4⟩
          case measure => simp [intOf]; omega
    · have hie : i = m := by omega
      subst hie
      have ta : Hid (∀ k, tch (w.heap.size + 1) ma k → k < wr.heap.size) := fun k hk => HA.out.clk.tlt hk
      have tb : Hid (∀ k, tch w1.heap.size mb k → k < wr.heap.size) := fun k hk => HB.out.clk.tlt hk
      have g0 := HK.out.c0
      have g1 := HK.out.c1
      have g2 := HK.out.lt
      simp only at g0 g1
      have hR := runs_any (w.heap.size + 1) i ma L (b1, b2) wr HA.out.clk HGK.out
      unfold keyV at hR
      go_wp2_with fail
      refine hR.mono ?_
      rintro e w3 ⟨rfl, b3⟩
      have A3 : Hid (Mine w.heap.size w3 (w.heap.size + 1) ma i L) := HA.out.below b3
      have B3 : Hid (Mine w.heap.size w3 w1.heap.size mb i (Km.rem (b1, b2) L)) := HB.out.below b3
      have K3 : Hid (KeyAt w3 w2.heap.size (b1, b2)) := HK.out.below b3
      have W3 : Hid (Below w.heap.size w w3) := HW.out.trans (b3.mono HW.out.size)
      have z3 := b3.size
      have hS := stop_any (w.heap.size + 1) i ma L (b1, b2) w3 A3.out.clk HGK.out
      unfold keyV at hS
      clear g0 g1 g2 hR b3 HA HB HK
      have g0 := K3.out.c0
      have g1 := K3.out.c1
      have g2 := K3.out.lt
      simp only at g0 g1
      go_wp2_with fail
      refine hS.mono ?_
      rintro e w4 ⟨rfl, hm4⟩
      obtain ⟨ma', A4, b4, k4, f4⟩ := A3.out.moved hm4 W3.out.size
      have A4' : Hid (Mine w.heap.size w4 (w.heap.size + 1) ma' i (Km.rem (b1, b2) L)) := A4
      have B4 : Hid (Mine w.heap.size w4 w1.heap.size mb i (Km.rem (b1, b2) L)) := B3.out.beside HP.out.symm k4
      have P4 : Hid (Apart (w.heap.size + 1) ma' w1.heap.size mb) := (HP.out.symm.moved B3.out.clk f4).symm
      have K4 : Hid (KeyAt w4 w2.heap.size (b1, b2)) := K3.out.kept k4 HOa.out
      have Oa4 : Hid (¬ tch (w.heap.size + 1) ma' w2.heap.size) := off_moved HOa.out K3.out.lt f4
      have W4 : Hid (Below w.heap.size w w4) := W3.out.trans b4
      clear hS hm4 A4 b4 k4 f4 A3 B3 K3 g0 g1 g2
      go_wp2_with fail
      refine (wakes_any _).mono ?_
      rintro e w5 ⟨rfl, b5⟩
      have A5 : Hid (Mine w.heap.size w5 (w.heap.size + 1) ma' i (Km.rem (b1, b2) L)) := A4'.out.below b5
      have B5 : Hid (Mine w.heap.size w5 w1.heap.size mb i (Km.rem (b1, b2) L)) := B4.out.below b5
      have K5 : Hid (KeyAt w5 w2.heap.size (b1, b2)) := K4.out.below b5
      have W5 : Hid (Below w.heap.size w w5) := W4.out.trans (b5.mono W4.out.size)
      have hD1 := due_any (w.heap.size + 1) i ma' (Km.rem (b1, b2) L) 4611686018427387904 w5 A5.out.clk (by omega)
      clear A4' B4 K4 b5
      go_wp2_with fail
      refine hD1.mono ?_
      rintro e w6 ⟨v6, rfl, o6, c6, k6⟩
      obtain ⟨A6, b6⟩ := A5.out.due c6 k6 W5.out.size
      have B6 := B5.out.beside P4.out.symm k6
      have W6 : Hid (Below w.heap.size w w6) := W5.out.trans b6
      have K6 : Hid (KeyAt w6 w2.heap.size (b1, b2)) := K5.out.kept k6 Oa4.out
      have z6 := k6.size
      have tb5 : Hid (∀ k, tch w1.heap.size mb k → k < w5.heap.size) := fun k hk => B5.out.clk.tlt hk
      have hD2 := due_any w1.heap.size i mb (Km.rem (b1, b2) L) 4611686018427387904 w6 B6.clk (by omega)
      clear hD1 c6 k6 A6 b6
      go_wp2_with fail
      refine hD2.mono ?_
      rintro e w7 ⟨v7, rfl, o7, c7, k7⟩
      obtain ⟨B7, b7⟩ := B6.due c7 k7 W6.out.size
      have W7 : Hid (Below w.heap.size w w7) := W6.out.trans b7
      have K7 : Hid (KeyAt w7 w2.heap.size (b1, b2)) := K6.out.kept k7 HOb.out
      have q5 := k7.owns o6 (fun k hk h => by have := own_base o6 k hk; have := tb5.out k h; omega)
      have q6 := o7
      clear hD2 c7 k7 B7 b7 o6 o7 B6
      obtain ⟨ks, hks⟩ : ∃ ks, ks = (Km.dueL 4611686018427387904 (Km.rem (b1, b2) L)).map (·.2) := ⟨_, rfl⟩
      have hkl : ks.length ≤ 1000000 := by have h1 := Km.due_length 4611686018427387904 (Km.rem (b1, b2) L); have h2 := Km.rem_length_le (b1, b2) L; rw [hks]; simp; omega
      have HNE : Hid (∀ k ∈ ks, k ≠ (b1, b2)) := by rw [hks]; exact due_rem_ne
      rw [← hks] at q5 q6
      obtain ⟨a5, cap5, rfl, s5⟩ := own_shape q5
      obtain ⟨a6, cap6, rfl, s6⟩ := own_shape q6
      have S5 : Hid _ := s5
      have S6 : Hid _ := s6
      clear q5 q6 s5 s6 hks
      go_wp2
      go_loopw [82] (fun c wq => ∃ j : Nat, j ≤ ks.length ∧ c = .int .i64 j ∧ Hid (Below w7.heap.size w7 wq)) (fun c _ => ks.length - (intOf c).toNat)
      case atStart => exact ⟨0, Nat.zero_le _, rfl, Below.refl _ _⟩
      case round =>
        obtain ⟨j, hj, rfl, HQ⟩ := hrel
        by_cases hjl : j < ks.length
        · obtain ⟨g5, rfl, hg5, _, hc5, e50, e51⟩ := S5.out j hjl
          obtain ⟨g6, rfl, hg6, _, hc6, e60, e61⟩ := S6.out j hjl
          have f50 := (HQ.out.cell (p := ⟨g5, j * 2, none⟩) hg5).trans e50
          have f51 := (HQ.out.cell (p := ⟨g5, j * 2 + 1, none⟩) hg5).trans e51
          have f60 := (HQ.out.cell (p := ⟨g6, j * 2, none⟩) hg6).trans e60
          have f61 := (HQ.out.cell (p := ⟨g6, j * 2 + 1, none⟩) hg6).trans e61
          have hKq := K7.out.below HQ.out
          have g0 := hKq.c0
          have g1 := hKq.c1
          have g2 := hKq.lt
          simp only at g0 g1
          have hne := HNE.out ks[j] (List.getElem_mem _)
          obtain ⟨⟨x1, y1⟩, x2⟩ : ∃ x1, ks[j] = x1 := ⟨_, rfl⟩
          rw [x2] at f50 f60 f51 f61 hne
          simp only at f50 f60 f51 f61
          have l5 : g5 < wr.heap.size := Nat.lt_of_lt_of_le hg5 HQ.out.size
          have l6 : g6 < wr.heap.size := Nat.lt_of_lt_of_le hg6 HQ.out.size
          have HQ2 : Hid (∀ nq, Below w7.heap.size w7 (wr.drewN nq)) := fun nq => drewN_below HQ.out nq
          clear e50 e51 e60 e61 x2 hKq
          have hcs : (x1 = b1 ∧ (y1 == b2) = false) ∨ (x1 == b1) = false := by
            by_cases h1 : x1 = b1
            · exact Or.inl ⟨h1, by simpa using fun e => hne (by rw [h1, e])⟩
            · exact Or.inr (by simpa using h1)
          clear hne
          rcases hcs with ⟨h1, t2⟩ | t1
          · rw [← h1] at g0
            clear h1
            go_wp2
            go_quiet (fail)
            go_wp2
            go_roundw
            case rel => exact ⟨j + 1, by omega, by go_num, HQ2.out _⟩
            case measure => simp [intOf]; omega
          · go_wp2
            go_quiet (fail)
            go_wp2
            go_roundw
            case rel => exact ⟨j + 1, by omega, by go_num, HQ2.out _⟩
            case measure => simp [intOf]; omega
        · have hje : j = ks.length := by omega
          subst hje
          have HF : Hid (Below w.heap.size w wr) := W7.out.trans (HQ.out.mono W7.out.size)
          go_wp2
          go_ret
          exact ⟨rfl, HF.out⟩
end Go.Proofs.Ytalpfcckdjipoaa
