/-
  The law EntityPlays' walk: whatever happens, an entity does, and has, what the document says, step by step.
-/
import Derived.Test.YtidemohpngkedabGreatDoorEntAct
import Derived.Test.YtidemohpngkedabGreatDoorEntSameE
import Derived.Test.YtidemohpngkedabGreatDoorEntView
import Derived.Test.YtidemohpngkedabGreatDoorRefCalls
import Derived.Test.YtidemohpngkedabGreatDoorActE
namespace Go.Proofs.YtidemohpngkedabGreatDoor
open Go.RowKit
set_option linter.unusedVariables false
set_option maxRecDepth 100000
set_option linter.unusedSimpArgs false

theorem open_EntityPlays2 {H : Type} {enc : TypeId × Value → H} {w : World} {a : Option Addr} {len cap : Nat} {d : DataW H} {p : List MemPlace}
    (h : DataW.Trod enc Tryz.prog w 0 (fun _ => true) true 22 (.slice a len cap) d p) : ∃ ps, RowE w a len cap ps := open_actse h
/-- both made one behind the other -/
theorem pr14_new {w w1 w2 : World} {C R : Nat} {lc lr : Nat → Nat} {e : Em.St} (hC : w.heap.size ≤ C) (hE : Ent C w1 lc e) (hb1 : Below w.heap.size w w1) (hl1 : ∀ k, k < w.heap.size → lc k = 0)
    (hR : w1.heap.size ≤ R) (hN : Rn R w2 lr e) (hb2 : Below w1.heap.size w1 w2) (hl2 : ∀ k, k < w1.heap.size → lr k = 0) : Pr14 w.heap.size w w2 (fun _ => False) C R e e := by
  refine ⟨⟨fresh lc w1.heap.size 0, lr, hE.below hb2, hN, fun k hk => ?_, fun k hk => ?_, fun k hk => hk.elim⟩, hb1.trans (hb2.mono hb1.size), Nat.le_trans hb1.size hb2.size⟩
  · rcases Nat.lt_or_ge k w1.heap.size with h | h
    · exact Or.inr (hl2 k h)
    · exact Or.inl (fresh_new h)
  · have := hb1.size
    rw [fresh_old (by omega)]
    exact ⟨hl1 k hk, hl2 k (by omega)⟩
theorem sameE_pr {b : Nat} {W0 w : World} {F : Nat → Prop} {C R : Nat} {e : Em.St} {o : List Em.Eff} (h : Pr14 b W0 w F C R e { e with out := o }) :
    Calls Tryz.prog 12 #[.pointer (some ⟨C, 0, none⟩), .pointer (some ⟨R, 0, none⟩)] w fun r w' => r = .returned (.bool true) ∧ Below w.heap.size w w' := by
  obtain ⟨lc, lr, h1, h2, _⟩ := h.qu
  exact sameEntity_any C R lc lr e o w h1 h2
set_option maxHeartbeats 4000000 in
theorem walk_EntityPlays (k n2 : Int) (a : Option Addr) (len cap : Nat) (ps : List ActE) (w : World) (hk : -9223372036854775808 ≤ k ∧ k ≤ 9223372036854775807) (hn : -9223372036854775808 ≤ n2 ∧ n2 ≤ 9223372036854775807) (hr : RowE w a len cap ps) (hWy : Ways w) :
    Calls Tryz.prog 3 #[.int .i64 k, .int .i64 n2, .slice a len cap] w fun e w' => e = .returned (.bool true) ∧ Below w.heap.size w w' := by
  have hlc : len ≤ cap := hr.2.1
  have hcm : cap ≤ 9223372036854775807 := by have := hr.2.2.1; unfold maxLen at this; exact this
  have HR : Hid (RowE w a len cap ps) := hr
  have HWy : Hid (Ways w) := hWy
  have HEN := enew_any k n2 w hk.1 hk.2
  have HRN := fun W => rnew14_any k n2 W
  clear hr hn hk hWy
  obtain ⟨m, hmin, hm100, hml⟩ : ∃ m : Nat, min (len : Int) 100 = (m : Int) ∧ m ≤ 100 ∧ m ≤ len := ⟨(min (len : Int) 100).toNat, by omega, by omega, by omega⟩
  have hfr : a.map (·.add 0) = a := by
    cases a with
    | none => rfl
    | some x => simp [Addr.add]
  have hmm : (if (100 : Int) < (len : Int) then (100 : Int) else (len : Int)) = (m : Int) := by split <;> omega
  go_enter Tryz.func3, Tryz.ntmps3
  go_wp2_with fail
  refine HEN.mono ?_
  rintro r w1 ⟨C, lc, rfl, hC, hE, hb1, hl1⟩
  clear HEN
  go_wp2_with fail
  refine (HRN w1).mono ?_
  rintro r w2 ⟨R, lr, rfl, hR, hN, hb2, hl2⟩
  have hP2 := pr14_new hC hE hb1 hl1 hR hN hb2 hl2
  clear hC hE hb1 hl1 hR hN hb2 hl2 HRN
  obtain ⟨B, hB⟩ : ∃ B, B = w.heap.size := ⟨_, rfl⟩
  rw [← hB] at hP2
  have HC : Hid (B = w.heap.size) := hB
  have HE0 : Hid (Em.rest (Em.new k n2) = Em.new k n2) := rfl
  generalize Em.new k n2 = e0 at hP2 HE0
  clear hB
  go_wp2_with fail
  refine (ewakes_any _ (HWy.out.later (by have := hP2.bel; rw [HC.out] at this; exact this))).mono ?_
  rintro r w3 ⟨rfl, hb3⟩
  have hP3 := hP2.same hb3
  clear hP2 hb3
  go_wp2_with fail
  refine (sameE_pr (o := e0.out) hP3).mono ?_
  rintro r w4 ⟨rfl, hb4⟩
  have HP4 : Hid (Pr14 B w w4 (fun _ => False) C R e0 e0) := hP3.same hb4
  clear hP3 hb4
  go_wp2
  clear hmin hfr hmm
  go_loopw [32] (fun c wr => ∃ (j : Nat) (e : Em.St) (o : List Em.Eff), j ≤ m ∧ c = .int .i64 j ∧ Hid (Pr14 B w wr (fun _ => False) C R e { e with out := o })) (fun c _ => m - (intOf c).toNat)
  case atStart => exact ⟨0, e0, e0.out, Nat.zero_le _, rfl, HP4⟩
  case round =>
    obtain ⟨j, e, o, hjm, rfl, HP⟩ := hrel
    clear HP4 HE0
    by_cases hlt : j < m
    · obtain ⟨bb, off, q, rfl, hbb, hqe, hok, hat⟩ := HR.out.at j (by omega)
      have hbC : bb < B := by rw [HC.out]; exact hbb
      have hbr : bb < wr.heap.size := by have := HP.out.bs; omega
      have d0 : wr.cell? ⟨bb, off + j * 16, none⟩ = some (.int .i64 q.d) := (HP.out.bel.cell (p := ⟨bb, off + j * 16 + 0, none⟩) hbC).trans (hat 0 _ rfl)
      have d1 : wr.cell? ⟨bb, off + j * 16 + 1, none⟩ = some (.int .i64 q.ask) := (HP.out.bel.cell (p := ⟨bb, off + j * 16 + 1, none⟩) hbC).trans (hat 1 _ rfl)
      have d2 : wr.cell? ⟨bb, off + j * 16 + 2, none⟩ = some (.int .i64 q.timer) := (HP.out.bel.cell (p := ⟨bb, off + j * 16 + 2, none⟩) hbC).trans (hat 2 _ rfl)
      have d3 : wr.cell? ⟨bb, off + j * 16 + 3, none⟩ = some (.int .i64 q.tei) := (HP.out.bel.cell (p := ⟨bb, off + j * 16 + 3, none⟩) hbC).trans (hat 3 _ rfl)
      have d4 : wr.cell? ⟨bb, off + j * 16 + 4, none⟩ = some (.string q.data) := (HP.out.bel.cell (p := ⟨bb, off + j * 16 + 4, none⟩) hbC).trans (hat 4 _ rfl)
      have d5 : wr.cell? ⟨bb, off + j * 16 + 5, none⟩ = some (.int .i64 q.f.sapi) := (HP.out.bel.cell (p := ⟨bb, off + j * 16 + 5, none⟩) hbC).trans (hat 5 _ rfl)
      have d6 : wr.cell? ⟨bb, off + j * 16 + 6, none⟩ = some (.int .i64 q.f.tei) := (HP.out.bel.cell (p := ⟨bb, off + j * 16 + 6, none⟩) hbC).trans (hat 6 _ rfl)
      have d7 : wr.cell? ⟨bb, off + j * 16 + 7, none⟩ = some (.bool q.f.c) := (HP.out.bel.cell (p := ⟨bb, off + j * 16 + 7, none⟩) hbC).trans (hat 7 _ rfl)
      have d8 : wr.cell? ⟨bb, off + j * 16 + 8, none⟩ = some (.int .i64 q.f.k) := (HP.out.bel.cell (p := ⟨bb, off + j * 16 + 8, none⟩) hbC).trans (hat 8 _ rfl)
      have d9 : wr.cell? ⟨bb, off + j * 16 + 9, none⟩ = some (.bool q.f.pf) := (HP.out.bel.cell (p := ⟨bb, off + j * 16 + 9, none⟩) hbC).trans (hat 9 _ rfl)
      have d10 : wr.cell? ⟨bb, off + j * 16 + 10, none⟩ = some (.int .i64 q.f.ns) := (HP.out.bel.cell (p := ⟨bb, off + j * 16 + 10, none⟩) hbC).trans (hat 10 _ rfl)
      have d11 : wr.cell? ⟨bb, off + j * 16 + 11, none⟩ = some (.int .i64 q.f.nr) := (HP.out.bel.cell (p := ⟨bb, off + j * 16 + 11, none⟩) hbC).trans (hat 11 _ rfl)
      have d12 : wr.cell? ⟨bb, off + j * 16 + 12, none⟩ = some (.string q.f.info) := (HP.out.bel.cell (p := ⟨bb, off + j * 16 + 12, none⟩) hbC).trans (hat 12 _ rfl)
      have d13 : wr.cell? ⟨bb, off + j * 16 + 13, none⟩ = some (.bool q.near) := (HP.out.bel.cell (p := ⟨bb, off + j * 16 + 13, none⟩) hbC).trans (hat 13 _ rfl)
      have d14 : wr.cell? ⟨bb, off + j * 16 + 14, none⟩ = some (.int .i64 q.n) := (HP.out.bel.cell (p := ⟨bb, off + j * 16 + 14, none⟩) hbC).trans (hat 14 _ rfl)
      have d15 : wr.cell? ⟨bb, off + j * 16 + 15, none⟩ = some (.int .i64 q.m) := (HP.out.bel.cell (p := ⟨bb, off + j * 16 + 15, none⟩) hbC).trans (hat 15 _ rfl)
      have HQk : Hid q.Ok := hok
      clear hat hqe hok hbb hbC
      have HA : Hid (Below wr.heap.size wr (wr.alloc (.cells (actL q).toArray 34))) := (Below.refl _ _).alloc (Nat.le_refl _) _
      have HACT := act_any B w (wr.alloc (.cells (actL q).toArray 34)) (fun _ => False) C R e o q (HP.out.same HA.out) HQk.out (HWy.out.later (by have := (HP.out.same HA.out).bel; rw [HC.out] at this; exact this))
      unfold ActE.v at HACT
      go_wp2_with fail
      refine HACT.mono ?_
      rintro r w5 ⟨rfl, hP5, -⟩
      have HST : Hid (Pr14 B w w5 (fun _ => False) C R (Em.nxt e q) { Em.nxt e q with out := (Em.stp e q).1.out }) := hP5
      clear hP5 HACT HA HP hbr d0 d1 d2 d3 d4 d5 d6 d7 d8 d9 d10 d11 d12 d13 d14 d15
      generalize Em.nxt e q = e' at HST
      generalize (Em.stp e q).1.out = o' at HST
      go_wp2_with fail
      refine (sameE_pr (o := o') HST.out).mono ?_
      rintro r w6 ⟨rfl, hb6⟩
      have HP6 : Hid (Pr14 B w w6 (fun _ => False) C R e' { e' with out := o' }) := HST.out.same hb6
      clear HST hb6
      go_wp2
      go_roundw
      case rel => exact ⟨j + 1, e', o', by omega, by go_num, HP6⟩
      case measure => simp [intOf]; omega
    · have HB : Hid (Below B w wr) := HP.out.bel
      clear HP
      go_wp2
      go_ret
      exact ⟨rfl, by have := HB.out; rw [HC.out] at this; exact this⟩
end Go.Proofs.YtidemohpngkedabGreatDoor
