/-
  What an entity's bounds are stays: N200 as it counts, and k. It names nothing of the program.
  The law's function 'after': both entities behind acts.
  An entity of the call's own behind acts: its doors, with what they hand out.
-/
import Derived.Test.YtidemohpngkedabGreatDoorEntPair
import Derived.Test.YtidemohpngkedabGreatDoorEntPlus
import Derived.Test.YtidemohpngkedabGreatDoorEntAct
import Derived.Test.YtidemohpngkedabGreatDoorRefCalls
import Derived.Test.YtidemohpngkedabGreatDoorEntNew
import Derived.Test.YtidemohpngkedabGreatDoorActE
import Derived.OwnWalk
import Derived.Test.YtidemohpngkedabGreatDoorEntView
namespace Go.Proofs.YtidemohpngkedabGreatDoor.Em
open Go.RowKit
set_option linter.unusedVariables false
set_option maxRecDepth 100000

def Cst (m kk : Int) (e : St) : Prop := e.most = m ∧ e.fl.k = kk
section
variable {m kk : Int} {e : St}
theorem Cst.of (h : Cst m kk e) {e' : St} (h1 : e'.most = e.most) (h2 : e'.fl.k = e.fl.k) : Cst m kk e' := ⟨h1.trans h.1, h2.trans h.2⟩
theorem stop200_c (h : Cst m kk e) : Cst m kk (stop200 e) := by unfold stop200; split <;> exact h
theorem stop203_c (h : Cst m kk e) : Cst m kk (stop203 e) := by unfold stop203; split <;> exact h
theorem tell_c (h : Cst m kk e) (k : Int) (d : ByteArray) : Cst m kk (tell e k d) := h
theorem send_c (h : Cst m kk e) (f : Fr) : Cst m kk (send e f) := h
theorem start200_c (h : Cst m kk e) : Cst m kk (start200 e) := h
theorem start203_c (h : Cst m kk e) : Cst m kk (start203 e) := h
theorem call_c (h : Cst m kk e) : Cst m kk (call e) := stop203_c (e := send { e with tries := 0 } (bare true 4 true)) h
theorem anew_c (h : Cst m kk e) (l : ByteArray) : Cst m kk (anew e l) := call_c (e := { tell e 7 l with asked := false }) h
theorem goOne_c (h : Cst m kk e) : Cst m kk (goOne e) := by
  have h1 : Cst m kk (send { e with fl := Wm.takeT e.fl } ⟨0, 0, true, 0, false, Wm.takeN e.fl, 0, Wm.takeS e.fl⟩) := ⟨h.1, (Wm.takeT_k e.fl).1.trans h.2⟩
  unfold goOne
  simp only []
  split
  · exact h1
  · exact start200_c (stop203_c h1)
theorem goN_c : ∀ (n : Nat) {e : St}, Cst m kk e → Cst m kk (goN n e)
  | 0, e, h => h
  | n + 1, e, h => by
    unfold goN
    split
    · exact goN_c n (goOne_c h)
    · exact h
theorem goOn_c (h : Cst m kk e) : Cst m kk (goOn e) := by
  unfold goOn
  split
  · exact goN_c 128 h
  · exact h
theorem open_c (h : Cst m kk e) : Cst m kk (open' e) := goOn_c (e := { start203 (stop200 { e with fl := Wm.resetT e.fl }) with state := 7 }) (stop200_c (e := { e with fl := Wm.resetT e.fl }) h)
theorem answer_c (h : Cst m kk e) (c pf : Bool) : Cst m kk (answer e c pf) := h
theorem inquire_c (h : Cst m kk e) : Cst m kk (inquire e) := h
theorem clear_c (h : Cst m kk e) : Cst m kk (clear e) := h
theorem end_c (h : Cst m kk e) : Cst m kk (end' e) := stop203_c (stop200_c (e := clear e) h)
theorem unsure_c (h : Cst m kk e) : Cst m kk (unsure e) := by unfold unsure; split <;> exact h
theorem count_c (h : Cst m kk e) (n : Int) : Cst m kk (count e n) := by
  unfold count
  split
  · exact start203_c (stop200_c h)
  · split <;> exact h
theorem establish_c (h : Cst m kk e) : Cst m kk (establish e).1 := by
  unfold establish
  split
  · exact h
  · split
    · exact h
    · split
      · exact h
      · split
        · exact h
        · split
          · exact call_c (e := { e with asked := true }) h
          · split
            · exact call_c (e := { clear e with asked := true }) h
            · exact h
theorem release_c (h : Cst m kk e) : Cst m kk (release e).1 := by
  unfold release
  split
  · exact h
  · split
    · exact stop203_c (e := send { clear e with tries := 0 } (bare true 7 true)) h
    · exact h
theorem data_c (h : Cst m kk e) (s : ByteArray) : Cst m kk (data e s).1 := by
  unfold data
  split
  · show Cst m kk (if Qm.pushN e.fl.mo e.fl.L s = 0 then goOn { e with fl := Wm.pushT e.fl s } else e)
    split
    · exact goOn_c (e := { e with fl := Wm.pushT e.fl s }) h
    · exact h
  · exact h
theorem units_c (h : Cst m kk e) (s : ByteArray) : Cst m kk (units e s).1 := by
  unfold units
  repeat' split
  all_goals exact h
theorem busy_c (h : Cst m kk e) (b : Bool) : Cst m kk (busy e b).1 := by
  unfold busy
  split
  · show Cst m kk (if e.fl.ow = b then e else answer { e with fl := Wm.ownT e.fl b } false false)
    split <;> exact h
  · exact h
theorem ask_c (h : Cst m kk e) (a : Int) (s : ByteArray) : Cst m kk (ask e a s).1 := by
  have h0 : Cst m kk { e with out := [] } := h
  unfold ask
  simp only []
  split
  · exact h0
  · split
    · exact h0
    · split
      · exact establish_c h0
      · split
        · exact release_c h0
        · split
          · exact data_c h0 s
          · split
            · exact units_c h0 s
            · exact busy_c h0 _
theorem unitsOut_c : ∀ (l : List ByteArray) {e : St}, Cst m kk e → Cst m kk (unitsOut e l)
  | [], e, h => h
  | s :: l, e, h => unitsOut_c l (e := unit e s) h
theorem assign_c (h : Cst m kk e) (tei : Int) : Cst m kk (assign e tei).1 := by
  have h0 : Cst m kk { e with out := [] } := h
  unfold assign
  simp only []
  split
  · exact h0
  · split
    · exact h0
    · have h1 : Cst m kk (unitsOut { e with out := [], tei := tei, state := 4 } e.units) := unitsOut_c e.units (e := { e with out := [], tei := tei, state := 4 }) h
      show Cst m kk (if e.state = 3 then _ else _)
      split
      · exact call_c (e := { { unitsOut { e with out := [], tei := tei, state := 4 } e.units with units := [] } with asked := true }) h1
      · exact h1
theorem remove_c (h : Cst m kk e) : Cst m kk (remove e).1 := by
  have h0 : Cst m kk { e with out := [] } := h
  have h1 := end_c h0
  unfold remove
  simp only []
  split
  · exact h0
  · generalize end' { e with out := [] } = e1 at h1
    show Cst m kk { (if e.state = 3 ∨ e.state = 5 ∨ e.state = 7 ∨ e.state = 8 then tell e1 3 ByteArray.empty else if e.state = 6 then tell e1 4 ByteArray.empty else e1) with units := [], tei := -1, state := 1 }
    split
    · exact h1
    · split <;> exact h1
theorem inAssigned_c (h : Cst m kk e) (f : Fr) : Cst m kk (inAssigned e f) := by
  unfold inAssigned
  split
  · exact open_c (e := tell (reply e 8 f) 1 ByteArray.empty) h
  · split
    · exact h
    · split
      · exact h
      · split
        · exact call_c (e := { e with asked := true }) h
        · exact h
theorem inConnecting_c (h : Cst m kk e) (f : Fr) : Cst m kk (inConnecting e f) := by
  unfold inConnecting
  split
  · exact h
  · split
    · exact h
    · split
      · split
        · have h1 : Cst m kk (if e.asked = true then tell e 2 ByteArray.empty else unsure e) := by
            split
            · exact h
            · exact unsure_c h
          exact open_c (e := { (if e.asked = true then tell e 2 ByteArray.empty else unsure e) with asked := false }) h1
        · exact h
      · split
        · exact end_c (e := tell e 3 ByteArray.empty) h
        · exact h
theorem inReleasing_c (h : Cst m kk e) (f : Fr) : Cst m kk (inReleasing e f) := by
  unfold inReleasing
  split
  · exact h
  · split
    · exact h
    · split
      · split
        · exact end_c (e := tell e 4 ByteArray.empty) h
        · exact h
      · split
        · exact end_c (e := tell e 4 ByteArray.empty) h
        · exact h
theorem super1_c (h : Cst m kk e) (f : Fr) : Cst m kk (super1 e f) := by
  unfold super1
  simp only []
  have h1 : Cst m kk (if (f.c && f.pf) = true then answer e false true else e) := by split <;> exact h
  generalize (if (f.c && f.pf) = true then answer e false true else e) = e1 at h1
  have h2 : Cst m kk (if (!f.c && f.pf && decide (e.state = 7)) = true then tell e1 7 (letter 65) else e1) := by split <;> exact h1
  exact h2
theorem super2_c (h : Cst m kk e) (f : Fr) (n : Int) : Cst m kk (super2 e f n) := by
  unfold super2
  split
  · split
    · exact h
    · have h1 : Cst m kk (if f.k = 2 then start200 e else start203 (stop200 e)) := by
        split
        · exact h
        · exact start203_c (stop200_c h)
      exact goOn_c (e := { (if f.k = 2 then start200 e else start203 (stop200 e)) with fl := Wm.backT (if f.k = 2 then start200 e else start203 (stop200 e)).fl, state := 7 }) h1
  · refine goOn_c ?_
    split
    · exact count_c h n
    · split
      · exact start200_c (stop203_c h)
      · exact start203_c (stop200_c h)
theorem acked_c (h : Cst m kk e) (n : Int) : Cst m kk { e with fl := Wm.ackT e.fl n } := ⟨h.1, (Wm.ackT_k e.fl n).1.trans h.2⟩
theorem supervised_c (h : Cst m kk e) (f : Fr) : Cst m kk (supervised e f) := by
  have h1 := acked_c (super1_c h f) f.nr
  unfold supervised
  simp only []
  split
  · exact super2_c h1 f _
  · exact anew_c h1 _
theorem info1_c (h : Cst m kk e) (f : Fr) : Cst m kk (info1 e f) := by
  have h1 : Cst m kk { e with fl := Wm.comeT e.fl f.ns } := ⟨h.1, (Wm.comeT_k e.fl f.ns).1.trans h.2⟩
  unfold info1
  simp only []
  split
  · exact h1
  · split
    · exact h1
    · split <;> exact h1
theorem info_c (h : Cst m kk e) (f : Fr) : Cst m kk (info e f) := by
  have h1 := acked_c (info1_c h f) f.nr
  unfold info
  simp only []
  split
  · split
    · refine goOn_c ?_
      split
      · exact h1
      · exact count_c h1 _
    · exact h1
  · exact anew_c h1 _
theorem inOpen_c (h : Cst m kk e) (f : Fr) : Cst m kk (inOpen e f) := by
  unfold inOpen
  split
  · exact open_c (unsure_c (e := tell (reply e 8 f) 7 (letter 70)) h)
  · split
    · exact end_c (e := tell (reply e 8 f) 3 ByteArray.empty) h
    · split
      · exact h
      · split
        · exact anew_c h _
        · split
          · exact anew_c h _
          · split
            · exact info_c h f
            · exact supervised_c h f
theorem frame_c (h : Cst m kk e) (may : Bool) (f : Fr) : Cst m kk (frame e may f) := by
  have h0 : Cst m kk { e with out := [] } := h
  unfold frame
  simp only []
  split
  · exact h0
  · split
    · exact h0
    · split
      · exact inAssigned_c h0 _
      · split
        · exact inConnecting_c h0 _
        · split
          · exact inReleasing_c h0 _
          · exact inOpen_c h0 _
theorem again_c (h : Cst m kk e) (k : Int) (l : ByteArray) (g : Int) : Cst m kk (again e k l g) := by
  unfold again
  split
  · exact end_c (e := tell (tell e 7 l) g ByteArray.empty) h
  · exact h
theorem timeout_c (h : Cst m kk e) (t : Int) : Cst m kk (timeout e t) := by
  have h0 : Cst m kk { e with out := [] } := h
  have h1 : Cst m kk { e with out := [], t200 := false } := h
  unfold timeout
  simp only []
  split
  · split
    · split <;> exact h
    · exact h0
  · split
    · split
      · exact again_c h1 _ _ _
      · split
        · exact again_c h1 _ _ _
        · split
          · exact h
          · split
            · split
              · exact anew_c h1 _
              · exact h
            · exact h
    · exact h0
theorem stp_c (h : Cst m kk e) (q : ActE) : Cst m kk (stp e q).1 := by
  unfold stp
  split
  · exact ask_c h _ _
  · split
    · exact timeout_c h _
    · split
      · exact assign_c h _
      · split
        · exact remove_c h
        · exact frame_c h _ _
theorem run_c : ∀ (l : List ActE) {e : St}, Cst m kk e → Cst m kk (l.foldl nxt e)
  | [], e, h => h
  | q :: l, e, h => run_c l (e := nxt e q) (stp_c h q)
end
theorem stp_u1 {e : St} (ho : Ok e) (ht : Tm e) (hu : U1 e) (q : ActE) : U1 (stp e q).1 := by
  unfold stp
  split
  · exact ask_u1 ho hu _ _
  · split
    · exact timeout_u1 ho ht hu _
    · split
      · exact assign_u1 hu _
      · split
        · exact remove_u1 hu
        · exact frame_u1 ho hu _ _
theorem run_u1 : ∀ (l : List ActE) {e : St}, (∀ q ∈ l, q.Ok) → Ok e → Tm e → U1 e → U1 (l.foldl nxt e)
  | [], e, _, _, _, hu => hu
  | q :: l, e, hl, ho, ht, hu => by
    have h1 := stp_ok ho q (hl q (List.mem_cons_self ..))
    have h2 := stp_tm ho ht q
    exact run_u1 l (e := nxt e q) (fun x hx => hl x (List.mem_cons_of_mem _ hx)) (h1.fresh []) ⟨h2.a, h2.b, h2.c⟩ (stp_u1 ho ht hu q)
end Go.Proofs.YtidemohpngkedabGreatDoor.Em

namespace Go.Proofs.YtidemohpngkedabGreatDoor
open Go.RowKit
set_option linter.unusedVariables false
set_option maxRecDepth 100000
set_option linter.unusedSimpArgs false

/-- behind acts -/
def Em.run (e : Em.St) (l : List ActE) : Em.St := l.foldl Em.nxt e
theorem Em.run_snoc (e : Em.St) (l : List ActE) (q : ActE) : Em.run e (l ++ [q]) = Em.nxt (Em.run e l) q := by simp [Em.run, List.foldl_append]
theorem acts_take (l : List ActE) (i : Nat) (hi : i < l.length) : l.take (i + 1) = l.take i ++ [l.getD i acte0] := by
  rw [List.take_add_one, List.getElem?_eq_getElem hi]
  simp [List.getD, List.getElem?_eq_getElem hi]
/-- how many acts count -/
def capN (len N : Nat) : Nat := min len N
/-- both made one behind the other -/
theorem pra_new {w w1 w2 : World} {C R : Nat} {lc lr : Nat → Nat} {e : Em.St} (hC : w.heap.size ≤ C) (hE : Ent C w1 lc e) (hb1 : Below w.heap.size w w1) (hl1 : ∀ k, k < w.heap.size → lc k = 0)
    (hR : w1.heap.size ≤ R) (hN : Rn R w2 lr e) (hb2 : Below w1.heap.size w1 w2) (hl2 : ∀ k, k < w1.heap.size → lr k = 0) : Pr14 w.heap.size w w2 (fun _ => False) C R e e := by
  refine ⟨⟨fresh lc w1.heap.size 0, lr, hE.below hb2, hN, fun k hk => ?_, fun k hk => ?_, fun k hk => hk.elim⟩, hb1.trans (hb2.mono hb1.size), Nat.le_trans hb1.size hb2.size⟩
  · rcases Nat.lt_or_ge k w1.heap.size with h | h
    · exact Or.inr (hl2 k h)
    · exact Or.inl (fresh_new h)
  · have := hb1.size
    rw [fresh_old (by omega)]
    exact ⟨hl1 k hk, hl2 k (by omega)⟩
set_option maxHeartbeats 4000000 in
theorem after_any (k n2 : Int) (a : Option Addr) (len cap : Nat) (ps : List ActE) (w : World) (hk : -9223372036854775808 ≤ k ∧ k ≤ 9223372036854775807) (hr : RowE w a len cap ps) (hWy : Ways w) :
    Calls Tryz.prog 14 #[.int .i64 k, .int .i64 n2, .slice a len cap] w fun r w' => ∃ C R o, r = .returned (.tuple #[.pointer (some ⟨C, 0, none⟩), .pointer (some ⟨R, 0, none⟩)]) ∧ Pr14 w.heap.size w w' (fun _ => False) C R (Em.run (Em.new k n2) (ps.take (capN len 60))) { Em.run (Em.new k n2) (ps.take (capN len 60)) with out := o } := by
  have hlc : len ≤ cap := hr.2.1
  have hcm : cap ≤ 9223372036854775807 := by have := hr.2.2.1; unfold maxLen at this; exact this
  have HR : Hid (RowE w a len cap ps) := hr
  have HWy : Hid (Ways w) := hWy
  have HEN := enew_any k n2 w hk.1 hk.2
  have HRN := fun W => rnew14_any k n2 W
  have hpl : ps.length = len := hr.1
  have HPL : Hid (ps.length = len) := hpl
  clear hr hk hWy hpl
  obtain ⟨m, hmc, hmin, hm60, hml⟩ : ∃ m : Nat, m = capN len 60 ∧ min (len : Int) 60 = (m : Int) ∧ m ≤ 60 ∧ m ≤ len := ⟨capN len 60, rfl, by unfold capN; omega, by unfold capN; omega, by unfold capN; omega⟩
  rw [← hmc]
  clear hmc
  have hfr : a.map (·.add 0) = a := by
    cases a with
    | none => rfl
    | some x => simp [Addr.add]
  have hmm : (if (60 : Int) < (len : Int) then (60 : Int) else (len : Int)) = (m : Int) := by split <;> omega
  go_enter Tryz.func14, Tryz.ntmps14
  go_wp2_with fail
  refine HEN.mono ?_
  rintro r w1 ⟨C, lc, rfl, hC, hE, hb1, hl1⟩
  clear HEN
  go_wp2_with fail
  refine (HRN w1).mono ?_
  rintro r w2 ⟨R, lr, rfl, hR, hN, hb2, hl2⟩
  have HP2 : Hid (Pr14 w.heap.size w w2 (fun _ => False) C R (Em.new k n2) (Em.new k n2)) := pra_new hC hE hb1 hl1 hR hN hb2 hl2
  clear hC hE hb1 hl1 hR hN hb2 hl2 HRN
  obtain ⟨B, hB⟩ : ∃ B, B = w.heap.size := ⟨_, rfl⟩
  rw [← hB] at HP2
  have HC : Hid (B = w.heap.size) := hB
  obtain ⟨e0, he0⟩ : ∃ e0, e0 = Em.new k n2 := ⟨_, rfl⟩
  rw [← he0] at HP2
  have HE0 : Hid (e0 = Em.new k n2) := he0
  clear he0
  clear hB
  go_wp2
  clear hmin hfr hmm
  go_loopw [25] (fun c wr => ∃ (j : Nat) (o : List Em.Eff), j ≤ m ∧ c = .int .i64 j ∧ Hid (Pr14 B w wr (fun _ => False) C R (Em.run e0 (ps.take j)) { Em.run e0 (ps.take j) with out := o })) (fun c _ => m - (intOf c).toNat)
  case atStart => exact ⟨0, e0.out, Nat.zero_le _, rfl, HP2⟩
  case round =>
    obtain ⟨j, o, hjm, rfl, HP⟩ := hrel
    clear HP2
    by_cases hlt : j < m
    · obtain ⟨bb, off, q, rfl, hbb, hqe, hok, hat⟩ := HR.out.at j (by omega)
      have hbC : bb < B := by rw [HC.out]; exact hbb
      have hbr : bb < wr.heap.size := by have := HP.out.bs; omega
      have d0 : wr.cell? ⟨bb, off + j * 16, none⟩ = some (.int .i64 q.d) := (HP.out.bel.cell (p := ⟨bb, off + j * 16 + 0, none⟩) hbC).trans (hat 0 _ rfl)
      have d1 : wr.cell? ⟨bb, off + j * 16 + 1, none⟩ = some (.int .i64 q.ask) := (HP.out.bel.cell (p := ⟨bb, off + j * 16 + 1, none⟩) hbC).trans (hat 1 _ rfl)
      have d2 : wr.cell? ⟨bb, off + j * 16 + 2, none⟩ = some (.int .i64 q.timer) := (HP.out.bel.cell (p := ⟨bb, off + j * 16 + 2, none⟩) hbC).trans (hat 2 _ rfl)
      have d3 : wr.cell? ⟨bb, off + j * 16 + 3, none⟩ = some (.int .i64 q.tei) := (HP.out.bel.cell (p := ⟨bb, off + j * 16 + 3, none⟩) hbC).trans (hat 3 _ rfl)
      have d4 : wr.cell? ⟨bb, off + j * 16 + 4, none⟩ = some (.string q.data) := (HP.out.bel.cell (p := ⟨bb, off + j * 16 + 4, none⟩) hbC).trans (hat 4 _ rfl)
      have d5 : wr.cell? ⟨bb, off + j * 16 + 5, none⟩ = some (.int .i64 q.f.sapi) := (HP.out.bel.cell (p := ⟨bb, off + j * 16 + 5, none⟩) hbC).trans (hat 5 _ rfl)
      have d6 : wr.cell? ⟨bb, off + j * 16 + 6, none⟩ = some (.int .i64 q.f.tei) := (HP.out.bel.cell (p := ⟨bb, off + j * 16 + 6, none⟩) hbC).trans (hat 6 _ rfl)
      have d7 : wr.cell? ⟨bb, off + j * 16 + 7, none⟩ = some (.bool q.f.c) := (HP.out.bel.cell (p := ⟨bb, off + j * 16 + 7, none⟩) hbC).trans (hat 7 _ rfl)
      have d8 : wr.cell? ⟨bb, off + j * 16 + 8, none⟩ = some (.int .i64 q.f.k) := (HP.out.bel.cell (p := ⟨bb, off + j * 16 + 8, none⟩) hbC).trans (hat 8 _ rfl)
      have d9 : wr.cell? ⟨bb, off + j * 16 + 9, none⟩ = some (.bool q.f.pf) := (HP.out.bel.cell (p := ⟨bb, off + j * 16 + 9, none⟩) hbC).trans (hat 9 _ rfl)
      have d10 : wr.cell? ⟨bb, off + j * 16 + 10, none⟩ = some (.int .i64 q.f.ns) := (HP.out.bel.cell (p := ⟨bb, off + j * 16 + 10, none⟩) hbC).trans (hat 10 _ rfl)
      have d11 : wr.cell? ⟨bb, off + j * 16 + 11, none⟩ = some (.int .i64 q.f.nr) := (HP.out.bel.cell (p := ⟨bb, off + j * 16 + 11, none⟩) hbC).trans (hat 11 _ rfl)
      have d12 : wr.cell? ⟨bb, off + j * 16 + 12, none⟩ = some (.string q.f.info) := (HP.out.bel.cell (p := ⟨bb, off + j * 16 + 12, none⟩) hbC).trans (hat 12 _ rfl)
      have d13 : wr.cell? ⟨bb, off + j * 16 + 13, none⟩ = some (.bool q.near) := (HP.out.bel.cell (p := ⟨bb, off + j * 16 + 13, none⟩) hbC).trans (hat 13 _ rfl)
      have d14 : wr.cell? ⟨bb, off + j * 16 + 14, none⟩ = some (.int .i64 q.n) := (HP.out.bel.cell (p := ⟨bb, off + j * 16 + 14, none⟩) hbC).trans (hat 14 _ rfl)
      have d15 : wr.cell? ⟨bb, off + j * 16 + 15, none⟩ = some (.int .i64 q.m) := (HP.out.bel.cell (p := ⟨bb, off + j * 16 + 15, none⟩) hbC).trans (hat 15 _ rfl)
      have HQk : Hid q.Ok := hok
      have HTK : Hid (ps.take (j + 1) = ps.take j ++ [q]) := by show _ = _; rw [hqe]; exact acts_take ps j (by rw [HPL.out]; omega)
      clear hat hqe hok hbb hbC
      have HA : Hid (Below wr.heap.size wr (wr.alloc (.cells (actL q).toArray 34))) := (Below.refl _ _).alloc (Nat.le_refl _) _
      have HACT := act_any B w (wr.alloc (.cells (actL q).toArray 34)) (fun _ => False) C R _ o q (HP.out.same HA.out) HQk.out (HWy.out.later (by have := (HP.out.same HA.out).bel; rw [HC.out] at this; exact this))
      unfold ActE.v at HACT
      go_wp2_with fail
      refine HACT.mono ?_
      rintro r w5 ⟨rfl, hP5, -⟩
      have HST : Hid (Pr14 B w w5 (fun _ => False) C R (Em.run e0 (ps.take (j + 1))) { Em.run e0 (ps.take (j + 1)) with out := (Em.stp (Em.run e0 (ps.take j)) q).1.out }) := by
        show Pr14 _ _ _ _ _ _ _ _
        rw [HTK.out, Em.run_snoc]
        exact hP5
      clear hP5 HACT HA HP hbr HTK d0 d1 d2 d3 d4 d5 d6 d7 d8 d9 d10 d11 d12 d13 d14 d15
      generalize (Em.stp (Em.run e0 (ps.take j)) q).1.out = o' at HST
      go_wp2
      go_roundw
      case rel => exact ⟨j + 1, o', by omega, by go_num, HST⟩
      case measure => simp [intOf]; omega
    · have hjm2 : j = m := by omega
      subst hjm2
      clear hlt
      go_wp2
      go_ret2
      have hq := HP.out
      rw [HC.out, HE0.out] at hq
      exact ⟨C, R, rfl, o, hq⟩
end Go.Proofs.YtidemohpngkedabGreatDoor

namespace Go.Proofs.YtidemohpngkedabGreatDoor
open Go.RowKit
set_option linter.unusedVariables false
set_option maxRecDepth 100000
set_option linter.unusedSimpArgs false

theorem RowE.oks {w : World} {a : Option Addr} {len cap : Nat} {ps : List ActE} (h : RowE w a len cap ps) : ∀ q ∈ ps, q.Ok := h.2.2.2.1
theorem RowE.later {w w' : World} {a : Option Addr} {len cap : Nat} {ps : List ActE} (h : RowE w a len cap ps) (hb : Below w.heap.size w w') : RowE w' a len cap ps := by
  obtain ⟨h1, h2, h3, h4, h5⟩ := h
  refine ⟨h1, h2, h3, h4, ?_⟩
  rcases h5 with h0 | ⟨b, off, e, hlt, hc⟩
  · exact Or.inl h0
  · exact Or.inr ⟨b, off, e, Nat.lt_of_lt_of_le hlt hb.size, fun i hi j u hu => (hb.cell (p := ⟨b, off + i * 16 + j, none⟩) hlt).trans (hc i hi j u hu)⟩
/-- an entity of the call's own; below b all is as in W0; the blocks F aren't its -/
structure EH (b : Nat) (W0 w : World) (F : Nat → Prop) (C : Nat) (e : Em.St) : Prop where
  en : ∃ lab, Ent C w lab e ∧ (∀ k, k < b → lab k = 0) ∧ ∀ k, F k → k < w.heap.size ∧ lab k = 0
  bel : Below b W0 w
  bs : b ≤ w.heap.size
/-- what stands in a block -/
def Blk (w : World) (B : Nat) (xs : List Value) : Prop := B < w.heap.size ∧ ∀ k u, xs[k]? = some u → w.cell? ⟨B, k, none⟩ = some u
theorem Blk.below {w w' : World} {B : Nat} {xs : List Value} (h : Blk w B xs) (hb : Below w.heap.size w w') : Blk w' B xs := ⟨Nat.lt_of_lt_of_le h.1 hb.size, fun k u hu => (hb.cell (p := ⟨B, k, none⟩) h.1).trans (h.2 k u hu)⟩
theorem Blk.kept {w w' : World} {B : Nat} {xs : List Value} {T : Nat → Prop} (h : Blk w B xs) (hk : Kept w w' T) (hT : ¬ T B) : Blk w' B xs := ⟨Nat.lt_of_lt_of_le h.1 hk.size, fun k u hu => (hk.cell (p := ⟨B, k, none⟩) h.1 hT).trans (h.2 k u hu)⟩
theorem owns_low {w : World} {b base : Nat} {ty : TypeId} {sz : Nat} {v : Value} {n : Nat} {xs : List Value} (h : w.ownsRow base ty sz v n xs) (hb : b ≤ base) : w.ownsRow b ty sz v n xs := owns_up h (fun B hB => by
  rcases h.2 with ⟨h0, _⟩ | ⟨g, c, cur, hv, hx, _⟩
  · rw [h0] at hB; cases hB
  · rw [hv] at hB
    have : g = B := by simpa [Value.ownBlock] using hB
    omega)
theorem owns_le {w : World} {base : Nat} {e : TypeId} {size : Nat} {a : Option Addr} {n cap : Nat} {xs : List Value} (h : w.ownsRow base e size (.slice a n cap) n xs) : n ≤ cap := by
  rcases h.2 with ⟨h1, h2⟩ | ⟨g, c, cur, hv, _, _, hle, _⟩
  · omega
  · injection hv with _ _ e
    omega
/-- a row of the call's own stays where nothing below is touched -/
theorem owns_bel {w w' : World} {base : Nat} {ty : TypeId} {sz : Nat} {v : Value} {n : Nat} {xs : List Value} (h : w.ownsRow base ty sz v n xs) (hb : Below w.heap.size w w') : w'.ownsRow base ty sz v n xs :=
  (Kept.of_below (T := fun _ => False) hb (fun k hk h' => by omega)).owns h (fun _ _ x => x)
theorem owns_cap {w : World} {base : Nat} {e : TypeId} {size : Nat} {a : Option Addr} {n cap : Nat} {xs : List Value} (h : w.ownsRow base e size (.slice a n cap) n xs) : cap ≤ 9223372036854775807 := by
  rcases h.2 with ⟨h1, h2⟩ | ⟨g, c, cur, hv, _, _, _, hm, _⟩
  · injection h1 with _ _ e; omega
  · injection hv with _ _ e
    unfold maxLen at hm
    omega
theorem eff_row {w : World} {b : Nat} {x : Option Addr} {cap : Nat} {l : List Em.Eff} (h : w.ownsRow b 57 11 (.slice x l.length cap) l.length (effsL l)) (i : Nat) (hi : i < l.length) : ∃ g, x = some ⟨g, 0, none⟩ ∧ EffAt w g (i * 11) (l.getD i eff0) := by
  obtain ⟨g, c, hv, _, _⟩ := World.ownsRow.form h (by omega)
  injection hv with e1 _ e2
  subst e1 e2
  exact ⟨g, rfl, effAt_of h rfl i hi⟩
theorem blk_new (w : World) (xs : List Value) (ty : TypeId) : Blk (w.alloc (.cells xs.toArray ty)) w.heap.size xs := by
  refine ⟨by simp, fun k u hu => ?_⟩
  simp [hu]
theorem Blk.drew {w : World} {B : Nat} {xs : List Value} (h : Blk w B xs) : Blk w.drew B xs := h.below (Below.refl _ _).drew
section
variable {b : Nat} {W0 w w' : World} {F F' : Nat → Prop} {C : Nat} {e : Em.St}
theorem EH.below (h : EH b W0 w F C e) (hb : Below w.heap.size w w') (hF : ∀ k, F' k → F k ∨ (w.heap.size ≤ k ∧ k < w'.heap.size)) : EH b W0 w' F' C e := by
  obtain ⟨lab, h1, h2, h3⟩ := h.en
  refine ⟨⟨fresh lab w.heap.size 0, h1.below hb, fun k hk => by rw [fresh_old (by have := h.bs; omega)]; exact h2 k hk, fun k hk => ?_⟩, h.bel.trans (hb.mono h.bs), Nat.le_trans h.bs hb.size⟩
  rcases hF k hk with h' | ⟨h', h''⟩
  · obtain ⟨x1, x2⟩ := h3 k h'
    rw [fresh_old x1]
    exact ⟨Nat.lt_of_lt_of_le x1 hb.size, x2⟩
  · rw [fresh_new h']
    exact ⟨h'', rfl⟩
theorem EH.same (h : EH b W0 w F C e) (hb : Below w.heap.size w w') : EH b W0 w' F C e := h.below hb (fun k hk => Or.inl hk)
theorem EH.told {lab : Nat → Nat} {x : Value} {e1 : Em.St} (hbs : b ≤ w.heap.size) (hbel : Below b W0 w) (h2 : ∀ k, k < b → lab k = 0) (h3 : ∀ k, F k → k < w.heap.size ∧ lab k = 0) (ht : Told C w w' lab x e1) : EH b W0 w' (fun k => F k ∨ x.ownBlock = some k) C (Em.rest e1) ∧ Mov b F w w' := by
  obtain ⟨y, cap, hv, ho⟩ := ht.row
  have hg : ∀ B, x.ownBlock = some B → B < w'.heap.size := fun B hB => owns_blt ho hB
  obtain ⟨lab', k1, k2, k3, k4⟩ := ht.next
  have hkb : ∀ k, lab k ≠ 0 → b ≤ k := fun k hk => by
    rcases Nat.lt_or_ge k b with h' | h'
    · exact absurd (h2 k h') hk
    · exact h'
  refine ⟨⟨⟨lab', k1, fun k hk => by rw [k3 k (by omega)]; exact h2 k hk, fun k hk => ?_⟩, hbel.trans (k2.below hbs hkb), Nat.le_trans hbs k2.size⟩, k2.mono (fun k hlt hk => ⟨hkb k hk, fun hF => hk (h3 k hF).2⟩)⟩
  rcases hk with hk | hk
  · obtain ⟨x1, x2⟩ := h3 k hk
    exact ⟨Nat.lt_of_lt_of_le x1 k2.size, by rw [k3 k x1]; exact x2⟩
  · exact ⟨hg k hk, k4 k hk⟩
/-- what moves only what isn't its -/
theorem EH.kept {T : Nat → Prop} (h : EH b W0 w F C e) (hk : Kept w w' T) (hT : ∀ k, k < w.heap.size → b ≤ k → ¬ F k → ¬ T k) (hF : ∀ k, F' k → F k ∨ (w.heap.size ≤ k ∧ k < w'.heap.size)) : EH b w' w' F' C e := by
  obtain ⟨lab, h1, h2, h3⟩ := h.en
  have hn : ∀ k, k < w.heap.size → lab k ≠ 0 → ¬ T k := fun k hlt hl => by
    refine hT k hlt ?_ (fun hF => hl (h3 k hF).2)
    rcases Nat.lt_or_ge k b with h' | h'
    · exact absurd (h2 k h') hl
    · exact h'
  refine ⟨⟨fresh lab w.heap.size 0, ⟨h1.en.kept hk hn (fun k hlt => fresh_old hlt), h1.out, fun k hk => ?_, h1.ok, h1.tm⟩, fun k hk' => by rw [fresh_old (by have := h.bs; omega)]; exact h2 k hk', fun k hk' => ?_⟩, Below.refl _ _, Nat.le_trans h.bs hk.size⟩
  · rcases Nat.lt_or_ge k w.heap.size with h' | h'
    · rw [fresh_old h']; exact h1.n5 k h'
    · rw [fresh_new h']; decide
  · rcases hF k hk' with h' | ⟨h', h''⟩
    · obtain ⟨x1, x2⟩ := h3 k h'
      rw [fresh_old x1]
      exact ⟨Nat.lt_of_lt_of_le x1 hk.size, x2⟩
    · rw [fresh_new h']
      exact ⟨h'', rfl⟩
theorem EH.weak (h : EH b W0 w F C e) (hF : ∀ k, F' k → F k) : EH b W0 w F' C e := by
  obtain ⟨lab, h1, h2, h3⟩ := h.en
  exact ⟨⟨lab, h1, h2, fun k hk => h3 k (hF k hk)⟩, h.bel, h.bs⟩
theorem EH.ok (h : EH b W0 w F C e) : Em.Ok e := by obtain ⟨lab, h1, _⟩ := h.en; exact h1.ok
theorem EH.tm (h : EH b W0 w F C e) : Em.Tm e := by obtain ⟨lab, h1, _⟩ := h.en; exact h1.tm
theorem EH.rest (h : EH b W0 w F C e) : Em.rest e = e := by
  obtain ⟨lab, h1, _⟩ := h.en
  have h' := h1.out
  obtain ⟨m, st, tei, tr, asked, t2, t3, us, fl, out⟩ := e
  have h'' : out = [] := h'
  subst h''
  rfl
theorem eh_pr {G : Nat → Prop} {R : Nat} {r : Em.St} (h : Pr14 b W0 w G C R e r) : EH b W0 w (fun _ => False) C e := by
  obtain ⟨lc, lr, h1, _, _, h4, _⟩ := h.qu
  exact ⟨⟨lc, h1, fun k hk => (h4 k hk).1, fun k hk => hk.elim⟩, h.bel, h.bs⟩
theorem eh_view (h : EH b W0 w F C e) :
    Calls Tryz.prog 21 #[.pointer (some ⟨C, 0, none⟩)] w fun r w' => r = .returned (evV e) ∧ Below w.heap.size w w' := by
  obtain ⟨lab, h1, h2⟩ := h.en
  exact eview_any C lab e w h1
theorem eh_ask (a : Int) (s : ByteArray) (hz : s.size ≤ 9223372036854775807) (h : EH b W0 w F C e) :
    Calls Tryz.prog 15 #[.pointer (some ⟨C, 0, none⟩), .int .i64 a, .string s] w fun r w' => ∃ x cap, r = .returned (.tuple #[.slice x (Em.ask e a s).1.out.length cap, .int .i64 (Em.ask e a s).2]) ∧ w'.ownsRow w.heap.size 57 11 (.slice x (Em.ask e a s).1.out.length cap) (Em.ask e a s).1.out.length (effsL (Em.ask e a s).1.out) ∧ EH b W0 w' (fun k => F k ∨ (Value.slice x (Em.ask e a s).1.out.length cap).ownBlock = some k) C (Em.rest (Em.ask e a s).1) ∧ Mov b F w w' := by
  obtain ⟨lab, h1, h2, h3⟩ := h.en
  refine (eask_any C lab e a s w h1 hz).mono ?_
  rintro r w' ⟨x, rfl, ht⟩
  have hu := EH.told (F := F) h.bs h.bel h2 h3 ht
  obtain ⟨y, cap, rfl, ho⟩ := ht.row
  exact ⟨y, cap, rfl, ho, hu⟩
theorem eh_remove (h : EH b W0 w F C e) :
    Calls Tryz.prog 30 #[.pointer (some ⟨C, 0, none⟩)] w fun r w' => ∃ x cap, r = .returned (.tuple #[.slice x (Em.remove e).1.out.length cap, .int .i64 (Em.remove e).2]) ∧ w'.ownsRow w.heap.size 57 11 (.slice x (Em.remove e).1.out.length cap) (Em.remove e).1.out.length (effsL (Em.remove e).1.out) ∧ EH b W0 w' (fun k => F k ∨ (Value.slice x (Em.remove e).1.out.length cap).ownBlock = some k) C (Em.rest (Em.remove e).1) ∧ Mov b F w w' := by
  obtain ⟨lab, h1, h2, h3⟩ := h.en
  refine (eremove_any C lab e w h1).mono ?_
  rintro r w' ⟨x, rfl, ht⟩
  have hu := EH.told (F := F) h.bs h.bel h2 h3 ht
  obtain ⟨y, cap, rfl, ho⟩ := ht.row
  exact ⟨y, cap, rfl, ho, hu⟩
theorem eh_time (t : Int) (t0 : -9223372036854775808 ≤ t) (t1 : t ≤ 9223372036854775807) (h : EH b W0 w F C e) :
    Calls Tryz.prog 16 #[.pointer (some ⟨C, 0, none⟩), .int .i64 t] w fun r w' => ∃ x cap, r = .returned (.slice x (Em.timeout e t).out.length cap) ∧ w'.ownsRow w.heap.size 57 11 (.slice x (Em.timeout e t).out.length cap) (Em.timeout e t).out.length (effsL (Em.timeout e t).out) ∧ EH b W0 w' (fun k => F k ∨ (Value.slice x (Em.timeout e t).out.length cap).ownBlock = some k) C (Em.rest (Em.timeout e t)) ∧ Mov b F w w' := by
  obtain ⟨lab, h1, h2, h3⟩ := h.en
  refine (etime_any C lab e t w h1 t0 t1).mono ?_
  rintro r w' ⟨x, rfl, ht⟩
  have hu := EH.told (F := F) h.bs h.bel h2 h3 ht
  obtain ⟨y, cap, rfl, ho⟩ := ht.row
  exact ⟨y, cap, rfl, ho, hu⟩
theorem eh_frame (f : Em.Fr) (hW : Ways w) (s0 : -9223372036854775808 ≤ f.ns) (s1 : f.ns ≤ 9223372036854775807) (r0 : -9223372036854775808 ≤ f.nr) (r1 : f.nr ≤ 9223372036854775807) (hz : f.info.size ≤ 9223372036854775807) (h : EH b W0 w F C e) :
    Calls Tryz.prog 19 #[.pointer (some ⟨C, 0, none⟩), frmV f] w fun r w' => ∃ x cap, r = .returned (.slice x (Em.frame e (Em.may f) f).out.length cap) ∧ w'.ownsRow w.heap.size 57 11 (.slice x (Em.frame e (Em.may f) f).out.length cap) (Em.frame e (Em.may f) f).out.length (effsL (Em.frame e (Em.may f) f).out) ∧ EH b W0 w' (fun k => F k ∨ (Value.slice x (Em.frame e (Em.may f) f).out.length cap).ownBlock = some k) C (Em.rest (Em.frame e (Em.may f) f)) ∧ Mov b F w w' := by
  obtain ⟨lab, h1, h2, h3⟩ := h.en
  refine (eframe_any C lab e f w h1 hW s0 s1 r0 r1 hz).mono ?_
  rintro r w' ⟨x, rfl, ht⟩
  have hu := EH.told (F := F) h.bs h.bel h2 h3 ht
  obtain ⟨y, cap, rfl, ho⟩ := ht.row
  exact ⟨y, cap, rfl, ho, hu⟩
end
end Go.Proofs.YtidemohpngkedabGreatDoor
