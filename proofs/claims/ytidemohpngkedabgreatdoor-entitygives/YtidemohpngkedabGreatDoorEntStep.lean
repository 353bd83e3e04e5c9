/-
  The walks of an entity's smallest methods: what it tells, its timers.
  The walks of an entity's small methods: what it is, its timers, errors, the frames that it sends.
  The walks of what an entity sends: a frame, with its link and N(R).
  The walks of an entity's steps: it calls, opens, goes on, answers, inquires, ends.
  The walks of an entity's going on, opening, counting, trying again.
  The walks of what an entity does when a frame comes in the states Assigned, Connecting, Releasing; of its opening, counting, trying again.
  The walks of what an entity does when RR, RNR, REJ come, and of its trying again.
-/
import Derived.Test.YtidemohpngkedabGreatDoorEntWorld
import Derived.Test.YtidemohpngkedabGreatDoorEntPlain
import Derived.Deep.RegionLaw
import Derived.BigQuiet
import Derived.OwnWalk
import Derived.Test.YtidemohpngkedabGreatDoorFlowView
import Derived.Test.YtidemohpngkedabGreatDoorFlowMore
import Derived.Deep.LoopGhost
import Derived.Deep.DeepCutAuto
namespace Go.Proofs.YtidemohpngkedabGreatDoor
open Go.RowKit
set_option linter.unusedVariables false
set_option maxRecDepth 100000
set_option linter.unusedSimpArgs false

theorem eff_cells (w : World) (x : Em.Eff) (W : World) (B : Nat) (t : TypeId) (hb : W.heap[B]? = some (.cells (effL x).toArray t (0, 0))) : ∀ j u, (effL x)[j]? = some u → W.cell? ((⟨B, 0, none⟩ : Addr).add j) = some u := by
  intro j u hu
  exact World.news_of_block hb j u (by simpa using hu)

theorem heap_two (w : World) (a b : Obj) : ((w.alloc a).alloc b).drew.heap[w.heap.size + 1]? = some b := by
  have h := heap_alloc_new (w.alloc a) b
  have e : (w.alloc a).heap.size = w.heap.size + 1 := by simp
  rw [e] at h
  exact h
theorem below_two (w : World) (a b : Obj) : Below w.heap.size w ((w.alloc a).alloc b).drew := (((Below.refl w.heap.size w).alloc (Nat.le_refl _) a).alloc (by simp) b).drew

/-- the append, and what stands behind it -/
theorem told_step {C : Nat} {lab : Nat → Nat} {e : Em.St} {x : Em.Eff} {w W w1 : World} {a : Option Addr} {cap g cap1 : Nat} (h : En C w lab e) (h8 : w.cell? ⟨C, 8, none⟩ = some (.slice a e.out.length cap)) (hlb : ∀ B, (Value.slice a e.out.length cap).ownBlock = some B → lab B = 5)
    (hb : Below w.heap.size w W) (hgrow : W.grownBy w1 (Value.slice a e.out.length cap).ownBlock) (hown1 : w1.ownsRow 0 57 11 (.slice (some ⟨g, 0, none⟩) (e.out.length + 1) cap1) (e.out.length + 1) (effsL e.out ++ effL x))
    (hat : (Value.slice a e.out.length cap).ownBlock = some g ∨ g = w.heap.size + 2) (hgl : g < w1.heap.size) :
    w1.cell? ⟨C, 8, none⟩ = some (.slice a e.out.length cap) ∧ w1.frozen? ⟨C, 8, none⟩ = false ∧ Mv (En C) w (w1.setCell ⟨C, 8, none⟩ (.slice (some ⟨g, 0, none⟩) (e.out.length + 1) cap1)) lab (Em.add e x) := by
  have hk : Kept w w1 (fun k => (Value.slice a e.out.length cap).ownBlock = some k) := (Kept.of_below (T := fun k => (Value.slice a e.out.length cap).ownBlock = some k) hb (fun k hk h' => by omega)).trans (Kept.of_grown (T := fun k => (Value.slice a e.out.length cap).ownBlock = some k) hgrow (fun k e => e)) (fun k _ h => h)
  have hC : ¬ (Value.slice a e.out.length cap).ownBlock = some C := fun hx => by have := hlb C hx; have := h.lC; omega
  exact ⟨(hk.cell (p := ⟨C, 8, none⟩) h.cs.lt hC).trans h8, (hk.frozen (p := ⟨C, 8, none⟩) h.cs.lt hC).trans (h.cs.f 8 (by decide)), h.told x h8 hlb hk hown1 (by rcases hat with h' | h'; exact Or.inl h'; exact Or.inr (by omega)) hgl⟩

set_option maxRecDepth 100000 in
set_option maxHeartbeats 1000000 in
theorem tell_any (C : Nat) (lab : Nat → Nat) (e : Em.St) (x : Em.Eff) (w : World) (h : En C w lab e) (hl : e.out.length ≤ 1000000) :
    Calls Tryz.prog 65 #[.pointer (some ⟨C, 0, none⟩), effV x] w fun r w' => r = .returned (.tuple #[]) ∧ Mv (En C) w w' lab (Em.add e x) := by
  obtain ⟨a, cap, h8, ho, hlb⟩ := h.to
  have f8 := h.cs.f 8 (by decide)
  have hlt := h.cs.lt
  obtain ⟨i0, hi, hz0, hz1, hz2⟩ := info_parts eff_info
  have HE : Hid (En C w lab e) := h
  have HL : Hid (∀ B, (Value.slice a e.out.length cap).ownBlock = some B → lab B = 5) := hlb
  clear h hlb
  unfold effV
  go_enter Tryz.func65, Tryz.ntmps65
  go_wp2_with fail
  go_region_law ((refine step_append_lies _ (by rfl) _ _ _ (by rfl) 0 57 i0 (effV ⟨0, Em.fr0, ByteArray.empty, 0⟩) 11 104 Tryz.underlying39 hi hz0 hz1 hz2 (by rfl) (by decide) (.slice a e.out.length cap) e.out.length (effsL e.out) (by rfl) (by first | exact ((ho.alloc _).drew).alloc _ | exact ((ho.alloc _).alloc _).drew) ⟨w.heap.size + 1, 0, none⟩ 1 1 (effL x) (by rfl) (by rfl) (eff_cells w x _ _ 57 (heap_two w _ _)) (effL_one x) (by decide) (by unfold maxLen; omega) (by omega) (by simp) (w.heap.size + 2) (by simp) ?_; intro g cap1 w1 hown1 hgrow hat hgl; obtain ⟨d8, g8, hm⟩ := told_step HE.out h8 HL.out (below_two w _ _) hgrow hown1 hat hgl))
  all_goals
    go_end0
    exact ⟨rfl, hm⟩
end Go.Proofs.YtidemohpngkedabGreatDoor

namespace Go.Proofs.YtidemohpngkedabGreatDoor
open Go.RowKit
set_option linter.unusedVariables false
set_option maxRecDepth 100000
set_option linter.unusedSimpArgs false

set_option maxRecDepth 100000 in
theorem made_any (C : Nat) (lab : Nat → Nat) (e : Em.St) (w : World) (h : En C w lab e) (hs : 1 ≤ e.state) :
    Calls Tryz.prog 34 #[.pointer (some ⟨C, 0, none⟩)] w fun r w' => r = .returned (.bool true) ∧ w = w' := by
  have c0 := h.cs.c0
  have hlt := h.cs.lt
  have hne : (e.state == 0) = false := by simp; omega
  clear h
  go_enter Tryz.func34, Tryz.ntmps34
  go_wp2
  go_ret
  exact ⟨by simp [bne, hne], rfl⟩

set_option maxRecDepth 100000 in
theorem made_nil (w : World) :
    Calls Tryz.prog 34 #[.pointer none] w fun r w' => r = .returned (.bool false) ∧ w = w' := by
  go_enter Tryz.func34, Tryz.ntmps34
  go_wp2
  go_ret
  exact ⟨rfl, rfl⟩

set_option maxRecDepth 100000 in
theorem hasTEI_any (C : Nat) (lab : Nat → Nat) (e : Em.St) (w : World) (h : En C w lab e) (ht : -1 ≤ e.tei) :
    Calls Tryz.prog 41 #[.pointer (some ⟨C, 0, none⟩)] w fun r w' => r = .returned (.bool (decide (0 ≤ e.tei))) ∧ w = w' := by
  have c1 := h.cs.c1
  have hlt := h.cs.lt
  have HT : Hid ((!(e.tei == -1)) = decide (0 ≤ e.tei)) := by
    show _ = _
    by_cases hx : e.tei = -1
    · rw [hx]; rfl
    · have h1 : (e.tei == -1) = false := by simp; exact hx
      rw [h1]
      have : 0 ≤ e.tei := by omega
      simp [this]
  clear h ht
  go_enter Tryz.func41, Tryz.ntmps41
  go_wp2
  go_ret
  exact ⟨by rw [← HT.out]; rfl, rfl⟩

set_option maxRecDepth 100000 in
theorem mostTries_any (C : Nat) (lab : Nat → Nat) (e : Em.St) (w : World) (h : En C w lab e) :
    Calls Tryz.prog 81 #[.pointer (some ⟨C, 0, none⟩)] w fun r w' => r = .returned (.int .i64 e.most) ∧ w = w' := by
  obtain ⟨n, c3, hm⟩ := h.cs.c3
  have hlt := h.cs.lt
  clear h
  rw [← hm]
  obtain ⟨m, hm1⟩ : ∃ m : Int, (if n < (1 : Int) then (1 : Int) else n) = m := ⟨_, rfl⟩
  obtain ⟨k, hk1⟩ : ∃ k : Int, (if (32 : Int) < m then (32 : Int) else m) = k := ⟨_, rfl⟩
  have HK : Hid (Em.mostOf n = k) := by
    show _ = _
    rw [← hk1, ← hm1]
    unfold Em.mostOf
    omega
  clear hm
  go_enter Tryz.func81, Tryz.ntmps81
  go_wp2
  all_goals
    go_ret
    exact ⟨by rw [HK.out]; first | rfl | simp_all, rfl⟩

set_option maxRecDepth 100000 in
theorem runs_any (C : Nat) (lab : Nat → Nat) (e : Em.St) (t : Int) (w : World) (h : En C w lab e) (h0 : -9223372036854775808 ≤ t) (h1 : t ≤ 9223372036854775807) :
    Calls Tryz.prog 37 #[.pointer (some ⟨C, 0, none⟩), .int .i64 t] w fun r w' => r = .returned (.bool (Em.runs e.t200 e.t203 t)) ∧ Below w.heap.size w w' := by
  obtain ⟨M, c7, hM, ht, -⟩ := h.timer
  have hlt := h.cs.lt
  have hk := ht.look h0 h1
  have HB : Hid (Below w.heap.size w w) := Below.refl _ _
  clear h ht
  go_enter Tryz.func37, Tryz.ntmps37
  go_wp2
  go_ret
  exact ⟨rfl, HB.out.alloc (Nat.le_refl _) _⟩

/-- a timer starts -/
def Em.startT (e : Em.St) (t : Int) : Em.St := Em.add { e with t200 := Em.upA e.t200 t true, t203 := Em.upB e.t203 t true } ⟨9, Em.fr0, ByteArray.empty, t⟩
theorem Em.startT_200 (e : Em.St) : Em.startT e 200 = Em.start200 e := rfl
theorem Em.startT_203 (e : Em.St) : Em.startT e 203 = Em.start203 e := rfl
/-- a timer stops -/
def Em.stopT (e : Em.St) (t : Int) : Em.St := if Em.runs e.t200 e.t203 t then Em.add { e with t200 := Em.upA e.t200 t false, t203 := Em.upB e.t203 t false } ⟨10, Em.fr0, ByteArray.empty, t⟩ else e
theorem Em.stopT_200 (e : Em.St) : Em.stopT e 200 = Em.stop200 e := by
  unfold Em.stopT Em.stop200
  rw [Em.runs_200]
  rfl
theorem Em.stopT_203 (e : Em.St) : Em.stopT e 203 = Em.stop203 e := by
  unfold Em.stopT Em.stop203
  rw [Em.runs_203]
  rfl

set_option maxHeartbeats 1000000 in
theorem start_any (C : Nat) (lab : Nat → Nat) (e : Em.St) (t : Int) (w : World) (h : En C w lab e) (hl : e.out.length ≤ 900000) (ht : t = 200 ∨ t = 203) :
    Calls Tryz.prog 85 #[.pointer (some ⟨C, 0, none⟩), .int .i64 t] w fun r w' => r = .returned (.tuple #[]) ∧ Mv (En C) w w' lab (Em.startT e t) := by
  obtain ⟨M, c7, hM, htm, hmv⟩ := h.timer
  have hlt := h.cs.lt
  obtain ⟨w1, hrun, hT, hK⟩ := htm.store ht
  have HE : Hid (Mv (En C) w w1 lab { e with t200 := Em.upA e.t200 t true, t203 := Em.upB e.t203 t true }) := hmv w1 _ _ hT hK
  clear h htm hmv hT hK ht
  go_enter Tryz.func85, Tryz.ntmps85
  go_wp2_with fail
  refine (HE.out.call fun lab1 h1 => tell_any C lab1 _ ⟨9, Em.fr0, ByteArray.empty, t⟩ _ h1 (by show e.out.length ≤ _; omega)).mono ?_
  rintro r w2 ⟨rfl, hm⟩
  have HF : Hid (Mv (En C) w w2 lab (Em.startT e t)) := hm
  clear HE hm hrun
  go_wp2
  go_end0
  exact ⟨rfl, HF.out⟩

set_option maxHeartbeats 1000000 in
theorem stop_any (C : Nat) (lab : Nat → Nat) (e : Em.St) (t : Int) (w : World) (h : En C w lab e) (hl : e.out.length ≤ 900000) (ht : t = 200 ∨ t = 203) :
    Calls Tryz.prog 64 #[.pointer (some ⟨C, 0, none⟩), .int .i64 t] w fun r w' => r = .returned (.tuple #[]) ∧ Mv (En C) w w' lab (Em.stopT e t) := by
  have HR := runs_any C lab e t w h (by omega) (by omega)
  have HE : Hid (En C w lab e) := h
  unfold Em.stopT
  clear h
  cases hr : Em.runs e.t200 e.t203 t with
  | false =>
    rw [hr] at HR
    rw [if_neg (by decide)]
    clear hr ht
    go_enter Tryz.func64, Tryz.ntmps64
    go_wp2_with fail
    refine HR.mono ?_
    rintro r w1 ⟨rfl, hb⟩
    have HF : Hid (Mv (En C) w w1 lab e) := HE.out.same hb
    clear HR HE hb
    go_wp2
    refine bodyPost_ret (v := .tuple #[]) (results_none rfl _ _ _) rfl ?_
    exact ⟨rfl, HF.out⟩
  | true =>
    rw [hr] at HR
    rw [if_pos rfl]
    clear hr
    have HT : Hid (t = 200 ∨ t = 203) := ht
    clear ht
    go_enter Tryz.func64, Tryz.ntmps64
    go_wp2_with fail
    refine HR.mono ?_
    rintro r w1 ⟨rfl, hb⟩
    have h1 := HE.out.below hb
    obtain ⟨M, c7, hM, htm, hmv⟩ := h1.timer
    have hlt := h1.cs.lt
    have hdr := fun ty => htm.drop HT.out ty
    have HH : Hid (En C w lab e ∧ Below w.heap.size w w1) := ⟨HE.out, hb⟩
    have HMV : Hid (∀ w' a b, TmIs w' M a b → Kept w1 w' (fun k => k = M) → Mv (En C) w1 w' lab { e with t200 := a, t203 := b }) := hmv
    clear HR HE hb h1 htm hmv
    obtain ⟨w2, hrun, hT, hK⟩ := hdr 0
    have HE2 : Hid (Mv (En C) w w2 lab { e with t200 := Em.upA e.t200 t false, t203 := Em.upB e.t203 t false }) := Mv.ahead HH.out.2 (HMV.out w2 _ _ hT hK)
    clear hdr hT hK HMV HH
    go_wp2_with fail
    refine (HE2.out.call fun lab1 h1 => tell_any C lab1 _ ⟨10, Em.fr0, ByteArray.empty, t⟩ _ h1 (by show e.out.length ≤ _; omega)).mono ?_
    rintro r w3 ⟨rfl, hm⟩
    have HF : Hid (Mv (En C) w w3 lab (Em.add { e with t200 := Em.upA e.t200 t false, t203 := Em.upB e.t203 t false } ⟨10, Em.fr0, ByteArray.empty, t⟩)) := hm
    clear HE2 hm hrun
    go_wp2
    go_end0
    exact ⟨rfl, HF.out⟩

set_option maxHeartbeats 1000000 in
theorem err_any (C : Nat) (lab : Nat → Nat) (e : Em.St) (l : ByteArray) (w : World) (h : En C w lab e) (hl : e.out.length ≤ 900000) :
    Calls Tryz.prog 82 #[.pointer (some ⟨C, 0, none⟩), .string l] w fun r w' => r = .returned (.tuple #[]) ∧ Mv (En C) w w' lab (Em.tell e 7 l) := by
  have HT := tell_any C lab e ⟨7, Em.fr0, l, 0⟩ w h (by omega)
  clear h
  go_enter Tryz.func82, Tryz.ntmps82
  go_wp2_with fail
  refine HT.mono ?_
  rintro r w1 ⟨rfl, hm⟩
  have HF : Hid (Mv (En C) w w1 lab (Em.tell e 7 l)) := hm
  clear HT hm
  go_wp2
  go_end0
  exact ⟨rfl, HF.out⟩

/-- all that it told is handed out -/
theorem allTold_any (C : Nat) (lab : Nat → Nat) (e : Em.St) (w : World) (h : En C w lab e) :
    Calls Tryz.prog 36 #[.pointer (some ⟨C, 0, none⟩)] w fun r w' => ∃ a cap, r = .returned (.slice a e.out.length cap) ∧ w.ownsRow 0 57 11 (.slice a e.out.length cap) e.out.length (effsL e.out) ∧ (∀ B, (Value.slice a e.out.length cap).ownBlock = some B → lab B = 5) ∧ w' = w.setCell ⟨C, 8, none⟩ (.slice none 0 0) := by
  obtain ⟨a, cap, h8, ho, hlb⟩ := h.to
  have f8 := h.cs.f 8 (by decide)
  have hlt := h.cs.lt
  have HH : Hid (w.ownsRow 0 57 11 (.slice a e.out.length cap) e.out.length (effsL e.out) ∧ (∀ B, (Value.slice a e.out.length cap).ownBlock = some B → lab B = 5)) := ⟨ho, hlb⟩
  clear h ho hlb
  go_enter Tryz.func36, Tryz.ntmps36
  go_wp2
  go_ret
  exact ⟨a, cap, rfl, HH.out.1, HH.out.2, rfl⟩
end Go.Proofs.YtidemohpngkedabGreatDoor

namespace Go.Proofs.YtidemohpngkedabGreatDoor
open Go.RowKit
set_option linter.unusedVariables false
set_option maxRecDepth 100000
set_option linter.unusedSimpArgs false

theorem ret_b {a b : Bool} (h : a = b) : Ending.returned (.bool a) = Ending.returned (.bool b) := by rw [h]
theorem enum_any (k : Int) (w : World) :
    Calls Tryz.prog 94 #[.int .i64 k] w fun e w' => e = .returned (.bool (Em.numbered k)) ∧ w = w' := by
  have HK : Hid (Em.numbered k = decide (0 ≤ k ∧ k ≤ 3)) := by
    show _ = _
    unfold Em.numbered
    exact decide_eq_decide.2 (by omega)
  go_enter Tryz.func94, Tryz.ntmps94
  go_wp2
  all_goals go_ret
  all_goals exact ⟨ret_b (by rw [HK.out, Bool.eq_iff_iff]; simp; try omega), rfl⟩

section
variable (W : World) (a b c d e f g h : Value)
theorem vfield0 : (Instr.field 62 (.agg #[a, b, c, d, e, f, g, h]) 0).run Tryz.prog W = .ok a W := by kernel_rfl
theorem vfield1 : (Instr.field 62 (.agg #[a, b, c, d, e, f, g, h]) 1).run Tryz.prog W = .ok b W := by kernel_rfl
theorem vfield2 : (Instr.field 62 (.agg #[a, b, c, d, e, f, g, h]) 2).run Tryz.prog W = .ok c W := by kernel_rfl
theorem vfield3 : (Instr.field 62 (.agg #[a, b, c, d, e, f, g, h]) 3).run Tryz.prog W = .ok d W := by kernel_rfl
theorem vfield4 : (Instr.field 62 (.agg #[a, b, c, d, e, f, g, h]) 4).run Tryz.prog W = .ok e W := by kernel_rfl
theorem vfield6 : (Instr.field 62 (.agg #[a, b, c, d, e, f, g, h]) 6).run Tryz.prog W = .ok g W := by kernel_rfl
end
/-- a frame as it is sent -/
def Em.linked (e : Em.St) (f : Em.Fr) : Em.Fr := { f with sapi := 0, tei := e.tei, nr := if Em.numbered f.k then e.fl.vr else f.nr }
set_option maxHeartbeats 1000000 in
theorem send_any (C : Nat) (lab : Nat → Nat) (e : Em.St) (f : Em.Fr) (w : World) (h : En C w lab e) (hl : e.out.length ≤ 900000) :
    Calls Tryz.prog 103 #[.pointer (some ⟨C, 0, none⟩), frmV f] w fun r w' => r = .returned (.tuple #[]) ∧ Mv (En C) w w' lab (Em.send e { f with sapi := 0 }) := by
  have c1 := h.cs.c1
  have hlt := h.cs.lt
  have hE : ∀ b, Em.numbered f.k = b → Em.send e { f with sapi := 0 } = Em.add e ⟨0, { f with sapi := 0, tei := e.tei, nr := if b then e.fl.vr else f.nr }, ByteArray.empty, 0⟩ := by
    intro b hb
    subst hb
    rfl
  have HE : Hid (En C w lab e) := h
  clear h
  unfold frmV
  cases hk : Em.numbered f.k with
  | false =>
    rw [hE false hk]
    have hN := fun W => enum_any f.k W
    rw [hk] at hN
    go_enter Tryz.func103, Tryz.ntmps103
    go_wp2_with fail
    refine (hN _).mono ?_
    rintro r w1 ⟨rfl, rfl⟩
    clear hN
    go_wp2_with fail
    refine ((HE.out.same ((Below.refl _ _).alloc (Nat.le_refl _) _)).call fun lab1 h1 => tell_any C lab1 _ ⟨0, { f with sapi := 0, tei := e.tei, nr := if false = true then e.fl.vr else f.nr }, ByteArray.empty, 0⟩ _ h1 (by omega)).mono ?_
    rintro r w2 ⟨rfl, hm⟩
    have HF : Hid (Mv (En C) w w2 lab (Em.add e ⟨0, { f with sapi := 0, tei := e.tei, nr := if false = true then e.fl.vr else f.nr }, ByteArray.empty, 0⟩)) := hm
    clear HE hm
    go_wp2
    go_end0
    exact ⟨rfl, HF.out⟩
  | true =>
    rw [hE true hk]
    have hN := fun W => enum_any f.k W
    rw [hk] at hN
    clear hE
    obtain ⟨D, G, c2, hD, hfl, -⟩ := HE.out.flow
    have HFL : Hid (Fl w D G e.fl) := hfl
    clear hfl
    go_enter Tryz.func103, Tryz.ntmps103
    go_wp2_with fail
    refine (hN _).mono ?_
    rintro r w1 ⟨rfl, rfl⟩
    clear hN
    go_wp2_with fail
    have hb1 : Below w.heap.size w (w.alloc (.cells #[.int .i64 0, .int .i64 e.tei, .bool f.c, .int .i64 f.k, .bool f.pf, .int .i64 f.ns, .int .i64 f.nr, .string f.info] 49)) := (Below.refl _ _).alloc (Nat.le_refl _) _
    refine (fview_any D G e.fl _ (HFL.out.below hb1)).mono ?_
    rintro r w1 ⟨rfl, hb⟩
    have hF := (frc_new w 0 e.tei f.c f.k f.pf f.ns f.nr f.info 49).later hb
    have z6 : w1.frozen? ⟨w.heap.size, 6, none⟩ = false := (hb.frozen (p := ⟨w.heap.size, 6, none⟩) (by simp)).trans (by simp)
    have b0 := hF.c0
    have b1 := hF.c1
    have b2 := hF.c2
    have b3 := hF.c3
    have b4 := hF.c4
    have b5 := hF.c5
    have b6 := hF.c6
    have b7 := hF.c7
    have bl := hF.lt
    have HB : Hid (Below w.heap.size w (w1.setCell ⟨w.heap.size, 6, none⟩ (.int .i64 e.fl.vr))) := (hb1.trans (hb.mono (by simp))).setCell (p := ⟨w.heap.size, 6, none⟩) (Nat.le_refl _) _
    have hfv := vfield2 w1
    unfold vwV
    clear hb hb1 hF c1 c2 hlt hD
    go_wp2_with fail
    refine ((HE.out.same HB.out).call fun lab1 h1 => tell_any C lab1 _ ⟨0, { f with sapi := 0, tei := e.tei, nr := if true = true then e.fl.vr else f.nr }, ByteArray.empty, 0⟩ _ h1 (by omega)).mono ?_
    rintro r w2 ⟨rfl, hm⟩
    have HF : Hid (Mv (En C) w w2 lab (Em.add e ⟨0, { f with sapi := 0, tei := e.tei, nr := if true = true then e.fl.vr else f.nr }, ByteArray.empty, 0⟩)) := hm
    clear HE hm
    go_wp2
    go_end0
    exact ⟨rfl, HF.out⟩
end Go.Proofs.YtidemohpngkedabGreatDoor

namespace Go.Proofs.YtidemohpngkedabGreatDoor
open Go.RowKit
set_option linter.unusedVariables false
set_option maxRecDepth 100000
set_option linter.unusedSimpArgs false

section
variable {C : Nat} {w w1 : World} {lab : Nat → Nat} {e1 : Em.St}
theorem Mv.cells (h : Mv (En C) w w1 lab e1) : ECs C w1 e1 := by
  obtain ⟨lab1, h1, _⟩ := h
  exact h1.cs
theorem Mv.flow (h : Mv (En C) w w1 lab e1) : ∃ D G, w1.cell? ⟨C, 2, none⟩ = some (.pointer (some ⟨D, 0, none⟩)) ∧ C < w1.heap.size ∧ D < w1.heap.size ∧ Fl w1 D G e1.fl ∧ ∀ w' σ', Mvf w1 w' D G σ' → Mv (En C) w w' lab { e1 with fl := σ' } := by
  obtain ⟨lab1, h1, hk, hl⟩ := h
  obtain ⟨D, G, c2, hD, hfl, hmv⟩ := h1.flow
  exact ⟨D, G, c2, h1.cs.lt, hD, hfl, fun w' σ' hm => Mv.on hk hl (hmv w' σ' hm)⟩
end

set_option maxHeartbeats 1000000 in
theorem command_any (C : Nat) (lab : Nat → Nat) (e : Em.St) (k : Int) (w : World) (h : En C w lab e) (hl : e.out.length ≤ 800000) :
    Calls Tryz.prog 84 #[.pointer (some ⟨C, 0, none⟩), .int .i64 k] w fun r w' => r = .returned (.tuple #[]) ∧ Mv (En C) w w' lab (Em.send e (Em.bare true k true)) := by
  have HE0 : Hid (Mv (En C) w w lab e) := h.same (Below.refl _ _)
  clear h
  go_enter Tryz.func84, Tryz.ntmps84
  go_wp2_with fail
  refine (HE0.out.call fun lab1 h1 => send_any C lab1 _ (Em.bare true k true) _ h1 (by omega)).mono ?_
  rintro r w1 ⟨rfl, hm⟩
  have HE1 : Hid (Mv (En C) w w1 lab (Em.send e (Em.bare true k true))) := hm
  clear HE0 hm
  go_wp2
  go_end0
  exact ⟨rfl, HE1.out⟩

set_option maxHeartbeats 1000000 in
theorem respond_any (C : Nat) (lab : Nat → Nat) (e : Em.St) (k : Int) (pf : Bool) (w : World) (h : En C w lab e) (hl : e.out.length ≤ 800000) :
    Calls Tryz.prog 125 #[.pointer (some ⟨C, 0, none⟩), .int .i64 k, .bool pf] w fun r w' => r = .returned (.tuple #[]) ∧ Mv (En C) w w' lab (Em.send e (Em.bare false k pf)) := by
  have HE0 : Hid (Mv (En C) w w lab e) := h.same (Below.refl _ _)
  clear h
  go_enter Tryz.func125, Tryz.ntmps125
  go_wp2_with fail
  refine (HE0.out.call fun lab1 h1 => send_any C lab1 _ (Em.bare false k pf) _ h1 (by omega)).mono ?_
  rintro r w1 ⟨rfl, hm⟩
  have HE1 : Hid (Mv (En C) w w1 lab (Em.send e (Em.bare false k pf))) := hm
  clear HE0 hm
  go_wp2
  go_end0
  exact ⟨rfl, HE1.out⟩

set_option maxHeartbeats 1000000 in
theorem sendUnit_any (C : Nat) (lab : Nat → Nat) (e : Em.St) (s : ByteArray) (w : World) (h : En C w lab e) (hl : e.out.length ≤ 800000) :
    Calls Tryz.prog 48 #[.pointer (some ⟨C, 0, none⟩), .string s] w fun r w' => r = .returned (.tuple #[]) ∧ Mv (En C) w w' lab (Em.unit e s) := by
  have HE0 : Hid (Mv (En C) w w lab e) := h.same (Below.refl _ _)
  clear h
  go_enter Tryz.func48, Tryz.ntmps48
  go_wp2_with fail
  refine (HE0.out.call fun lab1 h1 => send_any C lab1 _ ⟨0, 0, true, 6, false, 0, 0, s⟩ _ h1 (by omega)).mono ?_
  rintro r w1 ⟨rfl, hm⟩
  have HE1 : Hid (Mv (En C) w w1 lab (Em.unit e s)) := hm
  clear HE0 hm
  go_wp2
  go_end0
  exact ⟨rfl, HE1.out⟩

set_option maxHeartbeats 1000000 in
theorem await_any (C : Nat) (lab : Nat → Nat) (e : Em.St) (w : World) (h : En C w lab e) (hl : e.out.length ≤ 800000) :
    Calls Tryz.prog 119 #[.pointer (some ⟨C, 0, none⟩)] w fun r w' => r = .returned (.tuple #[]) ∧ Mv (En C) w w' lab (Em.start200 (Em.stop203 e)) := by
  have HE0 : Hid (Mv (En C) w w lab e) := h.same (Below.refl _ _)
  clear h
  go_enter Tryz.func119, Tryz.ntmps119
  go_wp2_with fail
  refine (HE0.out.call fun lab1 h1 => stop_any C lab1 _ 203 _ h1 (by omega) (Or.inr rfl)).mono ?_
  rintro r w1 ⟨rfl, hm⟩
  have HE1 : Hid (Mv (En C) w w1 lab (Em.stopT e 203)) := hm
  clear HE0 hm
  go_wp2_with fail
  refine (HE1.out.call fun lab1 h1 => start_any C lab1 _ 200 _ h1 (by rw [Em.stopT_203]; have := Em.len_stop203 e; omega) (Or.inl rfl)).mono ?_
  rintro r w2 ⟨rfl, hm⟩
  have HE2 : Hid (Mv (En C) w w2 lab (Em.startT (Em.stopT e 203) 200)) := hm
  clear HE1 hm
  rw [Em.stopT_203, Em.startT_200] at HE2
  go_wp2
  go_end0
  exact ⟨rfl, HE2.out⟩

set_option maxHeartbeats 1000000 in
theorem rest_any (C : Nat) (lab : Nat → Nat) (e : Em.St) (w : World) (h : En C w lab e) (hl : e.out.length ≤ 800000) :
    Calls Tryz.prog 146 #[.pointer (some ⟨C, 0, none⟩)] w fun r w' => r = .returned (.tuple #[]) ∧ Mv (En C) w w' lab (Em.start203 (Em.stop200 e)) := by
  have HE0 : Hid (Mv (En C) w w lab e) := h.same (Below.refl _ _)
  clear h
  go_enter Tryz.func146, Tryz.ntmps146
  go_wp2_with fail
  refine (HE0.out.call fun lab1 h1 => stop_any C lab1 _ 200 _ h1 (by omega) (Or.inl rfl)).mono ?_
  rintro r w1 ⟨rfl, hm⟩
  have HE1 : Hid (Mv (En C) w w1 lab (Em.stopT e 200)) := hm
  clear HE0 hm
  go_wp2_with fail
  refine (HE1.out.call fun lab1 h1 => start_any C lab1 _ 203 _ h1 (by rw [Em.stopT_200]; have := Em.len_stop200 e; omega) (Or.inr rfl)).mono ?_
  rintro r w2 ⟨rfl, hm⟩
  have HE2 : Hid (Mv (En C) w w2 lab (Em.startT (Em.stopT e 200) 203)) := hm
  clear HE1 hm
  rw [Em.stopT_200, Em.startT_203] at HE2
  go_wp2
  go_end0
  exact ⟨rfl, HE2.out⟩

set_option maxHeartbeats 1000000 in
theorem call_any (C : Nat) (lab : Nat → Nat) (e : Em.St) (w : World) (h : En C w lab e) (hl : e.out.length ≤ 700000) :
    Calls Tryz.prog 104 #[.pointer (some ⟨C, 0, none⟩)] w fun r w' => r = .returned (.tuple #[]) ∧ Mv (En C) w w' lab (Em.call e) := by
  have HE0 : Hid (Mv (En C) w w lab e) := h.same (Below.refl _ _)
  have ha0 := HE0.out.cells
  have k0 := ha0.c4
  have g0 := ha0.f 4 (by decide)
  have l0 := ha0.lt
  clear ha0
  have HE1 : Hid (Mv (En C) w (w.setCell ⟨C, 4, none⟩ (.int .i64 0)) lab ({ e with tries := 0 })) := HE0.out.trans fun _ hx => hx.setTries 0
  clear h
  go_enter Tryz.func104, Tryz.ntmps104
  go_wp2_with fail
  refine (HE1.out.call fun lab1 h1 => command_any C lab1 _ 4 _ h1 (by show e.out.length ≤ _; omega)).mono ?_
  rintro r w2 ⟨rfl, hm⟩
  have HE2 : Hid (Mv (En C) w w2 lab (Em.send { e with tries := 0 } (Em.bare true 4 true))) := hm
  clear HE1 hm
  go_wp2_with fail
  refine (HE2.out.call fun lab1 h1 => await_any C lab1 _  _ h1 (by rw [Em.len_send]; show e.out.length + 1 ≤ _; omega)).mono ?_
  rintro r w3 ⟨rfl, hm⟩
  have HE3 : Hid (Mv (En C) w w3 lab (Em.start200 (Em.stop203 (Em.send { e with tries := 0 } (Em.bare true 4 true))))) := hm
  clear HE2 hm
  have ha3 := HE3.out.cells
  have k3 := ha3.c0
  have g3 := ha3.f 0 (by decide)
  have l3 := ha3.lt
  clear ha3
  have HE4 : Hid (Mv (En C) w (w3.setCell ⟨C, 0, none⟩ (.int .i64 5)) lab (Em.call e)) := HE3.out.trans fun _ hx => hx.setState 5
  go_wp2
  go_end0
  exact ⟨rfl, HE4.out⟩

set_option maxHeartbeats 1000000 in
theorem callAsked_any (C : Nat) (lab : Nat → Nat) (e : Em.St) (w : World) (h : En C w lab e) (hl : e.out.length ≤ 700000) :
    Calls Tryz.prog 49 #[.pointer (some ⟨C, 0, none⟩)] w fun r w' => r = .returned (.tuple #[]) ∧ Mv (En C) w w' lab (Em.call { e with asked := true }) := by
  have HE0 : Hid (Mv (En C) w w lab e) := h.same (Below.refl _ _)
  have ha0 := HE0.out.cells
  have k0 := ha0.c5
  have g0 := ha0.f 5 (by decide)
  have l0 := ha0.lt
  clear ha0
  have HE1 : Hid (Mv (En C) w (w.setCell ⟨C, 5, none⟩ (.bool true)) lab ({ e with asked := true })) := HE0.out.trans fun _ hx => hx.setAsked true
  clear h
  go_enter Tryz.func49, Tryz.ntmps49
  go_wp2_with fail
  refine (HE1.out.call fun lab1 h1 => call_any C lab1 _  _ h1 (hl)).mono ?_
  rintro r w2 ⟨rfl, hm⟩
  have HE2 : Hid (Mv (En C) w w2 lab (Em.call { e with asked := true })) := hm
  clear HE1 hm
  go_wp2
  go_end0
  exact ⟨rfl, HE2.out⟩

set_option maxHeartbeats 1000000 in
theorem callAnew_any (C : Nat) (lab : Nat → Nat) (e : Em.St) (l : ByteArray) (w : World) (h : En C w lab e) (hl : e.out.length ≤ 600000) :
    Calls Tryz.prog 87 #[.pointer (some ⟨C, 0, none⟩), .string l] w fun r w' => r = .returned (.tuple #[]) ∧ Mv (En C) w w' lab (Em.anew e l) := by
  have HE0 : Hid (Mv (En C) w w lab e) := h.same (Below.refl _ _)
  clear h
  go_enter Tryz.func87, Tryz.ntmps87
  go_wp2_with fail
  refine (HE0.out.call fun lab1 h1 => err_any C lab1 _ l _ h1 (by omega)).mono ?_
  rintro r w1 ⟨rfl, hm⟩
  have HE1 : Hid (Mv (En C) w w1 lab (Em.tell e 7 l)) := hm
  clear HE0 hm
  have ha1 := HE1.out.cells
  have k1 := ha1.c5
  have g1 := ha1.f 5 (by decide)
  have l1 := ha1.lt
  clear ha1
  have HE2 : Hid (Mv (En C) w (w1.setCell ⟨C, 5, none⟩ (.bool false)) lab ({ Em.tell e 7 l with asked := false })) := HE1.out.trans fun _ hx => hx.setAsked false
  go_wp2_with fail
  refine (HE2.out.call fun lab1 h1 => call_any C lab1 _  _ h1 (by show (Em.tell e 7 l).out.length ≤ _; rw [Em.len_tell]; omega)).mono ?_
  rintro r w3 ⟨rfl, hm⟩
  have HE3 : Hid (Mv (En C) w w3 lab (Em.anew e l)) := hm
  clear HE2 hm
  go_wp2
  go_end0
  exact ⟨rfl, HE3.out⟩

set_option maxHeartbeats 1000000 in
theorem end_any (C : Nat) (lab : Nat → Nat) (e : Em.St) (w : World) (h : En C w lab e) (hl : e.out.length ≤ 700000) :
    Calls Tryz.prog 83 #[.pointer (some ⟨C, 0, none⟩)] w fun r w' => r = .returned (.tuple #[]) ∧ Mv (En C) w w' lab (Em.end' e) := by
  have HE0 : Hid (Mv (En C) w w lab e) := h.same (Below.refl _ _)
  obtain ⟨D, G, fc, fC, fD, ffl, fmv⟩ := HE0.out.flow
  have HFL : Hid (Fl w D G (e).fl) := ffl
  have HMV : Hid (∀ w' σ', Mvf w w' D G σ' → Mv (En C) w w' lab { (e) with fl := σ' }) := fmv
  clear ffl fmv
  clear h
  go_enter Tryz.func83, Tryz.ntmps83
  go_wp2_with fail
  refine (fclear_any D G _  _ HFL.out).mono ?_
  rintro r w1 ⟨rfl, hm⟩
  have HE1 : Hid (Mv (En C) w w1 lab (Em.clear e)) := HMV.out _ _ hm
  clear HE0 hm HFL HMV fc fC fD
  go_wp2_with fail
  refine (HE1.out.call fun lab1 h1 => stop_any C lab1 _ 200 _ h1 (by show e.out.length ≤ _; omega) (Or.inl rfl)).mono ?_
  rintro r w2 ⟨rfl, hm⟩
  have HE2 : Hid (Mv (En C) w w2 lab (Em.stopT (Em.clear e) 200)) := hm
  clear HE1 hm
  rw [Em.stopT_200] at HE2
  go_wp2_with fail
  refine (HE2.out.call fun lab1 h1 => stop_any C lab1 _ 203 _ h1 (by have := Em.len_stop200 (Em.clear e); have : (Em.clear e).out.length = e.out.length := rfl; omega) (Or.inr rfl)).mono ?_
  rintro r w3 ⟨rfl, hm⟩
  have HE3 : Hid (Mv (En C) w w3 lab (Em.stopT (Em.stop200 (Em.clear e)) 203)) := hm
  clear HE2 hm
  rw [Em.stopT_203] at HE3
  have ha3 := HE3.out.cells
  have k3 := ha3.c0
  have g3 := ha3.f 0 (by decide)
  have l3 := ha3.lt
  clear ha3
  have HE4 : Hid (Mv (En C) w (w3.setCell ⟨C, 0, none⟩ (.int .i64 4)) lab (Em.end' e)) := HE3.out.trans fun _ hx => hx.setState 4
  go_wp2
  go_end0
  exact ⟨rfl, HE4.out⟩

set_option maxHeartbeats 1000000 in
theorem refuseUA_any (C : Nat) (lab : Nat → Nat) (e : Em.St) (f : Em.Fr) (w : World) (h : En C w lab e) (hl : e.out.length ≤ 700000) :
    Calls Tryz.prog 127 #[.pointer (some ⟨C, 0, none⟩), .bool f.pf] w fun r w' => r = .returned (.tuple #[]) ∧ Mv (En C) w w' lab (Em.strange e f) := by
  have HE0 : Hid (Mv (En C) w w lab e) := h.same (Below.refl _ _)
  clear h
  unfold Em.strange
  cases hp : f.pf with
  | true =>
    clear hp
    go_enter Tryz.func127, Tryz.ntmps127
    go_wp2_with fail
    refine (HE0.out.call fun lab1 h1 => err_any C lab1 _ (Em.letter 67) _ h1 (by omega)).mono ?_
    rintro r w1 ⟨rfl, hm⟩
    have HE1 : Hid (Mv (En C) w w1 lab (Em.tell e 7 (Em.letter 67))) := hm
    clear HE0 hm
    go_wp2
    go_end0
    exact ⟨rfl, HE1.out⟩
  | false =>
    clear hp
    go_enter Tryz.func127, Tryz.ntmps127
    go_wp2_with fail
    refine (HE0.out.call fun lab1 h1 => err_any C lab1 _ (Em.letter 68) _ h1 (by omega)).mono ?_
    rintro r w1 ⟨rfl, hm⟩
    have HE1 : Hid (Mv (En C) w w1 lab (Em.tell e 7 (Em.letter 68))) := hm
    clear HE0 hm
    go_wp2
    go_end0
    exact ⟨rfl, HE1.out⟩

/-- the kind of frame that tells how far it is -/
theorem report_any (C : Nat) (lab : Nat → Nat) (e : Em.St) (w : World) (h : En C w lab e) :
    Calls Tryz.prog 86 #[.pointer (some ⟨C, 0, none⟩)] w fun r w' => r = .returned (.int .i64 (if e.fl.ow then 2 else 1)) ∧ Below w.heap.size w w' := by
  obtain ⟨D, G, c2, hD, hfl, -⟩ := h.flow
  have hlt := h.cs.lt
  have HV := fview_any D G e.fl w hfl
  unfold vwV at HV
  clear h hfl
  cases ho : e.fl.ow with
  | true =>
    rw [ho] at HV
    clear ho
    go_enter Tryz.func86, Tryz.ntmps86
    go_wp2_with fail
    refine HV.mono ?_
    rintro r w1 ⟨rfl, hb⟩
    have HB : Hid (Below w.heap.size w w1) := hb
    have hfv := vfield4 w1
    clear HV hb
    go_wp2
    go_ret
    exact ⟨rfl, HB.out⟩
  | false =>
    rw [ho] at HV
    clear ho
    go_enter Tryz.func86, Tryz.ntmps86
    go_wp2_with fail
    refine HV.mono ?_
    rintro r w1 ⟨rfl, hb⟩
    have HB : Hid (Below w.heap.size w w1) := hb
    have hfv := vfield4 w1
    clear HV hb
    go_wp2
    go_ret
    exact ⟨rfl, HB.out⟩

set_option maxHeartbeats 1000000 in
theorem answer_any (C : Nat) (lab : Nat → Nat) (e : Em.St) (pf : Bool) (w : World) (h : En C w lab e) (hl : e.out.length ≤ 700000) :
    Calls Tryz.prog 124 #[.pointer (some ⟨C, 0, none⟩), .bool pf] w fun r w' => r = .returned (.tuple #[]) ∧ Mv (En C) w w' lab (Em.answer e false pf) := by
  have HR := report_any C lab e w h
  have HE : Hid (En C w lab e) := h
  clear h
  unfold Em.answer
  generalize (if e.fl.ow = true then (2 : Int) else 1) = k at HR ⊢
  go_enter Tryz.func124, Tryz.ntmps124
  go_wp2_with fail
  refine HR.mono ?_
  rintro r w1 ⟨rfl, hb⟩
  have HE0 : Hid (Mv (En C) w w1 lab e) := HE.out.same hb
  clear HR hb HE
  go_wp2_with fail
  refine (HE0.out.call fun lab1 h1 => respond_any C lab1 _ k pf _ h1 (by omega)).mono ?_
  rintro r w2 ⟨rfl, hm⟩
  have HE1 : Hid (Mv (En C) w w2 lab (Em.send e (Em.bare false k pf))) := hm
  clear HE0 hm
  go_wp2
  go_end0
  exact ⟨rfl, HE1.out⟩

set_option maxHeartbeats 1000000 in
theorem inquire_any (C : Nat) (lab : Nat → Nat) (e : Em.St) (w : World) (h : En C w lab e) (hl : e.out.length ≤ 700000) :
    Calls Tryz.prog 39 #[.pointer (some ⟨C, 0, none⟩)] w fun r w' => r = .returned (.tuple #[]) ∧ Mv (En C) w w' lab (Em.inquire e) := by
  have HR := report_any C lab e w h
  have HE : Hid (En C w lab e) := h
  clear h
  unfold Em.inquire Em.answer
  generalize (if e.fl.ow = true then (2 : Int) else 1) = k at HR ⊢
  go_enter Tryz.func39, Tryz.ntmps39
  go_wp2_with fail
  refine HR.mono ?_
  rintro r w1 ⟨rfl, hb⟩
  have HE0 : Hid (Mv (En C) w w1 lab e) := HE.out.same hb
  clear HR hb HE
  go_wp2_with fail
  refine (HE0.out.call fun lab1 h1 => command_any C lab1 _ k _ h1 (by omega)).mono ?_
  rintro r w2 ⟨rfl, hm⟩
  have HE1 : Hid (Mv (En C) w w2 lab (Em.send e (Em.bare true k true))) := hm
  clear HE0 hm
  go_wp2_with fail
  refine (HE1.out.call fun lab1 h1 => start_any C lab1 _ 200 _ h1 (by rw [Em.len_send]; omega) (Or.inl rfl)).mono ?_
  rintro r w3 ⟨rfl, hm⟩
  have HE2 : Hid (Mv (En C) w w3 lab (Em.start200 (Em.send e (Em.bare true k true)))) := hm
  clear HE1 hm
  go_wp2
  go_end0
  exact ⟨rfl, HE2.out⟩

set_option maxHeartbeats 1000000 in
theorem giveUp_any (C : Nat) (lab : Nat → Nat) (e : Em.St) (w : World) (h : En C w lab e) (hl : e.out.length ≤ 700000) :
    Calls Tryz.prog 132 #[.pointer (some ⟨C, 0, none⟩)] w fun r w' => r = .returned (.tuple #[]) ∧ Mv (En C) w w' lab (Em.unsure e) := by
  obtain ⟨D, G, c2, hD, hfl, -⟩ := h.flow
  have hlt := h.cs.lt
  have HV := fview_any D G e.fl w hfl
  unfold vwV at HV
  have HE : Hid (En C w lab e) := h
  clear h hfl
  unfold Em.unsure
  by_cases hs : 0 < e.fl.sn
  · rw [if_pos hs]
    have hne : ((e.fl.sn : Int) == 0) = false := by simp; omega
    clear hs
    generalize (e.fl.sn : Int) = sn at HV hne
    go_enter Tryz.func132, Tryz.ntmps132
    go_wp2_with fail
    refine HV.mono ?_
    rintro r w1 ⟨rfl, hb⟩
    have HE0 : Hid (Mv (En C) w w1 lab e) := HE.out.same hb
    have hfv := vfield6 w1
    clear HV hb HE c2 hD hlt
    obtain ⟨D2, G2, fc, fC, fD, ffl, fmv⟩ := HE0.out.flow
    have HFL : Hid (Fl w1 D2 G2 e.fl) := ffl
    have HMV : Hid (∀ w' σ', Mvf w1 w' D2 G2 σ' → Mv (En C) w w' lab { e with fl := σ' }) := fmv
    clear ffl fmv
    go_wp2_with fail
    refine (fclear_any D2 G2 _ _ HFL.out).mono ?_
    rintro r w2 ⟨rfl, hm⟩
    have HE1 : Hid (Mv (En C) w w2 lab (Em.clear e)) := HMV.out _ _ hm
    clear HE0 hm HFL HMV fc fC fD hfv
    go_wp2_with fail
    refine (HE1.out.call fun lab1 h1 => tell_any C lab1 _ ⟨1, Em.fr0, ByteArray.empty, 0⟩ _ h1 (by show e.out.length ≤ _; omega)).mono ?_
    rintro r w3 ⟨rfl, hm⟩
    have HE2 : Hid (Mv (En C) w w3 lab (Em.tell (Em.clear e) 1 ByteArray.empty)) := hm
    clear HE1 hm
    go_wp2
    go_end0
    exact ⟨rfl, HE2.out⟩
  · rw [if_neg hs]
    have hz : e.fl.sn = 0 := by omega
    rw [hz] at HV
    clear hs hz
    go_enter Tryz.func132, Tryz.ntmps132
    go_wp2_with fail
    refine HV.mono ?_
    rintro r w1 ⟨rfl, hb⟩
    have HE0 : Hid (Mv (En C) w w1 lab e) := HE.out.same hb
    have hfv := vfield6 w1
    clear HV hb HE c2 hD hlt
    go_wp2
    refine bodyPost_ret (v := .tuple #[]) (results_none rfl _ _ _) rfl ?_
    exact ⟨rfl, HE0.out⟩
end Go.Proofs.YtidemohpngkedabGreatDoor

namespace Go.Proofs.YtidemohpngkedabGreatDoor
open Go.RowKit
set_option linter.unusedVariables false
set_option maxRecDepth 100000
set_option linter.unusedSimpArgs false

namespace Em
/-- while it goes on: so many payloads may still go out -/
structure GoI (X : St) (g : Nat) (e : St) : Prop where
  st : e.state = 7
  ok : FlOk e.fl
  eq : goN g e = X
  en : 128 ≤ e.fl.sn + g
  le : e.out.length + 3 * g ≤ 600000
theorem goOne_fl (e : St) : (goOne e).fl = Wm.takeT e.fl ∧ (goOne e).state = e.state := by
  unfold goOne
  simp only []
  split
  · exact ⟨rfl, rfl⟩
  · have hk := (stop203_keep (send { e with fl := Wm.takeT e.fl } ⟨0, 0, true, 0, false, Wm.takeN e.fl, 0, Wm.takeS e.fl⟩)).trans (start200_keep _)
    exact ⟨hk.fl, hk.state⟩
theorem GoI.step {X : St} {g : Nat} {e : St} (h : GoI X g e) (hb : Wm.takeB e.fl = true) : ∃ g', g = g' + 1 ∧ GoI X g' (goOne e) := by
  obtain ⟨_, _, t3⟩ := Wm.take_yes hb
  have hsn : (e.fl.sn : Int) < Wm.win e.fl.k := by
    unfold Wm.takeB at hb
    simp at hb
    exact hb.2.1
  have hw := Wm.win_le e.fl.k
  have hen := h.en
  obtain ⟨g', rfl⟩ : ∃ g', g = g' + 1 := ⟨g - 1, by omega⟩
  obtain ⟨f1, f2⟩ := goOne_fl e
  refine ⟨g', rfl, ⟨f2.trans h.st, by rw [f1]; exact h.ok.take, ?_, ?_, ?_⟩⟩
  · have := h.eq
    unfold goN at this
    rw [if_pos hb] at this
    exact this
  · rw [f1, t3]
    show 128 ≤ e.fl.sn + 1 + g'
    omega
  · have h1 := len_goOne e
    have h2 := h.le
    omega
theorem goN_stop (g : Nat) (e : St) (hb : Wm.takeB e.fl = false) : goN g e = e := by
  cases g with
  | zero => rfl
  | succ n =>
    unfold goN
    rw [if_neg (by rw [hb]; decide)]
theorem GoI.stop {X : St} {g : Nat} {e : St} (h : GoI X g e) (hb : Wm.takeB e.fl = false) : X = e := by
  rw [← h.eq, goN_stop g e hb]
theorem GoI.begin (e : St) (h7 : e.state = 7) (ok : FlOk e.fl) (hl : e.out.length ≤ 500000) : GoI (goOn e) 128 e := by
  refine ⟨h7, ok, ?_, by omega, by omega⟩
  unfold goOn
  rw [if_pos h7]
end Em

set_option maxHeartbeats 1000000 in
theorem goOn_any (C : Nat) (lab : Nat → Nat) (e : Em.St) (w : World) (h : En C w lab e) (hl : e.out.length ≤ 500000) (ok : Em.FlOk e.fl) :
    Calls Tryz.prog 122 #[.pointer (some ⟨C, 0, none⟩)] w fun r w' => r = .returned (.tuple #[]) ∧ Mv (En C) w w' lab (Em.goOn e) := by
  by_cases h7 : e.state = 7
  · have HG0 : Hid (Em.GoI (Em.goOn e) 128 e) := Em.GoI.begin e h7 ok hl
    have HE0 : Hid (Mv (En C) w w lab e) := h.same (Below.refl _ _)
    clear h h7 ok hl
    generalize Em.goOn e = X at HG0 ⊢
    go_enter Tryz.func122, Tryz.ntmps122
    go_wp2_with fail
    go_loopg [10] 128 (fun g s wr => ∃ e1, Hid (Mv (En C) w wr lab e1) ∧ Hid (Em.GoI X g e1))
    case atStart => exact ⟨e, HE0, HG0⟩
    case round =>
      obtain ⟨e1, HE, HG⟩ := hrel
      clear HE0 HG0
      have ha := HE.out.cells
      have c0 := ha.c0
      have hlt := ha.lt
      rw [HG.out.st] at c0
      clear ha
      obtain ⟨D, G, fc, fC, fD, ffl, fmv⟩ := HE.out.flow
      have HMV : Hid (∀ w' σ', Mvf wr w' D G σ' → Mv (En C) w w' lab { e1 with fl := σ' }) := fmv
      have HT := ftake_any D G e1.fl wr ffl HG.out.ok.ok
      clear ffl fmv
      cases hb : Wm.takeB e1.fl with
      | false =>
        rw [hb] at HT
        have HX : Hid (X = e1) := HG.out.stop hb
        have HTT : Hid (Wm.takeT e1.fl = e1.fl) := (Wm.take_no hb).2.2
        clear HG hb
        go_wp2_with fail
        refine HT.mono ?_
        rintro r w1 ⟨rfl, hm⟩
        have HE1 : Hid (Mv (En C) w w1 lab { e1 with fl := Wm.takeT e1.fl }) := HMV.out _ _ hm
        clear HT hm HMV HE
        go_wp2
        refine bodyPost_ret (v := .tuple #[]) (results_none rfl _ _ _) rfl ?_
        refine ⟨rfl, ?_⟩
        have := HE1.out
        rw [HTT.out] at this
        rw [HX.out]
        exact this
      | true =>
        rw [hb] at HT
        obtain ⟨g', hg, hG'⟩ := HG.out.step hb
        have HG2 : Hid (gk = g' + 1 ∧ Em.GoI X g' (Em.goOne e1)) := ⟨hg, hG'⟩
        have hlen : e1.out.length ≤ 600000 := by have := HG.out.le; omega
        clear HG hb hg hG'
        go_wp2_with fail
        refine HT.mono ?_
        rintro r w1 ⟨rfl, hm⟩
        have HE1 : Hid (Mv (En C) w w1 lab { e1 with fl := Wm.takeT e1.fl }) := HMV.out _ _ hm
        clear HT hm HMV HE c0 hlt fc fC fD
        go_wp2_with fail
        refine (HE1.out.call fun lab1 h1 => send_any C lab1 _ ⟨0, 0, true, 0, false, Wm.takeN e1.fl, 0, Wm.takeS e1.fl⟩ _ h1 (by show e1.out.length ≤ _; omega)).mono ?_
        rintro r w2 ⟨rfl, hm⟩
        obtain ⟨e2, he2⟩ : ∃ e2, e2 = Em.send { e1 with fl := Wm.takeT e1.fl } ⟨0, 0, true, 0, false, Wm.takeN e1.fl, 0, Wm.takeS e1.fl⟩ := ⟨_, rfl⟩
        have hl2 : e2.out.length ≤ 600001 := by rw [he2, Em.len_send]; show e1.out.length + 1 ≤ _; omega
        have HO : Hid (Em.goOne e1 = if e2.t200 then e2 else Em.start200 (Em.stop203 e2)) := by rw [he2]; rfl
        have HE2 : Hid (Mv (En C) w w2 lab e2) := by rw [he2]; exact hm
        clear HE1 hm he2 hlen
        obtain ⟨lab2, hE2, hk2, hq2⟩ := HE2.out
        have HR := runs_any C lab2 e2 200 w2 hE2 (by omega) (by omega)
        rw [Em.runs_200] at HR
        clear hE2 hk2 hq2
        cases ht : e2.t200 with
        | true =>
          rw [ht] at HR
          have HO2 : Hid (Em.goOne e1 = e2) := by have := HO.out; rw [ht, if_pos rfl] at this; exact this
          clear HO ht
          go_wp2_with fail
          refine HR.mono ?_
          rintro r w3 ⟨rfl, hb⟩
          have HE3 : Hid (Mv (En C) w w3 lab e2) := HE2.out.then hb
          clear HR hb HE2
          go_wp2
          go_roundg g'
          case measure => have := HG2.out.1; omega
          case rel => exact ⟨e2, HE3, by have := HG2.out.2; rw [HO2.out] at this; exact this⟩
        | false =>
          rw [ht] at HR
          have HO2 : Hid (Em.goOne e1 = Em.start200 (Em.stop203 e2)) := by have := HO.out; rw [ht, if_neg (by decide)] at this; exact this
          clear HO ht
          go_wp2_with fail
          refine HR.mono ?_
          rintro r w3 ⟨rfl, hb⟩
          have HE3 : Hid (Mv (En C) w w3 lab e2) := HE2.out.then hb
          clear HR hb HE2
          go_wp2_with fail
          refine (HE3.out.call fun lab1 h1 => await_any C lab1 _ _ h1 (by omega)).mono ?_
          rintro r w4 ⟨rfl, hm⟩
          have HE4 : Hid (Mv (En C) w w4 lab (Em.start200 (Em.stop203 e2))) := hm
          clear HE3 hm
          go_wp2
          go_roundg g'
          case measure => have := HG2.out.1; omega
          case rel => exact ⟨_, HE4, by have := HG2.out.2; rw [HO2.out] at this; exact this⟩
  · have HX : Hid (Em.goOn e = e) := by show _ = _; unfold Em.goOn; rw [if_neg h7]
    have HE0 : Hid (Mv (En C) w w lab e) := h.same (Below.refl _ _)
    have c0 := h.cs.c0
    have hlt := h.cs.lt
    have hne : (e.state == 7) = false := by simp; exact h7
    clear h h7 ok hl
    generalize e.state = s at c0 hne
    rw [HX.out]
    go_enter Tryz.func122, Tryz.ntmps122
    go_wp2_with fail
    go_loopw [10] (fun _ wr => wr = w) (fun _ _ => 0)
    case atStart => rfl
    case round =>
      subst hrel
      go_wp2
      go_end0
      exact ⟨rfl, HE0.out⟩
end Go.Proofs.YtidemohpngkedabGreatDoor

namespace Go.Proofs.YtidemohpngkedabGreatDoor
open Go.RowKit
set_option linter.unusedVariables false
set_option maxRecDepth 100000
set_option linter.unusedSimpArgs false

theorem Em.unsure_fl {e : Em.St} (h : Em.FlOk e.fl) : Em.FlOk (Em.unsure e).fl := by
  unfold Em.unsure
  split
  · exact h.clear
  · exact h
theorem Em.len_strange (e : Em.St) (f : Em.Fr) : (Em.strange e f).out.length = e.out.length + 1 := Em.len_tell _ _ _

set_option maxHeartbeats 1000000 in
theorem open_any (C : Nat) (lab : Nat → Nat) (e : Em.St) (w : World) (h : En C w lab e) (hl : e.out.length ≤ 400000) (ok : Em.FlOk e.fl) :
    Calls Tryz.prog 126 #[.pointer (some ⟨C, 0, none⟩)] w fun r w' => r = .returned (.tuple #[]) ∧ Mv (En C) w w' lab (Em.open' e) := by
  have HE0 : Hid (Mv (En C) w w lab e) := h.same (Below.refl _ _)
  clear h
  obtain ⟨D, G, fc, fC, fD, ffl, fmv⟩ := HE0.out.flow
  have HFL : Hid (Fl (w) D G (e).fl) := ffl
  have HMV : Hid (∀ w' σ', Mvf (w) w' D G σ' → Mv (En C) w w' lab { (e) with fl := σ' }) := fmv
  clear ffl fmv
  go_enter Tryz.func126, Tryz.ntmps126
  go_wp2_with fail
  refine (freset_any D G _  _ HFL.out).mono ?_
  rintro r w1 ⟨rfl, hm⟩
  have HE1 : Hid (Mv (En C) w w1 lab ({ e with fl := Wm.resetT e.fl })) := HMV.out _ _ hm
  clear HE0 hm HFL HMV fc fC fD
  go_wp2_with fail
  refine (HE1.out.call fun lab1 h1 => rest_any C lab1 _  _ h1 (by show e.out.length ≤ _; omega)).mono ?_
  rintro r w2 ⟨rfl, hm⟩
  have HE2 : Hid (Mv (En C) w w2 lab (Em.start203 (Em.stop200 { e with fl := Wm.resetT e.fl }))) := hm
  clear HE1 hm
  have ha2 := HE2.out.cells
  have k20 := ha2.c0
  have l2 := ha2.lt
  have g2 := ha2.f 0 (by decide)
  clear ha2
  have HE3 : Hid (Mv (En C) w (w2.setCell ⟨C, 0, none⟩ (.int .i64 7)) lab ({ Em.start203 (Em.stop200 { e with fl := Wm.resetT e.fl }) with state := 7 })) := HE2.out.trans fun _ hx => hx.setState 7
  go_wp2_with fail
  refine (HE3.out.call fun lab1 h1 => goOn_any C lab1 _  _ h1 (by have := Em.len_rest { e with fl := Wm.resetT e.fl }; have h2 : ({ e with fl := Wm.resetT e.fl } : Em.St).out.length = e.out.length := rfl; show (Em.start203 (Em.stop200 { e with fl := Wm.resetT e.fl })).out.length ≤ _; omega) (by have hk := (Em.stop200_keep { e with fl := Wm.resetT e.fl }).trans (Em.start203_keep _); show Em.FlOk (Em.start203 (Em.stop200 { e with fl := Wm.resetT e.fl })).fl; rw [hk.fl]; exact ok.reset)).mono ?_
  rintro r w4 ⟨rfl, hm⟩
  have HE4 : Hid (Mv (En C) w w4 lab (Em.open' e)) := hm
  clear HE3 hm
  go_wp2
  go_end0
  exact ⟨rfl, HE4.out⟩

set_option maxHeartbeats 1000000 in
theorem count_any (C : Nat) (lab : Nat → Nat) (e : Em.St) (n : Int) (w : World) (h : En C w lab e) (hl : e.out.length ≤ 700000) :
    Calls Tryz.prog 149 #[.pointer (some ⟨C, 0, none⟩), .int .i64 n] w fun r w' => r = .returned (.tuple #[]) ∧ Mv (En C) w w' lab (Em.count e n) := by
  obtain ⟨D, G, c2, hD, hfl, -⟩ := h.flow
  have hlt := h.cs.lt
  have HV := fview_any D G e.fl w hfl
  unfold vwV at HV
  have HE : Hid (En C w lab e) := h
  clear h hfl
  unfold Em.count
  by_cases hv : e.fl.va = e.fl.vs
  · rw [if_pos hv]
    have heq : (e.fl.va == e.fl.vs) = true := by simp; exact hv
    generalize e.fl.va = va at HV heq
    generalize e.fl.vs = vs at HV heq
    clear hv
    go_enter Tryz.func149, Tryz.ntmps149
    go_wp2_with fail
    refine HV.mono ?_
    rintro r w1 ⟨rfl, hb⟩
    have HE0 : Hid (∀ o, Mv (En C) w (w1.alloc o) lab e) := fun o => (HE.out.same hb).then ((Below.refl _ _).alloc (Nat.le_refl _) o)
    have hfv0 := vfield0 w1
    have hfv1 := vfield1 w1
    clear HV hb HE c2 hD hlt
    go_wp2_with fail
    refine ((HE0.out _).call fun lab1 h1 => rest_any C lab1 _ _ h1 (by omega)).mono ?_
    rintro r w2 ⟨rfl, hm⟩
    have HE1 : Hid (Mv (En C) w w2 lab (Em.start203 (Em.stop200 e))) := hm
    clear HE0 hm hfv0 hfv1
    go_wp2
    go_end0
    exact ⟨rfl, HE1.out⟩
  · rw [if_neg hv]
    have heq : (e.fl.va == e.fl.vs) = false := by simp; exact hv
    generalize e.fl.va = va at HV heq
    generalize e.fl.vs = vs at HV heq
    clear hv
    by_cases hn : 0 < n
    · rw [if_pos hn]
      go_enter Tryz.func149, Tryz.ntmps149
      go_wp2_with fail
      refine HV.mono ?_
      rintro r w1 ⟨rfl, hb⟩
      have HE0 : Hid (∀ o, Mv (En C) w (w1.alloc o) lab e) := fun o => (HE.out.same hb).then ((Below.refl _ _).alloc (Nat.le_refl _) o)
      have hfv0 := vfield0 w1
      have hfv1 := vfield1 w1
      clear HV hb HE c2 hD hlt
      go_wp2_with fail
      refine ((HE0.out _).call fun lab1 h1 => start_any C lab1 _ 200 _ h1 (by omega) (Or.inl rfl)).mono ?_
      rintro r w2 ⟨rfl, hm⟩
      have HE1 : Hid (Mv (En C) w w2 lab (Em.start200 e)) := hm
      clear HE0 hm hfv0 hfv1
      go_wp2
      go_end0
      exact ⟨rfl, HE1.out⟩
    · rw [if_neg hn]
      go_enter Tryz.func149, Tryz.ntmps149
      go_wp2_with fail
      refine HV.mono ?_
      rintro r w1 ⟨rfl, hb⟩
      have HE0 : Hid (∀ o, Mv (En C) w (w1.alloc o) lab e) := fun o => (HE.out.same hb).then ((Below.refl _ _).alloc (Nat.le_refl _) o)
      have hfv0 := vfield0 w1
      have hfv1 := vfield1 w1
      clear HV hb HE c2 hD hlt
      go_wp2
      go_end0
      exact ⟨rfl, HE0.out _⟩

set_option maxHeartbeats 1000000 in
theorem released_any (C : Nat) (lab : Nat → Nat) (e : Em.St) (w : World) (h : En C w lab e) (hl : e.out.length ≤ 600000) :
    Calls Tryz.prog 129 #[.pointer (some ⟨C, 0, none⟩)] w fun r w' => r = .returned (.tuple #[]) ∧ Mv (En C) w w' lab (Em.end' (Em.tell e 4 ByteArray.empty)) := by
  have HE0 : Hid (Mv (En C) w w lab e) := h.same (Below.refl _ _)
  clear h
  go_enter Tryz.func129, Tryz.ntmps129
  go_wp2_with fail
  refine (HE0.out.call fun lab1 h1 => tell_any C lab1 _ ⟨4, Em.fr0, ByteArray.empty, 0⟩ _ h1 (by omega)).mono ?_
  rintro r w1 ⟨rfl, hm⟩
  have HE1 : Hid (Mv (En C) w w1 lab (Em.tell e 4 ByteArray.empty)) := hm
  clear HE0 hm
  go_wp2_with fail
  refine (HE1.out.call fun lab1 h1 => end_any C lab1 _  _ h1 (by rw [Em.len_tell]; omega)).mono ?_
  rintro r w2 ⟨rfl, hm⟩
  have HE2 : Hid (Mv (En C) w w2 lab (Em.end' (Em.tell e 4 ByteArray.empty))) := hm
  clear HE1 hm
  go_wp2
  go_end0
  exact ⟨rfl, HE2.out⟩

/-- the peer took its call -/
def Em.conn (e : Em.St) : Em.St := Em.open' { (if e.asked then Em.tell e 2 ByteArray.empty else Em.unsure e) with asked := false }
set_option maxHeartbeats 1000000 in
theorem connected_any (C : Nat) (lab : Nat → Nat) (e : Em.St) (w : World) (h : En C w lab e) (hl : e.out.length ≤ 300000) (ok : Em.FlOk e.fl) :
    Calls Tryz.prog 128 #[.pointer (some ⟨C, 0, none⟩)] w fun r w' => r = .returned (.tuple #[]) ∧ Mv (En C) w w' lab (Em.conn e) := by
  have HE0 : Hid (Mv (En C) w w lab e) := h.same (Below.refl _ _)
  have c5 := h.cs.c5
  have hlt := h.cs.lt
  clear h
  unfold Em.conn
  cases ha : e.asked with
  | true =>
    rw [ha] at c5
    rw [if_pos rfl]
    clear ha
    go_enter Tryz.func128, Tryz.ntmps128
    go_wp2_with fail
    refine (HE0.out.call fun lab1 h1 => tell_any C lab1 _ ⟨2, Em.fr0, ByteArray.empty, 0⟩ _ h1 (by omega)).mono ?_
    rintro r w1 ⟨rfl, hm⟩
    have HE1 : Hid (Mv (En C) w w1 lab (Em.tell e 2 ByteArray.empty)) := hm
    clear HE0 hm
    have ha1 := HE1.out.cells
    have k15 := ha1.c5
    have l1 := ha1.lt
    have g1 := ha1.f 5 (by decide)
    clear ha1
    have HE2 : Hid (Mv (En C) w (w1.setCell ⟨C, 5, none⟩ (.bool false)) lab ({ Em.tell e 2 ByteArray.empty with asked := false })) := HE1.out.trans fun _ hx => hx.setAsked false
    go_wp2_with fail
    refine (HE2.out.call fun lab1 h1 => open_any C lab1 _  _ h1 (by show (Em.tell e 2 ByteArray.empty).out.length ≤ _; rw [Em.len_tell]; omega) ok).mono ?_
    rintro r w3 ⟨rfl, hm⟩
    have HE3 : Hid (Mv (En C) w w3 lab (Em.open' { Em.tell e 2 ByteArray.empty with asked := false })) := hm
    clear HE2 hm
    go_wp2
    go_end0
    exact ⟨rfl, HE3.out⟩
  | false =>
    rw [ha] at c5
    rw [if_neg (by decide)]
    clear ha
    go_enter Tryz.func128, Tryz.ntmps128
    go_wp2_with fail
    refine (HE0.out.call fun lab1 h1 => giveUp_any C lab1 _  _ h1 (by omega)).mono ?_
    rintro r w1 ⟨rfl, hm⟩
    have HE1 : Hid (Mv (En C) w w1 lab (Em.unsure e)) := hm
    clear HE0 hm
    have ha1 := HE1.out.cells
    have k15 := ha1.c5
    have l1 := ha1.lt
    have g1 := ha1.f 5 (by decide)
    clear ha1
    have HE2 : Hid (Mv (En C) w (w1.setCell ⟨C, 5, none⟩ (.bool false)) lab ({ Em.unsure e with asked := false })) := HE1.out.trans fun _ hx => hx.setAsked false
    go_wp2_with fail
    refine (HE2.out.call fun lab1 h1 => open_any C lab1 _  _ h1 (by show (Em.unsure e).out.length ≤ _; have := Em.len_unsure e; omega) (Em.unsure_fl ok)).mono ?_
    rintro r w3 ⟨rfl, hm⟩
    have HE3 : Hid (Mv (En C) w w3 lab (Em.open' { Em.unsure e with asked := false })) := hm
    clear HE2 hm
    go_wp2
    go_end0
    exact ⟨rfl, HE3.out⟩

set_option maxHeartbeats 1000000 in
theorem comeAssigned_any (C : Nat) (lab : Nat → Nat) (e : Em.St) (f : Em.Fr) (w : World) (h : En C w lab e) (hl : e.out.length ≤ 200000) (ok : Em.FlOk e.fl) :
    Calls Tryz.prog 88 #[.pointer (some ⟨C, 0, none⟩), frmV f] w fun r w' => r = .returned (.tuple #[]) ∧ Mv (En C) w w' lab (Em.inAssigned e f) := by
  obtain ⟨sapi, tei, c, k, pf, ns, nr, info⟩ := f
  have HB : Hid (∀ o, Mv (En C) w (w.alloc o) lab e) := fun o => h.same ((Below.refl _ _).alloc (Nat.le_refl _) o)
  clear h
  unfold frmV
  rcases (show k = 4 ∨ k = 7 ∨ k = 8 ∨ k = 5 ∨ (¬ k = 4 ∧ ¬ k = 7 ∧ ¬ k = 8 ∧ ¬ k = 5) by omega) with rfl | rfl | rfl | rfl | ⟨e4, e7, e8, e5⟩
  · have hres : Em.inAssigned e ⟨sapi, tei, c, 4, pf, ns, nr, info⟩ = Em.open' (Em.tell (Em.send e (Em.bare false 8 pf)) 1 ByteArray.empty) := by first | rfl | (unfold Em.inAssigned; simp)
    rw [hres]
    clear hres
    have HE0 : Hid (Mv (En C) w (w.alloc (.cells #[.int .i64 sapi, .int .i64 tei, .bool c, .int .i64 4, .bool pf, .int .i64 ns, .int .i64 nr, .string info] 49)) lab e) := HB.out _
    clear HB
    go_enter Tryz.func88, Tryz.ntmps88
    go_wp2_with fail
    refine (HE0.out.call fun lab1 h1 => respond_any C lab1 _ 8 pf _ h1 (by omega)).mono ?_
    rintro r w1 ⟨rfl, hm⟩
    have HE1 : Hid (Mv (En C) w w1 lab (Em.send e (Em.bare false 8 pf))) := hm
    clear HE0 hm
    go_wp2_with fail
    refine (HE1.out.call fun lab1 h1 => tell_any C lab1 _ ⟨1, Em.fr0, ByteArray.empty, 0⟩ _ h1 (by rw [Em.len_send]; omega)).mono ?_
    rintro r w2 ⟨rfl, hm⟩
    have HE2 : Hid (Mv (En C) w w2 lab (Em.tell (Em.send e (Em.bare false 8 pf)) 1 ByteArray.empty)) := hm
    clear HE1 hm
    go_wp2_with fail
    refine (HE2.out.call fun lab1 h1 => open_any C lab1 _  _ h1 (by rw [Em.len_tell, Em.len_send]; omega) ok).mono ?_
    rintro r w3 ⟨rfl, hm⟩
    have HE3 : Hid (Mv (En C) w w3 lab (Em.open' (Em.tell (Em.send e (Em.bare false 8 pf)) 1 ByteArray.empty))) := hm
    clear HE2 hm
    go_wp2
    go_end0
    exact ⟨rfl, HE3.out⟩
  · have hres : Em.inAssigned e ⟨sapi, tei, c, 7, pf, ns, nr, info⟩ = Em.send e (Em.bare false 5 pf) := by first | rfl | (unfold Em.inAssigned; simp)
    rw [hres]
    clear hres
    have HE0 : Hid (Mv (En C) w (w.alloc (.cells #[.int .i64 sapi, .int .i64 tei, .bool c, .int .i64 7, .bool pf, .int .i64 ns, .int .i64 nr, .string info] 49)) lab e) := HB.out _
    clear HB
    go_enter Tryz.func88, Tryz.ntmps88
    go_wp2_with fail
    refine (HE0.out.call fun lab1 h1 => respond_any C lab1 _ 5 pf _ h1 (by omega)).mono ?_
    rintro r w1 ⟨rfl, hm⟩
    have HE1 : Hid (Mv (En C) w w1 lab (Em.send e (Em.bare false 5 pf))) := hm
    clear HE0 hm
    go_wp2
    go_end0
    exact ⟨rfl, HE1.out⟩
  · have hres : Em.inAssigned e ⟨sapi, tei, c, 8, pf, ns, nr, info⟩ = Em.strange e ⟨sapi, tei, c, 8, pf, ns, nr, info⟩ := by first | rfl | (unfold Em.inAssigned; simp)
    rw [hres]
    clear hres
    have HE0 : Hid (Mv (En C) w (w.alloc (.cells #[.int .i64 sapi, .int .i64 tei, .bool c, .int .i64 8, .bool pf, .int .i64 ns, .int .i64 nr, .string info] 49)) lab e) := HB.out _
    clear HB
    go_enter Tryz.func88, Tryz.ntmps88
    go_wp2_with fail
    refine (HE0.out.call fun lab1 h1 => refuseUA_any C lab1 _ ⟨sapi, tei, c, 8, pf, ns, nr, info⟩ _ h1 (by omega)).mono ?_
    rintro r w1 ⟨rfl, hm⟩
    have HE1 : Hid (Mv (En C) w w1 lab (Em.strange e ⟨sapi, tei, c, 8, pf, ns, nr, info⟩)) := hm
    clear HE0 hm
    go_wp2
    go_end0
    exact ⟨rfl, HE1.out⟩
  · cases pf with
    | true =>
      have hres : Em.inAssigned e ⟨sapi, tei, c, 5, true, ns, nr, info⟩ = e := by first | rfl | (unfold Em.inAssigned; simp)
      rw [hres]
      clear hres
      have HE0 : Hid (Mv (En C) w (w.alloc (.cells #[.int .i64 sapi, .int .i64 tei, .bool c, .int .i64 5, .bool true, .int .i64 ns, .int .i64 nr, .string info] 49)) lab e) := HB.out _
      clear HB
      go_enter Tryz.func88, Tryz.ntmps88
      go_wp2
      go_end0
      exact ⟨rfl, HE0.out⟩
    | false =>
      have hres : Em.inAssigned e ⟨sapi, tei, c, 5, false, ns, nr, info⟩ = Em.call { e with asked := true } := by first | rfl | (unfold Em.inAssigned; simp)
      rw [hres]
      clear hres
      have HE0 : Hid (Mv (En C) w (w.alloc (.cells #[.int .i64 sapi, .int .i64 tei, .bool c, .int .i64 5, .bool false, .int .i64 ns, .int .i64 nr, .string info] 49)) lab e) := HB.out _
      clear HB
      go_enter Tryz.func88, Tryz.ntmps88
      go_wp2_with fail
      refine (HE0.out.call fun lab1 h1 => callAsked_any C lab1 _  _ h1 (by omega)).mono ?_
      rintro r w1 ⟨rfl, hm⟩
      have HE1 : Hid (Mv (En C) w w1 lab (Em.call { e with asked := true })) := hm
      clear HE0 hm
      go_wp2
      go_end0
      exact ⟨rfl, HE1.out⟩
  · have hres : Em.inAssigned e ⟨sapi, tei, c, k, pf, ns, nr, info⟩ = e := by unfold Em.inAssigned; simp [e4, e7, e8, e5]
    rw [hres]
    have n4 : (k == 4) = false := by simp; exact e4
    have n7 : (k == 7) = false := by simp; exact e7
    have n8 : (k == 8) = false := by simp; exact e8
    have n5 : (k == 5) = false := by simp; exact e5
    clear hres e4 e7 e8 e5
    have HE0 : Hid (Mv (En C) w (w.alloc (.cells #[.int .i64 sapi, .int .i64 tei, .bool c, .int .i64 k, .bool pf, .int .i64 ns, .int .i64 nr, .string info] 49)) lab e) := HB.out _
    clear HB
    go_enter Tryz.func88, Tryz.ntmps88
    go_wp2
    go_end0
    exact ⟨rfl, HE0.out⟩

set_option maxHeartbeats 1000000 in
theorem comeConnecting_any (C : Nat) (lab : Nat → Nat) (e : Em.St) (f : Em.Fr) (w : World) (h : En C w lab e) (hl : e.out.length ≤ 200000) (ok : Em.FlOk e.fl) :
    Calls Tryz.prog 89 #[.pointer (some ⟨C, 0, none⟩), frmV f] w fun r w' => r = .returned (.tuple #[]) ∧ Mv (En C) w w' lab (Em.inConnecting e f) := by
  obtain ⟨sapi, tei, c, k, pf, ns, nr, info⟩ := f
  have HB : Hid (∀ o, Mv (En C) w (w.alloc o) lab e) := fun o => h.same ((Below.refl _ _).alloc (Nat.le_refl _) o)
  clear h
  unfold frmV
  rcases (show k = 4 ∨ k = 7 ∨ k = 8 ∨ k = 5 ∨ (¬ k = 4 ∧ ¬ k = 7 ∧ ¬ k = 8 ∧ ¬ k = 5) by omega) with rfl | rfl | rfl | rfl | ⟨e4, e7, e8, e5⟩
  · have hres : Em.inConnecting e ⟨sapi, tei, c, 4, pf, ns, nr, info⟩ = Em.send e (Em.bare false 8 pf) := by first | rfl | (unfold Em.inConnecting; simp)
    rw [hres]
    clear hres
    have HE0 : Hid (Mv (En C) w (w.alloc (.cells #[.int .i64 sapi, .int .i64 tei, .bool c, .int .i64 4, .bool pf, .int .i64 ns, .int .i64 nr, .string info] 49)) lab e) := HB.out _
    clear HB
    go_enter Tryz.func89, Tryz.ntmps89
    go_wp2_with fail
    refine (HE0.out.call fun lab1 h1 => respond_any C lab1 _ 8 pf _ h1 (by omega)).mono ?_
    rintro r w1 ⟨rfl, hm⟩
    have HE1 : Hid (Mv (En C) w w1 lab (Em.send e (Em.bare false 8 pf))) := hm
    clear HE0 hm
    go_wp2
    go_end0
    exact ⟨rfl, HE1.out⟩
  · have hres : Em.inConnecting e ⟨sapi, tei, c, 7, pf, ns, nr, info⟩ = Em.send e (Em.bare false 5 pf) := by first | rfl | (unfold Em.inConnecting; simp)
    rw [hres]
    clear hres
    have HE0 : Hid (Mv (En C) w (w.alloc (.cells #[.int .i64 sapi, .int .i64 tei, .bool c, .int .i64 7, .bool pf, .int .i64 ns, .int .i64 nr, .string info] 49)) lab e) := HB.out _
    clear HB
    go_enter Tryz.func89, Tryz.ntmps89
    go_wp2_with fail
    refine (HE0.out.call fun lab1 h1 => respond_any C lab1 _ 5 pf _ h1 (by omega)).mono ?_
    rintro r w1 ⟨rfl, hm⟩
    have HE1 : Hid (Mv (En C) w w1 lab (Em.send e (Em.bare false 5 pf))) := hm
    clear HE0 hm
    go_wp2
    go_end0
    exact ⟨rfl, HE1.out⟩
  · cases pf with
    | true =>
      have hres : Em.inConnecting e ⟨sapi, tei, c, 8, true, ns, nr, info⟩ = Em.conn e := by first | rfl | (unfold Em.inConnecting; simp)
      rw [hres]
      clear hres
      have HE0 : Hid (Mv (En C) w (w.alloc (.cells #[.int .i64 sapi, .int .i64 tei, .bool c, .int .i64 8, .bool true, .int .i64 ns, .int .i64 nr, .string info] 49)) lab e) := HB.out _
      clear HB
      go_enter Tryz.func89, Tryz.ntmps89
      go_wp2_with fail
      refine (HE0.out.call fun lab1 h1 => connected_any C lab1 _  _ h1 (by omega) ok).mono ?_
      rintro r w1 ⟨rfl, hm⟩
      have HE1 : Hid (Mv (En C) w w1 lab (Em.conn e)) := hm
      clear HE0 hm
      go_wp2
      go_end0
      exact ⟨rfl, HE1.out⟩
    | false =>
      have hres : Em.inConnecting e ⟨sapi, tei, c, 8, false, ns, nr, info⟩ = Em.tell e 7 (Em.letter 68) := by first | rfl | (unfold Em.inConnecting; simp)
      rw [hres]
      clear hres
      have HE0 : Hid (Mv (En C) w (w.alloc (.cells #[.int .i64 sapi, .int .i64 tei, .bool c, .int .i64 8, .bool false, .int .i64 ns, .int .i64 nr, .string info] 49)) lab e) := HB.out _
      clear HB
      go_enter Tryz.func89, Tryz.ntmps89
      go_wp2_with fail
      refine (HE0.out.call fun lab1 h1 => err_any C lab1 _ (Em.letter 68) _ h1 (by omega)).mono ?_
      rintro r w1 ⟨rfl, hm⟩
      have HE1 : Hid (Mv (En C) w w1 lab (Em.tell e 7 (Em.letter 68))) := hm
      clear HE0 hm
      go_wp2
      go_end0
      exact ⟨rfl, HE1.out⟩
  · cases pf with
    | true =>
      have hres : Em.inConnecting e ⟨sapi, tei, c, 5, true, ns, nr, info⟩ = Em.end' (Em.tell e 3 ByteArray.empty) := by first | rfl | (unfold Em.inConnecting; simp)
      rw [hres]
      clear hres
      have HE0 : Hid (Mv (En C) w (w.alloc (.cells #[.int .i64 sapi, .int .i64 tei, .bool c, .int .i64 5, .bool true, .int .i64 ns, .int .i64 nr, .string info] 49)) lab e) := HB.out _
      clear HB
      go_enter Tryz.func89, Tryz.ntmps89
      go_wp2_with fail
      refine (HE0.out.call fun lab1 h1 => tell_any C lab1 _ ⟨3, Em.fr0, ByteArray.empty, 0⟩ _ h1 (by omega)).mono ?_
      rintro r w1 ⟨rfl, hm⟩
      have HE1 : Hid (Mv (En C) w w1 lab (Em.tell e 3 ByteArray.empty)) := hm
      clear HE0 hm
      go_wp2_with fail
      refine (HE1.out.call fun lab1 h1 => end_any C lab1 _  _ h1 (by rw [Em.len_tell]; omega)).mono ?_
      rintro r w2 ⟨rfl, hm⟩
      have HE2 : Hid (Mv (En C) w w2 lab (Em.end' (Em.tell e 3 ByteArray.empty))) := hm
      clear HE1 hm
      go_wp2
      go_end0
      exact ⟨rfl, HE2.out⟩
    | false =>
      have hres : Em.inConnecting e ⟨sapi, tei, c, 5, false, ns, nr, info⟩ = e := by first | rfl | (unfold Em.inConnecting; simp)
      rw [hres]
      clear hres
      have HE0 : Hid (Mv (En C) w (w.alloc (.cells #[.int .i64 sapi, .int .i64 tei, .bool c, .int .i64 5, .bool false, .int .i64 ns, .int .i64 nr, .string info] 49)) lab e) := HB.out _
      clear HB
      go_enter Tryz.func89, Tryz.ntmps89
      go_wp2
      go_end0
      exact ⟨rfl, HE0.out⟩
  · have hres : Em.inConnecting e ⟨sapi, tei, c, k, pf, ns, nr, info⟩ = e := by unfold Em.inConnecting; simp [e4, e7, e8, e5]
    rw [hres]
    have n4 : (k == 4) = false := by simp; exact e4
    have n7 : (k == 7) = false := by simp; exact e7
    have n8 : (k == 8) = false := by simp; exact e8
    have n5 : (k == 5) = false := by simp; exact e5
    clear hres e4 e7 e8 e5
    have HE0 : Hid (Mv (En C) w (w.alloc (.cells #[.int .i64 sapi, .int .i64 tei, .bool c, .int .i64 k, .bool pf, .int .i64 ns, .int .i64 nr, .string info] 49)) lab e) := HB.out _
    clear HB
    go_enter Tryz.func89, Tryz.ntmps89
    go_wp2
    go_end0
    exact ⟨rfl, HE0.out⟩

set_option maxHeartbeats 1000000 in
theorem comeReleasing_any (C : Nat) (lab : Nat → Nat) (e : Em.St) (f : Em.Fr) (w : World) (h : En C w lab e) (hl : e.out.length ≤ 200000) :
    Calls Tryz.prog 90 #[.pointer (some ⟨C, 0, none⟩), frmV f] w fun r w' => r = .returned (.tuple #[]) ∧ Mv (En C) w w' lab (Em.inReleasing e f) := by
  obtain ⟨sapi, tei, c, k, pf, ns, nr, info⟩ := f
  have HB : Hid (∀ o, Mv (En C) w (w.alloc o) lab e) := fun o => h.same ((Below.refl _ _).alloc (Nat.le_refl _) o)
  clear h
  unfold frmV
  rcases (show k = 4 ∨ k = 7 ∨ k = 8 ∨ k = 5 ∨ (¬ k = 4 ∧ ¬ k = 7 ∧ ¬ k = 8 ∧ ¬ k = 5) by omega) with rfl | rfl | rfl | rfl | ⟨e4, e7, e8, e5⟩
  · have hres : Em.inReleasing e ⟨sapi, tei, c, 4, pf, ns, nr, info⟩ = Em.send e (Em.bare false 5 pf) := by first | rfl | (unfold Em.inReleasing; simp)
    rw [hres]
    clear hres
    have HE0 : Hid (Mv (En C) w (w.alloc (.cells #[.int .i64 sapi, .int .i64 tei, .bool c, .int .i64 4, .bool pf, .int .i64 ns, .int .i64 nr, .string info] 49)) lab e) := HB.out _
    clear HB
    go_enter Tryz.func90, Tryz.ntmps90
    go_wp2_with fail
    refine (HE0.out.call fun lab1 h1 => respond_any C lab1 _ 5 pf _ h1 (by omega)).mono ?_
    rintro r w1 ⟨rfl, hm⟩
    have HE1 : Hid (Mv (En C) w w1 lab (Em.send e (Em.bare false 5 pf))) := hm
    clear HE0 hm
    go_wp2
    go_end0
    exact ⟨rfl, HE1.out⟩
  · have hres : Em.inReleasing e ⟨sapi, tei, c, 7, pf, ns, nr, info⟩ = Em.send e (Em.bare false 8 pf) := by first | rfl | (unfold Em.inReleasing; simp)
    rw [hres]
    clear hres
    have HE0 : Hid (Mv (En C) w (w.alloc (.cells #[.int .i64 sapi, .int .i64 tei, .bool c, .int .i64 7, .bool pf, .int .i64 ns, .int .i64 nr, .string info] 49)) lab e) := HB.out _
    clear HB
    go_enter Tryz.func90, Tryz.ntmps90
    go_wp2_with fail
    refine (HE0.out.call fun lab1 h1 => respond_any C lab1 _ 8 pf _ h1 (by omega)).mono ?_
    rintro r w1 ⟨rfl, hm⟩
    have HE1 : Hid (Mv (En C) w w1 lab (Em.send e (Em.bare false 8 pf))) := hm
    clear HE0 hm
    go_wp2
    go_end0
    exact ⟨rfl, HE1.out⟩
  · cases pf with
    | true =>
      have hres : Em.inReleasing e ⟨sapi, tei, c, 8, true, ns, nr, info⟩ = Em.end' (Em.tell e 4 ByteArray.empty) := by first | rfl | (unfold Em.inReleasing; simp)
      rw [hres]
      clear hres
      have HE0 : Hid (Mv (En C) w (w.alloc (.cells #[.int .i64 sapi, .int .i64 tei, .bool c, .int .i64 8, .bool true, .int .i64 ns, .int .i64 nr, .string info] 49)) lab e) := HB.out _
      clear HB
      go_enter Tryz.func90, Tryz.ntmps90
      go_wp2_with fail
      refine (HE0.out.call fun lab1 h1 => released_any C lab1 _  _ h1 (by omega)).mono ?_
      rintro r w1 ⟨rfl, hm⟩
      have HE1 : Hid (Mv (En C) w w1 lab (Em.end' (Em.tell e 4 ByteArray.empty))) := hm
      clear HE0 hm
      go_wp2
      go_end0
      exact ⟨rfl, HE1.out⟩
    | false =>
      have hres : Em.inReleasing e ⟨sapi, tei, c, 8, false, ns, nr, info⟩ = Em.tell e 7 (Em.letter 68) := by first | rfl | (unfold Em.inReleasing; simp)
      rw [hres]
      clear hres
      have HE0 : Hid (Mv (En C) w (w.alloc (.cells #[.int .i64 sapi, .int .i64 tei, .bool c, .int .i64 8, .bool false, .int .i64 ns, .int .i64 nr, .string info] 49)) lab e) := HB.out _
      clear HB
      go_enter Tryz.func90, Tryz.ntmps90
      go_wp2_with fail
      refine (HE0.out.call fun lab1 h1 => err_any C lab1 _ (Em.letter 68) _ h1 (by omega)).mono ?_
      rintro r w1 ⟨rfl, hm⟩
      have HE1 : Hid (Mv (En C) w w1 lab (Em.tell e 7 (Em.letter 68))) := hm
      clear HE0 hm
      go_wp2
      go_end0
      exact ⟨rfl, HE1.out⟩
  · cases pf with
    | true =>
      have hres : Em.inReleasing e ⟨sapi, tei, c, 5, true, ns, nr, info⟩ = Em.end' (Em.tell e 4 ByteArray.empty) := by first | rfl | (unfold Em.inReleasing; simp)
      rw [hres]
      clear hres
      have HE0 : Hid (Mv (En C) w (w.alloc (.cells #[.int .i64 sapi, .int .i64 tei, .bool c, .int .i64 5, .bool true, .int .i64 ns, .int .i64 nr, .string info] 49)) lab e) := HB.out _
      clear HB
      go_enter Tryz.func90, Tryz.ntmps90
      go_wp2_with fail
      refine (HE0.out.call fun lab1 h1 => released_any C lab1 _  _ h1 (by omega)).mono ?_
      rintro r w1 ⟨rfl, hm⟩
      have HE1 : Hid (Mv (En C) w w1 lab (Em.end' (Em.tell e 4 ByteArray.empty))) := hm
      clear HE0 hm
      go_wp2
      go_end0
      exact ⟨rfl, HE1.out⟩
    | false =>
      have hres : Em.inReleasing e ⟨sapi, tei, c, 5, false, ns, nr, info⟩ = e := by first | rfl | (unfold Em.inReleasing; simp)
      rw [hres]
      clear hres
      have HE0 : Hid (Mv (En C) w (w.alloc (.cells #[.int .i64 sapi, .int .i64 tei, .bool c, .int .i64 5, .bool false, .int .i64 ns, .int .i64 nr, .string info] 49)) lab e) := HB.out _
      clear HB
      go_enter Tryz.func90, Tryz.ntmps90
      go_wp2
      go_end0
      exact ⟨rfl, HE0.out⟩
  · have hres : Em.inReleasing e ⟨sapi, tei, c, k, pf, ns, nr, info⟩ = e := by unfold Em.inReleasing; simp [e4, e7, e8, e5]
    rw [hres]
    have n4 : (k == 4) = false := by simp; exact e4
    have n7 : (k == 7) = false := by simp; exact e7
    have n8 : (k == 8) = false := by simp; exact e8
    have n5 : (k == 5) = false := by simp; exact e5
    clear hres e4 e7 e8 e5
    have HE0 : Hid (Mv (En C) w (w.alloc (.cells #[.int .i64 sapi, .int .i64 tei, .bool c, .int .i64 k, .bool pf, .int .i64 ns, .int .i64 nr, .string info] 49)) lab e) := HB.out _
    clear HB
    go_enter Tryz.func90, Tryz.ntmps90
    go_wp2
    go_end0
    exact ⟨rfl, HE0.out⟩

end Go.Proofs.YtidemohpngkedabGreatDoor

namespace Go.Proofs.YtidemohpngkedabGreatDoor
open Go.RowKit
set_option linter.unusedVariables false
set_option maxRecDepth 100000
set_option linter.unusedSimpArgs false

/-- behind RR, RNR, REJ in Open -/
def Em.rep (e : Em.St) (k n : Int) : Em.St := Em.goOn (if k = 1 then Em.count e n else if k = 2 then Em.start200 (Em.stop203 e) else { Em.start203 (Em.stop200 e) with fl := Wm.backT (Em.start203 (Em.stop200 e)).fl })
/-- and in Recovery, of a response with F -/
def Em.recov (e : Em.St) (k : Int) : Em.St := Em.goOn { (if k = 2 then Em.start200 e else Em.start203 (Em.stop200 e)) with fl := Wm.backT (if k = 2 then Em.start200 e else Em.start203 (Em.stop200 e)).fl, state := 7 }
theorem Em.rest_fl (e : Em.St) : (Em.start203 (Em.stop200 e)).fl = e.fl := ((Em.stop200_keep e).trans (Em.start203_keep _)).fl
theorem Em.await_fl (e : Em.St) : (Em.start200 (Em.stop203 e)).fl = e.fl := ((Em.stop203_keep e).trans (Em.start200_keep _)).fl

set_option maxHeartbeats 1000000 in
theorem reported_any (C : Nat) (lab : Nat → Nat) (e : Em.St) (k n : Int) (w : World) (h : En C w lab e) (hl : e.out.length ≤ 400000) (ok : Em.FlOk e.fl) (hk : k = 1 ∨ k = 2 ∨ k = 3) :
    Calls Tryz.prog 151 #[.pointer (some ⟨C, 0, none⟩), .int .i64 k, .int .i64 n] w fun r w' => r = .returned (.tuple #[]) ∧ Mv (En C) w w' lab (Em.rep e k n) := by
  have HE0 : Hid (Mv (En C) w w lab e) := h.same (Below.refl _ _)
  clear h
  rcases hk with rfl | rfl | rfl
  · have hres : Em.rep e 1 n = Em.goOn (Em.count e n) := rfl
    rw [hres]
    clear hres
    go_enter Tryz.func151, Tryz.ntmps151
    go_wp2_with fail
    refine (HE0.out.call fun lab1 h1 => count_any C lab1 _ n _ h1 (by omega)).mono ?_
    rintro r w1 ⟨rfl, hm⟩
    have HE1 : Hid (Mv (En C) w w1 lab (Em.count e n)) := hm
    clear HE0 hm
    go_wp2_with fail
    refine (HE1.out.call fun lab1 h1 => goOn_any C lab1 _  _ h1 (by have := Em.len_count e n; omega) (by rw [(Em.count_keep e n).fl]; exact ok)).mono ?_
    rintro r w2 ⟨rfl, hm⟩
    have HE2 : Hid (Mv (En C) w w2 lab (Em.goOn (Em.count e n))) := hm
    clear HE1 hm
    go_wp2
    go_end0
    exact ⟨rfl, HE2.out⟩
  · have hres : Em.rep e 2 n = Em.goOn (Em.start200 (Em.stop203 e)) := rfl
    rw [hres]
    clear hres
    go_enter Tryz.func151, Tryz.ntmps151
    go_wp2_with fail
    refine (HE0.out.call fun lab1 h1 => await_any C lab1 _  _ h1 (by omega)).mono ?_
    rintro r w1 ⟨rfl, hm⟩
    have HE1 : Hid (Mv (En C) w w1 lab (Em.start200 (Em.stop203 e))) := hm
    clear HE0 hm
    go_wp2_with fail
    refine (HE1.out.call fun lab1 h1 => goOn_any C lab1 _  _ h1 (by have := Em.len_await e; omega) (by rw [Em.await_fl]; exact ok)).mono ?_
    rintro r w2 ⟨rfl, hm⟩
    have HE2 : Hid (Mv (En C) w w2 lab (Em.goOn (Em.start200 (Em.stop203 e)))) := hm
    clear HE1 hm
    go_wp2
    go_end0
    exact ⟨rfl, HE2.out⟩
  · have hres : Em.rep e 3 n = Em.goOn { Em.start203 (Em.stop200 e) with fl := Wm.backT (Em.start203 (Em.stop200 e)).fl } := rfl
    rw [hres]
    clear hres
    go_enter Tryz.func151, Tryz.ntmps151
    go_wp2_with fail
    refine (HE0.out.call fun lab1 h1 => rest_any C lab1 _  _ h1 (by omega)).mono ?_
    rintro r w1 ⟨rfl, hm⟩
    have HE1 : Hid (Mv (En C) w w1 lab (Em.start203 (Em.stop200 e))) := hm
    clear HE0 hm
    obtain ⟨D, G, fc, fC, fD, ffl, fmv⟩ := HE1.out.flow
    have HFL : Hid (Fl (w1) D G (Em.start203 (Em.stop200 e)).fl) := ffl
    have HMV : Hid (∀ w' σ', Mvf (w1) w' D G σ' → Mv (En C) w w' lab { (Em.start203 (Em.stop200 e)) with fl := σ' }) := fmv
    clear ffl fmv
    go_wp2_with fail
    refine (fback_any D G _  _ HFL.out).mono ?_
    rintro r w2 ⟨rfl, hm⟩
    have HE2 : Hid (Mv (En C) w w2 lab ({ Em.start203 (Em.stop200 e) with fl := Wm.backT (Em.start203 (Em.stop200 e)).fl })) := HMV.out _ _ hm
    clear HE1 hm HFL HMV fc fC fD
    go_wp2_with fail
    refine (HE2.out.call fun lab1 h1 => goOn_any C lab1 _  _ h1 (by have := Em.len_rest e; show (Em.start203 (Em.stop200 e)).out.length ≤ _; omega) (by show Em.FlOk (Wm.backT (Em.start203 (Em.stop200 e)).fl); rw [Em.rest_fl]; exact ok.back)).mono ?_
    rintro r w3 ⟨rfl, hm⟩
    have HE3 : Hid (Mv (En C) w w3 lab (Em.goOn { Em.start203 (Em.stop200 e) with fl := Wm.backT (Em.start203 (Em.stop200 e)).fl })) := hm
    clear HE2 hm
    go_wp2
    go_end0
    exact ⟨rfl, HE3.out⟩

set_option maxHeartbeats 1000000 in
theorem recovered_any (C : Nat) (lab : Nat → Nat) (e : Em.St) (k : Int) (w : World) (h : En C w lab e) (hl : e.out.length ≤ 400000) (ok : Em.FlOk e.fl) :
    Calls Tryz.prog 152 #[.pointer (some ⟨C, 0, none⟩), .int .i64 k] w fun r w' => r = .returned (.tuple #[]) ∧ Mv (En C) w w' lab (Em.recov e k) := by
  have HE0 : Hid (Mv (En C) w w lab e) := h.same (Below.refl _ _)
  clear h
  unfold Em.recov
  by_cases hk : k = 2
  · rw [if_pos hk]
    subst hk
    go_enter Tryz.func152, Tryz.ntmps152
    go_wp2_with fail
    refine (HE0.out.call fun lab1 h1 => start_any C lab1 _ 200 _ h1 (by omega) (Or.inl rfl)).mono ?_
    rintro r w1 ⟨rfl, hm⟩
    have HE1 : Hid (Mv (En C) w w1 lab (Em.start200 e)) := hm
    clear HE0 hm
    obtain ⟨D, G, fc, fC, fD, ffl, fmv⟩ := HE1.out.flow
    have HFL : Hid (Fl (w1) D G (Em.start200 e).fl) := ffl
    have HMV : Hid (∀ w' σ', Mvf (w1) w' D G σ' → Mv (En C) w w' lab { (Em.start200 e) with fl := σ' }) := fmv
    clear ffl fmv
    go_wp2_with fail
    refine (fback_any D G _  _ HFL.out).mono ?_
    rintro r w2 ⟨rfl, hm⟩
    have HE2 : Hid (Mv (En C) w w2 lab ({ Em.start200 e with fl := Wm.backT (Em.start200 e).fl })) := HMV.out _ _ hm
    clear HE1 hm HFL HMV fc fC fD
    have ha2 := HE2.out.cells
    have k20 := ha2.c0
    have l2 := ha2.lt
    have g2 := ha2.f 0 (by decide)
    clear ha2
    have HE3 : Hid (Mv (En C) w (w2.setCell ⟨C, 0, none⟩ (.int .i64 7)) lab ({ Em.start200 e with fl := Wm.backT (Em.start200 e).fl, state := 7 })) := HE2.out.trans fun _ hx => hx.setState 7
    go_wp2_with fail
    refine (HE3.out.call fun lab1 h1 => goOn_any C lab1 _  _ h1 (by show (Em.start200 e).out.length ≤ _; rw [Em.len_start200]; omega) ok.back).mono ?_
    rintro r w4 ⟨rfl, hm⟩
    have HE4 : Hid (Mv (En C) w w4 lab (Em.goOn { Em.start200 e with fl := Wm.backT (Em.start200 e).fl, state := 7 })) := hm
    clear HE3 hm
    go_wp2
    go_end0
    exact ⟨rfl, HE4.out⟩
  · rw [if_neg hk]
    have n2 : (k == 2) = false := by simp; exact hk
    clear hk
    go_enter Tryz.func152, Tryz.ntmps152
    go_wp2_with fail
    refine (HE0.out.call fun lab1 h1 => rest_any C lab1 _  _ h1 (by omega)).mono ?_
    rintro r w1 ⟨rfl, hm⟩
    have HE1 : Hid (Mv (En C) w w1 lab (Em.start203 (Em.stop200 e))) := hm
    clear HE0 hm
    obtain ⟨D, G, fc, fC, fD, ffl, fmv⟩ := HE1.out.flow
    have HFL : Hid (Fl (w1) D G (Em.start203 (Em.stop200 e)).fl) := ffl
    have HMV : Hid (∀ w' σ', Mvf (w1) w' D G σ' → Mv (En C) w w' lab { (Em.start203 (Em.stop200 e)) with fl := σ' }) := fmv
    clear ffl fmv
    go_wp2_with fail
    refine (fback_any D G _  _ HFL.out).mono ?_
    rintro r w2 ⟨rfl, hm⟩
    have HE2 : Hid (Mv (En C) w w2 lab ({ Em.start203 (Em.stop200 e) with fl := Wm.backT (Em.start203 (Em.stop200 e)).fl })) := HMV.out _ _ hm
    clear HE1 hm HFL HMV fc fC fD
    have ha2 := HE2.out.cells
    have k20 := ha2.c0
    have l2 := ha2.lt
    have g2 := ha2.f 0 (by decide)
    clear ha2
    have HE3 : Hid (Mv (En C) w (w2.setCell ⟨C, 0, none⟩ (.int .i64 7)) lab ({ Em.start203 (Em.stop200 e) with fl := Wm.backT (Em.start203 (Em.stop200 e)).fl, state := 7 })) := HE2.out.trans fun _ hx => hx.setState 7
    go_wp2_with fail
    refine (HE3.out.call fun lab1 h1 => goOn_any C lab1 _  _ h1 (by have := Em.len_rest e; show (Em.start203 (Em.stop200 e)).out.length ≤ _; omega) (by show Em.FlOk (Wm.backT (Em.start203 (Em.stop200 e)).fl); rw [Em.rest_fl]; exact ok.back)).mono ?_
    rintro r w4 ⟨rfl, hm⟩
    have HE4 : Hid (Mv (En C) w w4 lab (Em.goOn { Em.start203 (Em.stop200 e) with fl := Wm.backT (Em.start203 (Em.stop200 e)).fl, state := 7 })) := hm
    clear HE3 hm
    go_wp2
    go_end0
    exact ⟨rfl, HE4.out⟩

theorem drewN_cs {C : Nat} {lab : Nat → Nat} {e : Em.St} {w : World} (h : En C w lab e) (n : Nat) : En C (w.drewN n) lab e := h.below (fdrewN_blw (Below.refl _ _) n)

set_option maxHeartbeats 1000000 in
theorem tryAgain_any (C : Nat) (lab : Nat → Nat) (e : Em.St) (k : Int) (l : ByteArray) (g : Int) (w : World) (h : En C w lab e) (hl : e.out.length ≤ 400000) (r0 : 0 ≤ e.tries) (r1 : e.tries ≤ 32) :
    Calls Tryz.prog 38 #[.pointer (some ⟨C, 0, none⟩), .int .i64 k, .string l, .int .i64 g] w fun r w' => r = .returned (.tuple #[]) ∧ Mv (En C) w w' lab (Em.again e k l g) := by
  have c4 := h.cs.c4
  have hlt := h.cs.lt
  have HN : ∀ n, Calls Tryz.prog 81 #[.pointer (some ⟨C, 0, none⟩)] (w.drewN n) fun r w' => r = .returned (.int .i64 e.most) ∧ w.drewN n = w' := fun n => mostTries_any C lab e _ (drewN_cs h n)
  have HE : Hid (∀ n, Mv (En C) w (w.drewN n) lab e) := fun n => h.same (fdrewN_blw (Below.refl _ _) n)
  clear h
  unfold Em.again
  by_cases ht : e.tries = e.most
  · rw [if_pos ht]
    have heq : (e.tries == e.most) = true := by simp; exact ht
    clear ht
    generalize e.most = mo at HN heq
    generalize e.tries = tr at c4 heq
    go_enter Tryz.func38, Tryz.ntmps38
    go_wp2_with fail
    go_quiet ((go_at_call 81; exact Calls.quiet_of_same ((HN _).mono fun e w' h => ⟨h.1, h.2.symm⟩)))
    have HE0 : Hid (Mv (En C) w (w.drewN nq) lab e) := HE.out nq
    clear HE HN c4 hlt r0 r1 heq
    generalize w.drewN nq = w0 at HE0 ⊢
    go_wp2_with fail
    refine (HE0.out.call fun lab1 h1 => err_any C lab1 _ l _ h1 (by omega)).mono ?_
    rintro r w1 ⟨rfl, hm⟩
    have HE1 : Hid (Mv (En C) w w1 lab (Em.tell e 7 l)) := hm
    clear HE0 hm
    go_wp2_with fail
    refine (HE1.out.call fun lab1 h1 => tell_any C lab1 _ ⟨g, Em.fr0, ByteArray.empty, 0⟩ _ h1 (by rw [Em.len_tell]; omega)).mono ?_
    rintro r w2 ⟨rfl, hm⟩
    have HE2 : Hid (Mv (En C) w w2 lab (Em.tell (Em.tell e 7 l) g ByteArray.empty)) := hm
    clear HE1 hm
    go_wp2_with fail
    refine (HE2.out.call fun lab1 h1 => end_any C lab1 _  _ h1 (by rw [Em.len_tell, Em.len_tell]; omega)).mono ?_
    rintro r w3 ⟨rfl, hm⟩
    have HE3 : Hid (Mv (En C) w w3 lab (Em.end' (Em.tell (Em.tell e 7 l) g ByteArray.empty))) := hm
    clear HE2 hm
    go_wp2
    refine bodyPost_ret (v := .tuple #[]) (results_none rfl _ _ _) rfl ?_
    exact ⟨rfl, HE3.out⟩
  · rw [if_neg ht]
    have heq : (e.tries == e.most) = false := by simp; exact ht
    clear ht
    obtain ⟨tr, htr⟩ : ∃ tr, e.tries = tr := ⟨_, rfl⟩
    rw [htr] at c4 heq r0 r1 ⊢
    have HT : Hid (e.tries = tr) := htr
    clear htr
    go_enter Tryz.func38, Tryz.ntmps38
    go_wp2_with fail
    go_quiet ((go_at_call 81; exact Calls.quiet_of_same ((HN _).mono fun e w' h => ⟨h.1, h.2.symm⟩)))
    have HE0 : Hid (Mv (En C) w (w.drewN nq) lab e) := HE.out nq
    clear HE HN c4 hlt heq
    generalize w.drewN nq = w0 at HE0 ⊢
    have ha0 := HE0.out.cells
    have k04 := ha0.c4
    rw [HT.out] at k04
    have g0 := ha0.f 4 (by decide)
    have l0 := ha0.lt
    clear ha0
    have HE1 : Hid (Mv (En C) w (w0.setCell ⟨C, 4, none⟩ (.int .i64 (tr + 1))) lab { e with tries := tr + 1 }) := HE0.out.trans fun _ hx => hx.setTries (tr + 1)
    go_wp2_with fail
    refine (HE1.out.call fun lab1 h1 => command_any C lab1 _ k _ h1 (by show e.out.length ≤ _; omega)).mono ?_
    rintro r w2 ⟨rfl, hm⟩
    have HE2 : Hid (Mv (En C) w w2 lab (Em.send { e with tries := tr + 1 } (Em.bare true k true))) := hm
    clear HE1 hm
    go_wp2_with fail
    refine (HE2.out.call fun lab1 h1 => start_any C lab1 _ 200 _ h1 (by rw [Em.len_send]; show e.out.length + 1 ≤ _; omega) (Or.inl rfl)).mono ?_
    rintro r w3 ⟨rfl, hm⟩
    have HE3 : Hid (Mv (En C) w w3 lab (Em.start200 (Em.send { e with tries := tr + 1 } (Em.bare true k true)))) := hm
    clear HE2 hm
    go_wp2
    go_end0
    exact ⟨rfl, HE3.out⟩

/-- nobody told how far the peer is -/
def Em.askAgain (e : Em.St) : Em.St := if e.tries = e.most then Em.anew e (Em.letter 73) else Em.inquire { e with tries := e.tries + 1 }
set_option maxHeartbeats 1000000 in
theorem inquireAgain_any (C : Nat) (lab : Nat → Nat) (e : Em.St) (w : World) (h : En C w lab e) (hl : e.out.length ≤ 400000) (r0 : 0 ≤ e.tries) (r1 : e.tries ≤ 32) :
    Calls Tryz.prog 40 #[.pointer (some ⟨C, 0, none⟩)] w fun r w' => r = .returned (.tuple #[]) ∧ Mv (En C) w w' lab (Em.askAgain e) := by
  have c4 := h.cs.c4
  have hlt := h.cs.lt
  have HN : ∀ n, Calls Tryz.prog 81 #[.pointer (some ⟨C, 0, none⟩)] (w.drewN n) fun r w' => r = .returned (.int .i64 e.most) ∧ w.drewN n = w' := fun n => mostTries_any C lab e _ (drewN_cs h n)
  have HE : Hid (∀ n, Mv (En C) w (w.drewN n) lab e) := fun n => h.same (fdrewN_blw (Below.refl _ _) n)
  clear h
  unfold Em.askAgain
  by_cases ht : e.tries = e.most
  · rw [if_pos ht]
    have heq : (e.tries == e.most) = true := by simp; exact ht
    clear ht
    generalize e.most = mo at HN heq
    generalize e.tries = tr at c4 heq
    go_enter Tryz.func40, Tryz.ntmps40
    go_wp2_with fail
    go_quiet ((go_at_call 81; exact Calls.quiet_of_same ((HN _).mono fun e w' h => ⟨h.1, h.2.symm⟩)))
    have HE0 : Hid (Mv (En C) w (w.drewN nq) lab e) := HE.out nq
    clear HE HN c4 hlt r0 r1 heq
    generalize w.drewN nq = w0 at HE0 ⊢
    go_wp2_with fail
    refine (HE0.out.call fun lab1 h1 => callAnew_any C lab1 _ (Em.letter 73) _ h1 (by omega)).mono ?_
    rintro r w1 ⟨rfl, hm⟩
    have HE1 : Hid (Mv (En C) w w1 lab (Em.anew e (Em.letter 73))) := hm
    clear HE0 hm
    go_wp2
    refine bodyPost_ret (v := .tuple #[]) (results_none rfl _ _ _) rfl ?_
    exact ⟨rfl, HE1.out⟩
  · rw [if_neg ht]
    have heq : (e.tries == e.most) = false := by simp; exact ht
    clear ht
    obtain ⟨tr, htr⟩ : ∃ tr, e.tries = tr := ⟨_, rfl⟩
    rw [htr] at c4 heq r0 r1 ⊢
    have HT : Hid (e.tries = tr) := htr
    clear htr
    go_enter Tryz.func40, Tryz.ntmps40
    go_wp2_with fail
    go_quiet ((go_at_call 81; exact Calls.quiet_of_same ((HN _).mono fun e w' h => ⟨h.1, h.2.symm⟩)))
    have HE0 : Hid (Mv (En C) w (w.drewN nq) lab e) := HE.out nq
    clear HE HN c4 hlt heq
    generalize w.drewN nq = w0 at HE0 ⊢
    have ha0 := HE0.out.cells
    have k04 := ha0.c4
    rw [HT.out] at k04
    have g0 := ha0.f 4 (by decide)
    have l0 := ha0.lt
    clear ha0
    have HE1 : Hid (Mv (En C) w (w0.setCell ⟨C, 4, none⟩ (.int .i64 (tr + 1))) lab { e with tries := tr + 1 }) := HE0.out.trans fun _ hx => hx.setTries (tr + 1)
    go_wp2_with fail
    refine (HE1.out.call fun lab1 h1 => inquire_any C lab1 _  _ h1 (by show e.out.length ≤ _; omega)).mono ?_
    rintro r w2 ⟨rfl, hm⟩
    have HE2 : Hid (Mv (En C) w w2 lab (Em.inquire { e with tries := tr + 1 })) := hm
    clear HE1 hm
    go_wp2
    go_end0
    exact ⟨rfl, HE2.out⟩
end Go.Proofs.YtidemohpngkedabGreatDoor
