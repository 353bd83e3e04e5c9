/-
  An entity between calls; what each call hands out: Ask, Assign, Remove, Frame, Timeout.
  The walks of an entity's Remove, Timeout, Assign, Frame.
  The walk of an entity's Timeout.
-/
import Derived.Test.YtdfoicngcahajaaDoorEntAsks
import Derived.Deep.DeepCutAuto
namespace Go.Proofs.YtdfoicngcahajaaDoor
open Go.RowKit
set_option linter.unusedVariables false
set_option maxRecDepth 100000
set_option linter.unusedSimpArgs false

/-- between calls -/
structure Ent (C : Nat) (w : World) (lab : Nat → Nat) (e : Em.St) : Prop where
  en : En C w lab e
  out : e.out = []
  n5 : ∀ k, k < w.heap.size → lab k ≠ 5
  ok : Em.Ok e
  tm : Em.Tm e
/-- what a call hands out, and leaves -/
def Told (C : Nat) (w w' : World) (lab : Nat → Nat) (v : Value) (e1 : Em.St) : Prop :=
  ∃ a cap lab', v = .slice a e1.out.length cap ∧ w'.ownsRow w.heap.size 58 11 v e1.out.length (effsL e1.out) ∧ Ent C w' lab' { e1 with out := [] } ∧ Kept w w' (fun k => lab k ≠ 0) ∧ (∀ k, k < w.heap.size → lab' k = lab k) ∧ ∀ B, v.ownBlock = some B → lab' B = 0
section
variable {C : Nat} {w w' w1 : World} {lab : Nat → Nat} {e e1 : Em.St}
theorem Ent.below (h : Ent C w lab e) (hb : Below w.heap.size w w') : Ent C w' (fresh lab w.heap.size 0) e :=
  ⟨(h.en.relab (fun k hk => fresh_old hk)).below hb, h.out, fun k hk => by
    rcases Nat.lt_or_ge k w.heap.size with h' | h'
    · rw [fresh_old h']; exact h.n5 k h'
    · rw [fresh_new h']; decide, h.ok, h.tm⟩
theorem owns_up {base b2 : Nat} {ty : TypeId} {sz : Nat} {v : Value} {n : Nat} {xs : List Value} (h : w.ownsRow base ty sz v n xs) (hb : ∀ B, v.ownBlock = some B → b2 ≤ B) : w.ownsRow b2 ty sz v n xs := by
  refine ⟨h.1, ?_⟩
  rcases h.2 with h' | ⟨g, cap, cur, rfl, _, r⟩
  · exact Or.inl h'
  · exact Or.inr ⟨g, cap, cur, rfl, hb g rfl, r⟩
/-- nothing is handed out -/
theorem Ent.nothing (h : Ent C w lab e) (hb : Below w.heap.size w w') : Told C w w' lab (.slice none 0 0) e := by
  have he : ({ e with out := [] } : Em.St) = e := by
    obtain ⟨m, st, tei, tr, asked, t2, t3, us, fl, out⟩ := e
    have h' : out = [] := h.out
    subst h'
    rfl
  refine ⟨none, 0, fresh lab w.heap.size 0, by rw [h.out]; rfl, ?_, by rw [he]; exact h.below hb, Kept.of_below hb (fun k hk h' => by omega), fun k hk => fresh_old hk, fun B hB => by cases hB⟩
  rw [h.out]
  exact World.ownsRow_nil _ _ _ _
theorem En.no5 (h : En C w lab e) (h8 : w.cell? ⟨C, 8, none⟩ = some (.slice none 0 0)) (ho : e.out = []) : En C w (fun k => if lab k = 5 then 0 else lab k) e := by
  have hx : ∀ l, l ≠ 5 → ∀ k, k < w.heap.size → lab k = l → ¬ (fun _ => False) k ∧ (fun k => if lab k = 5 then 0 else lab k) k = l := fun l hl k hlt he => ⟨fun x => x, by show (if lab k = 5 then 0 else lab k) = l; rw [if_neg (by omega)]; exact he⟩
  have hC : (fun k => if lab k = 5 then 0 else lab k) C = 1 := by show (if lab C = 5 then 0 else lab C) = 1; rw [h.lC]; rfl
  refine ⟨h.cs, hC, h.fl.kept (T := fun _ => False) h.cs.lt (Kept.refl w _) (fun x => x) (hx 2 (by decide)), h.tm.kept (T := fun _ => False) h.cs.lt (Kept.refl w _) (fun x => x) (hx 3 (by decide)), h.un.kept (T := fun _ => False) h.cs.lt (Kept.refl w _) (fun x => x) (hx 4 (by decide)), ?_⟩
  rw [ho]
  exact ⟨none, 0, h8, World.ownsRow_nil _ _ _ _, fun B hB => by cases hB⟩
end

/-- all that it told is handed out -/
theorem told_any (C : Nat) (lab : Nat → Nat) (e0 e1 : Em.St) (w w1 : World) (h : Ent C w lab e0) (hm : Mv (En C) w w1 lab e1) (ok : Em.Ok e1) (tm : Em.Tm e1) :
    Calls Tryd.prog 16 #[.pointer (some ⟨C, 0, none⟩)] w1 fun r w' => ∃ v, r = .returned v ∧ Told C w w' lab v e1 := by
  obtain ⟨lab1, h1, hk, hl⟩ := hm
  refine (allTold_any C lab1 e1 w1 h1).mono ?_
  rintro r w' ⟨a, cap, rfl, ho, hlb, rfl⟩
  have hE : En C (w1.setCell ⟨C, 8, none⟩ (.slice none 0 0)) lab1 { e1 with out := [] } := by
    obtain ⟨a, cap, h1', h2, h3⟩ := h1.to
    exact ⟨(h1.cs.other 8 _ (by decide) (by decide) (by decide) (by decide) (by decide)).as rfl rfl rfl rfl rfl, h1.lC, h1.oth2 8 (by decide) _, h1.oth7 8 (by decide) _, h1.oth6 8 (by decide) _, ⟨none, 0, cell_same' h1 h1' _, World.ownsRow_nil _ _ _ _, fun B hB => by cases hB⟩⟩
  have h8 : (w1.setCell ⟨C, 8, none⟩ (.slice none 0 0)).cell? ⟨C, 8, none⟩ = some (.slice none 0 0) := by
    obtain ⟨a, cap, h1', h2, h3⟩ := h1.to
    exact cell_same' h1 h1' _
  have hBs : ∀ B, (Value.slice a e1.out.length cap).ownBlock = some B → w.heap.size ≤ B := by
    intro B hB
    rcases Nat.lt_or_ge B w.heap.size with hlt | hge
    · exact absurd ((hl B hlt).symm.trans (hlb B hB)) (h.n5 B hlt)
    · exact hge
  refine ⟨_, rfl, a, cap, fun k => if lab1 k = 5 then 0 else lab1 k, rfl, ?_, ⟨hE.no5 h8 rfl, rfl, fun k _ => ?_, ok.fresh [], tm.fresh []⟩, hk.trans (kept_cell w1 C 8 _) (fun k hlt hx => by show lab k ≠ 0; rw [← hl k hlt, hx, h1.lC]; decide), fun k hlt => ?_, fun B hB => ?_⟩
  · exact owns_up ((kept_cell w1 C 8 _).owns ho (fun B hB hx => by have := hlb B hB; rw [hx, h1.lC] at this; omega)) hBs
  · show (if lab1 k = 5 then 0 else lab1 k) ≠ 5
    split
    · decide
    · rename_i hx; exact hx
  · show (if lab1 k = 5 then 0 else lab1 k) = lab k
    rw [hl k hlt, if_neg (h.n5 k hlt)]
  · show (if lab1 B = 5 then 0 else lab1 B) = 0
    rw [if_pos (hlb B hB)]

set_option maxHeartbeats 1000000 in
theorem eask_any (C : Nat) (lab : Nat → Nat) (e : Em.St) (a : Int) (s : ByteArray) (w : World) (h : Ent C w lab e) (hz : s.size ≤ 9223372036854775807) :
    Calls Tryd.prog 6 #[.pointer (some ⟨C, 0, none⟩), .int .i64 a, .string s] w fun r w' => ∃ v, r = .returned (.tuple #[v, .int .i64 (Em.ask e a s).2]) ∧ Told C w w' lab v (Em.ask e a s).1 := by
  have HM := made_any C lab e w h.en h.ok.s0
  have HA := ask_any C lab e a s w h.en (by rw [h.out]; exact Nat.zero_le _) h.ok hz
  have hok := Em.ask_ok h.ok a s
  have htm := Em.ask_tm h.tm a s
  rw [Em.ask_in e a s h.out] at hok htm ⊢
  generalize Em.askIn e a s = X at HA hok htm ⊢
  have HT : Hid (∀ w1, Mv (En C) w w1 lab X.1 → Calls Tryd.prog 16 #[.pointer (some ⟨C, 0, none⟩)] w1 fun r w' => ∃ v, r = .returned v ∧ Told C w w' lab v X.1) := fun w1 hm => told_any C lab e X.1 w w1 h hm hok htm
  clear h hok htm
  go_enter Tryd.func6, Tryd.ntmps6
  go_wp2_with fail
  refine HM.mono ?_
  rintro r w1 ⟨rfl, rfl⟩
  clear HM
  go_wp2_with fail
  refine HA.mono ?_
  rintro r w1 ⟨rfl, hm⟩
  have HT' := HT.out _ hm
  clear HA hm HT
  go_wp2_with fail
  refine HT'.mono ?_
  rintro r w2 ⟨v, rfl, ht⟩
  have HTT : Hid (Told C w w2 lab v X.1) := ht
  clear HT' ht
  go_wp2
  go_ret2
  exact ⟨v, rfl, HTT.out⟩

set_option maxHeartbeats 1000000 in
theorem eask_nil (a : Int) (s : ByteArray) (w : World) :
    Calls Tryd.prog 6 #[.pointer none, .int .i64 a, .string s] w fun r w' => r = .returned (.tuple #[.slice none 0 0, .int .i64 1]) ∧ w = w' := by
  have HM := made_nil w
  go_enter Tryd.func6, Tryd.ntmps6
  go_wp2_with fail
  refine HM.mono ?_
  rintro r w1 ⟨rfl, rfl⟩
  clear HM
  go_wp2
  go_ret2
  exact ⟨rfl, rfl⟩
end Go.Proofs.YtdfoicngcahajaaDoor

namespace Go.Proofs.YtdfoicngcahajaaDoor
open Go.RowKit
set_option linter.unusedVariables false
set_option maxRecDepth 100000
set_option linter.unusedSimpArgs false

theorem Em.out_nil {e : Em.St} (h : e.out = []) : ({ e with out := [] } : Em.St) = e := by
  obtain ⟨m, st, tei, tr, asked, t2, t3, us, fl, out⟩ := e
  have h' : out = [] := h
  subst h'
  rfl
/-- Remove, but for what is handed out -/
def Em.noU (e : Em.St) : Em.St := { e with units := [] }
def Em.rem3 (e : Em.St) : Em.St := Em.stop203 (Em.stop200 (Em.noU (Em.clear e)))
def Em.rem4 (e : Em.St) (was : Int) : Em.St := if was = 3 ∨ was = 5 ∨ was = 7 ∨ was = 8 then Em.tell e 3 ByteArray.empty else if was = 6 then Em.tell e 4 ByteArray.empty else e
theorem Em.stop200_units (e : Em.St) (u : List ByteArray) : Em.stop200 { e with units := u } = { Em.stop200 e with units := u } := by
  unfold Em.stop200
  show (if e.t200 = true then _ else _) = _
  split <;> rfl
theorem Em.stop203_units (e : Em.St) (u : List ByteArray) : Em.stop203 { e with units := u } = { Em.stop203 e with units := u } := by
  unfold Em.stop203
  show (if e.t203 = true then _ else _) = _
  split <;> rfl
def Em.removeIn (e : Em.St) : Em.St × Int :=
  if e.state = 1 then (e, 11)
  else
    let e1 := Em.end' e
    let e2 := if e.state = 3 ∨ e.state = 5 ∨ e.state = 7 ∨ e.state = 8 then Em.tell e1 3 ByteArray.empty else if e.state = 6 then Em.tell e1 4 ByteArray.empty else e1
    ({ e2 with units := [], tei := -1, state := 1 }, 0)
theorem Em.remove_in (e : Em.St) (h : e.out = []) : Em.remove e = Em.removeIn e := by
  obtain ⟨m, st, tei, tr, asked, t2, t3, us, fl, out⟩ := e
  have h' : out = [] := h
  subst h'
  rfl
theorem Em.remove_eq (e : Em.St) (ho : e.out = []) (hs : ¬ e.state = 1) : Em.remove e = ({ Em.rem4 (Em.rem3 e) e.state with tei := -1, state := 1 }, 0) := by
  have h3 : Em.rem3 e = { Em.stop203 (Em.stop200 (Em.clear e)) with units := [] } := by
    unfold Em.rem3 Em.noU
    rw [Em.stop200_units, Em.stop203_units]
  rw [Em.remove_in e ho]
  unfold Em.removeIn
  rw [if_neg hs, h3]
  unfold Em.rem4
  by_cases h : e.state = 3 ∨ e.state = 5 ∨ e.state = 7 ∨ e.state = 8
  · simp only [if_pos h]
    rfl
  · simp only [if_neg h]
    by_cases h6 : e.state = 6
    · simp only [if_pos h6]
      rfl
    · simp only [if_neg h6]
      rfl
theorem Em.remove_one (e : Em.St) (ho : e.out = []) (hs : e.state = 1) : Em.remove e = (e, 11) := by
  rw [Em.remove_in e ho]
  unfold Em.removeIn
  rw [if_pos hs]

set_option maxHeartbeats 2000000 in
theorem eremove_any (C : Nat) (lab : Nat → Nat) (e : Em.St) (w : World) (h : Ent C w lab e) :
    Calls Tryd.prog 8 #[.pointer (some ⟨C, 0, none⟩)] w fun r w' => ∃ v, r = .returned (.tuple #[v, .int .i64 (Em.remove e).2]) ∧ Told C w w' lab v (Em.remove e).1 := by
  have HM := made_any C lab e w h.en h.ok.s0
  have c0 := h.en.cs.c0
  have hlt := h.en.cs.lt
  by_cases h1 : e.state = 1
  · rw [Em.remove_one e h.out h1]
    have HN : Hid (Told C w w lab (.slice none 0 0) e) := h.nothing (Below.refl _ _)
    rw [h1] at c0
    clear h h1
    go_enter Tryd.func8, Tryd.ntmps8
    go_wp2_with fail
    refine HM.mono ?_
    rintro r w1 ⟨rfl, rfl⟩
    clear HM
    go_wp2
    go_ret2
    exact ⟨_, rfl, HN.out⟩
  · have hok := Em.remove_ok h.ok
    have htm := Em.remove_tm h.tm
    rw [Em.remove_eq e h.out h1] at hok htm ⊢
    have HO : Hid (e.out.length = 0) := by show _ = _; rw [h.out]; rfl
    have HE0 : Hid (Mv (En C) w w lab e) := h.en.same (Below.refl _ _)
    have HT : Hid (∀ w1, Mv (En C) w w1 lab { Em.rem4 (Em.rem3 e) e.state with tei := -1, state := 1 } → Calls Tryd.prog 16 #[.pointer (some ⟨C, 0, none⟩)] w1 fun r w' => ∃ v, r = .returned v ∧ Told C w w' lab v { Em.rem4 (Em.rem3 e) e.state with tei := -1, state := 1 }) := fun w1 hm => told_any C lab e _ w w1 h hm hok htm
    have hs8 := h.ok.s1
    have hs0 := h.ok.s0
    clear h hok htm
    have HL3 : Hid ((Em.rem3 e).out.length ≤ 2) := by
      show _ ≤ _
      unfold Em.rem3
      have a1 := Em.len_stop203 (Em.stop200 (Em.noU (Em.clear e)))
      have a2 := Em.len_stop200 (Em.noU (Em.clear e))
      have a3 : (Em.noU (Em.clear e)).out.length = 0 := HO.out
      omega
    have hk3 : (Em.rem3 e).state = e.state := ((Em.stop200_keep (Em.noU (Em.clear e))).trans (Em.stop203_keep _)).state
    have HK3 : Hid ((Em.rem3 e).state = e.state) := hk3
    have n1 : (e.state == 1) = false := by simp; exact h1
    have H1 : Hid (¬ e.state = 1) := h1
    clear h1 hk3
    obtain ⟨st, hst⟩ : ∃ st, e.state = st := ⟨_, rfl⟩
    have HST : Hid (e.state = st) := hst
    rw [hst] at c0 n1 hs8 hs0 HT ⊢
    clear hst
    go_enter Tryd.func8, Tryd.ntmps8
    go_wp2_with fail
    refine HM.mono ?_
    rintro r w1 ⟨rfl, rfl⟩
    clear HM
    obtain ⟨D, G, fc, fC, fD, ffl, fmv⟩ := HE0.out.flow
    have HFL : Hid (Fl (w) D G (e).fl) := ffl
    have HMV : Hid (∀ w' σ', Mvf (w) w' D G σ' → Mv (En C) w w' lab { (e) with fl := σ' }) := fmv
    clear ffl fmv
    go_wp2_with fail
    refine (fclear_any D G _  _ HFL.out).mono ?_
    rintro r w1 ⟨rfl, hm⟩
    have HE1 : Hid (Mv (En C) w w1 lab (Em.clear e)) := HMV.out _ _ hm
    clear HE0 hm HFL HMV fc fC fD
    have f6 := HE1.out.cells.f 6 (by decide)
    have l6 := HE1.out.cells.lt
    obtain ⟨ua, ucap, u6⟩ : ∃ ua ucap, w1.cell? ⟨C, 6, none⟩ = some (.slice ua e.units.length ucap) := by
      obtain ⟨lab1, h1, _⟩ := HE1.out
      obtain ⟨a, cap, U, hx, _⟩ := h1.un
      exact ⟨a, cap, hx⟩
    have HE2 : Hid (Mv (En C) w (w1.setCell ⟨C, 6, none⟩ (.slice none 0 0)) lab (Em.noU (Em.clear e))) := HE1.out.trans fun _ hx => hx.noUnits
    go_wp2_with fail
    refine (HE2.out.call fun lab1 h1 => stop_any C lab1 _ 200 _ h1 (by have := HO.out; show e.out.length ≤ _; omega) (Or.inl rfl)).mono ?_
    rintro r w3 ⟨rfl, hm⟩
    have HE3 : Hid (Mv (En C) w w3 lab (Em.stopT (Em.noU (Em.clear e)) 200)) := hm
    clear HE2 hm
    rw [Em.stopT_200] at HE3
    go_wp2_with fail
    refine (HE3.out.call fun lab1 h1 => stop_any C lab1 _ 203 _ h1 (by have := HO.out; have a2 := Em.len_stop200 (Em.noU (Em.clear e)); have a3 : (Em.noU (Em.clear e)).out.length = e.out.length := rfl; omega) (Or.inr rfl)).mono ?_
    rintro r w4 ⟨rfl, hm⟩
    have HE4 : Hid (Mv (En C) w w4 lab (Em.stopT (Em.stop200 (Em.noU (Em.clear e))) 203)) := hm
    clear HE3 hm
    rw [Em.stopT_203] at HE4
    have HE5 : Hid (Mv (En C) w w4 lab (Em.rem3 e)) := HE4.out
    clear HE4 f6 l6 u6 c0 n1
    have k0 := HE5.out.cells.c0
    rw [HK3.out, HST.out] at k0
    have l0 := HE5.out.cells.lt
    have HF : Hid (∀ w5, Mv (En C) w w5 lab (Em.rem4 (Em.rem3 e) st) → Mv (En C) w ((w5.setCell ⟨C, 1, none⟩ (.int .i64 (-1))).setCell ⟨C, 0, none⟩ (.int .i64 1)) lab { Em.rem4 (Em.rem3 e) st with tei := -1, state := 1 }) := fun w5 hm => (hm.trans fun _ hx => hx.setTei (-1)).trans fun _ hx => hx.setState 1
    have hways : (st = 3 ∨ st = 5 ∨ st = 7 ∨ st = 8) ∨ st = 6 ∨ (st = 2 ∨ st = 4) := by
      have : st ≠ 1 := fun hx => H1.out (by have := HST.out; omega)
      omega
    rcases hways with hx | rfl | hx
    · have H4 : Hid (Em.rem4 (Em.rem3 e) st = Em.tell (Em.rem3 e) 3 ByteArray.empty) := by
        show _ = _
        unfold Em.rem4
        rw [if_pos hx]
      rcases hx with rfl | rfl | rfl | rfl
      all_goals
        go_wp2_with fail
        refine (HE5.out.call fun lab1 h1 => tell_any C lab1 _ ⟨3, Em.fr0, ByteArray.empty, 0⟩ _ h1 (by have := HL3.out; omega)).mono ?_
        rintro r w5 ⟨rfl, hm⟩
        have HE6 : Hid (Mv (En C) w w5 lab (Em.tell (Em.rem3 e) 3 ByteArray.empty)) := hm
        clear hm HE5 k0 l0
        have g0 := HE6.out.cells.f 0 (by decide)
        have g1 := HE6.out.cells.f 1 (by decide)
        have k0 := HE6.out.cells.c0
        have k1 := HE6.out.cells.c1
        have l0 := HE6.out.cells.lt
        have hT := HT.out _ (HF.out w5 (by rw [H4.out]; exact HE6.out))
        clear HE6 HF HT
        go_wp2_with fail
        refine hT.mono ?_
        rintro r w6 ⟨v, rfl, ht⟩
        have HTT := (show Hid _ from ht)
        clear hT ht g0 g1 k0 k1 l0
        go_wp2
        go_ret2
        exact ⟨v, rfl, HTT.out⟩
    · have H4 : Hid (Em.rem4 (Em.rem3 e) 6 = Em.tell (Em.rem3 e) 4 ByteArray.empty) := rfl
      go_wp2_with fail
      refine (HE5.out.call fun lab1 h1 => tell_any C lab1 _ ⟨4, Em.fr0, ByteArray.empty, 0⟩ _ h1 (by have := HL3.out; omega)).mono ?_
      rintro r w5 ⟨rfl, hm⟩
      have HE6 : Hid (Mv (En C) w w5 lab (Em.tell (Em.rem3 e) 4 ByteArray.empty)) := hm
      clear hm HE5 k0 l0
      have g0 := HE6.out.cells.f 0 (by decide)
      have g1 := HE6.out.cells.f 1 (by decide)
      have k0 := HE6.out.cells.c0
      have k1 := HE6.out.cells.c1
      have l0 := HE6.out.cells.lt
      have hT := HT.out _ (HF.out w5 (by rw [H4.out]; exact HE6.out))
      clear HE6 HF HT
      go_wp2_with fail
      refine hT.mono ?_
      rintro r w6 ⟨v, rfl, ht⟩
      have HTT := (show Hid _ from ht)
      clear hT ht g0 g1 k0 k1 l0
      go_wp2
      go_ret2
      exact ⟨v, rfl, HTT.out⟩
    · have H4 : Hid (Em.rem4 (Em.rem3 e) st = Em.rem3 e) := by
        show _ = _
        unfold Em.rem4
        rw [if_neg (by omega), if_neg (by omega)]
      rcases hx with rfl | rfl
      all_goals
        have g0 := HE5.out.cells.f 0 (by decide)
        have g1 := HE5.out.cells.f 1 (by decide)
        have k1 := HE5.out.cells.c1
        have hT := HT.out _ (HF.out w4 (by rw [H4.out]; exact HE5.out))
        clear HE5 HF HT
        go_wp2_with fail
        refine hT.mono ?_
        rintro r w6 ⟨v, rfl, ht⟩
        have HTT := (show Hid _ from ht)
        clear hT ht g0 g1 k0 k1 l0
        go_wp2
        go_ret2
        exact ⟨v, rfl, HTT.out⟩
end Go.Proofs.YtdfoicngcahajaaDoor

namespace Go.Proofs.YtdfoicngcahajaaDoor
open Go.RowKit
set_option linter.unusedVariables false
set_option maxRecDepth 100000
set_option linter.unusedSimpArgs false

/-- a timer that ran is over -/
def Em.over (e1 : Em.St) : Em.St :=
  if e1.state = 5 then Em.again e1 4 (Em.letter 71) 3
  else if e1.state = 6 then Em.again e1 7 (Em.letter 72) 4
  else if e1.state = 7 then Em.asks e1
  else if e1.state = 8 then Em.askAgain e1
  else e1
def Em.off (e : Em.St) (t : Int) : Em.St := { e with t200 := Em.upA e.t200 t false, t203 := Em.upB e.t203 t false }
theorem Em.timeout_no (e : Em.St) (t : Int) (ho : e.out = []) (hr : Em.runs e.t200 e.t203 t = false) : Em.timeout e t = e := by
  obtain ⟨m, st, tei, tr, asked, t2, t3, us, fl, out⟩ := e
  have h' : out = [] := ho
  subst h'
  unfold Em.runs at hr
  simp at hr
  unfold Em.timeout
  simp only []
  by_cases h3 : t = 203
  · rw [if_pos h3]
    have := hr.2 h3
    subst this
    rfl
  · rw [if_neg h3]
    by_cases h2 : t = 200
    · have := hr.1 h2
      subst this
      rw [if_neg (fun hx => by cases hx.2)]
    · rw [if_neg (fun hx => h2 hx.1)]
theorem Em.timeout_yes (e : Em.St) (t : Int) (ho : e.out = []) (tm : Em.Tm e) (ok : Em.Ok e) (hr : Em.runs e.t200 e.t203 t = true) : Em.timeout e t = Em.over (Em.off e t) ∧ (e.state = 5 ∨ e.state = 6 ∨ e.state = 7 ∨ e.state = 8) := by
  have ta := tm.a
  have tb := tm.b
  have tc := tm.c
  have s0 := ok.s0
  have s1 := ok.s1
  clear tm ok
  obtain ⟨m, st, tei, tr, asked, t2, t3, us, fl, out⟩ := e
  have h' : out = [] := ho
  subst h'
  simp only [] at ta tb tc s0 s1 hr ⊢
  rcases Em.runs_key hr with rfl | rfl
  · rw [Em.runs_200] at hr
    subst hr
    have hs : ¬ st ≤ 4 := fun hx => by cases (ta hx).1
    refine ⟨?_, by omega⟩
    rcases (show st = 5 ∨ st = 6 ∨ st = 7 ∨ st = 8 by omega) with rfl | rfl | rfl | rfl <;> rfl
  · rw [Em.runs_203] at hr
    subst hr
    have h7 : st = 7 := by
      have hs : ¬ st ≤ 4 := fun hx => by cases (ta hx).2
      have h2 : ¬ (st = 5 ∨ st = 6 ∨ st = 8) := fun hx => by cases (tb hx).2
      omega
    subst h7
    exact ⟨rfl, by omega⟩

set_option maxHeartbeats 2000000 in
theorem etime_any (C : Nat) (lab : Nat → Nat) (e : Em.St) (t : Int) (w : World) (h : Ent C w lab e) (t0 : -9223372036854775808 ≤ t) (t1 : t ≤ 9223372036854775807) :
    Calls Tryd.prog 11 #[.pointer (some ⟨C, 0, none⟩), .int .i64 t] w fun r w' => ∃ v, r = .returned v ∧ Told C w w' lab v (Em.timeout e t) := by
  have HM := made_any C lab e w h.en h.ok.s0
  have HR := runs_any C lab e t w h.en t0 t1
  cases hr : Em.runs e.t200 e.t203 t with
  | false =>
    rw [hr] at HR
    rw [Em.timeout_no e t h.out hr]
    have HN : Hid (∀ w', Below w.heap.size w w' → Told C w w' lab (.slice none 0 0) e) := fun w' hb => h.nothing hb
    clear h hr
    go_enter Tryd.func11, Tryd.ntmps11
    go_wp2_with fail
    refine HM.mono ?_
    rintro r w1 ⟨rfl, rfl⟩
    clear HM
    go_wp2_with fail
    refine HR.mono ?_
    rintro r w1 ⟨rfl, hb⟩
    have HB := (show Hid _ from HN.out _ hb)
    clear HR hb HN
    go_wp2
    go_ret
    exact ⟨_, rfl, HB.out⟩
  | true =>
    rw [hr] at HR
    have hkey := Em.runs_key hr
    obtain ⟨hov, hst4⟩ := Em.timeout_yes e t h.out h.tm h.ok hr
    have hok := Em.timeout_ok h.ok t
    have htm := Em.timeout_tm h.tm h.ok t
    rw [hov] at hok htm ⊢
    have HKEY : Hid (t = 200 ∨ t = 203) := hkey
    have HO : Hid (e.out.length = 0) := by show _ = _; rw [h.out]; rfl
    have r0 := h.ok.r0
    have r1 : e.tries ≤ 32 := by have := h.ok.r1; have := h.ok.m1; omega
    have HT : Hid (∀ w1, Mv (En C) w w1 lab (Em.over (Em.off e t)) → Calls Tryd.prog 16 #[.pointer (some ⟨C, 0, none⟩)] w1 fun r w' => ∃ v, r = .returned v ∧ Told C w w' lab v (Em.over (Em.off e t))) := fun w1 hm => told_any C lab e _ w w1 h hm hok htm
    have HEn : Hid (En C w lab e) := h.en
    clear h hr hkey hov hok htm
    go_enter Tryd.func11, Tryd.ntmps11
    go_wp2_with fail
    refine HM.mono ?_
    rintro r w1 ⟨rfl, rfl⟩
    clear HM
    go_wp2_with fail
    refine HR.mono ?_
    rintro r w1 ⟨rfl, hb⟩
    have h1 := HEn.out.below hb
    obtain ⟨M, c7, hM, htm, hmv⟩ := h1.timer
    have hlt := h1.cs.lt
    have hdr := fun ty => htm.drop HKEY.out ty
    have HH : Hid (Below w.heap.size w w1) := hb
    have HMV : Hid (∀ w' a b, TmIs w' M a b → Kept w1 w' (fun k => k = M) → Mv (En C) w1 w' lab { e with t200 := a, t203 := b }) := hmv
    clear HR hb h1 htm hmv
    obtain ⟨w2, hrun, hT, hK⟩ := hdr 0
    have HE0 : Hid (Mv (En C) w w2 lab (Em.off e t)) := Mv.ahead HH.out (HMV.out w2 _ _ hT hK)
    clear hdr hT hK HMV HH
    have k0 := HE0.out.cells.c0
    have l0 := HE0.out.cells.lt
    have ks : (Em.off e t).state = e.state := rfl
    rw [ks] at k0
    clear ks
    obtain ⟨st, hst⟩ : ∃ st, e.state = st := ⟨_, rfl⟩
    have HST : Hid (e.state = st) := hst
    rw [hst] at k0 hst4
    clear hst
    have hl0 : (Em.off e t).out.length = 0 := HO.out
    have hr0 : 0 ≤ (Em.off e t).tries := r0
    have hr1 : (Em.off e t).tries ≤ 32 := r1
    have HSO : Hid ((Em.off e t).state = st) := HST.out
    obtain ⟨e1, he1⟩ : ∃ e1, e1 = Em.off e t := ⟨_, rfl⟩
    rw [← he1] at HE0 HT hl0 hr0 hr1 HSO
    have HEQ : Hid (e1 = Em.off e t) := he1
    clear he1
    rcases hst4 with rfl | rfl | rfl | rfl
    · have hov : Em.over e1 = Em.again e1 4 (Em.letter 71) 3 := by unfold Em.over; rw [HSO.out]; rfl
      have HOV := (show Hid _ from hov)
      clear hov
      go_wp2_with fail
      refine (HE0.out.call fun lab1 h1 => tryAgain_any C lab1 _ 4 (Em.letter 71) 3 _ h1 (by omega) hr0 hr1).mono ?_
      rintro r w1 ⟨rfl, hm⟩
      have HE1 : Hid (Mv (En C) w w1 lab (Em.again e1 4 (Em.letter 71) 3)) := hm
      clear HE0 hm
      have hT := HT.out _ (show Mv (En C) w w1 lab (Em.over e1) from by rw [HOV.out]; exact HE1.out)
      clear HE1 HT
      go_wp2_with fail
      refine hT.mono ?_
      rintro r w9 ⟨v, rfl, ht⟩
      have HTT := (show Hid _ from ht)
      clear hT ht
      go_wp2
      go_ret
      exact ⟨v, rfl, by rw [← HEQ.out]; exact HTT.out⟩
    · have hov : Em.over e1 = Em.again e1 7 (Em.letter 72) 4 := by unfold Em.over; rw [HSO.out]; rfl
      have HOV := (show Hid _ from hov)
      clear hov
      go_wp2_with fail
      refine (HE0.out.call fun lab1 h1 => tryAgain_any C lab1 _ 7 (Em.letter 72) 4 _ h1 (by omega) hr0 hr1).mono ?_
      rintro r w1 ⟨rfl, hm⟩
      have HE1 : Hid (Mv (En C) w w1 lab (Em.again e1 7 (Em.letter 72) 4)) := hm
      clear HE0 hm
      have hT := HT.out _ (show Mv (En C) w w1 lab (Em.over e1) from by rw [HOV.out]; exact HE1.out)
      clear HE1 HT
      go_wp2_with fail
      refine hT.mono ?_
      rintro r w9 ⟨v, rfl, ht⟩
      have HTT := (show Hid _ from ht)
      clear hT ht
      go_wp2
      go_ret
      exact ⟨v, rfl, by rw [← HEQ.out]; exact HTT.out⟩
    · have hov : Em.over e1 = Em.asks e1 := by unfold Em.over; rw [HSO.out]; rfl
      have HOV := (show Hid _ from hov)
      clear hov
      have ha0 := HE0.out.cells
      have k04 := ha0.c4
      have l0 := ha0.lt
      have g0 := ha0.f 4 (by decide)
      clear ha0
      have HE1 : Hid (Mv (En C) w (w2.setCell ⟨C, 4, none⟩ (.int .i64 0)) lab ({ e1 with tries := 0 })) := HE0.out.trans fun _ hx => hx.setTries 0
      go_wp2_with fail
      refine (HE1.out.call fun lab1 h1 => inquire_any C lab1 _  _ h1 (by show e1.out.length ≤ _; omega)).mono ?_
      rintro r w2 ⟨rfl, hm⟩
      have HE2 : Hid (Mv (En C) w w2 lab (Em.inquire { e1 with tries := 0 })) := hm
      clear HE1 hm
      have ha2 := HE2.out.cells
      have k20 := ha2.c0
      have l2 := ha2.lt
      have g2 := ha2.f 0 (by decide)
      clear ha2
      have HE3 : Hid (Mv (En C) w (w2.setCell ⟨C, 0, none⟩ (.int .i64 8)) lab (Em.asks e1)) := HE2.out.trans fun _ hx => hx.setState 8
      have hT := HT.out _ (show Mv (En C) w (w2.setCell ⟨C, 0, none⟩ (.int .i64 8)) lab (Em.over e1) from by rw [HOV.out]; exact HE3.out)
      clear HE3 HT
      go_wp2_with fail
      refine hT.mono ?_
      rintro r w9 ⟨v, rfl, ht⟩
      have HTT := (show Hid _ from ht)
      clear hT ht
      go_wp2
      go_ret
      exact ⟨v, rfl, by rw [← HEQ.out]; exact HTT.out⟩
    · have hov : Em.over e1 = Em.askAgain e1 := by unfold Em.over; rw [HSO.out]; rfl
      have HOV := (show Hid _ from hov)
      clear hov
      go_wp2_with fail
      refine (HE0.out.call fun lab1 h1 => inquireAgain_any C lab1 _  _ h1 (by omega) hr0 hr1).mono ?_
      rintro r w1 ⟨rfl, hm⟩
      have HE1 : Hid (Mv (En C) w w1 lab (Em.askAgain e1)) := hm
      clear HE0 hm
      have hT := HT.out _ (show Mv (En C) w w1 lab (Em.over e1) from by rw [HOV.out]; exact HE1.out)
      clear HE1 HT
      go_wp2_with fail
      refine hT.mono ?_
      rintro r w9 ⟨v, rfl, ht⟩
      have HTT := (show Hid _ from ht)
      clear hT ht
      go_wp2
      go_ret
      exact ⟨v, rfl, by rw [← HEQ.out]; exact HTT.out⟩
end Go.Proofs.YtdfoicngcahajaaDoor
