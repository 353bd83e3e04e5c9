/-
  The law PoolUnique's walk: no TEI is assigned that is assigned; all 63 are, one behind the other, and then none.
-/
import Derived.Test.YtdojkaliohcckaaOnMap
import Derived.Test.YtdojkaliohcckaaPActRows
import Derived.Test.YtdojkaliohcckaaRegionGuard
import Derived.Deep.CutBlock
import Derived.BigQuiet
namespace Go.Proofs.Ytdojkaliohcckaa
open Go.RowKit Go.Maps Go.WideMaps
set_option linter.unusedVariables false
set_option linter.unusedSimpArgs false

/-- and a call's data in block s -/
structure OwnD (b : Nat) (W0 w : World) (C M s : Nat) (q : ActV) (f : Nat → Bool) (nx : Nat) (g : Nat → Bool) : Prop where
  om : OwnM b W0 w C M f nx g
  act : q.At w s 0
  lt : s < w.heap.size
  sC : s ≠ C
  sM : s ≠ M
section
variable {b : Nat} {W0 w w' : World} {C M s nx : Nat} {q : ActV} {f g : Nat → Bool}
theorem OwnD.below (h : OwnD b W0 w C M s q f nx g) (hb : Below w.heap.size w w') : OwnD b W0 w' C M s q f nx g := ⟨h.om.below hb, h.act.below hb h.lt, Nat.lt_of_lt_of_le h.lt hb.size, h.sC, h.sM⟩
theorem OwnM.act {W : World} {T : TypeId} (h : OwnM b W0 w C M f nx g) (hW : W = w.alloc (.cells #[.int .i64 q.d, .int .i64 q.n, .int .i64 q.o] T)) : OwnD b W0 W C M w.heap.size q f nx g := by
  subst hW
  exact ⟨h.below ((Below.refl _ _).alloc (Nat.le_refl _) _), ⟨by simp, by simp, by simp⟩, by simp, by have := h.own.pl.lt; omega, by have := h.on.lt; omega⟩
theorem OwnD.then {f' : Nat → Bool} {ny : Nat} (h : OwnD b W0 w C M s q f nx g) (hp : Pl w' C f' ny) (hk : Kept w w' (fun k => k = C)) : OwnD b W0 w' C M s q f' ny g :=
  ⟨h.om.then hp hk, h.act.kept hk h.lt h.sC, Nat.lt_of_lt_of_le h.lt hk.size, h.sC, h.sM⟩
theorem ownd_claim (t : Int) (h : OwnD b W0 w C M s q f nx g) : Calls Try.prog 10 #[.pointer (some ⟨C, 0, none⟩), .int .i64 t] w fun e w' => e = .returned (.int .i64 (Pm.clN f t)) ∧ OwnD b W0 w' C M s q (Pm.clF f t) nx g :=
  (pclaim_any C nx f t w h.om.own.pl).mono fun e w' hx => ⟨hx.1, h.then hx.2.1 hx.2.2⟩

/-! ### Free is called in a region that draws its order: it is operation 3 -/
def FrJ (b : Nat) (W0 : World) (C M s : Nat) (q : ActV) (nx : Nat) (f f' g : Nat → Bool) (l : Array Bool) (w : World) : Prop := OwnD b W0 w C M s q (if l.getD 3 false = true then f' else f) nx g
variable {f' : Nat → Bool} {l : Array Bool}
theorem FrJ.own (h : FrJ b W0 C M s q nx f f' g l w) : OwnD b W0 w C M s q (if l.getD 3 false = true then f' else f) nx g := h
theorem FrJ.same {i : Nat} (h : FrJ b W0 C M s q nx f f' g l w) (h1 : i ≠ 3) : FrJ b W0 C M s q nx f f' g (l.setIfInBounds i true) w := by
  unfold FrJ at *
  rw [getD_set_ne false h1]
  exact h
theorem FrJ.call {md : Region.Mode} {ops : Array Oper} (h : FrJ b W0 C M s q nx f f' g l w) (hr : 3 ∈ Region.ready md ops l) :
    Pl w C f nx ∧ ∀ w', Pl w' C f' nx → Kept w w' (fun k => k = C) → FrJ b W0 C M s q nx f f' g (l.setIfInBounds 3 true) w' := by
  have hl := (mem_ready.1 hr).1
  have hlt := unlisted_lt hl
  have e2 : (l.setIfInBounds 3 true).getD 3 false = true := by simp [hlt]
  have e1 : l.getD 3 false = false := by
    simp [hlt] at hl ⊢
    exact hl
  have h' := h.own
  rw [e1] at h'
  simp only [Bool.false_eq_true, if_false] at h'
  refine ⟨h'.om.own.pl, fun w' hp hk => ?_⟩
  unfold FrJ
  rw [e2]
  simp only [if_true]
  exact h'.then hp hk
theorem frJ_start {K : Nat} (f' : Nat → Bool) (h : OwnD b W0 w C M s q f nx g) : FrJ b W0 C M s q nx f f' g (Array.replicate K false) w := by
  unfold FrJ
  rw [rep_getD']
  simpa using h
theorem FrJ.done (h : FrJ b W0 C M s q nx f f' g l w) (hall : ∀ i, i < 9 → l.getD i false = true) : OwnD b W0 w C M s q f' nx g := by
  have h' := h.own
  rw [hall 3 (by decide)] at h'
  simpa using h'
end
/-! ### the operations -/
section
variable {ρ : Operand → Value} {o : Oper}
theorem runu_fa {x : Operand} {s : Nat} (hop : o.op = .fieldAddr 31 x 1) (hx : ρ x = .pointer (some ⟨s, 0, none⟩)) (w : World) : (execOp ρ o).run Try.prog w = .ok (.value (.pointer (some ⟨s, 1, none⟩))) w := by
  unfold execOp
  simp only [hop, hx]
  go_simp
theorem runu_ldi {x : Operand} {s j : Nat} {v : Int} {w : World} (hop : o.op = .load 3 x) (hx : ρ x = .pointer (some ⟨s, j, none⟩)) (hc : w.cell? ⟨s, j, none⟩ = some (.int .i64 v)) : (execOp ρ o).run Try.prog w = .ok (.value (.int .i64 v)) w := by
  unfold execOp
  simp only [hop, hx]
  go_simp
theorem runu_neb {x y : Operand} {b : Bool} (hop : o.op = .binOp .neq 4 x y 4) (hx : ρ x = .bool b) (hy : ρ y = .bool b) (w : World) : (execOp ρ o).run Try.prog w = .ok (.value (.bool false)) w := by
  have tb : (b == b) = true := by simp
  unfold execOp
  simp only [hop, hx, hy]
  go_simp
theorem runu_look {x y : Operand} {M : Nat} {t : Int} {b : Bool} {w : World} (hop : o.op = .lookup 45 x y false) (hx : ρ x = .map (some M)) (hy : ρ y = .int .i64 t) (hl : (Instr.lookup 45 (.map (some M)) (.int .i64 t) false).run Try.prog w = .ok (.bool b) w) : (execOp ρ o).run Try.prog w = .ok (.value (.bool b)) w := by
  unfold execOp
  simp only [hop, hx, hy]
  simp [hl, Result.andThen]
theorem runu_free {x y : Operand} {u v : Value} {ts : Array TypeId} (hop : o.op = .call { callee := .value (.func 12), args := #[x, y], argTypes := ts })
    (hf : ρ (.func 12) = .func (.func 12) #[] #[]) (hx : ρ x = u) (hy : ρ y = v) (w : World) : (execOp ρ o).run Try.prog w = .ok (.enter 12 #[u, v]) w := by
  unfold execOp
  simp only [hop]
  simp only [resolve, hf, hx, hy, List.map_toArray, List.map_cons, List.map_nil]
  go_simp
end
def ufreeD : Nat → Option Nat
  | 0 => some 78 | 1 => some 79 | 2 => some 80 | 3 => some 81 | 4 => some 82 | 5 => some 83 | 6 => some 84 | 7 => some 85 | 8 => some 86 | _ => none
def ufreeV (C M s : Nat) (arg ans : Value) : Nat → Value
  | 0 => .pointer (some ⟨C, 0, none⟩) | 1 => .pointer (some ⟨s, 1, none⟩) | 2 => arg | 3 => ans | 4 => .map (some M) | 5 => .pointer (some ⟨s, 1, none⟩) | 6 => arg | 7 => ans | 8 => .bool false | _ => undef
theorem ufreeD_inj : ∀ i j d, i < 9 → j < 9 → ufreeD i = some d → ufreeD j = some d → i = j := by
  have h : ∀ i < 9, ∀ j < 9, ufreeD i = ufreeD j → i = j := by decide
  intro i j d hi hj h1 h2
  exact h i hi j hj (h1.trans h2.symm)
theorem ufreeD_lt : ∀ i d, i < 9 → ufreeD i = some d → d < 124 := by
  have h : ∀ i < 9, (ufreeD i).all (· < 124) = true := by decide
  intro i d hi hd
  have := h i hi
  rw [hd] at this
  simpa using this
theorem ct_few {f : Nat → Bool} {p : Nat} (hp : p < 63) (hf : f p = false) : Pm.ct f 63 < 63 := by
  have h1 := Pm.ct_le f 63
  rcases Nat.lt_or_ge (Pm.ct f 63) 63 with h | h
  · exact h
  · have := Pm.full_ct (f := f) (n := 63) (by omega) p hp
    rw [hf] at this; cases this

set_option maxHeartbeats 1000000 in
set_option maxRecDepth 100000 in
theorem walk_PoolUnique (a : Option Addr) (len cap : Nat) (ps : List ActV) (w : World) (hr : RowA w a len cap ps) :
    Calls Try.prog 4 #[.slice a len cap] w fun e w' => e = .returned (.bool true) ∧ Below w.heap.size w w' := by
  have hlc : len ≤ cap := hr.2.1
  have hcm : cap ≤ 9223372036854775807 := by have := hr.2.2.1; unfold maxLen at this; exact this
  have HR : Hid (RowA w a len cap ps) := hr
  clear hr
  obtain ⟨m, hmin, hm60, hml⟩ : ∃ m : Nat, min (len : Int) 60 = (m : Int) ∧ m ≤ 60 ∧ m ≤ len := ⟨(min (len : Int) 60).toNat, by omega, by omega, by omega⟩
  have hfr : a.map (·.add 0) = a := by
    cases a with
    | none => rfl
    | some x => simp [Addr.add]
  have hmm : (if (60 : Int) < (len : Int) then (60 : Int) else (len : Int)) = (m : Int) := by split <;> omega
  have hmk := @run_makeMap Try.prog
  go_enter Try.func4, Try.ntmps4
  go_wp2_with fail
  refine (pnew_any _).mono ?_
  rintro e w1 ⟨rfl, h1, h2⟩
  have O1 := own_new h1 h2
  clear h1 h2
  obtain ⟨C, hC⟩ : ∃ C, C = w.heap.size := ⟨_, rfl⟩
  rw [← hC] at O1
  rw [← hC]
  have HC : Hid (C = w.heap.size) := hC
  have HO1 := ownm_start (w := w1) O1
  obtain ⟨M, hM⟩ : ∃ M, M = w1.heap.size := ⟨_, rfl⟩
  rw [← hM] at HO1
  obtain ⟨w2, hw2⟩ : ∃ w2, w2 = w1.alloc (.map #[] 0) := ⟨_, rfl⟩
  rw [← hw2] at HO1
  have HO2 : Hid (OwnM C w w2 C M (fun _ => false) 0 (fun _ => false)) := HO1
  clear hC O1 HO1
  go_wp2
  rw [← hw2, ← hM]
  clear hmin hfr hmm hmk hw2 hM
  go_loopw [22] (fun c wr => ∃ (j : Nat) (f : Nat → Bool) (nx : Nat), j ≤ m ∧ c = .int .i64 j ∧ Hid (OwnM C w wr C M f nx f)) (fun c _ => m - (intOf c).toNat)
  case atStart => exact ⟨0, _, _, Nat.zero_le _, rfl, HO2⟩
  case round =>
    obtain ⟨j, f, nx, hjm, rfl, HP⟩ := hrel
    clear HO2
    by_cases hlt : j < m
    · obtain ⟨bb, off, q, rfl, hbb, hqe, hat, hok⟩ := HR.out.at j (by omega)
      have hat' := hat.below HP.out.own.bel (by rw [HC.out]; exact hbb)
      have hbr : bb < wr.heap.size := by have := HP.out.own.bs; have := HC.out; omega
      obtain ⟨d0, d1, d2⟩ := hat'
      have hin : In64 q.n := hok.n
      clear hat hqe hbb hok
      obtain ⟨Wq, hWq⟩ : ∃ Wq, Wq = wr.alloc (.cells #[.int .i64 q.d, .int .i64 q.n, .int .i64 q.o] 31) := ⟨_, rfl⟩
      have HOq : Hid (OwnD C w Wq C M wr.heap.size q f nx f) := HP.out.act hWq
      go_upto_block 2 with fail
      rw [← hWq]
      clear hWq HP d0 d1 d2 hbr
      generalize q.d.tmod 4 = r
      generalize wr.heap.size = s at HOq ⊢
      by_cases e1 : r = 1 ∨ r = -1
      · rcases e1 with rfl | rfl
        all_goals
          have y1 := HOq.out.act.n
          have yl := HOq.out.lt
          simp only [Nat.zero_add] at y1
          have H1 := ownd_claim q.n HOq.out
          clear HOq
          rcases claim_ways f q.n with ⟨p, hp, e0, hf, e1, e2⟩ | ⟨e1, e2, -⟩
          · rw [e1, e2] at H1
            have E0 : Hid (q.n = 64 + (p : Int)) := e0
            clear e1 e2 e0
            go_wp2_with fail
            refine H1.mono ?_
            rintro e w4 ⟨rfl, hO4⟩
            have hl := hO4.om.on.look hin
            have z1 := hO4.act.n
            have zl := hO4.lt
            simp only [Nat.zero_add] at z1
            rw [E0.out] at hl z1
            rw [Pm.has_of f p hp, hf] at hl
            obtain ⟨w5, hst, hO5⟩ := hO4.om.store hp hf
            have HO5 : Hid (OwnM C w w5 C M (Pm.upd f p true) nx (Pm.upd f p true)) := hO5
            have b1 : (64 : Int) ≤ 64 + (p : Int) := by omega
            have b2 : 64 + (p : Int) ≤ 126 := by omega
            clear H1 hO4 hO5 hf hin y1 yl E0
            generalize 64 + (p : Int) = y at hl hst b1 b2 z1
            go_wp2
            go_roundw
            case rel => exact ⟨j + 1, _, _, by omega, by go_num, HO5⟩
            case measure => simp [intOf]; omega
          · rw [e2] at H1
            have e0 : (Pm.clN f q.n == 0) = false := by rcases e1 with e | e <;> rw [e] <;> decide
            clear e1 e2
            generalize Pm.clN f q.n = z at H1 e0
            go_wp2_with fail
            refine H1.mono ?_
            rintro e w4 ⟨rfl, hO4⟩
            have HO4 : Hid (OwnM C w w4 C M f nx f) := hO4.om
            clear H1 hO4 y1 yl
            go_wp2
            go_roundw
            case rel => exact ⟨j + 1, _, _, by omega, by go_num, HO4⟩
            case measure => simp [intOf]; omega
      by_cases e2 : r = 2 ∨ r = -2
      · rcases e2 with rfl | rfl
        all_goals
          go_upto_region 21 with fail
          refine region_vals (by kernel_rfl) 9 rfl ufreeD (ufreeV C M s (.int .i64 q.n) (.bool (Pm.has f q.n))) ufreeD_inj ?hd ?hlow (FrJ C w C M s q nx f (Pm.frF f q.n) f) ?h0 ?hstep ?hdone
          case hd => exact ufreeD_lt
          case hlow => kernel_rfl
          case h0 => exact frJ_start _ (HOq.out.below (Below.refl _ _).drew)
          case hstep =>
            intro l fa wz k hk0 hJ hr hK
            have s3 : fa.eval (.tmp 3) = .pointer (some ⟨C, 0, none⟩) := hK.rest 3 (by decide)
            have s4 : fa.eval (.tmp 4) = .map (some M) := hK.rest 4 (by decide)
            have s6 : fa.eval (.tmp 6) = .pointer (some ⟨s, 0, none⟩) := hK.rest 6 (by decide)
            have got : ∀ i, i ∈ depsOf .any _ k → ∀ d, ufreeD i = some d → i < 9 → fa.eval (.tmp d) = ufreeV C M s (.int .i64 q.n) (.bool (Pm.has f q.n)) i := fun i hi d hd hi' => hK.got i d hi' (ready_deps hr i hi) hd
            match k, hk0, hr, got with
            | 0, _, hr, got => exact stepw_val rfl (wanted_none rfl) (runw_move rfl s3 wz) rfl (hJ.same (by decide))
            | 1, _, hr, got => exact stepw_val rfl (wanted_none rfl) (runu_fa rfl s6 wz) rfl (hJ.same (by decide))
            | 2, _, hr, got => exact stepw_val rfl (wanted_none rfl) (runu_ldi rfl (got 1 (by decide) 79 rfl (by decide)) (by have := hJ.own.act.n; simpa using this)) rfl (hJ.same (by decide))
            | 3, _, hr, got =>
              obtain ⟨hc', hn'⟩ := hJ.call hr
              exact stepw_call rfl (wanted_none rfl) (runu_free rfl rfl (got 0 (by decide) 78 rfl (by decide)) (got 2 (by decide) 80 rfl (by decide)) wz) rfl ((pfree_any C nx f q.n wz hc').mono fun e w' h => ⟨h.1, hn' w' h.2.1 h.2.2⟩)
            | 4, _, hr, got => exact stepw_val rfl (wanted_none rfl) (runw_move rfl s4 wz) rfl (hJ.same (by decide))
            | 5, _, hr, got => exact stepw_val rfl (wanted_none rfl) (runu_fa rfl s6 wz) rfl (hJ.same (by decide))
            | 6, _, hr, got => exact stepw_val rfl (wanted_none rfl) (runu_ldi rfl (got 5 (by decide) 83 rfl (by decide)) (by have := hJ.own.act.n; simpa using this)) rfl (hJ.same (by decide))
            | 7, _, hr, got => exact stepw_val rfl (wanted_none rfl) (runu_look rfl (got 4 (by decide) 82 rfl (by decide)) (got 6 (by decide) 84 rfl (by decide)) (hJ.own.om.on.look hin)) rfl (hJ.same (by decide))
            | 8, _, hr, got => exact stepw_val rfl (wanted_none rfl) (runu_neb rfl (got 3 (by decide) 81 rfl (by decide)) (got 7 (by decide) 85 rfl (by decide)) wz) rfl (hJ.same (by decide))
            | j + 9, hlt, _, _ => exact absurd hlt (by omega)
          case hdone =>
            intro l w' hall hJ
            have HE := hJ.done hall
            have z1 := HE.act.n
            have zl := HE.lt
            simp only [Nat.zero_add] at z1
            obtain ⟨w5, hst, hO5⟩ := HE.om.drop hin 0
            have HO5 : Hid (OwnM C w w5 C M (Pm.frF f q.n) nx (Pm.frF f q.n)) := hO5
            clear hall hJ HE hO5
            simp only [putsOf, ufreeD, ufreeV, Act.put, List.setIfInBounds_toArray, List.set_cons_zero, List.set_cons_succ]
            go_wp2
            go_roundw
            case rel => exact ⟨j + 1, _, _, by omega, by go_num, HO5⟩
            case measure => simp [intOf]; omega
      have n1 : (r == 1) = false := by simp; omega
      have n2 : (r == -1) = false := by simp; omega
      have n3 : (r == 2) = false := by simp; omega
      have n4 : (r == -2) = false := by simp; omega
      clear e1 e2
      have H1 := ownm_assign HOq.out.om
      rcases Pm.as_ways f nx HOq.out.om.own.pl.hi with ⟨hall, e1, e2, e3, e4⟩ | ⟨p, hp, hf, e1, e2, e3, e4⟩
      · rw [e1, e2, e3, e4] at H1
        clear e1 e2 e3 e4 hall HOq
        go_wp2_with fail
        refine H1.mono ?_
        rintro e w4 ⟨rfl, hO4⟩
        have HO4 : Hid (OwnM C w w4 C M f nx f) := hO4
        clear H1 hO4
        go_wp2
        go_roundw
        case rel => exact ⟨j + 1, _, _, by omega, by go_num, HO4⟩
        case measure => simp [intOf]; omega
      · rw [e1, e2, e3, e4] at H1
        clear e1 e2 e3 e4 HOq
        go_wp2_with fail
        refine H1.mono ?_
        rintro e w4 ⟨rfl, hO4⟩
        have hl := hO4.on.look (in_place p hp)
        rw [Pm.has_of f p hp, hf] at hl
        obtain ⟨w5, hst, hO5⟩ := hO4.store hp hf
        have HO5 : Hid (OwnM C w w5 C M (Pm.upd f p true) ((p + 1) % 63) (Pm.upd f p true)) := hO5
        have b1 : (64 : Int) ≤ 64 + (p : Int) := by omega
        have b2 : 64 + (p : Int) ≤ 126 := by omega
        clear H1 hO4 hO5 hf
        generalize 64 + (p : Int) = y at hl hst b1 b2 ⊢
        go_wp2
        go_roundw
        case rel => exact ⟨j + 1, _, _, by omega, by go_num, HO5⟩
        case measure => simp [intOf]; omega
    · have hge : ¬ ((j : Int) < (m : Int)) := by omega
      go_upto_region 25 with fail
      clear hlt hjm hge
      go_loopw [10] (fun c wi => ∃ (f : Nat → Bool) (nx : Nat), Hid (OwnM C w wi C M f nx f)) (fun _ wi => 63 - ents wi M)
      case atStart => exact ⟨f, nx, HP⟩
      case round =>
        obtain ⟨g, ny, HPt⟩ := hrel
        clear HP
        have hl := fun ty => HPt.out.on.len ty
        have H1 := ownm_assign HPt.out
        rcases Pm.as_ways g ny HPt.out.own.pl.hi with ⟨hall, e1, e2, e3, e4⟩ | ⟨p, hp, hf, e1, e2, e3, e4⟩
        · rw [e1, e2, e3, e4] at H1
          have hct := Pm.ct_full hall
          rw [hct] at hl
          clear e1 e2 e3 e4 hall HPt
          go_wp2_with fail
          refine H1.mono ?_
          rintro e w4 ⟨rfl, hO4⟩
          have HO4 : Hid (OwnM C w w4 C M g ny g) := hO4
          have HCT : Hid (Pm.ct g 63 = 63) := hct
          clear H1 hO4 hct hl
          go_wp2_with fail
          refine (pwakes_any _).mono ?_
          rintro e w5 ⟨rfl, hb5⟩
          have HO5 : Hid (OwnM C w w5 C M g ny g) := HO4.out.below hb5
          have H1 := plist_any C ny g w5 HO5.out.own.pl
          rw [HCT.out] at H1
          clear HO4 hb5 HCT
          go_wp2_with fail
          refine H1.mono ?_
          rintro e w6 ⟨la, lc, rfl, hL⟩
          have HB : Hid (Below C w w6) := (HO5.out.below hL.bel).own.bel
          clear H1 hL HO5
          go_wp2
          go_ret
          exact ⟨rfl, by have := HB.out; rw [HC.out] at this; exact this⟩
        · rw [e1, e2, e3, e4] at H1
          have hct := ct_few hp hf
          have HM0 : Hid (ents wr M = Pm.ct g 63) := HPt.out.on.ents
          have hlt : ((Pm.ct g 63 : Nat) : Int) < 63 := by omega
          clear e1 e2 e3 e4 HPt
          generalize Pm.ct g 63 = z at hl hlt
          clear hct
          go_wp2_with fail
          refine H1.mono ?_
          rintro e w4 ⟨rfl, hO4⟩
          have hk := hO4.on.look (in_place p hp)
          rw [Pm.has_of g p hp, hf] at hk
          obtain ⟨w5, hst, hO5⟩ := hO4.store hp hf
          have HO5 : Hid (OwnM C w w5 C M (Pm.upd g p true) ((p + 1) % 63) (Pm.upd g p true)) := hO5
          have HM1 : Hid (63 - ents w5 M < 63 - ents wr M) := by
            have h1 := hO5.on.ents
            rw [Pm.ct_set g hp hf] at h1
            have h2 := hO4.on.ents
            have h3 := HM0.out
            have h4 := ct_few hp hf
            show 63 - ents w5 M < 63 - ents wr M
            omega
          clear H1 hO4 hO5 hf hl HM0 hlt
          generalize 64 + (p : Int) = y at hk hst ⊢
          go_wp2
          go_roundw
          case rel => exact ⟨_, _, HO5⟩
          case measure => exact HM1.out
end Go.Proofs.Ytdojkaliohcckaa
