/-
  The law EntityDeaf's walk: a frame that may not be, or that comes ahead of a TEI, changes nothing.
-/
import Derived.Test.YtidemohpngkedabGreatDoorEntAfter
import Derived.Deep.RegionWith
import Derived.Laws.StructEq
namespace Go.Proofs.YtidemohpngkedabGreatDoor
open Go.RowKit
set_option linter.unusedVariables false
set_option maxRecDepth 100000
set_option linter.unusedSimpArgs false

theorem open_EntityDeaf1 {H : Type} {enc : TypeId × Value → H} {w : World} {a : Option Addr} {len cap : Nat} {d : DataW H} {p : List MemPlace}
    (h : DataW.Trod enc Tryz.prog w 0 (fun _ => true) true 22 (.slice a len cap) d p) : ∃ ps, RowE w a len cap ps := open_actse h
/-- an entity, a frame in block X, a view in block V -/
structure DH (b : Nat) (W0 w : World) (C X V : Nat) (f : Em.Fr) (e : Em.St) : Prop where
  eh : EH b W0 w (fun k => k = X ∨ k = V) C e
  x : Blk w X (frL f)
  v : Blk w V (evL e)
  bx : b ≤ X
  bv : b ≤ V
section
variable {b : Nat} {W0 w w' : World} {C X V : Nat} {f : Em.Fr} {e : Em.St}
theorem DH.below (h : DH b W0 w C X V f e) (hb : Below w.heap.size w w') : DH b W0 w' C X V f e := ⟨h.eh.same hb, h.x.below hb, h.v.below hb, h.bx, h.bv⟩
theorem DH.drew (h : DH b W0 w C X V f e) : DH b W0 w.drew C X V f e := h.below (Below.refl _ _).drew
theorem DH.xs (h : DH b W0 w C X V f e) : X < w.heap.size ∧ w.cell? ⟨X, 0, none⟩ = some (.int .i64 f.sapi) ∧ w.cell? ⟨X, 1, none⟩ = some (.int .i64 f.tei) ∧ w.cell? ⟨X, 2, none⟩ = some (.bool f.c) ∧ w.cell? ⟨X, 3, none⟩ = some (.int .i64 f.k) ∧ w.cell? ⟨X, 4, none⟩ = some (.bool f.pf) ∧ w.cell? ⟨X, 5, none⟩ = some (.int .i64 f.ns) ∧ w.cell? ⟨X, 6, none⟩ = some (.int .i64 f.nr) ∧ w.cell? ⟨X, 7, none⟩ = some (.string f.info) :=
  ⟨h.x.1, h.x.2 0 _ rfl, h.x.2 1 _ rfl, h.x.2 2 _ rfl, h.x.2 3 _ rfl, h.x.2 4 _ rfl, h.x.2 5 _ rfl, h.x.2 6 _ rfl, h.x.2 7 _ rfl⟩
theorem DH.vs (h : DH b W0 w C X V f e) : V < w.heap.size ∧ w.cell? ⟨V, 0, none⟩ = some (.int .i64 e.state) ∧ w.cell? ⟨V, 1, none⟩ = some (.int .i64 e.tei) ∧ w.cell? ⟨V, 2, none⟩ = some (.int .i64 e.tries) ∧ w.cell? ⟨V, 3, none⟩ = some (.bool e.asked) ∧ w.cell? ⟨V, 4, none⟩ = some (.bool e.t200) ∧ w.cell? ⟨V, 5, none⟩ = some (.bool e.t203) ∧ w.cell? ⟨V, 6, none⟩ = some (.int .i64 e.units.length) ∧ w.cell? ⟨V, 7, none⟩ = some (.int .i64 e.fl.vs) ∧ w.cell? ⟨V, 8, none⟩ = some (.int .i64 e.fl.va) ∧ w.cell? ⟨V, 9, none⟩ = some (.int .i64 e.fl.vr) ∧ w.cell? ⟨V, 10, none⟩ = some (.bool e.fl.pe) ∧ w.cell? ⟨V, 11, none⟩ = some (.bool e.fl.ow) ∧ w.cell? ⟨V, 12, none⟩ = some (.bool e.fl.re) ∧ w.cell? ⟨V, 13, none⟩ = some (.int .i64 e.fl.sn) ∧ w.cell? ⟨V, 14, none⟩ = some (.int .i64 ((e.fl.L.length - e.fl.sn : Nat) : Int)) :=
  ⟨h.v.1, h.v.2 0 _ rfl, h.v.2 1 _ rfl, h.v.2 2 _ rfl, h.v.2 3 _ rfl, h.v.2 4 _ rfl, h.v.2 5 _ rfl, h.v.2 6 _ rfl, h.v.2 7 _ rfl, h.v.2 8 _ rfl, h.v.2 9 _ rfl, h.v.2 10 _ rfl, h.v.2 11 _ rfl, h.v.2 12 _ rfl, h.v.2 13 _ rfl, h.v.2 14 _ rfl⟩
theorem dh_wakes (hW : Ways W0) (hb0 : b = W0.heap.size) (h : DH b W0 w C X V f e) :
    Calls Tryz.prog 11 #[] w fun r w' => r = .returned (.bool true) ∧ DH b W0 w' C X V f e := by
  refine (ewakes_any w (hW.later (by have := h.eh.bel; rw [hb0] at this; exact this))).mono ?_
  rintro r w' ⟨rfl, hb⟩
  exact ⟨rfl, h.below hb⟩
theorem dh_view (h : DH b W0 w C X V f e) :
    Calls Tryz.prog 21 #[.pointer (some ⟨C, 0, none⟩)] w fun r w' => r = .returned (evV e) ∧ DH b W0 w' C X V f e := by
  refine (eh_view h.eh).mono ?_
  rintro r w' ⟨rfl, hb⟩
  exact ⟨rfl, h.below hb⟩
/-- a frame to which it is deaf -/
theorem dh_frame (hW : Ways W0) (hb0 : b = W0.heap.size) (ok : FrOk f) (hd : e.tei < 0 ∨ Em.may f = false) (h : DH b W0 w C X V f e) :
    Calls Tryz.prog 19 #[.pointer (some ⟨C, 0, none⟩), frmV f] w fun r w' => ∃ x cap, r = .returned (.slice x 0 cap) ∧ DH b W0 w' C X V f e := by
  refine (eh_frame f (hW.later (by have := h.eh.bel; rw [hb0] at this; exact this)) ok.ns.1 ok.ns.2 ok.nr.1 ok.nr.2 ok.info h.eh).mono ?_
  rintro r w' ⟨x, cap, rfl, ho, hE, hM⟩
  have hr := Em.frame_deaf (may := Em.may f) f hd
  rw [hr] at hE ⊢
  have hre : Em.rest { e with out := [] } = e := h.eh.rest
  rw [hre] at hE
  refine ⟨x, cap, rfl, hE.weak (fun k hk => Or.inl hk), h.x.kept hM (fun hx => hx.2 (Or.inl rfl)), h.v.kept hM (fun hx => hx.2 (Or.inr rfl)), h.bx, h.bv⟩
/-- its frame turned -/
theorem dh_set {sapi tei : Int} {c : Bool} {k : Int} {pf : Bool} {ns nr : Int} {info : ByteArray} {c' : Bool} (h : DH b W0 w C X V ⟨sapi, tei, c, k, pf, ns, nr, info⟩ e) (hXV : X ≠ V) : DH b W0 (w.setCell ⟨X, 2, none⟩ (.bool c')) C X V ⟨sapi, tei, c', k, pf, ns, nr, info⟩ e := by
  have hk : Kept w (w.setCell ⟨X, 2, none⟩ (.bool c')) (fun k => k = X) := Kept.setCell (p := ⟨X, 2, none⟩) (Kept.refl w (fun k => k = X)) (fun _ => rfl) _
  have h1 := h.eh.kept (F' := fun k => k = X ∨ k = V) hk (fun k _ _ hF hT => hF (Or.inl hT)) (fun k hk => Or.inl hk)
  have hs : (w.setCell ⟨X, 2, none⟩ (.bool c')).cell? ⟨X, 2, none⟩ = some (.bool c') := by
    have := h.x.2 2 _ rfl
    exact set_same ⟨_, this⟩
  have ho : ∀ k, k ≠ 2 → (w.setCell ⟨X, 2, none⟩ (.bool c')).cell? ⟨X, k, none⟩ = w.cell? ⟨X, k, none⟩ := fun k hk => set_other (fun hx => hk hx.symm)
  refine ⟨⟨h1.en, h.eh.bel.trans (hk.below h.eh.bs (fun k hx => by rw [hx]; exact h.bx)), h1.bs⟩, ⟨h1.en.elim (fun lab hl => (hl.2.2 X (Or.inl rfl)).1), fun j u hu => ?_⟩, h.v.kept hk (fun hx => hXV hx.symm), h.bx, h.bv⟩
  by_cases h2 : j = 2
  · subst h2
    rw [hs]
    exact hu
  · rw [ho j h2]
    refine h.x.2 j u ?_
    rw [← hu]
    match j, h2 with
    | 0, _ => rfl
    | 1, _ => rfl
    | 3, _ => rfl
    | 4, _ => rfl
    | 5, _ => rfl
    | 6, _ => rfl
    | 7, _ => rfl
    | n + 8, _ => rfl
end
set_option maxHeartbeats 8000000 in
theorem walk_EntityDeaf (k : Int) (a : Option Addr) (len cap : Nat) (ps : List ActE) (f : Em.Fr) (w : World) (hk : -9223372036854775808 ≤ k ∧ k ≤ 9223372036854775807) (hr : RowE w a len cap ps) (ok : FrOk f) (hWy : Ways w) :
    Calls Tryz.prog 8 #[.int .i64 k, .slice a len cap, frmV f] w fun r w' => r = .returned (.bool true) ∧ Below w.heap.size w w' := by
  obtain ⟨sapi, ftei, c, fk, pf, ns, nr, info⟩ := f
  have HOK : Hid (∀ c, FrOk ⟨sapi, ftei, c, fk, pf, ns, nr, info⟩) := fun _ => ⟨ok.sapi, ok.tei, ok.k, ok.ns, ok.nr, ok.info⟩
  clear ok
  unfold frmV
  simp only []
  obtain ⟨wa, hwa⟩ : ∃ wa, wa = w.alloc (.cells #[.int .i64 sapi, .int .i64 ftei, .bool c, .int .i64 fk, .bool pf, .int .i64 ns, .int .i64 nr, .string info] 32) := ⟨_, rfl⟩
  have hb0 : Below w.heap.size w wa := by rw [hwa]; exact (Below.refl _ _).alloc (Nat.le_refl _) _
  have HB0 : Hid (Below w.heap.size w wa) := hb0
  have hf0 : Blk wa w.heap.size [.int .i64 sapi, .int .i64 ftei, .bool c, .int .i64 fk, .bool pf, .int .i64 ns, .int .i64 nr, .string info] := by rw [hwa]; exact blk_new _ _ _
  have HF0 := (show Hid _ from hf0)
  have HWy : Hid (Ways wa) := hWy.later hb0
  have HAF := after_any k 3 a len cap ps wa hk (hr.later hb0) (hWy.later hb0)
  generalize Em.run (Em.new k 3) (ps.take (capN len 60)) = e at HAF
  clear hr hWy hk hb0 hf0
  go_enter Tryz.func8, Tryz.ntmps8
  go_wp2_with fail
  rw [← hwa]
  clear hwa
  refine HAF.mono ?_
  rintro r w1 ⟨C, R, o, rfl, hP⟩
  have HE1 : Hid (EH wa.heap.size wa w1 (fun _ => False) C e) := eh_pr hP
  clear hP HAF
  obtain ⟨b, hb⟩ : ∃ b, b = wa.heap.size := ⟨_, rfl⟩
  rw [← hb] at HE1
  have HC : Hid (b = wa.heap.size) := hb
  have hw0 : w.heap.size < b := by rw [hb]; exact HF0.out.1
  clear hb
  have HF1 : Hid (w.heap.size < w1.heap.size ∧ ∀ k u, [Value.int .i64 sapi, .int .i64 ftei, .bool c, .int .i64 fk, .bool pf, .int .i64 ns, .int .i64 nr, .string info][k]? = some u → w1.cell? ⟨w.heap.size, k, none⟩ = some u) :=
    ⟨by have := HE1.out.bs; omega, fun k u hu => (HE1.out.bel.cell (p := ⟨w.heap.size, k, none⟩) hw0).trans (HF0.out.2 k u hu)⟩
  have l0 := HF1.out.1
  have y0 := HF1.out.2 0 _ rfl
  have y1 := HF1.out.2 1 _ rfl
  have y2 := HF1.out.2 2 _ rfl
  have y3 := HF1.out.2 3 _ rfl
  have y4 := HF1.out.2 4 _ rfl
  have y5 := HF1.out.2 5 _ rfl
  have y6 := HF1.out.2 6 _ rfl
  have y7 := HF1.out.2 7 _ rfl
  clear HF0
  have HF := frames7_any sapi ftei c fk pf ns nr info w1
  go_wp2_with fail
  refine HF.mono ?_
  rintro r w2 ⟨rfl, hb2⟩
  have HE2 : Hid (EH b wa w2 (fun _ => False) C e) := HE1.out.same hb2
  clear HF hb2 HE1 l0 y0 y1 y2 y3 y4 y5 y6 y7 HF1
  unfold frA
  go_wp2_with fail
  obtain ⟨w3, hw3⟩ : ∃ w3, w3 = (w2.alloc (.cells #[.int .i64 sapi, .int .i64 ftei, .bool c, .int .i64 fk, .bool pf, .int .i64 ns, .int .i64 nr, .string info] 49)).alloc (.cells #[.int .i64 sapi, .int .i64 ftei, .bool c, .int .i64 fk, .bool pf, .int .i64 ns, .int .i64 nr, .string info] 50) := ⟨_, rfl⟩
  rw [← hw3]
  have hb3 : Below w2.heap.size w2 w3 := by rw [hw3]; exact ((Below.refl _ _).alloc (Nat.le_refl _) _).alloc (by simp) _
  have hs3 : w2.heap.size < w3.heap.size := by rw [hw3]; simp; omega
  have HZ3 : Hid (w3.frozen? ⟨w2.heap.size, 2, none⟩ = false) := by
    show _ = _
    rw [hw3]
    first | (simp; done) | rfl
  have HX3 : Hid (Blk w3 w2.heap.size (frL ⟨sapi, ftei, c, fk, pf, ns, nr, info⟩)) := by
    rw [hw3]
    exact (blk_new w2 (frL ⟨sapi, ftei, c, fk, pf, ns, nr, info⟩) 49).below ((Below.refl _ _).alloc (Nat.le_refl _) _)
  have hbx := HE2.out.bs
  have HE3 : Hid (EH b wa w3 (fun k => k = w2.heap.size) C e) := HE2.out.below hb3 (fun k hk => Or.inr ⟨by omega, by omega⟩)
  have HXl : Hid (w2.heap.size < w3.heap.size) := hs3
  generalize w2.heap.size = X at HX3 HE3 hbx HZ3 HXl ⊢
  clear hw3 hb3 hs3 HE2
  have HV := eh_view HE3.out
  unfold evV at HV
  refine HV.mono ?_
  rintro r w4 ⟨rfl, hb4⟩
  have HE4 : Hid (EH b wa w4 (fun k => k = X) C e) := HE3.out.same hb4
  have HX4 : Hid (Blk w4 X (frL ⟨sapi, ftei, c, fk, pf, ns, nr, info⟩)) := Blk.below HX3.out hb4
  have HZ4 : Hid (w4.frozen? ⟨X, 2, none⟩ = false) := (hb4.frozen (p := ⟨X, 2, none⟩) HXl.out).trans HZ3.out
  clear HV hb4 HE3 HX3 HZ3 HXl
  go_upto_region 4 with fail
  obtain ⟨w5, hw5⟩ : ∃ w5, w5 = w4.alloc (.cells #[.int .i64 e.state, .int .i64 e.tei, .int .i64 e.tries, .bool e.asked, .bool e.t200, .bool e.t203, .int .i64 e.units.length, .int .i64 e.fl.vs, .int .i64 e.fl.va, .int .i64 e.fl.vr, .bool e.fl.pe, .bool e.fl.ow, .bool e.fl.re, .int .i64 e.fl.sn, .int .i64 ((e.fl.L.length - e.fl.sn : Nat) : Int)] 64) := ⟨_, rfl⟩
  rw [← hw5]
  have hb5 : Below w4.heap.size w4 w5 := by rw [hw5]; exact (Below.refl _ _).alloc (Nat.le_refl _) _
  have hs5 : w4.heap.size < w5.heap.size := by rw [hw5]; simp
  have hV5 : Blk w5 w4.heap.size (evL e) := by rw [hw5]; exact blk_new w4 (evL e) 64
  have HD : Hid (DH b wa w5 C X w4.heap.size ⟨sapi, ftei, c, fk, pf, ns, nr, info⟩ e) :=
    ⟨HE4.out.below hb5 (fun k hk => hk.elim Or.inl (fun h => Or.inr ⟨by omega, by omega⟩)), Blk.below HX4.out hb5, hV5, hbx, HE4.out.bs⟩
  have HZ5 : Hid (w5.frozen? ⟨X, 2, none⟩ = false) := (hb5.frozen (p := ⟨X, 2, none⟩) HX4.out.1).trans HZ4.out
  have HXV : Hid (X < w4.heap.size) := HX4.out.1
  generalize w4.heap.size = V at HD HXV ⊢
  clear hw5 hb5 hs5 hV5 HE4 HX4 HZ4 hbx hw0
  have HW5 : Hid (Ways w5) := HWy.out.later (by have := HD.out.eh.bel; rw [HC.out] at this; exact this)
  obtain ⟨xl, x0, x1, x2, x3, x4, x5, x6, x7⟩ := DH.xs HD.out
  simp only [] at x2 x3 x7
  obtain ⟨vl, -, v1, -⟩ := DH.vs HD.out
  clear x0 x1 x4 x5 x6
  go_cut [42] from 25 to 41 (fun s wx => ∃ g : Bool, s = .bool g ∧ Hid (g = false → e.tei < 0 ∨ Em.may ⟨sapi, ftei, c, fk, pf, ns, nr, info⟩ = false) ∧ wx = w5)
  case first =>
    by_cases htei : 0 ≤ e.tei
    · go_wp2_with fail
      refine (may_any fk c w5 HW5.out).mono ?_
      rintro r w' ⟨rfl, rfl⟩
      cases hm : Xm.mayB fk c with
      | false =>
        have hd : Hid (e.tei < 0 ∨ Em.may ⟨sapi, ftei, c, fk, pf, ns, nr, info⟩ = false) := Or.inr (by show (Xm.mayB fk c && _) = false; rw [hm]; rfl)
        go_wp2
        go_meet
        case rel => exact ⟨false, rfl, fun _ => hd.out, rfl⟩
      | true =>
        go_wp2_with fail
        refine (carries_any fk info.size w5).mono ?_
        rintro r w' ⟨rfl, rfl⟩
        cases hc : Xm.carB fk info.size with
        | false =>
          have hd : Hid (e.tei < 0 ∨ Em.may ⟨sapi, ftei, c, fk, pf, ns, nr, info⟩ = false) := Or.inr (by show (_ && Xm.carB fk info.size) = false; rw [hc, Bool.and_false])
          go_wp2
          go_meet
          case rel => exact ⟨false, rfl, fun _ => hd.out, rfl⟩
        | true =>
          go_wp2
          go_meet
          case rel =>
            have ht : true = false → e.tei < 0 ∨ Em.may ⟨sapi, ftei, c, fk, pf, ns, nr, info⟩ = false := fun h => by cases h
            exact ⟨true, rfl, ht, rfl⟩
    · have hd : Hid (e.tei < 0 ∨ Em.may ⟨sapi, ftei, c, fk, pf, ns, nr, info⟩ = false) := Or.inl (by omega)
      go_wp2
      go_meet
      case rel => exact ⟨false, rfl, fun _ => hd.out, rfl⟩
  obtain ⟨g, rfl, HG, hwc⟩ := hcut
  rw [hwc]
  clear hwc wc vl v1
  go_upto_if 42 with fail
  go_cut [] from 43 to 52 (fun wx => ∃ c2, Hid (DH b wa wx C X V ⟨sapi, ftei, c2, fk, pf, ns, nr, info⟩ e) ∧ Hid (e.tei < 0 ∨ Em.may ⟨sapi, ftei, c2, fk, pf, ns, nr, info⟩ = false))
  case first =>
    cases g with
    | false =>
      go_wp2
      go_meet
      case rel => first | exact ⟨c, HD, HG.out rfl⟩ | exact ⟨c, HD, HG.out trivial⟩
    | true =>
      have hz2 := HZ5.out
      go_wp2_with fail
      obtain ⟨w6, hw6⟩ : ∃ w6, w6 = w5.setCell ⟨X, 2, none⟩ (.bool (!c)) := ⟨_, rfl⟩
      rw [← hw6]
      have HD6 : Hid (DH b wa w6 C X V ⟨sapi, ftei, !c, fk, pf, ns, nr, info⟩ e) := by
        rw [hw6]
        exact dh_set HD.out (by have := HXV.out; omega)
      have y3 : w6.cell? ⟨X, 3, none⟩ = some (.int .i64 fk) := HD6.out.x.2 3 _ rfl
      have y2 : w6.cell? ⟨X, 2, none⟩ = some (.bool (!c)) := HD6.out.x.2 2 _ rfl
      have yl := HD6.out.x.1
      have HW6 : Hid (Ways w6) := HWy.out.later (by have := HD6.out.eh.bel; rw [HC.out] at this; exact this)
      clear hw6 xl x2 x3 x7 HD HZ5 hz2 HW5
      go_wp2_with fail
      refine (may_any fk (!c) w6 HW6.out).mono ?_
      rintro r w' ⟨rfl, rfl⟩
      cases hm2 : Xm.mayB fk (!c) with
      | false =>
        have hd : Hid (e.tei < 0 ∨ Em.may ⟨sapi, ftei, !c, fk, pf, ns, nr, info⟩ = false) := Or.inr (by show (Xm.mayB fk (!c) && _) = false; rw [hm2]; rfl)
        go_wp2
        go_meet
        case rel => exact ⟨!c, HD6, hd⟩
      | true =>
        go_wp2_with fail
        refine (dh_wakes HWy.out HC.out HD6.out).mono ?_
        rintro r w7 ⟨rfl, hD7⟩
        have HB9 : Hid (Below w.heap.size w w7) := by
          have hq := hD7.eh.bel
          rw [HC.out] at hq
          exact HB0.out.trans (hq.mono HB0.out.size)
        clear hD7
        go_wp2
        go_ret
        exact ⟨rfl, HB9.out⟩
  obtain ⟨c2, HD9, HDF⟩ := hcut
  clear HD xl x2 x3 x7 HZ5 HW5 HG HXV
  have HD := HD9
  clear HD9
  have hd := HDF.out
  clear HDF
  go_upto_region 8 with fail
  have hD := HD.out.drew
  clear HD
  go_region_with (first
    | (go_at_call 11; refine (dh_wakes HWy.out HC.out ‹_›).mono ?_; rintro r w7 ⟨rfl, hD7⟩; obtain ⟨xl, x0, x1, x2, x3, x4, x5, x6, x7⟩ := DH.xs hD7)
    | (go_at_call 19; refine (dh_frame HWy.out HC.out (HOK.out c2) hd ‹_›).mono ?_; rintro r w8 ⟨y, cp, rfl, hD8⟩; obtain ⟨vl, v0, v1, v2, v3, v4, v5, v6, v7, v8, v9, v10, v11, v12, v13, v14⟩ := DH.vs hD8)
    | (go_at_call 21; refine (dh_view ‹_›).mono ?_; rintro r w9 ⟨rfl, hD9⟩; unfold evV; obtain ⟨ul, u0, u1, u2, u3, u4, u5, u6, u7, u8, u9, u10, u11, u12, u13, u14⟩ := DH.vs hD9))
  all_goals
    have HB9 : Hid (Below w.heap.size w w9) := by
      have hq := hD9.eh.bel
      rw [HC.out] at hq
      exact HB0.out.trans (hq.mono HB0.out.size)
    clear hD9
    go_wp2
    go_ret
    exact ⟨rfl, HB9.out⟩
end Go.Proofs.YtidemohpngkedabGreatDoor
