/-
  The law EntityTells' walk: payloads are told in the states with a link alone, and what is refused changes nothing.
-/
import Derived.Test.YtidemohpngkedabGreatDoorEntAfter
import Derived.Deep.RegionWith
import Derived.BigQuiet
import Derived.Laws.StructEq
import Derived.Laws.Bits128
namespace Go.Proofs.YtidemohpngkedabGreatDoor
open Go.RowKit
set_option linter.unusedVariables false
set_option maxRecDepth 100000
set_option linter.unusedSimpArgs false

theorem open_EntityTells0 {H : Type} {enc : TypeId × Value → H} {w : World} {a : Option Addr} {len cap : Nat} {d : DataW H} {p : List MemPlace}
    (h : DataW.Trod enc Tryz.prog w 0 (fun _ => true) true 22 (.slice a len cap) d p) : ∃ ps, RowE w a len cap ps := open_actse h
theorem kept_setN (B : Nat) : ∀ (l : List Value) (o : Nat) (w0 w : World), Kept w0 w (fun k => k = B) → Kept w0 (setN B l o w) (fun k => k = B)
  | [], _, _, _, h => h
  | v :: l, o, w0, w, h => kept_setN B l (o + 1) w0 _ (Kept.setCell (p := ⟨B, o, none⟩) h (fun _ => rfl) v)
theorem May.kept {w w' : World} {B n : Nat} {T : Nat → Prop} (h : May w B n) (hk : Kept w w' T) (hT : ¬ T B) : May w' B n :=
  ⟨Nat.lt_of_lt_of_le h.lt hk.size, fun j hj => by rw [hk.cell (p := ⟨B, j, none⟩) h.lt hT]; exact h.c j hj, fun j hj => by rw [hk.frozen (p := ⟨B, j, none⟩) h.lt hT]; exact h.f j hj⟩
theorem drewN_tells {B : Nat} {a b : World} (h : Below B a b) : ∀ n, Below B a (b.drewN n)
  | 0 => h
  | n + 1 => (drewN_tells h n).drew
/-- an entity, a view in block V -/
structure TH (b : Nat) (W0 w : World) (C V : Nat) (v e : Em.St) : Prop where
  eh : EH b W0 w (fun k => k = V) C e
  v : Blk w V (evL v)
  may : May w V 15
  bv : b ≤ V
section
variable {b : Nat} {W0 w w' : World} {C V : Nat} {v e : Em.St}
theorem TH.below (h : TH b W0 w C V v e) (hb : Below w.heap.size w w') : TH b W0 w' C V v e := ⟨h.eh.same hb, h.v.below hb, h.may.later hb, h.bv⟩
theorem TH.drew (h : TH b W0 w C V v e) : TH b W0 w.drew C V v e := h.below (Below.refl _ _).drew
theorem TH.vs (h : TH b W0 w C V v e) : V < w.heap.size ∧ w.cell? ⟨V, 0, none⟩ = some (.int .i64 v.state) ∧ w.cell? ⟨V, 1, none⟩ = some (.int .i64 v.tei) ∧ w.cell? ⟨V, 2, none⟩ = some (.int .i64 v.tries) ∧ w.cell? ⟨V, 3, none⟩ = some (.bool v.asked) ∧ w.cell? ⟨V, 4, none⟩ = some (.bool v.t200) ∧ w.cell? ⟨V, 5, none⟩ = some (.bool v.t203) ∧ w.cell? ⟨V, 6, none⟩ = some (.int .i64 v.units.length) ∧ w.cell? ⟨V, 7, none⟩ = some (.int .i64 v.fl.vs) ∧ w.cell? ⟨V, 8, none⟩ = some (.int .i64 v.fl.va) ∧ w.cell? ⟨V, 9, none⟩ = some (.int .i64 v.fl.vr) ∧ w.cell? ⟨V, 10, none⟩ = some (.bool v.fl.pe) ∧ w.cell? ⟨V, 11, none⟩ = some (.bool v.fl.ow) ∧ w.cell? ⟨V, 12, none⟩ = some (.bool v.fl.re) ∧ w.cell? ⟨V, 13, none⟩ = some (.int .i64 v.fl.sn) ∧ w.cell? ⟨V, 14, none⟩ = some (.int .i64 ((v.fl.L.length - v.fl.sn : Nat) : Int)) :=
  ⟨h.v.1, h.v.2 0 _ rfl, h.v.2 1 _ rfl, h.v.2 2 _ rfl, h.v.2 3 _ rfl, h.v.2 4 _ rfl, h.v.2 5 _ rfl, h.v.2 6 _ rfl, h.v.2 7 _ rfl, h.v.2 8 _ rfl, h.v.2 9 _ rfl, h.v.2 10 _ rfl, h.v.2 11 _ rfl, h.v.2 12 _ rfl, h.v.2 13 _ rfl, h.v.2 14 _ rfl⟩
theorem th_view (h : TH b W0 w C V v e) :
    Calls Tryz.prog 21 #[.pointer (some ⟨C, 0, none⟩)] w fun r w' => r = .returned (evV e) ∧ TH b W0 w' C V v e := by
  refine (eh_view h.eh).mono ?_
  rintro r w' ⟨rfl, hb⟩
  exact ⟨rfl, h.below hb⟩
theorem th_ask (a : Int) (s : ByteArray) (hz : s.size ≤ 9223372036854775807) (h : TH b W0 w C V v e) :
    Calls Tryz.prog 15 #[.pointer (some ⟨C, 0, none⟩), .int .i64 a, .string s] w fun r w' => ∃ x cap, r = .returned (.tuple #[.slice x (Em.ask e a s).1.out.length cap, .int .i64 (Em.ask e a s).2]) ∧ TH b W0 w' C V v (Em.rest (Em.ask e a s).1) := by
  refine (eh_ask a s hz h.eh).mono ?_
  rintro r w' ⟨x, cap, rfl, ho, hE, hM⟩
  exact ⟨x, cap, rfl, hE.weak (fun k hk => Or.inl hk), h.v.kept hM (fun hx => hx.2 rfl), h.may.kept hM (fun hx => hx.2 rfl), h.bv⟩
theorem th_frame (hW : Ways W0) (hb0 : b = W0.heap.size) (f : Em.Fr) (ok : FrOk f) (h : TH b W0 w C V v e) :
    Calls Tryz.prog 19 #[.pointer (some ⟨C, 0, none⟩), frmV f] w fun r w' => ∃ x cap, r = .returned (.slice x (Em.frame e (Em.may f) f).out.length cap) ∧ w'.ownsRow b 57 11 (.slice x (Em.frame e (Em.may f) f).out.length cap) (Em.frame e (Em.may f) f).out.length (effsL (Em.frame e (Em.may f) f).out) ∧ TH b W0 w' C V v (Em.rest (Em.frame e (Em.may f) f)) := by
  refine (eh_frame f (hW.later (by have := h.eh.bel; rw [hb0] at this; exact this)) ok.ns.1 ok.ns.2 ok.nr.1 ok.nr.2 ok.info h.eh).mono ?_
  rintro r w' ⟨x, cap, rfl, ho, hE, hM⟩
  exact ⟨x, cap, rfl, owns_low ho h.eh.bs, hE.weak (fun k hk => Or.inl hk), h.v.kept hM (fun hx => hx.2 rfl), h.may.kept hM (fun hx => hx.2 rfl), h.bv⟩
/-- the view is stored anew -/
theorem th_set (h : TH b W0 w C V v e) : TH b W0 (setN V (evL e) 0 w) C V e e := by
  have hk := kept_setN V (evL e) 0 w w (Kept.refl w _)
  have h1 := h.eh.kept (F' := fun k => k = V) hk (fun k _ _ hF hT => hF hT) (fun k hk => Or.inl hk)
  refine ⟨⟨h1.en, h.eh.bel.trans (hk.below h.eh.bs (fun k hx => by rw [hx]; exact h.bv)), h1.bs⟩, ⟨by rw [setN_size]; exact h.v.1, fun j u hu => ?_⟩, ⟨by rw [setN_size]; exact h.may.lt, fun j hj => ?_, fun j hj => ?_⟩, h.bv⟩
  · have := setN_at V (evL e) 0 w (fun j hj => by rw [Nat.zero_add]; exact h.may.c j (by simpa [evL] using hj)) j u hu
    rwa [Nat.zero_add] at this
  · have hlen : (evL e).length = 15 := rfl
    have hu : (evL e)[j]? = some (evL e)[j] := List.getElem?_eq_getElem (by omega)
    have := setN_at V (evL e) 0 w (fun j hj => by rw [Nat.zero_add]; exact h.may.c j (by simpa [evL] using hj)) j _ hu
    rw [Nat.zero_add] at this
    rw [this]; rfl
  · rw [setN_frozen]
    exact h.may.f j hj
end
set_option maxHeartbeats 8000000 in
theorem walk_EntityTells (a : Option Addr) (len cap : Nat) (ps : List ActE) (f : Em.Fr) (q : ActE) (w : World) (hr : RowE w a len cap ps) (ok : FrOk f) (okq : q.Ok) (hWy : Ways w) :
    Calls Tryz.prog 5 #[.slice a len cap, frmV f, q.v] w fun r w' => r = .returned (.bool true) ∧ Below w.heap.size w w' := by
  obtain ⟨sapi, ftei, c, fk, pf, ns, nr, info⟩ := f
  have HOK : Hid (FrOk ⟨sapi, ftei, c, fk, pf, ns, nr, info⟩) := ok
  have hqz := okq.data
  clear ok okq
  obtain ⟨qd, qask, qtimer, qtei, qdata, ⟨qsapi, qftei, qc, qk, qpf, qns, qnr, qinfo⟩, qnear, qn, qm⟩ := q
  unfold frmV ActE.v
  simp only [] at hqz ⊢
  obtain ⟨w0, hw0⟩ : ∃ w0, w0 = w.alloc (.cells #[.int .i64 sapi, .int .i64 ftei, .bool c, .int .i64 fk, .bool pf, .int .i64 ns, .int .i64 nr, .string info] 32) := ⟨_, rfl⟩
  obtain ⟨wa, hwa⟩ : ∃ wa, wa = w0.alloc (.cells #[.int .i64 qd, .int .i64 qask, .int .i64 qtimer, .int .i64 qtei, .string qdata, .int .i64 qsapi, .int .i64 qftei, .bool qc, .int .i64 qk, .bool qpf, .int .i64 qns, .int .i64 qnr, .string qinfo, .bool qnear, .int .i64 qn, .int .i64 qm] 34) := ⟨_, rfl⟩
  have hba : Below w.heap.size w wa := by rw [hwa, hw0]; exact ((Below.refl _ _).alloc (Nat.le_refl _) _).alloc (by simp) _
  have HB0 : Hid (Below w.heap.size w wa) := hba
  have hf0 : Blk wa w.heap.size [.int .i64 sapi, .int .i64 ftei, .bool c, .int .i64 fk, .bool pf, .int .i64 ns, .int .i64 nr, .string info] := by
    rw [hwa]
    refine Blk.below (w := w0) ?_ ((Below.refl _ _).alloc (Nat.le_refl _) _)
    rw [hw0]
    exact blk_new _ _ _
  have HF0 : Hid (Blk wa w.heap.size [.int .i64 sapi, .int .i64 ftei, .bool c, .int .i64 fk, .bool pf, .int .i64 ns, .int .i64 nr, .string info]) := hf0
  have hs0 : w0.heap.size = w.heap.size + 1 := by rw [hw0]; simp
  have HQ0 : Hid (w.heap.size + 1 < wa.heap.size ∧ wa.cell? ⟨w.heap.size + 1, 1, none⟩ = some (.int .i64 qask) ∧ wa.cell? ⟨w.heap.size + 1, 4, none⟩ = some (.string qdata)) := by
    rw [← hs0, hwa]
    exact ⟨by simp, by simp, by simp⟩
  have HWy : Hid (Ways wa) := hWy.later hba
  have HAF := after_any 7 3 a len cap ps wa (by omega) (hr.later hba) (hWy.later hba)
  generalize Em.run (Em.new 7 3) (ps.take (capN len 60)) = e at HAF
  clear hr hWy hba hf0 hs0
  go_enter Tryz.func5, Tryz.ntmps5
  go_wp2_with fail
  rw [← hw0, ← hwa]
  clear hwa hw0 w0
  refine HAF.mono ?_
  rintro r w1 ⟨C, R, o, rfl, hP⟩
  have HE1 : Hid (EH wa.heap.size wa w1 (fun _ => False) C e) := eh_pr hP
  clear hP HAF
  obtain ⟨b, hb⟩ : ∃ b, b = wa.heap.size := ⟨_, rfl⟩
  rw [← hb] at HE1
  have HC : Hid (b = wa.heap.size) := hb
  have hw1 : w.heap.size + 1 < b := by rw [hb]; exact HQ0.out.1
  clear hb
  have HIN : Hid (∀ W, Below b wa W → b ≤ W.heap.size → Blk W w.heap.size [.int .i64 sapi, .int .i64 ftei, .bool c, .int .i64 fk, .bool pf, .int .i64 ns, .int .i64 nr, .string info] ∧ W.cell? ⟨w.heap.size + 1, 1, none⟩ = some (.int .i64 qask) ∧ W.cell? ⟨w.heap.size + 1, 4, none⟩ = some (.string qdata)) :=
    fun W hW hbW => ⟨⟨by omega, fun k u hu => (hW.cell (p := ⟨w.heap.size, k, none⟩) (show w.heap.size < b by omega)).trans (HF0.out.2 k u hu)⟩, (hW.cell (p := ⟨w.heap.size + 1, 1, none⟩) hw1).trans HQ0.out.2.1, (hW.cell (p := ⟨w.heap.size + 1, 4, none⟩) hw1).trans HQ0.out.2.2⟩
  clear HF0 HQ0
  have HV := eh_view HE1.out
  unfold evV at HV
  go_wp2_with fail
  refine HV.mono ?_
  rintro r w2 ⟨rfl, hb2⟩
  have HE2 : Hid (EH b wa w2 (fun _ => False) C e) := HE1.out.same hb2
  clear HV hb2 HE1
  go_upto_region 3 with fail
  obtain ⟨w3, hw3⟩ : ∃ w3, w3 = w2.alloc (.cells #[.int .i64 e.state, .int .i64 e.tei, .int .i64 e.tries, .bool e.asked, .bool e.t200, .bool e.t203, .int .i64 e.units.length, .int .i64 e.fl.vs, .int .i64 e.fl.va, .int .i64 e.fl.vr, .bool e.fl.pe, .bool e.fl.ow, .bool e.fl.re, .int .i64 e.fl.sn, .int .i64 ((e.fl.L.length - e.fl.sn : Nat) : Int)] 64) := ⟨_, rfl⟩
  rw [← hw3]
  have hb3 : Below w2.heap.size w2 w3 := by rw [hw3]; exact (Below.refl _ _).alloc (Nat.le_refl _) _
  have hs3 : w2.heap.size < w3.heap.size := by rw [hw3]; simp
  have hV3 : Blk w3 w2.heap.size (evL e) := by rw [hw3]; exact blk_new w2 (evL e) 64
  have hM3 : May w3 w2.heap.size 15 := ⟨hs3, fun j hj => by
    have hu : (evL e)[j]? = some (evL e)[j] := List.getElem?_eq_getElem (by have : (evL e).length = 15 := rfl; omega)
    rw [hV3.2 j _ hu]; rfl, fun j hj => by rw [hw3]; first | (simp; done) | rfl⟩
  have HT3 : Hid (TH b wa w3 C w2.heap.size e e) := ⟨HE2.out.below hb3 (fun k hk => Or.inr ⟨by omega, by omega⟩), hV3, hM3, HE2.out.bs⟩
  have HRE : Hid (Em.rest { e with out := [] } = e) := HE2.out.rest
  generalize w2.heap.size = V at HT3 ⊢
  clear hw3 hb3 hs3 hV3 hM3 HE2
  obtain ⟨⟨yl, -⟩, y1, y4⟩ := HIN.out w3 HT3.out.eh.bel HT3.out.eh.bs
  have yl2 : w.heap.size + 1 < w3.heap.size := by have := HT3.out.eh.bs; omega
  have HA := th_ask qask qdata hqz HT3.out
  go_wp2_with fail
  refine HA.mono ?_
  rintro r w4 ⟨x, cx, rfl, hT⟩
  have HT4 := (show Hid _ from hT)
  clear HA HT3 yl y1 y4 yl2 hT
  go_upto_region 4 with fail
  have HCS : Hid ((Em.ask e qask qdata).2 = 0 ∨ ((Em.ask e qask qdata).2 ≠ 0 ∧ (Em.ask e qask qdata).1.out.length = 0 ∧ Em.rest (Em.ask e qask qdata).1 = e)) := by
    by_cases h0 : (Em.ask e qask qdata).2 = 0
    · exact Or.inl h0
    · have hr := Em.ask_refused qask qdata h0
      exact Or.inr ⟨h0, by rw [hr]; rfl, by rw [hr]; exact HRE.out⟩
  clear HRE
  generalize Em.rest (Em.ask e qask qdata).1 = e1 at HT4 HCS
  generalize (Em.ask e qask qdata).2 = cd at HCS ⊢
  generalize (Em.ask e qask qdata).1.out.length = nl at HCS ⊢
  go_cut [44] from 32 to 43 (fun s wx => s = .bool false ∧ Hid (TH b wa wx C V e e1))
  case first =>
    rcases HCS.out with h0 | ⟨h0, h1, h2⟩
    · have HTn : Hid (∀ n, TH b wa (w4.drewN n) C V e e1) := fun n => HT4.out.below (drewN_tells (Below.refl _ _) n)
      have n0 : (cd != 0) = false := by rw [h0]; rfl
      clear h0 HT4 HCS
      go_quiet (fail)
      go_wp2
      go_meet
      case rel => exact ⟨rfl, HTn.out _⟩
    · have n0 : (cd != 0) = true := by simpa using h0
      have n1 : ((nl : Int) != 0) = false := by rw [h1]; rfl
      have HRS : Hid (e1 = e) := h2
      have hT4 : TH b wa w4.drew C V e e := by
        have := HT4.out.drew
        rw [HRS.out] at this
        exact this
      clear h0 h1 h2 HT4 HCS
      obtain ⟨vl, v0, v1, v2, v3, v4, v5, v6, v7, v8, v9, v10, v11, v12, v13, v14⟩ := TH.vs hT4
      go_region_with (go_at_call 21; refine (th_view ‹_›).mono ?_; rintro r w5 ⟨rfl, hT5⟩; unfold evV; obtain ⟨ul, u0, u1, u2, u3, u4, u5, u6, u7, u8, u9, u10, u11, u12, u13, u14⟩ := TH.vs hT5)
      all_goals
        have HT5 := (show Hid _ from hT5)
        clear hT5
        go_wp2
        go_meet
        case rel => exact ⟨rfl, by rw [HRS.out]; exact HT5.out⟩
  obtain ⟨rfl, HT5⟩ := hcut
  obtain ⟨w5, hw5⟩ : ∃ w5, w5 = wc := ⟨_, rfl⟩
  rw [← hw5] at HT5 ⊢
  clear hw5 wc HT4 HCS
  obtain ⟨yl, hy⟩ := (HIN.out w5 HT5.out.eh.bel HT5.out.eh.bs).1
  have y0 := hy 0 _ rfl
  have y1 := hy 1 _ rfl
  have y2 := hy 2 _ rfl
  have y3 := hy 3 _ rfl
  have y4 := hy 4 _ rfl
  have y5 := hy 5 _ rfl
  have y6 := hy 6 _ rfl
  have y7 := hy 7 _ rfl
  clear hy
  have HF := frames7_any sapi ftei c fk pf ns nr info w5
  go_wp2_with fail
  refine HF.mono ?_
  rintro r w6 ⟨rfl, hb6⟩
  have HT6 := (show Hid _ from HT5.out.below hb6)
  clear HF hb6 HT5 yl y0 y1 y2 y3 y4 y5 y6 y7
  unfold frA
  go_wp2_with fail
  obtain ⟨w7, hw7⟩ : ∃ w7, w7 = (w6.alloc (.cells #[.int .i64 sapi, .int .i64 ftei, .bool c, .int .i64 fk, .bool pf, .int .i64 ns, .int .i64 nr, .string info] 49)).alloc (.cells #[.int .i64 sapi, .int .i64 ftei, .bool c, .int .i64 fk, .bool pf, .int .i64 ns, .int .i64 nr, .string info] 50) := ⟨_, rfl⟩
  rw [← hw7]
  have hb7 : Below w6.heap.size w6 w7 := by rw [hw7]; exact ((Below.refl _ _).alloc (Nat.le_refl _) _).alloc (by simp) _
  have HX7 : Hid (Blk w7 w6.heap.size (frL ⟨sapi, ftei, c, fk, pf, ns, nr, info⟩)) := by
    rw [hw7]
    exact (blk_new w6 (frL ⟨sapi, ftei, c, fk, pf, ns, nr, info⟩) 49).below ((Below.refl _ _).alloc (Nat.le_refl _) _)
  have HT7 : Hid (TH b wa w7 C V e e1) := HT6.out.below hb7
  have HXV : Hid (V < w6.heap.size) := HT6.out.may.lt
  generalize w6.heap.size = X at HX7 HXV ⊢
  clear hw7 hb7 HT6
  refine (eh_view HT7.out.eh).mono ?_
  rintro r w8 ⟨rfl, hb8⟩
  have HT8 : Hid (TH b wa w8 C V e e1) := HT7.out.below hb8
  have HX8 : Hid (Blk w8 X (frL ⟨sapi, ftei, c, fk, pf, ns, nr, info⟩)) := Blk.below HX7.out hb8
  clear hb8 HT7 HX7
  unfold evV
  obtain ⟨vl, v0, v1, v2, v3, v4, v5, v6, v7, v8, v9, v10, v11, v12, v13, v14⟩ := TH.vs HT8.out
  have m0 := HT8.out.may.f 0 (by omega)
  have m1 := HT8.out.may.f 1 (by omega)
  have m2 := HT8.out.may.f 2 (by omega)
  have m3 := HT8.out.may.f 3 (by omega)
  have m4 := HT8.out.may.f 4 (by omega)
  have m5 := HT8.out.may.f 5 (by omega)
  have m6 := HT8.out.may.f 6 (by omega)
  have m7 := HT8.out.may.f 7 (by omega)
  have m8 := HT8.out.may.f 8 (by omega)
  have m9 := HT8.out.may.f 9 (by omega)
  have m10 := HT8.out.may.f 10 (by omega)
  have m11 := HT8.out.may.f 11 (by omega)
  have m12 := HT8.out.may.f 12 (by omega)
  have m13 := HT8.out.may.f 13 (by omega)
  have m14 := HT8.out.may.f 14 (by omega)
  go_upto_region 8 with fail
  obtain ⟨w9, hw9⟩ : ∃ w9, w9 = (((((((((((((((w8.setCell ⟨V, 0, none⟩ (.int .i64 e1.state)).setCell ⟨V, 1, none⟩ (.int .i64 e1.tei)).setCell ⟨V, 2, none⟩ (.int .i64 e1.tries)).setCell ⟨V, 3, none⟩ (.bool e1.asked)).setCell ⟨V, 4, none⟩ (.bool e1.t200)).setCell ⟨V, 5, none⟩ (.bool e1.t203)).setCell ⟨V, 6, none⟩ (.int .i64 e1.units.length)).setCell ⟨V, 7, none⟩ (.int .i64 e1.fl.vs)).setCell ⟨V, 8, none⟩ (.int .i64 e1.fl.va)).setCell ⟨V, 9, none⟩ (.int .i64 e1.fl.vr)).setCell ⟨V, 10, none⟩ (.bool e1.fl.pe)).setCell ⟨V, 11, none⟩ (.bool e1.fl.ow)).setCell ⟨V, 12, none⟩ (.bool e1.fl.re)).setCell ⟨V, 13, none⟩ (.int .i64 e1.fl.sn)).setCell ⟨V, 14, none⟩ (.int .i64 ((e1.fl.L.length - e1.fl.sn : Nat) : Int))) := ⟨_, rfl⟩
  rw [← hw9]
  have he9 : w9 = setN V (evL e1) 0 w8 := hw9
  have HT9 : Hid (TH b wa w9 C V e1 e1) := by rw [he9]; exact th_set HT8.out
  have HX9 : Hid (Blk w9 X (frL ⟨sapi, ftei, c, fk, pf, ns, nr, info⟩)) := by
    rw [he9]
    exact Blk.kept HX8.out (kept_setN V (evL e1) 0 w8 w8 (Kept.refl w8 _)) (by have := HXV.out; show ¬ X = V; omega)
  clear hw9 he9 HT8 HX8 HXV vl v0 v1 v2 v3 v4 v5 v6 v7 v8 v9 v10 v11 v12 v13 v14 m0 m1 m2 m3 m4 m5 m6 m7 m8 m9 m10 m11 m12 m13 m14
  obtain ⟨xl, hx⟩ := HX9.out
  have x0 := hx 0 _ rfl
  have x1 := hx 1 _ rfl
  have x2 := hx 2 _ rfl
  have x3 := hx 3 _ rfl
  have x4 := hx 4 _ rfl
  have x5 := hx 5 _ rfl
  have x6 := hx 6 _ rfl
  have x7 := hx 7 _ rfl
  simp only [] at x0 x1 x2 x3 x4 x5 x6 x7
  clear hx HX9
  have HFT := Em.frame_tells HT9.out.eh.ok (Em.may ⟨sapi, ftei, c, fk, pf, ns, nr, info⟩) ⟨sapi, ftei, c, fk, pf, ns, nr, info⟩
  have HFH : Hid (∀ i, i < (Em.frame e1 (Em.may ⟨sapi, ftei, c, fk, pf, ns, nr, info⟩) ⟨sapi, ftei, c, fk, pf, ns, nr, info⟩).out.length → ((((Em.frame e1 (Em.may ⟨sapi, ftei, c, fk, pf, ns, nr, info⟩) ⟨sapi, ftei, c, fk, pf, ns, nr, info⟩).out.getD i eff0).kind = 5 → 7 ≤ e1.state ∧ ((Em.frame e1 (Em.may ⟨sapi, ftei, c, fk, pf, ns, nr, info⟩) ⟨sapi, ftei, c, fk, pf, ns, nr, info⟩).out.getD i eff0).data = info ∧ fk = 0 ∧ Sm.nm ns = e1.fl.vr) ∧ (((Em.frame e1 (Em.may ⟨sapi, ftei, c, fk, pf, ns, nr, info⟩) ⟨sapi, ftei, c, fk, pf, ns, nr, info⟩).out.getD i eff0).kind = 6 → 0 ≤ e1.tei ∧ ((Em.frame e1 (Em.may ⟨sapi, ftei, c, fk, pf, ns, nr, info⟩) ⟨sapi, ftei, c, fk, pf, ns, nr, info⟩).out.getD i eff0).data = info))) :=
    fun i hi => HFT _ (by simp [List.getD, List.getElem?_eq_getElem hi])
  have HFR := th_frame HWy.out HC.out ⟨sapi, ftei, c, fk, pf, ns, nr, info⟩ HOK.out HT9.out
  clear HFT
  generalize Em.rest (Em.frame e1 (Em.may ⟨sapi, ftei, c, fk, pf, ns, nr, info⟩) ⟨sapi, ftei, c, fk, pf, ns, nr, info⟩) = e2 at HFR
  generalize (Em.frame e1 (Em.may ⟨sapi, ftei, c, fk, pf, ns, nr, info⟩) ⟨sapi, ftei, c, fk, pf, ns, nr, info⟩).out = l at HFR HFH
  unfold frmV at HFR
  simp only [] at HFR
  go_wp2_with fail
  refine HFR.mono ?_
  rintro r w10 ⟨x, cp, rfl, ho, hT⟩
  have HT10 := (show Hid _ from hT)
  have HO10 := (show Hid _ from ho)
  have hle : l.length ≤ cp := owns_le ho
  have hmx : cp ≤ 9223372036854775807 := owns_cap ho
  clear HFR HT9 ho hT xl x0 x1 x2 x3 x4 x5 x6 x7
  obtain ⟨N, hN⟩ : ∃ N, N = l.length := ⟨_, rfl⟩
  rw [← hN] at HO10 hle HFH ⊢
  have HN : Hid (N = l.length) := hN
  clear hN
  go_wp2
  go_loopw [56] (fun d wr => ∃ j : Nat, j ≤ N ∧ d = .int .i64 j ∧ Hid (TH b wa wr C V e1 e2) ∧ Hid (wr.ownsRow b 57 11 (.slice x N cp) N (effsL l))) (fun d _ => N - (intOf d).toNat)
  case atStart => exact ⟨0, Nat.zero_le _, rfl, HT10, HO10⟩
  case round =>
    obtain ⟨j, hjN, rfl, HT, HO⟩ := hrel
    clear HT10 HO10
    by_cases hin : j < N
    · obtain ⟨g, rfl, hg, hat⟩ := eff_row (w := wr) (b := b) (x := x) (cap := cp) (l := l) (by have := HO.out; rw [HN.out] at this; exact this) j (by rw [← HN.out]; exact hin)
      obtain ⟨h5, h6⟩ := HFH.out j hin
      generalize l.getD j eff0 = q at hat h5 h6
      have z0 : wr.cell? ⟨g, j * 11, none⟩ = some (.int .i64 q.kind) := hat 0 _ rfl
      have z1 : wr.cell? ⟨g, j * 11 + 1, none⟩ = some (.int .i64 q.f.sapi) := hat 1 _ rfl
      have z2 : wr.cell? ⟨g, j * 11 + 2, none⟩ = some (.int .i64 q.f.tei) := hat 2 _ rfl
      have z3 : wr.cell? ⟨g, j * 11 + 3, none⟩ = some (.bool q.f.c) := hat 3 _ rfl
      have z4 : wr.cell? ⟨g, j * 11 + 4, none⟩ = some (.int .i64 q.f.k) := hat 4 _ rfl
      have z5 : wr.cell? ⟨g, j * 11 + 5, none⟩ = some (.bool q.f.pf) := hat 5 _ rfl
      have z6 : wr.cell? ⟨g, j * 11 + 6, none⟩ = some (.int .i64 q.f.ns) := hat 6 _ rfl
      have z7 : wr.cell? ⟨g, j * 11 + 7, none⟩ = some (.int .i64 q.f.nr) := hat 7 _ rfl
      have z8 : wr.cell? ⟨g, j * 11 + 8, none⟩ = some (.string q.f.info) := hat 8 _ rfl
      have z9 : wr.cell? ⟨g, j * 11 + 9, none⟩ = some (.string q.data) := hat 9 _ rfl
      have z10 : wr.cell? ⟨g, j * 11 + 10, none⟩ = some (.int .i64 q.timer) := hat 10 _ rfl
      have HTb : Hid (∀ o, TH b wa (wr.alloc o) C V e1 e2) := fun o => HT.out.below ((Below.refl _ _).alloc (Nat.le_refl _) _)
      have HOb : Hid (∀ o, (wr.alloc o).ownsRow b 57 11 (.slice (some ⟨g, 0, none⟩) N cp) N (effsL l)) := fun o => owns_bel HO.out ((Below.refl _ _).alloc (Nat.le_refl _) _)
      obtain ⟨vl, v0, v1, -, -, -, -, -, -, -, v9, -⟩ := TH.vs HT.out
      obtain ⟨yl, hy⟩ := (HIN.out wr HT.out.eh.bel HT.out.eh.bs).1
      have y3 := hy 3 _ rfl
      have y5 := hy 5 _ rfl
      have y7 := hy 7 _ rfl
      clear hy hat HT HO
      obtain ⟨kd, ⟨f0, f1, f2, f3, f4, f5, f6, f7⟩, qd2, qt2⟩ := q
      simp only [] at z0 z1 z2 z3 z4 z5 z6 z7 z8 z9 z10 h5 h6
      by_cases k5 : kd = 5
      · obtain ⟨p1, p2, p3, p4⟩ := h5 k5
        have hand := i64_and127 ns
        have p5 : ns % 128 = e1.fl.vr := p4
        rw [← p5] at v9
        have p6 : ¬ e1.state < 7 := by omega
        subst k5 p2
        rw [p3] at y3
        clear h5 h6 p1 p4 p5 p3
        go_wp2
        go_roundw
        case rel => exact ⟨j + 1, by omega, by go_num, HTb.out _, HOb.out _⟩
        case measure => simp [intOf]; omega
      · by_cases k6 : kd = 6
        · obtain ⟨p1, p2⟩ := h6 k6
          have p6 : ¬ e1.tei < 0 := by omega
          subst k6 p2
          clear h5 h6 p1 k5
          go_wp2
          go_roundw
          case rel => exact ⟨j + 1, by omega, by go_num, HTb.out _, HOb.out _⟩
          case measure => simp [intOf]; omega
        · have n5 : (kd == 5) = false := by simpa using k5
          have n6 : (kd == 6) = false := by simpa using k6
          clear h5 h6 k5 k6
          go_wp2
          go_roundw
          case rel => exact ⟨j + 1, by omega, by go_num, HTb.out _, HOb.out _⟩
          case measure => simp [intOf]; omega
    · have hje : j = N := by omega
      subst hje
      clear HO
      have HW : Hid (Ways wr) := HWy.out.later (by have := HT.out.eh.bel; rw [HC.out] at this; exact this)
      go_wp2_with fail
      refine (ewakes_any wr HW.out).mono ?_
      rintro r w11 ⟨rfl, hb11⟩
      have HB11 : Hid (Below w.heap.size w w11) := by
        have hq := (HT.out.below hb11).eh.bel
        rw [HC.out] at hq
        exact HB0.out.trans (hq.mono HB0.out.size)
      clear hb11 HT HW
      go_wp2
      go_ret
      exact ⟨rfl, HB11.out⟩
end Go.Proofs.YtidemohpngkedabGreatDoor
