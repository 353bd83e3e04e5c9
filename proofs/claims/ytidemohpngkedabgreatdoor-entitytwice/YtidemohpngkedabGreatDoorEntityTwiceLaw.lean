/-
  The law EntityTwice's walk: two entities to which the same happens do the same.
-/
import Derived.Test.YtidemohpngkedabGreatDoorEntAfter
import Derived.BigQuiet
import Derived.Laws.StructEq
namespace Go.Proofs.YtidemohpngkedabGreatDoor
open Go.RowKit
set_option linter.unusedVariables false
set_option maxRecDepth 100000
set_option linter.unusedSimpArgs false

theorem open_EntityTwice2 {H : Type} {enc : TypeId × Value → H} {w : World} {a : Option Addr} {len cap : Nat} {d : DataW H} {p : List MemPlace}
    (h : DataW.Trod enc Tryz.prog w 0 (fun _ => true) true 22 (.slice a len cap) d p) : ∃ ps, RowE w a len cap ps := open_actse h
/-- two entities side by side; the blocks H aren't the second one's -/
structure Two14 (b : Nat) (W0 w : World) (C D : Nat) (H : Nat → Prop) (e d : Em.St) : Prop where
  one : ∃ c F G, EH b w w F C e ∧ b ≤ c ∧ (∀ k, c ≤ k → k < w.heap.size → F k ∨ G k) ∧ EH c w w G D d ∧ ∀ k, H k → G k
  bel : Below b W0 w
section
variable {b : Nat} {W0 w w' w1 w2 : World} {C D : Nat} {H : Nat → Prop} {e d : Em.St}
theorem Two14.below (h : Two14 b W0 w C D H e d) (hb : Below w.heap.size w w') : Two14 b W0 w' C D H e d := by
  obtain ⟨c, F, G, h1, h2, h3, h4, h5⟩ := h.one
  have hk : Kept w w' (fun _ => False) := Kept.of_below hb (fun k hk h' => by omega)
  refine ⟨⟨c, fun k => F k ∨ (w.heap.size ≤ k ∧ k < w'.heap.size), G, h1.kept hk (fun _ _ _ _ x => x) (fun k hk => hk), h2, fun k hc hlt => ?_, h4.kept hk (fun _ _ _ _ x => x) (fun k hk => Or.inl hk), h5⟩, h.bel.trans (hb.mono h1.bs)⟩
  rcases Nat.lt_or_ge k w.heap.size with h' | h'
  · exact (h3 k hc h').elim (fun x => Or.inl (Or.inl x)) Or.inr
  · exact Or.inl (Or.inr ⟨h', hlt⟩)
theorem two_new (h1 : EH b W0 w1 (fun _ => False) C e) (h2 : EH w1.heap.size w1 w2 (fun _ => False) D d) : Two14 b W0 w2 C D (fun _ => False) e d := by
  have hk : Kept w1 w2 (fun _ => False) := Kept.of_below h2.bel (fun k hk h' => by omega)
  refine ⟨⟨w1.heap.size, fun k => w1.heap.size ≤ k ∧ k < w2.heap.size, fun _ => False, h1.kept hk (fun _ _ _ _ x => x) (fun k hk => Or.inr hk), h1.bs, fun k hc hlt => Or.inl ⟨hc, hlt⟩, ?_, fun k hk => hk⟩, h1.bel.trans (h2.bel.mono h1.bs)⟩
  exact ⟨h2.en, Below.refl _ _, h2.bs⟩
theorem two_view1 (h : Two14 b W0 w C D H e d) :
    Calls Tryz.prog 21 #[.pointer (some ⟨C, 0, none⟩)] w fun r w' => r = .returned (evV e) ∧ Below w.heap.size w w' := by
  obtain ⟨c, F, G, h1, h2, h3, h4, h5⟩ := h.one
  exact eh_view h1
theorem two_view2 (h : Two14 b W0 w C D H e d) :
    Calls Tryz.prog 21 #[.pointer (some ⟨D, 0, none⟩)] w fun r w' => r = .returned (evV d) ∧ Below w.heap.size w w' := by
  obtain ⟨c, F, G, h1, h2, h3, h4, h5⟩ := h.one
  exact eh_view h4
theorem two_bs (h : Two14 b W0 w C D H e d) : b ≤ w.heap.size := by
  obtain ⟨c, F, G, h1, h2, h3, h4, h5⟩ := h.one
  exact h1.bs
/-- a block of a row of the call's own -/
theorem own_new {ty : TypeId} {sz n : Nat} {base : Nat} {v : Value} {xs : List Value} (h : w.ownsRow base ty sz v n xs) : ∀ k, v.ownBlock = some k → base ≤ k ∧ k < w.heap.size := fun k hk => ⟨by
  rcases h.2 with ⟨h0, _⟩ | ⟨g, c, cur, hv, hx, _⟩
  · rw [h0] at hk; cases hk
  · rw [hv] at hk
    have : g = k := by simpa [Value.ownBlock] using hk
    omega, owns_blt h hk⟩
theorem two_time1 (t : Int) (t0 : -9223372036854775808 ≤ t) (t1 : t ≤ 9223372036854775807) (h : Two14 b W0 w C D H e d) :
    Calls Tryz.prog 16 #[.pointer (some ⟨C, 0, none⟩), .int .i64 t] w fun r w' => ∃ x cap, r = .returned (.slice x (Em.timeout e t).out.length cap) ∧ w'.ownsRow b 57 11 (.slice x (Em.timeout e t).out.length cap) (Em.timeout e t).out.length (effsL (Em.timeout e t).out) ∧
      Two14 b W0 w' C D (fun k => (Value.slice x (Em.timeout e t).out.length cap).ownBlock = some k) (Em.rest (Em.timeout e t)) d := by
  obtain ⟨c, F, G, h1, h2, h3, h4, h5⟩ := h.one
  refine (eh_time t t0 t1 h1).mono ?_
  rintro r w' ⟨x, cap, rfl, ho, hE, hM⟩
  have hx := own_new ho
  refine ⟨x, cap, rfl, owns_low ho h1.bs, ⟨c, _, fun k => G k ∨ (w.heap.size ≤ k ∧ k < w'.heap.size), ⟨hE.en, Below.refl _ _, hE.bs⟩, h2, fun k hc hlt => ?_, h4.kept hM (fun k hlt hc hG hT => ?_) (fun k hk => hk), fun k hk => Or.inr (hx k hk)⟩, h.bel.trans hE.bel⟩
  · rcases Nat.lt_or_ge k w.heap.size with h' | h'
    · exact (h3 k hc h').elim (fun x => Or.inl (Or.inl x)) (fun x => Or.inr (Or.inl x))
    · exact Or.inr (Or.inr ⟨h', hlt⟩)
  · exact (h3 k hc hlt).elim hT.2 hG
theorem two_time2 (t : Int) (t0 : -9223372036854775808 ≤ t) (t1 : t ≤ 9223372036854775807) (h : Two14 b W0 w C D H e d) :
    Calls Tryz.prog 16 #[.pointer (some ⟨D, 0, none⟩), .int .i64 t] w fun r w' => ∃ x cap, r = .returned (.slice x (Em.timeout d t).out.length cap) ∧ w'.ownsRow b 57 11 (.slice x (Em.timeout d t).out.length cap) (Em.timeout d t).out.length (effsL (Em.timeout d t).out) ∧
      Kept w w' (fun k => b ≤ k ∧ ¬ H k) ∧ Two14 b W0 w' C D (fun _ => False) e (Em.rest (Em.timeout d t)) := by
  obtain ⟨c, F, G, h1, h2, h3, h4, h5⟩ := h.one
  refine (eh_time t t0 t1 h4).mono ?_
  rintro r w' ⟨x, cap, rfl, ho, hE, hM⟩
  refine ⟨x, cap, rfl, owns_low ho h1.bs, hM.mono (fun k _ hk => ⟨by omega, fun hH => hk.2 (h5 k hH)⟩), ⟨c, fun k => F k ∨ (w.heap.size ≤ k ∧ k < w'.heap.size), _, h1.kept hM (fun k hlt hb hF hT => ?_) (fun k hk => hk), h2, fun k hc hlt => ?_, ⟨hE.en, Below.refl _ _, hE.bs⟩, fun k hk => hk.elim⟩, h.bel.trans (hM.below h1.bs (fun k hk => by omega))⟩
  · exact (h3 k hT.1 hlt).elim hF hT.2
  · rcases Nat.lt_or_ge k w.heap.size with h' | h'
    · exact (h3 k hc h').elim (fun x => Or.inl (Or.inl x)) (fun x => Or.inr (Or.inl x))
    · exact Or.inl (Or.inr ⟨h', hlt⟩)
end
/-- both behind one timer, with what they did -/
structure Two2 (b : Nat) (W0 w : World) (C D : Nat) (l : List Em.Eff) (x y : Option Addr) (N cx cy : Nat) (e : Em.St) : Prop where
  two : Two14 b W0 w C D (fun _ => False) e e
  rx : w.ownsRow b 57 11 (.slice x N cx) N (effsL l)
  ry : w.ownsRow b 57 11 (.slice y N cy) N (effsL l)
theorem drewN_two {B : Nat} {a b : World} (h : Below B a b) : ∀ n, Below B a (b.drewN n)
  | 0 => h
  | n + 1 => (drewN_two h n).drew
theorem Two2.below {b : Nat} {W0 w w' : World} {C D : Nat} {l : List Em.Eff} {x y : Option Addr} {N cx cy : Nat} {e : Em.St} (h : Two2 b W0 w C D l x y N cx cy e) (hb : Below w.heap.size w w') : Two2 b W0 w' C D l x y N cx cy e :=
  ⟨h.two.below hb, owns_bel h.rx hb, owns_bel h.ry hb⟩
set_option maxHeartbeats 8000000 in
theorem walk_EntityTwice (k n2 : Int) (a : Option Addr) (len cap : Nat) (ps : List ActE) (w : World) (hk : -9223372036854775808 ≤ k ∧ k ≤ 9223372036854775807) (hr : RowE w a len cap ps) (hWy : Ways w) :
    Calls Tryz.prog 7 #[.int .i64 k, .int .i64 n2, .slice a len cap] w fun r w' => r = .returned (.bool true) ∧ Below w.heap.size w w' := by
  have HWy : Hid (Ways w) := hWy
  have HAF : Hid (∀ W, Below w.heap.size w W → Calls Tryz.prog 14 #[.int .i64 k, .int .i64 n2, .slice a len cap] W fun r w' => ∃ C R o, r = .returned (.tuple #[.pointer (some ⟨C, 0, none⟩), .pointer (some ⟨R, 0, none⟩)]) ∧ Pr14 W.heap.size W w' (fun _ => False) C R (Em.run (Em.new k n2) (ps.take (capN len 60))) { Em.run (Em.new k n2) (ps.take (capN len 60)) with out := o }) := fun W hW => after_any k n2 a len cap ps W hk (hr.later hW) (hWy.later hW)
  obtain ⟨e, he⟩ : ∃ e, e = Em.run (Em.new k n2) (ps.take (capN len 60)) := ⟨_, rfl⟩
  rw [← he] at HAF
  clear hr hWy hk he
  go_enter Tryz.func7, Tryz.ntmps7
  go_wp2_with fail
  refine (HAF.out w (Below.refl _ _)).mono ?_
  rintro r w1 ⟨C, R, o, rfl, hP⟩
  have HE1 : Hid (EH w.heap.size w w1 (fun _ => False) C e) := eh_pr hP
  clear hP
  go_wp2_with fail
  refine (HAF.out w1 HE1.out.bel).mono ?_
  rintro r w2 ⟨D, R2, o2, rfl, hP⟩
  have HT2 : Hid (Two14 w.heap.size w w2 C D (fun _ => False) e e) := two_new HE1.out (eh_pr hP)
  clear hP HE1 HAF o o2
  obtain ⟨b, hb⟩ : ∃ b, b = w.heap.size := ⟨_, rfl⟩
  rw [← hb] at HT2
  have HC : Hid (b = w.heap.size) := hb
  clear hb
  go_wp2_with fail
  refine (ewakes_any _ (HWy.out.later (by have := HT2.out.bel; rw [HC.out] at this; exact this))).mono ?_
  rintro r w3 ⟨rfl, hb3⟩
  have HT3 := (show Hid _ from HT2.out.below hb3)
  clear hb3 HT2
  go_wp2_with fail
  refine (two_view1 HT3.out).mono ?_
  rintro r w4 ⟨rfl, hb4⟩
  have HT4 := (show Hid _ from HT3.out.below hb4)
  clear hb4 HT3
  go_wp2_with fail
  refine (two_view2 HT4.out).mono ?_
  rintro r w5 ⟨rfl, hb5⟩
  have HT5 := (show Hid _ from HT4.out.below hb5)
  clear hb5 HT4
  unfold evV
  go_wp2_with fail
  refine (two_time1 200 (by omega) (by omega) HT5.out).mono ?_
  rintro r w6 ⟨x, cx, rfl, hx6, hT6⟩
  have HT6 := (show Hid _ from hT6)
  have HX6 := (show Hid _ from hx6)
  clear hT6 hx6 HT5
  go_wp2_with fail
  refine (two_time2 200 (by omega) (by omega) HT6.out).mono ?_
  rintro r w7 ⟨y, cy, rfl, hy7, hk7, hT7⟩
  have hx7 := hk7.owns HX6.out (fun k hk hx => hx.2 hk)
  have H7 : Hid (Two2 b w w7 C D (Em.timeout e 200).out x y (Em.timeout e 200).out.length cx cy (Em.rest (Em.timeout e 200))) := ⟨hT7, hx7, hy7⟩
  clear hk7 hT7 hy7 hx7 HT6 HX6
  generalize Em.rest (Em.timeout e 200) = e1 at H7
  generalize (Em.timeout e 200).out = l at H7 ⊢
  obtain ⟨N, hN⟩ : ∃ N, N = l.length := ⟨_, rfl⟩
  rw [← hN] at H7 ⊢
  have HN : Hid (N = l.length) := hN
  clear hN
  have hlx : N ≤ cx := owns_le H7.out.rx
  have hly : N ≤ cy := owns_le H7.out.ry
  have hmx : cx ≤ 9223372036854775807 := owns_cap H7.out.rx
  have hmy : cy ≤ 9223372036854775807 := owns_cap H7.out.ry
  go_wp2
  go_loopw [48] (fun c wr => ∃ j : Nat, j ≤ N ∧ c = .int .i64 j ∧ Hid (Two2 b w wr C D l x y N cx cy e1)) (fun c _ => N - (intOf c).toNat)
  case atStart => exact ⟨0, Nat.zero_le _, rfl, H7⟩
  case round =>
    obtain ⟨j, hjN, rfl, H⟩ := hrel
    clear H7
    by_cases hin : j < N
    · obtain ⟨g1, rfl, hg1, at1⟩ := eff_row (w := wr) (b := b) (x := x) (cap := cx) (l := l) (by have := H.out.rx; rw [HN.out] at this; exact this) j (by rw [← HN.out]; exact hin)
      obtain ⟨g2, rfl, hg2, at2⟩ := eff_row (w := wr) (b := b) (x := y) (cap := cy) (l := l) (by have := H.out.ry; rw [HN.out] at this; exact this) j (by rw [← HN.out]; exact hin)
      generalize l.getD j eff0 = q at at1 at2
      have z0 : wr.cell? ⟨g1, j * 11, none⟩ = some (.int .i64 q.kind) := at1 0 _ rfl
      have z1 : wr.cell? ⟨g1, j * 11 + 1, none⟩ = some (.int .i64 q.f.sapi) := at1 1 _ rfl
      have z2 : wr.cell? ⟨g1, j * 11 + 2, none⟩ = some (.int .i64 q.f.tei) := at1 2 _ rfl
      have z3 : wr.cell? ⟨g1, j * 11 + 3, none⟩ = some (.bool q.f.c) := at1 3 _ rfl
      have z4 : wr.cell? ⟨g1, j * 11 + 4, none⟩ = some (.int .i64 q.f.k) := at1 4 _ rfl
      have z5 : wr.cell? ⟨g1, j * 11 + 5, none⟩ = some (.bool q.f.pf) := at1 5 _ rfl
      have z6 : wr.cell? ⟨g1, j * 11 + 6, none⟩ = some (.int .i64 q.f.ns) := at1 6 _ rfl
      have z7 : wr.cell? ⟨g1, j * 11 + 7, none⟩ = some (.int .i64 q.f.nr) := at1 7 _ rfl
      have z8 : wr.cell? ⟨g1, j * 11 + 8, none⟩ = some (.string q.f.info) := at1 8 _ rfl
      have z9 : wr.cell? ⟨g1, j * 11 + 9, none⟩ = some (.string q.data) := at1 9 _ rfl
      have z10 : wr.cell? ⟨g1, j * 11 + 10, none⟩ = some (.int .i64 q.timer) := at1 10 _ rfl
      have y0 : wr.cell? ⟨g2, j * 11, none⟩ = some (.int .i64 q.kind) := at2 0 _ rfl
      have y1 : wr.cell? ⟨g2, j * 11 + 1, none⟩ = some (.int .i64 q.f.sapi) := at2 1 _ rfl
      have y2 : wr.cell? ⟨g2, j * 11 + 2, none⟩ = some (.int .i64 q.f.tei) := at2 2 _ rfl
      have y3 : wr.cell? ⟨g2, j * 11 + 3, none⟩ = some (.bool q.f.c) := at2 3 _ rfl
      have y4 : wr.cell? ⟨g2, j * 11 + 4, none⟩ = some (.int .i64 q.f.k) := at2 4 _ rfl
      have y5 : wr.cell? ⟨g2, j * 11 + 5, none⟩ = some (.bool q.f.pf) := at2 5 _ rfl
      have y6 : wr.cell? ⟨g2, j * 11 + 6, none⟩ = some (.int .i64 q.f.ns) := at2 6 _ rfl
      have y7 : wr.cell? ⟨g2, j * 11 + 7, none⟩ = some (.int .i64 q.f.nr) := at2 7 _ rfl
      have y8 : wr.cell? ⟨g2, j * 11 + 8, none⟩ = some (.string q.f.info) := at2 8 _ rfl
      have y9 : wr.cell? ⟨g2, j * 11 + 9, none⟩ = some (.string q.data) := at2 9 _ rfl
      have y10 : wr.cell? ⟨g2, j * 11 + 10, none⟩ = some (.int .i64 q.timer) := at2 10 _ rfl
      clear at1 at2
      obtain ⟨qk, ⟨f0, f1, f2, f3, f4, f5, f6, f7⟩, qd, qt⟩ := q
      have HD2 : Hid (∀ n, Two2 b w (wr.drewN n) C D l (some ⟨g1, 0, none⟩) (some ⟨g2, 0, none⟩) N cx cy e1) := fun n => H.out.below (drewN_two (Below.refl _ _) n)
      clear H
      go_upto_region 11 with fail
      go_quiet (fail)
      go_wp2
      go_roundw
      case rel => exact ⟨j + 1, by omega, by go_num, HD2.out _⟩
      case measure => simp [intOf]; omega
    · have hje : j = N := by omega
      subst hje
      have HT := (show Hid _ from H.out.two)
      clear H
      go_wp2_with fail
      refine (two_view1 HT.out).mono ?_
      rintro r w8 ⟨rfl, hb8⟩
      have HT8 := (show Hid _ from Two14.below HT.out hb8)
      clear hb8 HT
      go_wp2_with fail
      refine (two_view2 HT8.out).mono ?_
      rintro r w9 ⟨rfl, hb9⟩
      have HB9 : Hid (Below w.heap.size w w9) := by
        have hq := (Two14.below HT8.out hb9).bel
        rw [HC.out] at hq
        exact hq
      clear hb9 HT8
      unfold evV
      go_wp2
      go_ret
      exact ⟨rfl, HB9.out⟩
end Go.Proofs.YtidemohpngkedabGreatDoor
