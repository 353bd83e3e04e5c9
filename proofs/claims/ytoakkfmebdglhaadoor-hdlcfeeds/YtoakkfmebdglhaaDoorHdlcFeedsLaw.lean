/-
  The walk of the law HdlcFeeds: it returns true.
-/
import Derived.Test.YtoakkfmebdglhaaDoorRowLaws
import Derived.Test.YtoakkfmebdglhaaDoorStrRows
import Derived.Test.YtoakkfmebdglhaaDoorRefFeedAny
import Derived.Deep.RegionWith
namespace Go.Proofs.YtoakkfmebdglhaaDoor
open Go.RowKit
set_option linter.unusedVariables false
set_option linter.unusedSimpArgs false

/-- the i-th event of the document's row -/
theorem rrow_ev {w : World} {B n cap : Nat} {a : Option Addr} {evs : List Hm.Ev} (h : w.ownsRow B 55 2 (.slice a n cap) n (evCells evs)) (hn : n = evs.length) (i : Nat) (hi : i < evs.length) :
    ∃ g, a = some ⟨g, 0, none⟩ ∧ w.cell? ⟨g, i * 2, none⟩ = some (.int .i64 evs[i].1) ∧ w.cell? ⟨g, i * 2 + 1, none⟩ = some (.string evs[i].2) ∧ g < w.heap.size := by
  obtain ⟨g, hg⟩ : ∃ g, a = some ⟨g, 0, none⟩ := by
    rcases h.2 with ⟨_, h0⟩ | ⟨g, cap', cur, h', _⟩
    · omega
    · injection h' with h1 h2 h3; exact ⟨g, h1⟩
  subst hg
  have := evCells_get evs i hi
  refine ⟨g, rfl, ?_, ?_, (h.lt g rfl).2⟩
  · rw [h.cellAt (i * 2) (by omega), Nat.mul_comm]; exact this.1
  · rw [h.cellAt (i * 2 + 1) (by omega), Nat.mul_comm]; exact this.2
theorem rrow_shape {w : World} {B n : Nat} {x : Value} {xs : List Value} (h : w.ownsRow B 55 2 x n xs) : ∃ a cap, x = .slice a n cap := by
  rcases h.2 with ⟨rfl, h0⟩ | ⟨g, cap, cur, rfl, _⟩
  · exact ⟨none, 0, by rw [h0]⟩
  · exact ⟨_, cap, rfl⟩

theorem below_drews {B : Nat} {w w' : World} (h : Below B w w') : Below B w w'.drew := h.drew

set_option maxHeartbeats 1000000 in
/-- two rows of the same events -/
theorem same_any (evs : List Hm.Ev) (x y : Value) (B1 B2 : Nat) (w : World) (hl : evs.length ≤ 1000000) (hx : w.ownsRow B1 47 2 x evs.length (evCells evs)) (hy : w.ownsRow B2 55 2 y evs.length (evCells evs)) :
    Calls Tryd.prog 17 #[x, y] w fun e w' => e = .returned (.bool true) ∧ Below w.heap.size w w' := by
  obtain ⟨a1, c1, he1⟩ := row_shape hx
  obtain ⟨a2, c2, he2⟩ := rrow_shape hy
  subst he1
  subst he2
  go_enter Tryd.func17, Tryd.ntmps17
  go_wp2
  go_loopw [5, 13] (fun _ c wz => ∃ j : Nat, j ≤ evs.length ∧ c = .int .i64 j ∧ wz.ownsRow B1 47 2 (.slice a1 evs.length c1) evs.length (evCells evs) ∧ wz.ownsRow B2 55 2 (.slice a2 evs.length c2) evs.length (evCells evs) ∧ Below w.heap.size w wz)
    (fun _ c _ => evs.length - (intOf c).toNat)
  case atStart => exact ⟨0, Nat.zero_le _, rfl, hx, hy, Below.refl _ _⟩
  case round =>
    obtain ⟨j, hj, rfl, hxr, hyr, hqr⟩ := hrel
    clear hx hy
    by_cases hlt : j < evs.length
    · obtain ⟨g1, e1, p0, p1, pl⟩ := row_ev hxr rfl j hlt
      obtain ⟨g3, e3, p2, p3, pl3⟩ := rrow_ev hyr rfl j hlt
      subst e1
      subst e3
      generalize evs[j] = ev at p0 p1 p2 p3
      go_wp2
      go_region
      go_wp2
      go_roundw
      case rel => exact ⟨j + 1, by omega, by go_num, hxr.drew, hyr.drew, hqr.drew⟩
      case measure => simp [intOf]; omega
    · go_wp2
      go_ret
      exact ⟨rfl, hqr⟩

/-- both decoders, and what they met -/
structure TwoIn (w0 : World) (base D R n : Nat) (sd sr : Hm.St) (x : Value) (ex : List Hm.Ev) (y : Value) (ey : List Hm.Ev) (w : World) (v1 v2 : Value) (since : List Int) (Bx By : Nat) : Prop where
  dec : Dec w base D v1 sd
  rc : RC w base R v2 sr.inn sr.ones since
  rel : Hm.Rel sr since
  len : since.length ≤ n
  dr : D ≠ R
  a1 : v1.ownBlock ≠ some R
  a2 : v2.ownBlock ≠ some D
  a3 : ∀ k, v1.ownBlock = some k → v2.ownBlock ≠ some k
  rx : w.ownsRow Bx 47 2 x ex.length (evCells ex)
  ry : w.ownsRow By 55 2 y ey.length (evCells ey)
  ax : ∀ k, x.ownBlock = some k → k ≠ D ∧ k ≠ R ∧ v1.ownBlock ≠ some k ∧ v2.ownBlock ≠ some k
  ay : ∀ k, y.ownBlock = some k → k ≠ D ∧ k ≠ R ∧ v1.ownBlock ≠ some k ∧ v2.ownBlock ≠ some k
  bel : Below base w0 w
  le : base ≤ w0.heap.size
def Two (w0 : World) (base D R n : Nat) (sd sr : Hm.St) (x : Value) (ex : List Hm.Ev) (y : Value) (ey : List Hm.Ev) (w : World) : Prop := ∃ v1 v2 since Bx By, TwoIn w0 base D R n sd sr x ex y ey w v1 v2 since Bx By

theorem Two.behind {w0 : World} {base D R n : Nat} {sd sr : Hm.St} {x y : Value} {ex ey : List Hm.Ev} {w w' : World} (h : Two w0 base D R n sd sr x ex y ey w) (hb : Below w.heap.size w w') : Two w0 base D R n sd sr x ex y ey w' := by
  obtain ⟨v1, v2, since, Bx, By, h⟩ := h
  have hk : Kept w w' (fun _ => False) := Kept.of_below hb (fun k hk h' => by omega)
  have hs := h.bel.size
  have hl := h.le
  exact ⟨v1, v2, since, Bx, By, h.dec.below hb (Nat.le_refl _), h.rc.kept hk (fun x => x) (fun _ _ x => x), h.rel, h.len, h.dr, h.a1, h.a2, h.a3, hk.owns h.rx (fun _ _ x => x), hk.owns h.ry (fun _ _ x => x), h.ax, h.ay, h.bel.trans (hb.mono (by omega)), h.le⟩
theorem Two.drew {w0 : World} {base D R n : Nat} {sd sr : Hm.St} {x y : Value} {ex ey : List Hm.Ev} {w : World} (h : Two w0 base D R n sd sr x ex y ey w) : Two w0 base D R n sd sr x ex y ey w.drew := h.behind ((Below.refl _ _).drew)
/-- what was met is let go -/
theorem Two.forget {w0 : World} {base D R n : Nat} {sd sr : Hm.St} {x y : Value} {ex ey : List Hm.Ev} {w : World} (h : Two w0 base D R n sd sr x ex y ey w) : Two w0 base D R n sd sr (.slice none 0 0) [] (.slice none 0 0) [] w := by
  obtain ⟨v1, v2, since, Bx, By, h⟩ := h
  exact ⟨v1, v2, since, 0, 0, h.dec, h.rc, h.rel, h.len, h.dr, h.a1, h.a2, h.a3, World.ownsRow_nil _ _ _ _, World.ownsRow_nil _ _ _ _, fun k hk => by simp [Value.ownBlock] at hk, fun k hk => by simp [Value.ownBlock] at hk, h.bel, h.le⟩

theorem feedD {w0 : World} {base D R n : Nat} {sd sr : Hm.St} {x y : Value} {ex ey : List Hm.Ev} (s : ByteArray) (w : World) (hs : s.size ≤ 5000) (ho : sd.ones ≤ 1000000) (h : Two w0 base D R n sd sr x ex y ey w) :
    Calls Tryd.prog 18 #[.pointer (some ⟨D, 0, none⟩), .string s] w fun e w' => ∃ x', e = .returned x' ∧ Two w0 base D R n (Hm.feedS sd (Bm.nums s)).1 sr x' (Hm.feedS sd (Bm.nums s)).2 y ey w' := by
  obtain ⟨v1, v2, since, Bx, By, h⟩ := h
  have hs1 := h.bel.size
  have hl := h.le
  refine (feed_any s sd base D v1 w h.dec (by omega) (by omega) (by omega)).mono ?_
  rintro e w' ⟨x', v', rfl, hF⟩
  have hR := h.rc.lt
  have hD := h.dec.lt
  refine ⟨x', rfl, v', v2, since, _, By, hF.dec, ?_, h.rel, h.len, h.dr, ?_, h.a2, ?_, hF.row, ?_, ?_, ?_, ?_, h.le⟩
  · exact h.rc.kept hF.kept (fun hx => by rcases hx with hx | hx; exact h.dr hx.symm; exact h.a1 hx) (fun k hk hx => by
      rcases hx with rfl | hx
      · exact h.a2 hk
      · exact h.a3 k hx hk)
  · intro e
    rcases hF.fresh R e with h' | h'
    · exact h.a1 h'
    · omega
  · intro k hk hv2
    rcases hF.fresh k hk with h' | h'
    · exact h.a3 k h' hv2
    · have := (h.rc.own.lt k hv2).2; omega
  · exact hF.kept.owns h.ry (fun k hk hx => by
      obtain ⟨q1, q2, q3, q4⟩ := h.ay k hk
      rcases hx with hx | hx
      · exact q1 hx
      · exact q3 hx)
  · intro k hk
    have h1 := (hF.row.lt k hk).1
    exact ⟨by omega, by omega, hF.apart k hk, fun e => by have := (h.rc.own.lt k e).2; omega⟩
  · intro k hk
    obtain ⟨q1, q2, q3, q4⟩ := h.ay k hk
    refine ⟨q1, q2, fun e => ?_, q4⟩
    rcases hF.fresh k e with h' | h'
    · exact q3 h'
    · have := (h.ry.lt k hk).2; omega
  · exact h.bel.trans (hF.below' h.dec (by omega))

theorem feedR {w0 : World} {base D R n : Nat} {sd sr : Hm.St} {x y : Value} {ex ey : List Hm.Ev} (s : ByteArray) (w : World) (hs : s.size ≤ 5000) (ho : sr.ones ≤ 1000000) (hn : n ≤ 500000) (hok : Hm.Ok sr) (hlow : Hm.Low sr) (h : Two w0 base D R n sd sr x ex y ey w) :
    Calls Tryd.prog 19 #[.pointer (some ⟨R, 0, none⟩), .string s] w fun e w' => ∃ y', e = .returned y' ∧ Two w0 base D R (n + 5000) sd (Hm.feedS sr (Bm.nums s)).1 x ex y' (Hm.feedS sr (Bm.nums s)).2 w' := by
  obtain ⟨v1, v2, since, Bx, By, h⟩ := h
  have hs1 := h.bel.size
  have hl := h.le
  have hln := h.len
  refine (ref_feed_any s sr since base R v2 w h.rc h.rel hok hlow (by omega) hs ho (by omega)).mono ?_
  rintro e w' ⟨y', v', since', rfl, hF, hrel, hsl⟩
  have hR := h.rc.lt
  have hD := h.dec.lt
  have hT : ∀ k, touch R v2 k → k = R ∨ v2.ownBlock = some k := fun k hk => hk
  refine ⟨y', rfl, v1, v', since', Bx, _, ?_, hF.mem, hrel, by omega, h.dr, h.a1, ?_, ?_, ?_, hF.row, ?_, ?_, ?_, h.le⟩
  · exact h.dec.kept hF.kept (fun hx => by rcases hx with hx | hx; exact h.dr hx; exact h.a2 hx) (fun k hk hx => by
      rcases hx with rfl | hx
      · exact h.a1 hk
      · exact h.a3 k hk hx)
  · intro e
    rcases hF.fresh D e with h' | h'
    · exact h.a2 h'
    · omega
  · intro k hk hv
    rcases hF.fresh k hv with h' | h'
    · exact h.a3 k hk h'
    · have := (h.dec.own.lt k hk).2; omega
  · exact hF.kept.owns h.rx (fun k hk hx => by
      obtain ⟨q1, q2, q3, q4⟩ := h.ax k hk
      rcases hx with hx | hx
      · exact q2 hx
      · exact q4 hx)
  · intro k hk
    obtain ⟨q1, q2, q3, q4⟩ := h.ax k hk
    refine ⟨q1, q2, q3, fun e => ?_⟩
    rcases hF.fresh k e with h' | h'
    · exact q4 h'
    · have := (h.rx.lt k hk).2; omega
  · intro k hk
    have h1 := (hF.row.lt k hk).1
    exact ⟨by omega, by omega, fun e => by have := (h.dec.own.lt k e).2; omega, hF.apart k hk⟩
  · refine h.bel.trans (hF.kept.below (by omega) (fun k hk => ?_))
    rcases hk with rfl | hk
    · exact h.rc.ge
    · exact (h.rc.own.lt k hk).1

theorem sameH {w0 : World} {base D R n : Nat} {sd sr : Hm.St} {x y : Value} {evs : List Hm.Ev} (w : World) (hl : evs.length ≤ 1000000) (h : Two w0 base D R n sd sr x evs y evs w) :
    Calls Tryd.prog 17 #[x, y] w fun e w' => e = .returned (.bool true) ∧ Two w0 base D R n sd sr x evs y evs w' ∧ w'.cell? ⟨R, 2, none⟩ = some (.int .i64 (sr.ones : Int)) ∧ R < w'.heap.size := by
  have h0 := h
  obtain ⟨v1, v2, since, Bx, By, h⟩ := h
  refine (same_any evs x y Bx By w hl h.rx h.ry).mono ?_
  rintro e w' ⟨rfl, hb⟩
  have h1 := h0.behind hb
  refine ⟨rfl, h1, ?_, ?_⟩
  · obtain ⟨v1, v2, since, Bx, By, h1⟩ := h1; exact h1.rc.c2
  · obtain ⟨v1, v2, since, Bx, By, h1⟩ := h1; exact h1.rc.lt
theorem idleH {w0 : World} {base D R n : Nat} {sd sr : Hm.St} {x y : Value} {ex ey : List Hm.Ev} (w : World) (h : Two w0 base D R n sd sr x ex y ey w) :
    Calls Tryd.prog 20 #[.pointer (some ⟨D, 0, none⟩)] w fun e w' => e = .returned (.bool (decide (15 ≤ sd.ones))) ∧ w = w' := by
  obtain ⟨v1, v2, since, Bx, By, h⟩ := h
  exact idle_any sd base D v1 w h.dec

theorem two_start (w0 w : World) (D : Nat) (h : Dec w w0.heap.size D (.slice none 0 0) Hm.init) (hb : Below w0.heap.size w0 w) : Two w0 w0.heap.size D w.heap.size 0 Hm.init Hm.init (.slice none 0 0) [] (.slice none 0 0) [] (w.alloc (.cells #[.slice none 0 0, .bool false, .int .i64 0] 36)) := by
  have hD := h.lt
  refine ⟨.slice none 0 0, .slice none 0 0, [], 0, 0, h.below ((Below.refl w.heap.size w).alloc (Nat.le_refl _) _) (Nat.le_refl _), ⟨hb.size, by simp, by simp, by simp [Hm.init], by simp [Hm.init], fun j hj => by simp, World.ownsRow_nil _ _ _ _, by simp [Value.ownBlock]⟩, Hm.Rel.out' 0, by simp, by omega, by simp [Value.ownBlock], by simp [Value.ownBlock], ?_, World.ownsRow_nil _ _ _ _, World.ownsRow_nil _ _ _ _, ?_, ?_, hb.alloc hb.size _, Nat.le_refl _⟩
  all_goals (intro k hk; simp [Value.ownBlock] at hk)

set_option maxHeartbeats 4000000 in
set_option maxRecDepth 1000000 in
theorem walk_HdlcFeeds (a : Option Addr) (len cap : Nat) (zs : List ByteArray) (w : World) (hr : StrRow w a len cap zs) (hm : MaxOk w) :
    Calls Tryd.prog 4 #[.slice a len cap] w fun e w' => e = .returned (.bool true) ∧ Below w.heap.size w w' := by
  have hlc : len ≤ cap := hr.2.1
  have hcm : cap ≤ 9223372036854775807 := by have := hr.2.2.1; unfold maxLen at this; exact this
  obtain ⟨m, hmin, hm50, hml⟩ : ∃ m : Nat, min (len : Int) 50 = (m : Int) ∧ m ≤ 50 ∧ m ≤ len := ⟨(min (len : Int) 50).toNat, by omega, by omega, by omega⟩
  have hfr : a.map (·.add 0) = a := by
    cases a with
    | none => rfl
    | some x => simp [Addr.add]
  have HR : Hid (StrRow w a m cap (zs.take m)) := hr.cut m hml
  clear hr
  go_enter Tryd.func4, Tryd.ntmps4
  go_wp2_with fail
  refine (new_any _).mono ?_
  rintro e w1 ⟨rfl, hdn, hb1⟩
  have hT1 := two_start w w1 w.heap.size (hdn _ (Nat.le_refl _)) hb1
  have hs1 : w.heap.size ≤ w1.heap.size := hb1.size
  have hm1 : MaxOk (w1.alloc (.cells #[.slice none 0 0, .bool false, .int .i64 0] 36)) := hm.later (hb1.alloc hs1 _) hm.lt
  clear hdn
  go_wp2_with fail
  refine (wakes_any _ hm1).mono ?_
  rintro e w2 ⟨rfl, hb2⟩
  have hT2 := hT1.behind hb2
  clear hT1 hb2 hm1
  go_wp2
  go_loopw [6, 18] (fun _ c wr => ∃ (i : Nat) (P : List Int), i ≤ m ∧ c = .int .i64 i ∧ P.length ≤ 5000 * i ∧ Two w w.heap.size w.heap.size w1.heap.size (5000 * i) (Hm.feedS Hm.init P).1 (Hm.feedS Hm.init P).1 (.slice none 0 0) [] (.slice none 0 0) [] wr)
    (fun _ c _ => m - (intOf c).toNat)
  case atStart => exact ⟨0, [], Nat.zero_le _, rfl, by simp, hT2⟩
  case round =>
    obtain ⟨i, P, him, rfl, hPl, hT⟩ := hrel
    have hbr : Below w.heap.size w wr := by obtain ⟨_, _, _, _, _, h⟩ := hT; exact h.bel
    by_cases hlt : i < m
    · obtain ⟨fb, fo, F, hfa, hfb, hfc, hFz⟩ := HR.out.at i hlt
      have hfcr := (hbr.cell (p := ⟨fb, fo + i, none⟩) hfb).trans hfc
      clear hfc
      subst hfa
      have hok := Hm.Ok.init.feed P
      have hlow := Hm.low_feed Hm.low_init P
      have hone := Hm.feed_ones Hm.init P
      have hone0 : Hm.init.ones = 0 := rfl
      have hon : (Hm.feedS Hm.init P).1.ones ≤ 1000000 := by omega
      clear hone hone0
      go_wp2
      obtain ⟨b, hB⟩ : ∃ b, b = F.extract 0 (min (F.size : Int) 5000).toNat := ⟨_, rfl⟩
      have hbz : b.size ≤ 5000 := by rw [hB]; simp; omega
      rw [← hB]
      clear hB
      have hTd := hT.drew
      clear hT
      have HP : Hid (Hm.feedS Hm.init (P ++ Bm.nums b) = ((Hm.feedS (Hm.feedS Hm.init P).1 (Bm.nums b)).1, (Hm.feedS Hm.init P).2 ++ (Hm.feedS (Hm.feedS Hm.init P).1 (Bm.nums b)).2)) := Hm.feed_append _ _ _
      have HPL : Hid ((P ++ Bm.nums b).length ≤ 5000 * (i + 1)) := by show _ ≤ _; rw [List.length_append, Bm.nums_length]; omega
      have hn5 : 5000 * i ≤ 500000 := by omega
      have hel : (Hm.feedS (Hm.feedS Hm.init P).1 (Bm.nums b)).2.length ≤ 1000000 := by
        have := Hm.feed_length (Hm.feedS Hm.init P).1 (Bm.nums b)
        rw [Bm.nums_length] at this
        omega
      obtain ⟨st, hst⟩ : ∃ st, st = (Hm.feedS Hm.init P).1 := ⟨_, rfl⟩
      rw [← hst] at hTd hok hlow hon HP hel
      clear hst
      by_cases h15 : 15 ≤ (Hm.feedS st (Bm.nums b)).1.ones
      · have e1 : decide (15 ≤ (Hm.feedS st (Bm.nums b)).1.ones) = true := decide_eq_true h15
        have e2 : (15 : Int) ≤ (((Hm.feedS st (Bm.nums b)).1.ones : Nat) : Int) := by omega
        clear h15
        go_region_with (first
          | (go_at_call 18; refine (feedD b _ hbz hon ‹_›).mono ?_; rintro e w' ⟨x', rfl, hTa⟩)
          | (go_at_call 19; refine (feedR b _ hbz hon hn5 hok hlow ‹_›).mono ?_; rintro e w' ⟨y', rfl, hTb⟩)
          | (go_at_call 17; refine (sameH _ hel ‹_›).mono ?_; rintro e w' ⟨rfl, hTc, q2, ql⟩)
          | (go_at_call 20; refine (idleH _ ‹_›).mono ?_; rintro e w' ⟨rfl, rfl⟩; rw [e1]))
        all_goals
          have hT9 := hTc.forget
          clear hTa hTb hTc
          go_wp2
          go_roundw
          case rel => exact ⟨i + 1, P ++ Bm.nums b, by omega, by go_num, HPL.out, by rw [HP.out]; exact hT9⟩
          case measure => simp [intOf]; omega
      · have e1 : decide (15 ≤ (Hm.feedS st (Bm.nums b)).1.ones) = false := decide_eq_false h15
        have e2 : ¬ (15 : Int) ≤ (((Hm.feedS st (Bm.nums b)).1.ones : Nat) : Int) := by omega
        clear h15
        go_region_with (first
          | (go_at_call 18; refine (feedD b _ hbz hon ‹_›).mono ?_; rintro e w' ⟨x', rfl, hTa⟩)
          | (go_at_call 19; refine (feedR b _ hbz hon hn5 hok hlow ‹_›).mono ?_; rintro e w' ⟨y', rfl, hTb⟩)
          | (go_at_call 17; refine (sameH _ hel ‹_›).mono ?_; rintro e w' ⟨rfl, hTc, q2, ql⟩)
          | (go_at_call 20; refine (idleH _ ‹_›).mono ?_; rintro e w' ⟨rfl, rfl⟩; rw [e1]))
        all_goals
          have hT9 := hTc.forget
          clear hTa hTb hTc
          go_wp2
          go_roundw
          case rel => exact ⟨i + 1, P ++ Bm.nums b, by omega, by go_num, HPL.out, by rw [HP.out]; exact hT9⟩
          case measure => simp [intOf]; omega
    · go_wp2
      go_ret
      exact ⟨rfl, hbr⟩
end Go.Proofs.YtoakkfmebdglhaaDoor
