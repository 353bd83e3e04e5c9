/-
  The walk of the law EntityUnits: it returns true.
-/
import Derived.Test.YtdfoicngcahajaaDoorEntView
import Derived.Test.YtdfoicngcahajaaDoorEntWakes
import Derived.Test.YtdfoicngcahajaaDoorEntUnitMath
import Derived.Test.YtdfoicngcahajaaDoorStrRows
namespace Go.Proofs.YtdfoicngcahajaaDoor
open Go.RowKit
set_option linter.unusedVariables false
set_option maxRecDepth 100000
set_option linter.unusedSimpArgs false

/-- an entity of the call's own, and a row of texts of the call's own beside it; below b all is as in W0 -/
structure UnH (b : Nat) (W0 w : World) (C : Nat) (v : Value) (us : List ByteArray) (e : Em.St) : Prop where
  en : ∃ lab, Ent C w lab e ∧ (∀ k, k < b → lab k = 0) ∧ ∀ B, v.ownBlock = some B → lab B = 0
  row : w.ownsRow b 9 1 v us.length (us.map Value.string)
  bel : Below b W0 w
  bs : b ≤ w.heap.size
section
variable {b : Nat} {W0 w w' : World} {C : Nat} {v : Value} {us : List ByteArray} {e : Em.St}
theorem UnH.ob (h : UnH b W0 w C v us e) {B : Nat} (hB : v.ownBlock = some B) : b ≤ B ∧ B < w.heap.size := by
  refine ⟨?_, owns_blt h.row hB⟩
  rcases h.row.2 with ⟨rfl, _⟩ | ⟨g, cap, cur, rfl, hb, _⟩
  · cases hB
  · have : g = B := by simpa [Value.ownBlock] using hB
    omega
theorem UnH.below (h : UnH b W0 w C v us e) (hb : Below w.heap.size w w') : UnH b W0 w' C v us e := by
  obtain ⟨lab, h1, h2, h3⟩ := h.en
  refine ⟨⟨fresh lab w.heap.size 0, h1.below hb, fun k hk => by rw [fresh_old (by have := h.bs; omega)]; exact h2 k hk, fun B hB => by rw [fresh_old (h.ob hB).2]; exact h3 B hB⟩, ?_, h.bel.trans (hb.mono h.bs), Nat.le_trans h.bs hb.size⟩
  exact (Kept.of_below (T := fun _ => False) hb (fun k hk h' => by omega)).owns h.row (fun _ _ x => x)
/-- a call of it -/
theorem UnH.told {lab : Nat → Nat} {x : Value} {e1 : Em.St} (h : UnH b W0 w C v us e) (h2 : ∀ k, k < b → lab k = 0) (h3 : ∀ B, v.ownBlock = some B → lab B = 0) (ht : Told C w w' lab x e1) : UnH b W0 w' C v us { e1 with out := [] } := by
  obtain ⟨lab', k1, k2, k3, k4⟩ := ht.next
  refine ⟨⟨lab', k1, fun k hk => by rw [k3 k (by have := h.bs; omega)]; exact h2 k hk, fun B hB => by rw [k3 B (h.ob hB).2]; exact h3 B hB⟩, k2.owns h.row (fun k hk hx => hx (h3 k hk)), h.bel.trans (k2.below h.bs (fun k hk => ?_)), Nat.le_trans h.bs k2.size⟩
  rcases Nat.lt_or_ge k b with h' | h'
  · exact absurd (h2 k h') hk
  · exact h'
/-- one text more -/
theorem UnH.more {v' : Value} {s : ByteArray} (h : UnH b W0 w C v us e) (ho : w'.ownsRow b 9 1 v' (us.length + 1) (us.map Value.string ++ [.string s])) (hg : w.grownBy w' v.ownBlock) (hat : ∀ B, v'.ownBlock = some B → v.ownBlock = some B ∨ w.heap.size ≤ B) : UnH b W0 w' C v' (us ++ [s]) e := by
  obtain ⟨lab, h1, h2, h3⟩ := h.en
  have hk : Kept w w' (fun k => v.ownBlock = some k) := Kept.of_grown hg (fun k e => e)
  refine ⟨⟨fresh lab w.heap.size 0, ⟨h1.en.kept hk (fun k hlt hn hx => hn (h3 k hx)) (fun k hlt => fresh_old hlt), h1.out, fun k hk => ?_, h1.ok, h1.tm⟩, fun k hk => by rw [fresh_old (by have := h.bs; omega)]; exact h2 k hk, fun B hB => ?_⟩, ?_, h.bel.trans (hk.below h.bs (fun k hx => (h.ob hx).1)), Nat.le_trans h.bs hk.size⟩
  · rcases Nat.lt_or_ge k w.heap.size with h' | h'
    · rw [fresh_old h']; exact h1.n5 k h'
    · rw [fresh_new h']; decide
  · rcases hat B hB with h' | h'
    · rw [fresh_old (h.ob h').2]; exact h3 B h'
    · exact fresh_new h'
  · have e1 : (us ++ [s]).map Value.string = us.map Value.string ++ [.string s] := by simp
    rw [e1, List.length_append]
    exact ho
theorem unh_new {lab : Nat → Nat} (hE : Ent C w' lab e) (hb : Below w.heap.size w w') (hl : ∀ k, k < w.heap.size → lab k = 0) : UnH w.heap.size w w' C (.slice none 0 0) [] e :=
  ⟨⟨lab, hE, hl, fun B hB => by cases hB⟩, World.ownsRow_nil _ _ _ _, hb, hb.size⟩
theorem unh_ask (a : Int) (s : ByteArray) (hz : s.size ≤ 9223372036854775807) (h : UnH b W0 w C v us e) :
    Calls Tryd.prog 6 #[.pointer (some ⟨C, 0, none⟩), .int .i64 a, .string s] w fun r w' => ∃ x cap, r = .returned (.tuple #[.slice x (Em.ask e a s).1.out.length cap, .int .i64 (Em.ask e a s).2]) ∧ UnH b W0 w' C v us { (Em.ask e a s).1 with out := [] } := by
  obtain ⟨lab, h1, h2, h3⟩ := h.en
  refine (eask_any C lab e a s w h1 hz).mono ?_
  rintro r w' ⟨x, rfl, ht⟩
  have hu := h.told h2 h3 ht
  obtain ⟨y, cap, rfl, _⟩ := ht.row
  exact ⟨y, cap, rfl, hu⟩
theorem unh_view (h : UnH b W0 w C v us e) :
    Calls Tryd.prog 12 #[.pointer (some ⟨C, 0, none⟩)] w fun r w' => r = .returned (evV e) ∧ Below w.heap.size w w' := by
  obtain ⟨lab, h1, h2, h3⟩ := h.en
  exact eview_any C lab e w h1
theorem unh_assign (t : Int) (t0 : -9223372036854775808 ≤ t) (t1 : t ≤ 9223372036854775807) (h : UnH b W0 w C v us e) :
    Calls Tryd.prog 7 #[.pointer (some ⟨C, 0, none⟩), .int .i64 t] w fun r w' => ∃ x cap, r = .returned (.tuple #[.slice x (Em.assign e t).1.out.length cap, .int .i64 (Em.assign e t).2]) ∧ w'.ownsRow b 58 11 (.slice x (Em.assign e t).1.out.length cap) (Em.assign e t).1.out.length (effsL (Em.assign e t).1.out) ∧ UnH b W0 w' C v us { (Em.assign e t).1 with out := [] } := by
  obtain ⟨lab, h1, h2, h3⟩ := h.en
  refine (eassign_any C lab e t w h1 t0 t1).mono ?_
  rintro r w' ⟨x, rfl, ht⟩
  have hu := h.told h2 h3 ht
  obtain ⟨y, cap, rfl, ho⟩ := ht.row
  refine ⟨y, cap, rfl, owns_up ho (fun B hB => ?_), hu⟩
  rcases ho.2 with ⟨h0, _⟩ | ⟨g, c, cur, hv, hb, _⟩
  · rw [h0] at hB; cases hB
  · rw [hv] at hB
    have : g = B := by simpa [Value.ownBlock] using hB
    have := h.bs
    omega
end

theorem efield6 (W : World) (a b c d e f g h i j k l m n o : Value) : (Instr.field 49 (.agg #[a, b, c, d, e, f, g, h, i, j, k, l, m, n, o]) 6).run Tryd.prog W = .ok g W := by kernel_rfl
theorem World.ownsRow.cap_le {w : World} {base : Nat} {e : TypeId} {size : Nat} {a : Option Addr} {n cap : Nat} {xs : List Value} (h : w.ownsRow base e size (.slice a n cap) n xs) : n ≤ cap := by
  rcases h.2 with ⟨h1, h2⟩ | ⟨g, c, cur, hv, _, _, hle, _⟩
  · omega
  · injection hv with _ _ e
    omega
theorem effsL_at : ∀ (l : List Em.Eff) (i k : Nat), i < l.length → k < 11 → (effsL l)[i * 11 + k]? = (effL (l.getD i ⟨0, Em.fr0, ByteArray.empty, 0⟩))[k]?
  | x :: l, 0, k, h, hk => by
    show (effL x ++ effsL l)[0 * 11 + k]? = _
    rw [List.getElem?_append_left (by simp [effL]; omega)]
    simp
  | x :: l, i + 1, k, h, hk => by
    show (effL x ++ effsL l)[(i + 1) * 11 + k]? = _
    rw [List.getElem?_append_right (by simp [effL]; omega)]
    have e : (i + 1) * 11 + k - (effL x).length = i * 11 + k := by simp [effL]; omega
    rw [e, effsL_at l i k (by simpa using h) hk]
    simp
theorem uE_at (us : List ByteArray) (l : List Em.Eff) (t : Int) (i : Nat) (hi : i < us.length) : (us.map (Em.uE t) ++ l).getD i ⟨0, Em.fr0, ByteArray.empty, 0⟩ = Em.uE t (us.getD i ByteArray.empty) := by
  simp [List.getD, List.getElem?_append_left (show i < (us.map (Em.uE t)).length by simpa using hi), List.getElem?_eq_getElem hi]
theorem one_str {w : World} {B : Nat} {s : ByteArray} (h : w.cell? ⟨B, 0, none⟩ = some (.string s)) : ∀ j u, [Value.string s][j]? = some u → w.cell? ((⟨B, 0, none⟩ : Addr).add j) = some u := by
  intro j u hj
  rw [qaddr_at]
  match j, hj with
  | 0, hj => simp at hj; subst hj; exact h
theorem one_strc {s : ByteArray} : ∀ u ∈ [Value.string s], u.oneCell' = true := by
  intro u hu; simp at hu; subst hu; rfl
set_option maxHeartbeats 8000000 in
theorem walk_EntityUnits (a : Option Addr) (len cap : Nat) (zs : List ByteArray) (tei : Int) (call : Bool) (w : World) (hr : StrRow w a len cap zs) (ht : -9223372036854775808 ≤ tei ∧ tei ≤ 9223372036854775807) (hW : Ways w) :
    Calls Tryd.prog 4 #[.slice a len cap, .int .i64 tei, .bool call] w fun r w' => r = .returned (.bool true) ∧ Below w.heap.size w w' := by
  have hlc : len ≤ cap := hr.2.1
  have hcm : cap ≤ 9223372036854775807 := by have := hr.2.2.1; unfold maxLen at this; exact this
  have HR : Hid (StrRow w a len cap zs) := hr
  have HW : Hid (Ways w) := hW
  have HTE : Hid (-9223372036854775808 ≤ tei ∧ tei ≤ 9223372036854775807) := ht
  clear hr hW ht
  obtain ⟨m, hmin, hm300, hml⟩ : ∃ m : Nat, min (len : Int) 300 = (m : Int) ∧ m ≤ 300 ∧ m ≤ len := ⟨(min (len : Int) 300).toNat, by omega, by omega, by omega⟩
  have hfr : a.map (·.add 0) = a := by
    cases a with
    | none => rfl
    | some x => simp [Addr.add]
  have hmm : (if (300 : Int) < (len : Int) then (300 : Int) else (len : Int)) = (m : Int) := by split <;> omega
  go_enter Tryd.func4, Tryd.ntmps4
  go_wp2_with fail
  refine (enew_any 7 3 w (by omega) (by omega)).mono ?_
  rintro r w1 ⟨C, lab, rfl, hC, hE, hb1, hl1⟩
  have HU1 : Hid (UnH w.heap.size w w1 C (.slice none 0 0) [] (Em.eU [] false)) := unh_new hE hb1 hl1
  clear hC hE hb1 hl1
  obtain ⟨b, hb⟩ : ∃ b, b = w.heap.size := ⟨_, rfl⟩
  rw [← hb] at HU1
  have HC : Hid (b = w.heap.size) := hb
  clear hb
  go_wp2_with fail
  try clear hmin
  clear hfr hmm
  go_loopw [8, 27] (fun v c wr => ∃ (j : Nat) (us : List ByteArray), j ≤ m ∧ us.length ≤ 256 ∧ c = .int .i64 j ∧ (∃ x cp, v = .slice x us.length cp) ∧ Hid (UnH b w wr C v us (Em.eU us false))) (fun _ c _ => m - (intOf c).toNat)
  case atStart => exact ⟨0, [], Nat.zero_le _, Nat.zero_le _, rfl, ⟨none, 0, rfl⟩, HU1⟩
  case round =>
    obtain ⟨j, us, hjm, h256, rfl, ⟨x, cp, rfl⟩, HU⟩ := hrel
    clear HU1
    by_cases hlt : j < m
    · obtain ⟨bb, off, s, rfl, hbb, hs, hz⟩ := HR.out.at j (by omega)
      have hs' := (HU.out.bel.cell (p := ⟨bb, off + j, none⟩) (by rw [HC.out]; exact hbb)).trans hs
      have hbr : bb < wr.heap.size := by have := HU.out.bs; have := HC.out; omega
      have HA := unh_ask 3 s hz HU.out
      clear hs
      have hcs : True := trivial
      have hj300 : j ≤ 300 := by omega
      obtain ⟨i0, hi, hz0, hz1, hz2'⟩ := info_parts qstr_info
      rcases Em.unit_ways us s h256 with ⟨q1, q2, q3, q4, q5, q6⟩ | ⟨q1, q2, q3, q4, q5, q6⟩ | ⟨q1, q4, q5, q6⟩ | ⟨q1, q2, q4, q5, q6⟩
      · obtain rfl : us = [] := List.eq_nil_of_length_eq_zero q3
        simp only [List.length_nil] at q2 q3 ⊢
        have p1 : (s.size : Int) ≤ 260 := by omega
        clear q1 q2 q3
        rw [q4, q5, q6] at HA
        clear q4 q5 q6 hcs
        go_wp2_with fail
        refine HA.mono ?_
        rintro r w2 ⟨y, cy, rfl, hu⟩
        have HU2 : Hid (UnH b w w2 C (.slice x 0 cp) [] (Em.eU ([] ++ [s]) false)) := hu
        clear HA hu HU hs'
        obtain ⟨W2, hW2⟩ : ∃ W2, W2 = w2.alloc (.cells #[.string s] 9) := ⟨_, rfl⟩
        have HU3 := HU2.out.below (w' := W2) (by rw [hW2]; exact (Below.refl _ _).alloc (Nat.le_refl _) _)
        have hnc : Hid (W2.cell? ⟨w2.heap.size, 0, none⟩ = some (.string s)) := by rw [hW2]; show _ = _; simp
        have hz2 : W2.heap.size = w2.heap.size + 1 := by rw [hW2]; simp
        have HU4 := (show Hid _ from HU3)
        clear HU3 HU2
        go_wp2_with (at_builtin; rw [← hW2]; refine wpList_append_lies W2 rfl _ _ 52 rfl b 9 i0 (.string ByteArray.empty) 1 16 Tryd.underlying52 hi hz0 hz1 hz2' rfl (by decide) (.slice x 0 cp) 0 (([] : List ByteArray).map Value.string) rfl (UnH.row HU4.out) ⟨w2.heap.size, 0, none⟩ 1 1 [.string s] rfl rfl (one_str hnc.out) one_strc (by decide) (by unfold maxLen; omega) (by omega) (UnH.bs HU4.out) _ rfl ?_)
        intro g cap1 w3 hown hgrow hat hgl
        try rw [← hW2] at hgrow
        try rw [← hW2] at hat
        have HU5 : Hid (UnH b w w3 C (.slice (some ⟨g, 0, none⟩) (0 + 1) cap1) ([] ++ [s]) (Em.eU ([] ++ [s]) false)) := UnH.more HU4.out hown hgrow (fun B hB => by
          have : g = B := by simpa [Value.ownBlock] using hB
          subst this
          rcases hat with h' | h'
          · exact Or.inl h'
          · exact Or.inr (by omega))
        clear HU4 hown hgrow hat hgl hnc hz2 hW2
        go_wp2
        go_roundw
        case rel => exact ⟨j + 1, [] ++ [s], by omega, by simp; try omega, by go_num, ⟨some ⟨g, 0, none⟩, cap1, by simp⟩, HU5⟩
        case measure => simp [intOf]; omega
      · have p1 : (s.size : Int) ≤ 260 := by omega
        have p2 : (us.length : Int) < 256 := by omega
        have p3 : ((us.length : Int) == 0) = false := by simp; exact List.ne_nil_of_length_pos (by omega)
        clear q1 q3
        rw [q4, q5, q6] at HA
        clear q4 q5 q6 hcs
        go_wp2_with fail
        refine HA.mono ?_
        rintro r w2 ⟨y, cy, rfl, hu⟩
        have HU2 : Hid (UnH b w w2 C (.slice x us.length cp) us (Em.eU (us ++ [s]) false)) := hu
        clear HA hu HU hs'
        obtain ⟨W2, hW2⟩ : ∃ W2, W2 = w2.alloc (.cells #[.string s] 9) := ⟨_, rfl⟩
        have HU3 := HU2.out.below (w' := W2) (by rw [hW2]; exact (Below.refl _ _).alloc (Nat.le_refl _) _)
        have hnc : Hid (W2.cell? ⟨w2.heap.size, 0, none⟩ = some (.string s)) := by rw [hW2]; show _ = _; simp
        have hz2 : W2.heap.size = w2.heap.size + 1 := by rw [hW2]; simp
        have HU4 := (show Hid _ from HU3)
        clear HU3 HU2
        go_wp2_with (at_builtin; rw [← hW2]; refine wpList_append_lies W2 rfl _ _ 52 rfl b 9 i0 (.string ByteArray.empty) 1 16 Tryd.underlying52 hi hz0 hz1 hz2' rfl (by decide) (.slice x us.length cp) us.length ((us : List ByteArray).map Value.string) rfl (UnH.row HU4.out) ⟨w2.heap.size, 0, none⟩ 1 1 [.string s] rfl rfl (one_str hnc.out) one_strc (by decide) (by unfold maxLen; omega) (by omega) (UnH.bs HU4.out) _ rfl ?_)
        intro g cap1 w3 hown hgrow hat hgl
        try rw [← hW2] at hgrow
        try rw [← hW2] at hat
        have HU5 : Hid (UnH b w w3 C (.slice (some ⟨g, 0, none⟩) (us.length + 1) cap1) (us ++ [s]) (Em.eU (us ++ [s]) false)) := UnH.more HU4.out hown hgrow (fun B hB => by
          have : g = B := by simpa [Value.ownBlock] using hB
          subst this
          rcases hat with h' | h'
          · exact Or.inl h'
          · exact Or.inr (by omega))
        clear HU4 hown hgrow hat hgl hnc hz2 hW2
        go_wp2
        go_roundw
        case rel => exact ⟨j + 1, us ++ [s], by omega, by simp; try omega, by go_num, ⟨some ⟨g, 0, none⟩, cap1, by simp⟩, HU5⟩
        case measure => simp [intOf]; omega
      · have p1 : ¬ ((s.size : Int) ≤ 260) := by omega
        have p2 : True := trivial
        have p3 : True := trivial
        clear q1
        rw [q4, q5, q6] at HA
        clear q4 q5 q6 hcs
        go_wp2_with fail
        refine HA.mono ?_
        rintro r w2 ⟨y, cy, rfl, hu⟩
        have HU2 : Hid (UnH b w w2 C (.slice x us.length cp) us (Em.eU us false)) := hu
        clear HA hu HU hs'
        go_wp2
        go_roundw
        case rel => exact ⟨j + 1, us, by omega, by omega, by go_num, ⟨x, cp, rfl⟩, HU2⟩
        case measure => simp [intOf]; omega
      · have p1 : (s.size : Int) ≤ 260 := by omega
        have p2 : ¬ ((us.length : Int) < 256) := by omega
        clear q1 q2
        rw [q4, q5, q6] at HA
        clear q4 q5 q6 hcs
        go_wp2_with fail
        refine HA.mono ?_
        rintro r w2 ⟨y, cy, rfl, hu⟩
        have HU2 : Hid (UnH b w w2 C (.slice x us.length cp) us (Em.eU us false)) := hu
        clear HA hu HU hs'
        go_wp2
        go_roundw
        case rel => exact ⟨j + 1, us, by omega, by omega, by go_num, ⟨x, cp, rfl⟩, HU2⟩
        case measure => simp [intOf]; omega
    · have hge : ¬ ((j : Int) < (m : Int)) := by omega
      clear hlt
      go_upto_if 67 with fail
      go_cut [68] from 69 to 69 (fun _ wx => Hid (UnH b w wx C (.slice x us.length cp) us (Em.eU us call)))
      case first =>
        cases call with
        | true =>
          have HA := unh_ask 0 ByteArray.empty (by decide) HU.out
          rw [Em.call_unit] at HA
          generalize (Em.ask (Em.eU us false) 0 ByteArray.empty).2 = cd at HA
          generalize (Em.ask (Em.eU us false) 0 ByteArray.empty).1.out.length = ln at HA
          go_wp2_with fail
          refine HA.mono ?_
          rintro r w2 ⟨y, cy, rfl, hu⟩
          have HU2 := (show Hid _ from hu)
          clear HA hu HU
          go_wp2_with fail
          go_meet
          case rel => exact HU2
        | false =>
          go_wp2_with fail
          go_meet
          case rel => exact HU
      have HU1 : Hid (UnH b w wc C (.slice x us.length cp) us (Em.eU us call)) := hcut
      clear hcut HU hge hjm
      obtain ⟨w1, hw1⟩ : ∃ w1, w1 = wc := ⟨_, rfl⟩
      rw [← hw1] at HU1 ⊢
      clear hw1 wc
      go_upto_region 15 with fail
      go_cut [1] from 70 to 72 (fun s1 wx => ∃ t : Int, s1 = .int .i64 t ∧ Hid (0 ≤ t ∧ t ≤ 126) ∧ wx = w1)
      case first =>
        have ht0 := HTE.out
        obtain ⟨z, hz⟩ : ∃ z, (if (0 : Int) < tei then tei else (0 : Int)) = z := ⟨_, rfl⟩
        have hz0 : 0 ≤ z := by rw [← hz]; split <;> omega
        have hz1 : z ≤ 9223372036854775807 := by rw [← hz]; split <;> omega
        obtain ⟨t, htt⟩ : ∃ t, z % 127 = t := ⟨_, rfl⟩
        have htm : z.tmod 127 = t := by rw [Int.tmod_eq_emod_of_nonneg hz0]; exact htt
        have HR1 : Hid (0 ≤ t ∧ t ≤ 126) := by show _ ∧ _; omega
        go_wp2
        go_meet
        case rel => exact ⟨t, rfl, HR1, rfl⟩
      obtain ⟨t, rfl, HTT, hwc⟩ := hcut
      rw [hwc]
      clear hwc wc HTE
      have HV := unh_view HU1.out
      unfold evV at HV
      rw [show (Em.eU us call).units.length = us.length from rfl] at HV
      go_wp2_with fail
      refine HV.mono ?_
      rintro r w2 ⟨rfl, hb⟩
      have hfv := efield6 w2
      have HU2 := (show Hid _ from HU1.out.below hb)
      clear HV hb HU1
      obtain ⟨a1, a2, l, a3, a4, a5⟩ := Em.assign_unit us call t HTT.out.1 HTT.out.2
      have HA := unh_assign t (by have := HTT.out; omega) (by have := HTT.out; omega) HU2.out
      rw [a1, a3, List.length_append, List.length_map, a4] at HA
      have HU0 : Hid (({ (Em.assign (Em.eU us call) t).1 with out := [] } : Em.St).units.length = 0) := a2
      clear a1 a2 a3
      generalize ({ (Em.assign (Em.eU us call) t).1 with out := [] } : Em.St) = e3 at HA HU0
      have HA5 := (show Hid _ from a5)
      have HA4 := (show Hid _ from a4)
      clear a4 a5
      go_wp2_with fail
      cases call with
      | true =>
        rw [if_pos rfl] at HA
        obtain ⟨N, hN⟩ : ∃ N, N = us.length + 2 := ⟨_, rfl⟩
        rw [← hN] at HA
        have HN : Hid (N = us.length + 2) := hN
        have f1 : ¬ ((N : Int) < (us.length : Int)) := by omega
        have f2 : ((us.length : Int) < (N : Int)) := by omega
        have hN512 : N ≤ 512 := by omega
        clear hN
        refine HA.mono ?_
        rintro r w3 ⟨y, cy, rfl, ho, hu⟩
        have HO3 : Hid (w3.ownsRow b 58 11 (.slice y N cy) N (effsL (us.map (Em.uE t) ++ l))) := ho
        have HU3 := (show Hid _ from hu)
        clear HA ho hu HU2 hfv
        go_wp2_with fail
        refine (ewakes_any w3 (HW.out.later (by have := UnH.bel HU3.out; rw [HC.out] at this; exact this))).mono ?_
        rintro r w4 ⟨rfl, hb⟩
        have HU4 := (show Hid _ from UnH.below HU3.out hb)
        have HO4 : Hid (w4.ownsRow b 58 11 (.slice y N cy) N (effsL (us.map (Em.uE t) ++ l))) := (Kept.of_below (T := fun _ => False) hb (fun k hk h' => by omega)).owns HO3.out (fun _ _ x => x)
        clear hb HU3 HO3
        go_wp2_with fail
        have HU4' : Hid (UnH b w w4 C (.slice x us.length cp) us e3) := HU4.out
        clear HU4
        go_loopw [109] (fun c wr => ∃ i : Nat, i ≤ us.length ∧ c = .int .i64 i ∧ Hid (UnH b w wr C (.slice x us.length cp) us e3) ∧ Hid (wr.ownsRow b 58 11 (.slice y N cy) N (effsL (us.map (Em.uE t) ++ l)))) (fun c _ => us.length - (intOf c).toNat)
        case atStart => exact ⟨0, Nat.zero_le _, rfl, HU4', HO4⟩
        case round =>
          obtain ⟨i, hi, rfl, HU, HO⟩ := hrel
          clear HU4' HO4
          by_cases hin : i < us.length
          · obtain ⟨g1, c1, hv1, _, hg1⟩ := World.ownsRow.form (UnH.row HU.out) (by omega)
            injection hv1 with e1 _ e2
            subst e1 e2
            obtain ⟨g2, c2, hv2, _, hg2⟩ := World.ownsRow.form HO.out (by omega)
            injection hv2 with e1 _ e2
            subst e1 e2
            have hle : us.length ≤ cp := World.ownsRow.cap_le (UnH.row HU.out)
            have hle2 : N ≤ cy := World.ownsRow.cap_le HO.out
            have x0 : wr.cell? ⟨g1, i, none⟩ = some (.string (us.getD i ByteArray.empty)) := (World.ownsRow.cellAt (UnH.row HU.out) i (by omega)).trans (strs_get us i hin)
            have hE : ∀ k u, k < 11 → (effL (Em.uE t (us.getD i ByteArray.empty)))[k]? = some u → wr.cell? ⟨g2, i * 11 + k, none⟩ = some u := fun k u hk hu => (World.ownsRow.cellAt HO.out (i * 11 + k) (by omega)).trans ((effsL_at _ i k (by simp; omega) hk).trans (by rw [uE_at us l t i hin]; exact hu))
            have z1 := hE 1 _ (by decide) rfl
            have z2 := hE 2 _ (by decide) rfl
            have z3 := hE 3 _ (by decide) rfl
            have z4 := hE 4 _ (by decide) rfl
            have z5 := hE 5 _ (by decide) rfl
            have z6 := hE 6 _ (by decide) rfl
            have z7 := hE 7 _ (by decide) rfl
            have z8 := hE 8 _ (by decide) rfl
            clear hE
            simp only [Em.uE] at z1 z2 z3 z4 z5 z6 z7 z8
            generalize us.getD i ByteArray.empty = s at x0 z8
            have hi512 : i ≤ 512 := by omega
            have hiN : i < N := by have := HN.out; omega
            have HUb := (show Hid _ from UnH.below HU.out ((Below.refl wr.heap.size wr).alloc (Nat.le_refl _) (.cells #[.int .i64 0, .int .i64 t, .bool true, .int .i64 6, .bool false, .int .i64 0, .int .i64 0, .string s] 31)))
            have HOb : Hid (World.ownsRow (wr.alloc (.cells #[.int .i64 0, .int .i64 t, .bool true, .int .i64 6, .bool false, .int .i64 0, .int .i64 0, .string s] 31)) b 58 11 (.slice (some ⟨g2, 0, none⟩) N cy) N (effsL (us.map (Em.uE t) ++ l))) := (Kept.of_below (T := fun _ => False) ((Below.refl wr.heap.size wr).alloc (Nat.le_refl _) _) (fun k hk h' => by omega)).owns HO.out (fun _ _ x => x)
            go_wp2_with fail
            go_roundw
            case rel => exact ⟨i + 1, by omega, by go_num, HUb, HOb⟩
            case measure => simp [intOf]; omega
          · have hie : i = us.length := by omega
            subst hie
            have HV := unh_view HU.out
            unfold evV at HV
            rw [HU0.out] at HV
            obtain ⟨ff, xx, hl, hfk⟩ := HA5.out (by first | trivial | rfl)
            obtain ⟨g2, c2, hv2, _, hg2⟩ := World.ownsRow.form HO.out (by have := HN.out; omega)
            injection hv2 with e1 _ e2
            subst e1 e2
            have hle2 : N ≤ cy := World.ownsRow.cap_le HO.out
            have hiN : us.length < N := by have := HN.out; omega
            have x4 : wr.cell? ⟨g2, us.length * 11 + 4, none⟩ = some (.int .i64 4) := by
              refine (World.ownsRow.cellAt HO.out (us.length * 11 + 4) (by omega)).trans ((effsL_at _ us.length 4 (by rw [hl]; simp) (by decide)).trans ?_)
              rw [hl, ← hfk]
              simp [effL, List.getD]
            clear hl hfk ff xx
            clear HO hi hin
            go_wp2_with fail
            refine HV.mono ?_
            rintro r w5 ⟨rfl, hb⟩
            have hfv := efield6 w5
            have HB5 : Hid (Below w.heap.size w w5) := by
              have := UnH.bel (UnH.below HU.out hb)
              rw [HC.out] at this
              exact this
            have y4 : w5.cell? ⟨g2, us.length * 11 + 4, none⟩ = some (.int .i64 4) := (hb.cell (p := ⟨g2, us.length * 11 + 4, none⟩) hg2).trans x4
            have yl2 : g2 < w5.heap.size := Nat.lt_of_lt_of_le hg2 hb.size
            clear x4 hg2
            clear HV hb HU
            go_wp2
            go_ret
            exact ⟨rfl, HB5.out⟩
      | false =>
        rw [if_neg (by decide)] at HA
        obtain ⟨N, hN⟩ : ∃ N, N = us.length + 0 := ⟨_, rfl⟩
        rw [← hN] at HA
        have HN : Hid (N = us.length + 0) := hN
        have f1 : ¬ ((N : Int) < (us.length : Int)) := by omega
        have f2 : ¬ ((us.length : Int) < (N : Int)) := by omega
        have hN512 : N ≤ 512 := by omega
        clear hN
        refine HA.mono ?_
        rintro r w3 ⟨y, cy, rfl, ho, hu⟩
        have HO3 : Hid (w3.ownsRow b 58 11 (.slice y N cy) N (effsL (us.map (Em.uE t) ++ l))) := ho
        have HU3 := (show Hid _ from hu)
        clear HA ho hu HU2 hfv
        go_wp2_with fail
        refine (ewakes_any w3 (HW.out.later (by have := UnH.bel HU3.out; rw [HC.out] at this; exact this))).mono ?_
        rintro r w4 ⟨rfl, hb⟩
        have HU4 := (show Hid _ from UnH.below HU3.out hb)
        have HO4 : Hid (w4.ownsRow b 58 11 (.slice y N cy) N (effsL (us.map (Em.uE t) ++ l))) := (Kept.of_below (T := fun _ => False) hb (fun k hk h' => by omega)).owns HO3.out (fun _ _ x => x)
        clear hb HU3 HO3
        go_wp2_with fail
        have HU4' : Hid (UnH b w w4 C (.slice x us.length cp) us e3) := HU4.out
        clear HU4
        go_loopw [109] (fun c wr => ∃ i : Nat, i ≤ us.length ∧ c = .int .i64 i ∧ Hid (UnH b w wr C (.slice x us.length cp) us e3) ∧ Hid (wr.ownsRow b 58 11 (.slice y N cy) N (effsL (us.map (Em.uE t) ++ l)))) (fun c _ => us.length - (intOf c).toNat)
        case atStart => exact ⟨0, Nat.zero_le _, rfl, HU4', HO4⟩
        case round =>
          obtain ⟨i, hi, rfl, HU, HO⟩ := hrel
          clear HU4' HO4
          by_cases hin : i < us.length
          · obtain ⟨g1, c1, hv1, _, hg1⟩ := World.ownsRow.form (UnH.row HU.out) (by omega)
            injection hv1 with e1 _ e2
            subst e1 e2
            obtain ⟨g2, c2, hv2, _, hg2⟩ := World.ownsRow.form HO.out (by omega)
            injection hv2 with e1 _ e2
            subst e1 e2
            have hle : us.length ≤ cp := World.ownsRow.cap_le (UnH.row HU.out)
            have hle2 : N ≤ cy := World.ownsRow.cap_le HO.out
            have x0 : wr.cell? ⟨g1, i, none⟩ = some (.string (us.getD i ByteArray.empty)) := (World.ownsRow.cellAt (UnH.row HU.out) i (by omega)).trans (strs_get us i hin)
            have hE : ∀ k u, k < 11 → (effL (Em.uE t (us.getD i ByteArray.empty)))[k]? = some u → wr.cell? ⟨g2, i * 11 + k, none⟩ = some u := fun k u hk hu => (World.ownsRow.cellAt HO.out (i * 11 + k) (by omega)).trans ((effsL_at _ i k (by simp; omega) hk).trans (by rw [uE_at us l t i hin]; exact hu))
            have z1 := hE 1 _ (by decide) rfl
            have z2 := hE 2 _ (by decide) rfl
            have z3 := hE 3 _ (by decide) rfl
            have z4 := hE 4 _ (by decide) rfl
            have z5 := hE 5 _ (by decide) rfl
            have z6 := hE 6 _ (by decide) rfl
            have z7 := hE 7 _ (by decide) rfl
            have z8 := hE 8 _ (by decide) rfl
            clear hE
            simp only [Em.uE] at z1 z2 z3 z4 z5 z6 z7 z8
            generalize us.getD i ByteArray.empty = s at x0 z8
            have hi512 : i ≤ 512 := by omega
            have hiN : i < N := by have := HN.out; omega
            have HUb := (show Hid _ from UnH.below HU.out ((Below.refl wr.heap.size wr).alloc (Nat.le_refl _) (.cells #[.int .i64 0, .int .i64 t, .bool true, .int .i64 6, .bool false, .int .i64 0, .int .i64 0, .string s] 31)))
            have HOb : Hid (World.ownsRow (wr.alloc (.cells #[.int .i64 0, .int .i64 t, .bool true, .int .i64 6, .bool false, .int .i64 0, .int .i64 0, .string s] 31)) b 58 11 (.slice (some ⟨g2, 0, none⟩) N cy) N (effsL (us.map (Em.uE t) ++ l))) := (Kept.of_below (T := fun _ => False) ((Below.refl wr.heap.size wr).alloc (Nat.le_refl _) _) (fun k hk h' => by omega)).owns HO.out (fun _ _ x => x)
            go_wp2_with fail
            go_roundw
            case rel => exact ⟨i + 1, by omega, by go_num, HUb, HOb⟩
            case measure => simp [intOf]; omega
          · have hie : i = us.length := by omega
            subst hie
            have HV := unh_view HU.out
            unfold evV at HV
            rw [HU0.out] at HV
            clear HO hi hin
            go_wp2_with fail
            refine HV.mono ?_
            rintro r w5 ⟨rfl, hb⟩
            have hfv := efield6 w5
            have HB5 : Hid (Below w.heap.size w w5) := by
              have := UnH.bel (UnH.below HU.out hb)
              rw [HC.out] at this
              exact this
            clear HV hb HU
            go_wp2
            go_ret
            exact ⟨rfl, HB5.out⟩
end Go.Proofs.YtdfoicngcahajaaDoor
