/-
  The walk of the law UserPlays: it returns true.
-/
import Derived.Test.YtdnhcpkpajbhoaaUsrAct
import Derived.Test.YtdnhcpkpajbhoaaUActRows
import Derived.Test.YtdnhcpkpajbhoaaRegionFlag
import Derived.Deep.DeepCutAuto
namespace Go.Proofs.Ytdnhcpkpajbhoaa
open Go.RowKit
set_option linter.unusedVariables false
set_option linter.unusedSimpArgs false
set_option maxRecDepth 100000

/-! ### what is done behind what, in a region that draws its order -/
def Ord (L : List (Nat × Nat)) (l : Array Bool) : Prop := ∀ p, p ∈ L → l.getD p.1 false = true → l.getD p.2 false = true
theorem set_keeps {l : Array Bool} {i j : Nat} (h : l.getD j false = true) : (l.setIfInBounds i true).getD j false = true := by
  by_cases e : j = i
  · subst e
    have : j < l.size := by
      rcases Nat.lt_or_ge j l.size with h1 | h1
      · exact h1
      · rw [Array.getD_eq_getD_getElem?, Array.getElem?_eq_none h1] at h; exact absurd h (by decide)
    simp [this]
  · rw [flg_other e]; exact h
theorem Ord.step {L : List (Nat × Nat)} {md : Region.Mode} {ops : Array Oper} {l : Array Bool} {i : Nat} (h : Ord L l) (hr : i ∈ Region.ready md ops l) (hd : ∀ p ∈ L, p.1 = i → p.2 ∈ depsOf md ops i) : Ord L (l.setIfInBounds i true) := by
  intro p hp hl
  by_cases e : p.1 = i
  · exact set_keeps (ready_deps hr p.2 (hd p hp e))
  · rw [flg_other e] at hl
    exact set_keeps (h p hp hl)
theorem Ord.start (L : List (Nat × Nat)) (N : Nat) : Ord L (Array.replicate N false) := fun p _ hl => absurd ((rep_getD' N p.1).symm.trans hl) (by decide)
structure PlayJ (b N : Nat) (W0 : World) (C D : Nat) (G : Option Nat) (R S A : Nat) (s t : Um.St) (q : ActU) (l : Array Bool) (w : World) : Prop where
  yet : l.getD 3 false = false → PairU b N W0 w C D G R S s ∧ q.At w A 0 ∧ A < w.heap.size
  did : l.getD 3 false = true → PairU b N W0 w C D G R S t
  ord : Ord [(3, 2), (4, 3), (5, 4)] l
section
variable {b N : Nat} {W0 w w' : World} {C D : Nat} {G : Option Nat} {R S A : Nat} {s t : Um.St} {q : ActU} {l : Array Bool} {i : Nat} {md : Region.Mode} {ops : Array Oper}
theorem PlayJ.same (h : PlayJ b N W0 C D G R S A s t q l w) (hr : i ∈ Region.ready md ops l) (hi : 3 ≠ i) (hd : ∀ p ∈ [(3, 2), (4, 3), (5, 4)], p.1 = i → p.2 ∈ depsOf md ops i) : PlayJ b N W0 C D G R S A s t q (l.setIfInBounds i true) w :=
  ⟨fun hl => h.yet ((flg_other hi).symm.trans hl), fun hl => h.did ((flg_other hi).symm.trans hl), h.ord.step hr hd⟩
theorem PlayJ.look (h : PlayJ b N W0 C D G R S A s t q l w) (hr : i ∈ Region.ready md ops l) (hi : 3 ≠ i) (hd : ∀ p ∈ [(3, 2), (4, 3), (5, 4)], p.1 = i → p.2 ∈ depsOf md ops i) (hb : Below w.heap.size w w') : PlayJ b N W0 C D G R S A s t q (l.setIfInBounds i true) w' :=
  ⟨fun hl => by
    obtain ⟨h1, h2, h3⟩ := h.yet ((flg_other hi).symm.trans hl)
    exact ⟨h1.below hb, h2.below hb h3, Nat.lt_of_lt_of_le h3 hb.size⟩, fun hl => (h.did ((flg_other hi).symm.trans hl)).below hb, h.ord.step hr hd⟩
theorem PlayJ.on5 (h : PlayJ b N W0 C D G R S A s t q l w) (h5 : l.getD 5 false = true) : PairU b N W0 w C D G R S t :=
  h.did (h.ord (4, 3) (by decide) (h.ord (5, 4) (by decide) h5))
theorem PlayJ.two (h : PlayJ b N W0 C D G R S A s t q l w) (hr : 2 ∈ Region.ready md ops l) : q.At w A 0 ∧ A < w.heap.size := by
  have h2 := (flg_yet hr).1
  have h3 : l.getD 3 false = false := by
    cases e : l.getD 3 false with
    | false => rfl
    | true => exact absurd (h2.symm.trans (h.ord (3, 2) (by decide) e)) (by decide)
  exact (h.yet h3).2
theorem PlayJ.three (h : PlayJ b N W0 C D G R S A s t q l w) (hr : 3 ∈ Region.ready md ops l) (hd : ∀ p ∈ [(3, 2), (4, 3), (5, 4)], p.1 = 3 → p.2 ∈ depsOf md ops 3) : PairU b N W0 w C D G R S s ∧ ∀ w', PairU b N W0 w' C D G R S t → PlayJ b N W0 C D G R S A s t q (l.setIfInBounds 3 true) w' :=
  ⟨(h.yet (flg_yet hr).1).1, fun w' ha => ⟨fun hl => absurd ((flg_yet hr).2.symm.trans hl) (by decide), fun _ => ha, h.ord.step hr hd⟩⟩
end
/-- the document's source of a seed alone -/
theorem rsnew_none (x : Int) (w : World) (hlo : 0 ≤ x) (hhi : x < 18446744073709551616) :
    Calls Try.prog 12 #[.int .u64 x, .slice none 0 0] w fun e w' => ∃ R, e = .returned (.pointer (some ⟨R, 0, none⟩)) ∧ Rs w' R none [] 0 x ∧ Below w.heap.size w w' ∧ w.heap.size ≤ R := by
  obtain ⟨W1, hW1⟩ : ∃ W1, W1 = w.alloc (.cells #[.slice none 0 0, .int .i64 0, .int .u64 x] 70) := ⟨_, rfl⟩
  have HB1 : Hid (Below w.heap.size w W1) := by rw [hW1]; exact (Below.refl _ _).alloc (Nat.le_refl _) _
  have HR1 : Hid (Rs W1 w.heap.size none [] 0 x) := by rw [hW1]; exact new_rs w _ x hlo hhi
  clear hlo hhi
  go_enter Try.func12, Try.ntmps12
  go_wp2
  rw [← hW1]
  clear hW1
  go_loopw [6] (fun c wr => c = .int .i64 0 ∧ wr = W1) (fun c _ => 0)
  case atStart => exact ⟨rfl, rfl⟩
  case round =>
    obtain ⟨rfl, hwr⟩ := hrel
    rw [hwr]
    go_wp2
    go_ret
    exact ⟨_, rfl, HR1.out, HB1.out, Nat.le_refl _⟩

def uplayD : Nat → Option Nat | 0 => some 31 | 1 => some 32 | 2 => some 33 | 3 => some 34 | 4 => some 35 | 5 => some 36 | 6 => some 37 | 7 => some 38 | 8 => some 39 | 9 => some 40 | 10 => some 41 | 11 => some 42 | 12 => some 43 | 13 => some 44 | 14 => some 45 | 15 => some 46 | 16 => some 47 | 17 => some 48 | 18 => some 49 | 19 => some 50 | 20 => some 51 | 21 => some 52 | 22 => some 53 | 23 => some 54 | 24 => some 55 | 25 => some 56 | 26 => some 57 | _ => none
def uplayV (C R A : Nat) (t : Um.St) (q : ActU) : Nat → Value | 0 => .pointer (some ⟨C, 0, none⟩) | 1 => .pointer (some ⟨R, 0, none⟩) | 2 => .agg #[.int .i64 q.d, .int .i64 q.ty, .int .i64 q.ri, .int .i64 q.ai, .bool q.own, .bool q.mine] | 3 => .bool true | 4 => .bool false | 5 => .bool false | 6 => .pointer (some ⟨C, 0, none⟩) | 7 => .agg #[.int .i64 t.tei, .bool t.asks, .int .i64 t.ri, .int .i64 t.tries] | 8 => .pointer (some ⟨R, 0, none⟩) | 9 => .pointer (some ⟨R, 0, none⟩) | 10 => .pointer (some ⟨R, 1, none⟩) | 11 => .int .i64 t.tei | 12 => .pointer (some ⟨R, 0, none⟩) | 13 => .pointer (some ⟨R, 0, none⟩) | 14 => .pointer (some ⟨R, 2, none⟩) | 15 => .bool t.asks | 16 => .pointer (some ⟨R, 0, none⟩) | 17 => .pointer (some ⟨R, 0, none⟩) | 18 => .pointer (some ⟨R, 3, none⟩) | 19 => .int .i64 t.ri | 20 => .pointer (some ⟨R, 0, none⟩) | 21 => .pointer (some ⟨R, 0, none⟩) | 22 => .pointer (some ⟨R, 4, none⟩) | 23 => .int .i64 t.tries | 24 => .agg #[.int .i64 t.tei, .bool t.asks, .int .i64 t.ri, .int .i64 t.tries] | 25 => .bool false | 26 => .bool false | _ => undef
theorem uplayD_inj : ∀ i j d, i < 27 → j < 27 → uplayD i = some d → uplayD j = some d → i = j := by
  have h : ∀ i < 27, ∀ j < 27, uplayD i = uplayD j → i = j := by decide
  intro i j d hi hj h1 h2
  exact h i hi j hj (h1.trans h2.symm)
theorem uplayD_lt : ∀ i d, i < 27 → uplayD i = some d → d < 59 := by
  have h : ∀ i < 27, (uplayD i).all (· < 59) = true := by decide
  intro i d hi hd
  have := h i hi
  rw [hd] at this
  simpa using this
set_option maxHeartbeats 4000000 in
theorem walk_UserPlays (n x0 : Int) (a : Option Addr) (len cap : Nat) (ps : List ActU) (w : World) (hn : -9223372036854775808 ≤ n ∧ n ≤ 9223372036854775807) (hx : 0 ≤ x0 ∧ x0 ≤ 18446744073709551615) (hr : RowU w a len cap ps) :
    Calls Try.prog 3 #[.int .i64 n, .int .u64 x0, .slice a len cap] w fun r w' => r = .returned (.bool true) ∧ Below w.heap.size w w' := by
  have hlc : len ≤ cap := hr.2.1
  have hcm : cap ≤ 9223372036854775807 := by have := hr.2.2.1; unfold maxLen at this; exact this
  have HR : Hid (∀ j, j < len → ∃ (bb off : Nat) (q : ActU), a = some ⟨bb, off, none⟩ ∧ bb < w.heap.size ∧ q = ps.getD j actu0 ∧ q.At w bb (off + j * 6) ∧ q.Ok) := fun j hj => hr.at j hj
  clear hr
  obtain ⟨m, hm50, hml, hmin⟩ : ∃ m : Nat, m ≤ 100 ∧ m ≤ len ∧ m = min len 100 := ⟨min len 100, by omega, by omega, rfl⟩
  have hmm : (if (100 : Int) < (len : Int) then (100 : Int) else (len : Int)) = (m : Int) := by split <;> omega
  clear hmin
  have hfr : a.map (·.add 0) = a := by
    cases a with
    | none => rfl
    | some x => simp [Addr.add]
  have HDn := dnew_none x0 w hx.1 (by omega)
  have HX : Hid (0 ≤ x0 ∧ x0 < 18446744073709551616) := ⟨hx.1, by omega⟩
  clear hx
  go_enter Try.func3, Try.ntmps3
  go_wp2_with fail
  refine HDn.mono ?_
  rintro r w1 ⟨D, G, rfl, h1, h2, h3, h4⟩
  have HUn := ownu_new (b := w.heap.size) (W0 := w) n h1 (fun B hB => (h4 B hB).2) h3 h2 h2.size
  clear h1 h2 h3 h4 HDn
  go_wp2_with fail
  refine HUn.mono ?_
  rintro r w2 ⟨C, rfl, O2, -⟩
  have HO2 : Hid (OwnU w.heap.size w w2 C D G (Um.new n false [] x0)) := O2
  have HRn := rsnew_none x0 w2 HX.out.1 HX.out.2
  clear O2 HUn
  go_wp2_with fail
  refine HRn.mono ?_
  rintro r w3 ⟨S, rfl, h1, h2, h3⟩
  have HN3 := rnewu_any n S x0 w3 h1
  have HO3 : Hid (OwnU w.heap.size w w3 C D G (Um.new n false [] x0) ∧ w2.heap.size ≤ S ∧ w2.heap.size ≤ w3.heap.size) := ⟨HO2.out.below h2, h3, h2.size⟩
  clear h1 h2 h3 HRn
  go_wp2_with fail
  refine HN3.mono ?_
  rintro r w4 ⟨R, rfl, h1, h2, h3⟩
  obtain ⟨b, hb⟩ : ∃ b, b = w.heap.size := ⟨_, rfl⟩
  have hP : PairU w.heap.size w2.heap.size w w4 C D G R S (Um.new n false [] x0) := by
    obtain ⟨p1, p2, p3⟩ := HO3.out
    exact ⟨⟨HO2.out.us.lt, HO2.out.us.dl, fun B hB => HO2.out.us.gl B hB, by omega, p2, HO2.out.bs⟩, p1.below h2, h1.toC⟩
  rw [← hb] at hP
  have HC : Hid (b = w.heap.size) := hb
  have HP4 : Hid (PairU b w2.heap.size w w4 C D G R S (Um.new n false [] x0)) := hP
  clear h1 h2 h3 HN3 HO3 HO2 hP hb HX
  go_wp2_with fail
  refine (uwakes_any w4).mono ?_
  rintro r w5 ⟨rfl, hb5⟩
  obtain ⟨N, hN⟩ : ∃ N, N = w2.heap.size := ⟨_, rfl⟩
  rw [← hN] at HP4
  have HP5 : Hid (∃ s, PairU b N w w5 C D G R S s) := ⟨_, HP4.out.below hb5⟩
  clear hb5 HP4 hN
  go_wp2
  clear hfr hmm
  go_loopw [27] (fun c wr => ∃ j : Nat, j ≤ m ∧ c = .int .i64 j ∧ Hid (∃ s, PairU b N w wr C D G R S s)) (fun c _ => m - (intOf c).toNat)
  case atStart => exact ⟨0, Nat.zero_le _, rfl, HP5⟩
  case round =>
    obtain ⟨j, hjm, rfl, HS⟩ := hrel
    clear HP5
    obtain ⟨s, hO⟩ := HS.out
    have HO := (show Hid (PairU b N w wr C D G R S s) from hO)
    clear hO HS
    by_cases hin : j < m
    · obtain ⟨bb, off, q, rfl, hbb, -, hq, hok⟩ := HR.out j (by omega)
      obtain ⟨q0, q1, q2, q3, q4, q5⟩ := hq.below HO.out.o.bel (by rw [HC.out]; exact hbb)
      have hbr : bb < wr.heap.size := by have := HO.out.o.bs; have := HC.out; omega
      have HA0 : Hid (∀ w', PairU b N w w' C D G R S s → Calls Try.prog 14 #[.pointer (some ⟨C, 0, none⟩), .pointer (some ⟨R, 0, none⟩), .agg #[.int .i64 q.d, .int .i64 q.ty, .int .i64 q.ri, .int .i64 q.ai, .bool q.own, .bool q.mine]] w' fun r w'' => r = .returned (.bool true) ∧ PairU b N w w'' C D G R S (Um.act s (q.d.tmod 6) q.ty q.ri q.ai q.own q.mine)) := fun w' h => uact_any q.d q.ty q.ri q.ai q.own q.mine hok.d.1 hok.d.2 h
      obtain ⟨t, ht⟩ : ∃ t, Um.act s (q.d.tmod 6) q.ty q.ri q.ai q.own q.mine = t := ⟨_, rfl⟩
      rw [ht] at HA0
      have HA := HA0
      obtain ⟨W3, hW3⟩ : ∃ W3, W3 = wr.alloc (.cells #[.int .i64 q.d, .int .i64 q.ty, .int .i64 q.ri, .int .i64 q.ai, .bool q.own, .bool q.mine] 34) := ⟨_, rfl⟩
      have hb3 : Below wr.heap.size wr W3 := by rw [hW3]; exact (Below.refl _ _).alloc (Nat.le_refl _) _
      have HP3 : Hid (PairU b N w W3 C D G R S s) := HO.out.below hb3
      have HQ3 : Hid (ActU.At q W3 wr.heap.size 0 ∧ wr.heap.size < W3.heap.size) := by
        rw [hW3]
        exact ⟨⟨by simp, by simp, by simp, by simp, by simp, by simp⟩, by simp⟩
      clear ht HA0 hq hok HR HO hb3
      go_upto_region 7 with fail
      rw [← hW3]
      clear hW3 q0 q1 q2 q3 q4 q5 hbr
      generalize wr.heap.size = A at *
      refine region_vals (by kernel_rfl) 27 rfl uplayD (uplayV C R A t q) uplayD_inj ?hd ?hlow (PlayJ b N w C D G R S A s t q) ?h0 ?hstep ?hdone
      case hd => exact uplayD_lt
      case hlow => kernel_rfl
      case h0 => exact ⟨fun _ => ⟨HP3.out.below (Below.refl _ _).drew, HQ3.out.1.below (Below.refl _ _).drew HQ3.out.2, by simpa using HQ3.out.2⟩, fun hl => absurd ((rep_getD' 27 3).symm.trans hl) (by decide), Ord.start _ _⟩
      case hstep =>
        intro l fa w1 i hi hJ hr hK
        have r7 : fa.eval (.tmp 7) = .pointer (some ⟨C, 0, none⟩) := hK.rest 7 (by decide)
        have r8 : fa.eval (.tmp 8) = .pointer (some ⟨R, 0, none⟩) := hK.rest 8 (by decide)
        have r10 : fa.eval (.tmp 10) = .pointer (some ⟨A, 0, none⟩) := hK.rest 10 (by decide)
        have got : ∀ j, j ∈ depsOf .any _ i → ∀ d', uplayD j = some d' → j < 27 → fa.eval (.tmp d') = uplayV C R A t q j := fun j hj d' hd hj' => hK.got j d' hj' (ready_deps hr j hj) hd
        match i, hi, hr, got with
        | 0, _, hr, got => exact stepw_val rfl (wanted_none rfl) (runw_move rfl r7 w1) rfl (hJ.same hr (by decide) (by decide))
        | 1, _, hr, got => exact stepw_val rfl (wanted_none rfl) (runw_move rfl r8 w1) rfl (hJ.same hr (by decide) (by decide))
        | 2, _, hr, got => exact stepw_val rfl (wanted_none rfl) (by have qc : ∀ v, fa.eval (.const v) = v := fun _ => rfl; have q10 : fa.eval (.tmp 10) = .pointer (some ⟨A, 0, none⟩) := r10; have z := (hJ.two hr); have z0 := (z.1.d : w1.cell? ⟨A, 0, none⟩ = some (.int .i64 q.d)); have z1 := (z.1.ty : w1.cell? ⟨A, 1, none⟩ = some (.int .i64 q.ty)); have z2 := (z.1.ri : w1.cell? ⟨A, 2, none⟩ = some (.int .i64 q.ri)); have z3 := (z.1.ai : w1.cell? ⟨A, 3, none⟩ = some (.int .i64 q.ai)); have z4 := (z.1.own : w1.cell? ⟨A, 4, none⟩ = some (.bool q.own)); have z5 := (z.1.mine : w1.cell? ⟨A, 5, none⟩ = some (.bool q.mine)); have zl := z.2; show (execOp fa.eval _).run Try.prog w1 = .ok (.value (.agg #[.int .i64 q.d, .int .i64 q.ty, .int .i64 q.ri, .int .i64 q.ai, .bool q.own, .bool q.mine])) w1; generalize fa.eval = ρ at qc q10 ⊢; unfold execOp; simp only [qc, q10]; go_simp) rfl (hJ.same hr (by decide) (by decide))
        | 3, _, hr, got => exact stepw_call rfl (wanted_none rfl) (by have qc : ∀ v, fa.eval (.const v) = v := fun _ => rfl; have q31 : fa.eval (.tmp 31) = .pointer (some ⟨C, 0, none⟩) := (got 0 (by decide) 31 rfl (by decide)); have q32 : fa.eval (.tmp 32) = .pointer (some ⟨R, 0, none⟩) := (got 1 (by decide) 32 rfl (by decide)); have q33 : fa.eval (.tmp 33) = .agg #[.int .i64 q.d, .int .i64 q.ty, .int .i64 q.ri, .int .i64 q.ai, .bool q.own, .bool q.mine] := (got 2 (by decide) 33 rfl (by decide)); have qf : fa.eval (.func 14) = .func (.func 14) #[] #[] := rfl; show (execOp fa.eval _).run Try.prog w1 = .ok (.enter 14 #[.pointer (some ⟨C, 0, none⟩), .pointer (some ⟨R, 0, none⟩), .agg #[.int .i64 q.d, .int .i64 q.ty, .int .i64 q.ri, .int .i64 q.ai, .bool q.own, .bool q.mine]]) w1; generalize fa.eval = ρ at qf qc q31 q32 q33 ⊢; unfold execOp; simp only [resolve, qf, qc, q31, q32, q33, List.map_toArray, List.map_cons, List.map_nil]; go_simp) rfl ((HA.out w1 (hJ.three hr (by decide)).1).mono fun e w' h => ⟨h.1, (hJ.three hr (by decide)).2 w' h.2⟩)
        | 4, _, hr, got => exact stepw_val rfl (wanted_none rfl) (by have qc : ∀ v, fa.eval (.const v) = v := fun _ => rfl; have q34 : fa.eval (.tmp 34) = .bool true := (got 3 (by decide) 34 rfl (by decide)); show (execOp fa.eval _).run Try.prog w1 = .ok (.value (.bool false)) w1; generalize fa.eval = ρ at qc q34 ⊢; unfold execOp; simp only [qc, q34]; go_simp) rfl (hJ.same hr (by decide) (by decide))
        | 5, _, hr, got => exact stepw_val rfl (wanted_none rfl) (runw_move rfl (got 4 (by decide) 35 rfl (by decide)) w1) rfl (hJ.same hr (by decide) (by decide))
        | 6, _, hr, got => exact stepw_val rfl (wanted_some (j := 5) rfl rfl rfl (got 5 (by decide) 36 rfl (by decide))) (runw_move rfl r7 w1) rfl (hJ.same hr (by decide) (by decide))
        | 7, _, hr, got => exact stepw_call rfl (wanted_some (j := 5) rfl rfl rfl (got 5 (by decide) 36 rfl (by decide))) (by have qc : ∀ v, fa.eval (.const v) = v := fun _ => rfl; have q37 : fa.eval (.tmp 37) = .pointer (some ⟨C, 0, none⟩) := (got 6 (by decide) 37 rfl (by decide)); have qf : fa.eval (.func 15) = .func (.func 15) #[] #[] := rfl; show (execOp fa.eval _).run Try.prog w1 = .ok (.enter 15 #[.pointer (some ⟨C, 0, none⟩)]) w1; generalize fa.eval = ρ at qf qc q37 ⊢; unfold execOp; simp only [resolve, qf, qc, q37, List.map_toArray, List.map_cons, List.map_nil]; go_simp) rfl ((ownu_view (hJ.on5 (ready_deps hr 5 (by decide))).o).mono fun e w' h => ⟨h.1, hJ.look hr (by decide) (by decide) h.2.1⟩)
        | 8, _, hr, got => exact stepw_val rfl (wanted_some (j := 5) rfl rfl rfl (got 5 (by decide) 36 rfl (by decide))) (runw_move rfl r8 w1) rfl (hJ.same hr (by decide) (by decide))
        | 9, _, hr, got => exact stepw_val rfl (wanted_some (j := 5) rfl rfl rfl (got 5 (by decide) 36 rfl (by decide))) (by have qc : ∀ v, fa.eval (.const v) = v := fun _ => rfl; have q39 : fa.eval (.tmp 39) = .pointer (some ⟨R, 0, none⟩) := (got 8 (by decide) 39 rfl (by decide)); show (execOp fa.eval _).run Try.prog w1 = .ok (.value (.pointer (some ⟨R, 0, none⟩))) w1; generalize fa.eval = ρ at qc q39 ⊢; unfold execOp; simp only [qc, q39]; go_simp) rfl (hJ.same hr (by decide) (by decide))
        | 10, _, hr, got => exact stepw_val rfl (wanted_some (j := 5) rfl rfl rfl (got 5 (by decide) 36 rfl (by decide))) (by have qc : ∀ v, fa.eval (.const v) = v := fun _ => rfl; have q40 : fa.eval (.tmp 40) = .pointer (some ⟨R, 0, none⟩) := (got 9 (by decide) 40 rfl (by decide)); show (execOp fa.eval _).run Try.prog w1 = .ok (.value (.pointer (some ⟨R, 1, none⟩))) w1; generalize fa.eval = ρ at qc q40 ⊢; unfold execOp; simp only [qc, q40]; go_simp) rfl (hJ.same hr (by decide) (by decide))
        | 11, _, hr, got => exact stepw_val rfl (wanted_some (j := 5) rfl rfl rfl (got 5 (by decide) 36 rfl (by decide))) (by have qc : ∀ v, fa.eval (.const v) = v := fun _ => rfl; have q41 : fa.eval (.tmp 41) = .pointer (some ⟨R, 1, none⟩) := (got 10 (by decide) 41 rfl (by decide)); have z := (hJ.on5 (ready_deps hr 5 (by decide))).r; have z0 : w1.cell? ⟨R, 1, none⟩ = some (.int .i64 t.tei) := z.c 1 (by decide); have zl := z.lt; show (execOp fa.eval _).run Try.prog w1 = .ok (.value (.int .i64 t.tei)) w1; generalize fa.eval = ρ at qc q41 ⊢; unfold execOp; simp only [qc, q41]; go_simp) rfl (hJ.same hr (by decide) (by decide))
        | 12, _, hr, got => exact stepw_val rfl (wanted_some (j := 5) rfl rfl rfl (got 5 (by decide) 36 rfl (by decide))) (runw_move rfl r8 w1) rfl (hJ.same hr (by decide) (by decide))
        | 13, _, hr, got => exact stepw_val rfl (wanted_some (j := 5) rfl rfl rfl (got 5 (by decide) 36 rfl (by decide))) (by have qc : ∀ v, fa.eval (.const v) = v := fun _ => rfl; have q43 : fa.eval (.tmp 43) = .pointer (some ⟨R, 0, none⟩) := (got 12 (by decide) 43 rfl (by decide)); show (execOp fa.eval _).run Try.prog w1 = .ok (.value (.pointer (some ⟨R, 0, none⟩))) w1; generalize fa.eval = ρ at qc q43 ⊢; unfold execOp; simp only [qc, q43]; go_simp) rfl (hJ.same hr (by decide) (by decide))
        | 14, _, hr, got => exact stepw_val rfl (wanted_some (j := 5) rfl rfl rfl (got 5 (by decide) 36 rfl (by decide))) (by have qc : ∀ v, fa.eval (.const v) = v := fun _ => rfl; have q44 : fa.eval (.tmp 44) = .pointer (some ⟨R, 0, none⟩) := (got 13 (by decide) 44 rfl (by decide)); show (execOp fa.eval _).run Try.prog w1 = .ok (.value (.pointer (some ⟨R, 2, none⟩))) w1; generalize fa.eval = ρ at qc q44 ⊢; unfold execOp; simp only [qc, q44]; go_simp) rfl (hJ.same hr (by decide) (by decide))
        | 15, _, hr, got => exact stepw_val rfl (wanted_some (j := 5) rfl rfl rfl (got 5 (by decide) 36 rfl (by decide))) (by have qc : ∀ v, fa.eval (.const v) = v := fun _ => rfl; have q45 : fa.eval (.tmp 45) = .pointer (some ⟨R, 2, none⟩) := (got 14 (by decide) 45 rfl (by decide)); have z := (hJ.on5 (ready_deps hr 5 (by decide))).r; have z0 : w1.cell? ⟨R, 2, none⟩ = some (.bool t.asks) := z.c 2 (by decide); have zl := z.lt; show (execOp fa.eval _).run Try.prog w1 = .ok (.value (.bool t.asks)) w1; generalize fa.eval = ρ at qc q45 ⊢; unfold execOp; simp only [qc, q45]; go_simp) rfl (hJ.same hr (by decide) (by decide))
        | 16, _, hr, got => exact stepw_val rfl (wanted_some (j := 5) rfl rfl rfl (got 5 (by decide) 36 rfl (by decide))) (runw_move rfl r8 w1) rfl (hJ.same hr (by decide) (by decide))
        | 17, _, hr, got => exact stepw_val rfl (wanted_some (j := 5) rfl rfl rfl (got 5 (by decide) 36 rfl (by decide))) (by have qc : ∀ v, fa.eval (.const v) = v := fun _ => rfl; have q47 : fa.eval (.tmp 47) = .pointer (some ⟨R, 0, none⟩) := (got 16 (by decide) 47 rfl (by decide)); show (execOp fa.eval _).run Try.prog w1 = .ok (.value (.pointer (some ⟨R, 0, none⟩))) w1; generalize fa.eval = ρ at qc q47 ⊢; unfold execOp; simp only [qc, q47]; go_simp) rfl (hJ.same hr (by decide) (by decide))
        | 18, _, hr, got => exact stepw_val rfl (wanted_some (j := 5) rfl rfl rfl (got 5 (by decide) 36 rfl (by decide))) (by have qc : ∀ v, fa.eval (.const v) = v := fun _ => rfl; have q48 : fa.eval (.tmp 48) = .pointer (some ⟨R, 0, none⟩) := (got 17 (by decide) 48 rfl (by decide)); show (execOp fa.eval _).run Try.prog w1 = .ok (.value (.pointer (some ⟨R, 3, none⟩))) w1; generalize fa.eval = ρ at qc q48 ⊢; unfold execOp; simp only [qc, q48]; go_simp) rfl (hJ.same hr (by decide) (by decide))
        | 19, _, hr, got => exact stepw_val rfl (wanted_some (j := 5) rfl rfl rfl (got 5 (by decide) 36 rfl (by decide))) (by have qc : ∀ v, fa.eval (.const v) = v := fun _ => rfl; have q49 : fa.eval (.tmp 49) = .pointer (some ⟨R, 3, none⟩) := (got 18 (by decide) 49 rfl (by decide)); have z := (hJ.on5 (ready_deps hr 5 (by decide))).r; have z0 : w1.cell? ⟨R, 3, none⟩ = some (.int .i64 t.ri) := z.c 3 (by decide); have zl := z.lt; show (execOp fa.eval _).run Try.prog w1 = .ok (.value (.int .i64 t.ri)) w1; generalize fa.eval = ρ at qc q49 ⊢; unfold execOp; simp only [qc, q49]; go_simp) rfl (hJ.same hr (by decide) (by decide))
        | 20, _, hr, got => exact stepw_val rfl (wanted_some (j := 5) rfl rfl rfl (got 5 (by decide) 36 rfl (by decide))) (runw_move rfl r8 w1) rfl (hJ.same hr (by decide) (by decide))
        | 21, _, hr, got => exact stepw_val rfl (wanted_some (j := 5) rfl rfl rfl (got 5 (by decide) 36 rfl (by decide))) (by have qc : ∀ v, fa.eval (.const v) = v := fun _ => rfl; have q51 : fa.eval (.tmp 51) = .pointer (some ⟨R, 0, none⟩) := (got 20 (by decide) 51 rfl (by decide)); show (execOp fa.eval _).run Try.prog w1 = .ok (.value (.pointer (some ⟨R, 0, none⟩))) w1; generalize fa.eval = ρ at qc q51 ⊢; unfold execOp; simp only [qc, q51]; go_simp) rfl (hJ.same hr (by decide) (by decide))
        | 22, _, hr, got => exact stepw_val rfl (wanted_some (j := 5) rfl rfl rfl (got 5 (by decide) 36 rfl (by decide))) (by have qc : ∀ v, fa.eval (.const v) = v := fun _ => rfl; have q52 : fa.eval (.tmp 52) = .pointer (some ⟨R, 0, none⟩) := (got 21 (by decide) 52 rfl (by decide)); show (execOp fa.eval _).run Try.prog w1 = .ok (.value (.pointer (some ⟨R, 4, none⟩))) w1; generalize fa.eval = ρ at qc q52 ⊢; unfold execOp; simp only [qc, q52]; go_simp) rfl (hJ.same hr (by decide) (by decide))
        | 23, _, hr, got => exact stepw_val rfl (wanted_some (j := 5) rfl rfl rfl (got 5 (by decide) 36 rfl (by decide))) (by have qc : ∀ v, fa.eval (.const v) = v := fun _ => rfl; have q53 : fa.eval (.tmp 53) = .pointer (some ⟨R, 4, none⟩) := (got 22 (by decide) 53 rfl (by decide)); have z := (hJ.on5 (ready_deps hr 5 (by decide))).r; have z0 : w1.cell? ⟨R, 4, none⟩ = some (.int .i64 t.tries) := z.c 4 (by decide); have zl := z.lt; show (execOp fa.eval _).run Try.prog w1 = .ok (.value (.int .i64 t.tries)) w1; generalize fa.eval = ρ at qc q53 ⊢; unfold execOp; simp only [qc, q53]; go_simp) rfl (hJ.same hr (by decide) (by decide))
        | 24, _, hr, got => exact stepw_val rfl (wanted_some (j := 5) rfl rfl rfl (got 5 (by decide) 36 rfl (by decide))) (by have qc : ∀ v, fa.eval (.const v) = v := fun _ => rfl; have q42 : fa.eval (.tmp 42) = .int .i64 t.tei := (got 11 (by decide) 42 rfl (by decide)); have q46 : fa.eval (.tmp 46) = .bool t.asks := (got 15 (by decide) 46 rfl (by decide)); have q50 : fa.eval (.tmp 50) = .int .i64 t.ri := (got 19 (by decide) 50 rfl (by decide)); have q54 : fa.eval (.tmp 54) = .int .i64 t.tries := (got 23 (by decide) 54 rfl (by decide)); show (execOp fa.eval _).run Try.prog w1 = .ok (.value (.agg #[.int .i64 t.tei, .bool t.asks, .int .i64 t.ri, .int .i64 t.tries])) w1; generalize fa.eval = ρ at qc q42 q46 q50 q54 ⊢; unfold execOp; simp only [qc, q42, q46, q50, q54]; go_simp) rfl (hJ.same hr (by decide) (by decide))
        | 25, _, hr, got => exact stepw_val rfl (wanted_some (j := 5) rfl rfl rfl (got 5 (by decide) 36 rfl (by decide))) (by have qc : ∀ v, fa.eval (.const v) = v := fun _ => rfl; have q38 : fa.eval (.tmp 38) = .agg #[.int .i64 t.tei, .bool t.asks, .int .i64 t.ri, .int .i64 t.tries] := (got 7 (by decide) 38 rfl (by decide)); have q55 : fa.eval (.tmp 55) = .agg #[.int .i64 t.tei, .bool t.asks, .int .i64 t.ri, .int .i64 t.tries] := (got 24 (by decide) 55 rfl (by decide)); show (execOp fa.eval _).run Try.prog w1 = .ok (.value (.bool false)) w1; generalize fa.eval = ρ at qc q38 q55 ⊢; unfold execOp; simp only [qc, q38, q55]; go_simp) rfl (hJ.same hr (by decide) (by decide))
        | 26, _, hr, got => exact stepw_val rfl (wanted_none rfl) (runw_pickf rfl (got 5 (by decide) 36 rfl (by decide)) (got 25 (by decide) 56 rfl (by decide)) w1) rfl (hJ.same hr (by decide) (by decide))
        | j + 27, hlt, _, _ => exact absurd hlt (by omega)
      case hdone =>
        intro l w' hall hJ
        have HPe : Hid (∃ s, PairU b N w w' C D G R S s) := ⟨_, hJ.did (hall 3 (by decide))⟩
        clear hall hJ HP3 HQ3 HA
        simp only [putsOf, uplayD, uplayV, Act.put, List.setIfInBounds_toArray, List.set_cons_zero, List.set_cons_succ]
        go_wp2
        go_roundw
        case rel => exact ⟨j + 1, by omega, by go_num, HPe⟩
        case measure => simp [intOf]; omega
    · have hje : j = m := by omega
      subst hje
      clear hin HR
      go_wp2
      go_ret
      exact ⟨rfl, by have := HO.out.o.bel; rw [HC.out] at this; exact this⟩
end Go.Proofs.Ytdnhcpkpajbhoaa
