/-
  A user of the call's own; the law's 'wakes' answers true, and leaves all that was as it was; the law's 'made'.
-/
import Derived.Test.YtdnhcpkpajbhoaaUsrMsg
namespace Go.Proofs.Ytdnhcpkpajbhoaa
open Go.RowKit
set_option linter.unusedVariables false
set_option linter.unusedSimpArgs false
set_option maxRecDepth 100000

/-- a user in blocks from b on; below b all is as in W0 -/
structure OwnU (b : Nat) (W0 w : World) (C D : Nat) (G : Option Nat) (s : Um.St) : Prop where
  us : Us w C D G s
  bC : b ≤ C
  bD : b ≤ D
  bel : Below b W0 w
section
variable {b : Nat} {W0 w w' : World} {C D : Nat} {G : Option Nat} {s : Um.St}
theorem OwnU.bs (h : OwnU b W0 w C D G s) : b ≤ w.heap.size := by have := h.us.lt; have := h.bC; omega
theorem OwnU.below (h : OwnU b W0 w C D G s) (hb : Below w.heap.size w w') : OwnU b W0 w' C D G s := ⟨h.us.below hb, h.bC, h.bD, h.bel.trans (hb.mono h.bs)⟩
theorem OwnU.then {s' : Um.St} (h : OwnU b W0 w C D G s) (hm : Mvu w w' C D G s') : OwnU b W0 w' C D G s' :=
  ⟨hm.1, h.bC, h.bD, h.bel.trans (hm.2.below h.bs (fun k hk => by rcases hk with rfl | rfl; exact h.bC; exact h.bD))⟩
/-- draw.New of a seed alone -/
theorem dnew_none (x : Int) (w : World) (hlo : 0 ≤ x) (hhi : x < 18446744073709551616) : Calls Try.prog 10 #[.int .u64 x, .slice none 0 0] w fun e w' => ∃ D H, e = .returned (.pointer (some ⟨D, 0, none⟩)) ∧ Src w' D H [] x ∧ Below w.heap.size w w' ∧ w.heap.size ≤ D ∧ ∀ B, H = some B → w.heap.size ≤ B ∧ B < w'.heap.size :=
  dnew_any x none 0 none [] w (Or.inl rfl) (fun _ => ⟨rfl, rfl⟩) (by decide) (fun n h => by simp at h) hlo hhi
theorem ownu_new (n : Int) {L : List Int} {x : Int} {D : Nat} {G : Option Nat} (hs : Src w D G L x) (hG : ∀ B, G = some B → B < w.heap.size) (hD : b ≤ D) (hb : Below b W0 w) (hbs : b ≤ w.heap.size) :
    Calls Try.prog 9 #[.int .i64 n, .pointer (some ⟨D, 0, none⟩)] w fun r w' => ∃ C, r = .returned (.pointer (some ⟨C, 0, none⟩)) ∧ OwnU b W0 w' C D G (Um.new n false L x) ∧ Below w.heap.size w w' := by
  refine (unew_any n false D G L x w (fun _ => hs) hG (fun _ => hs.lt) (fun h => by cases h)).mono ?_
  rintro r w' ⟨C, rfl, h1, h2, h3⟩
  exact ⟨C, rfl, ⟨h1, by omega, hD, hb.trans (h2.mono hbs)⟩, h2⟩
theorem ownu_message (ty ri ai : Int) (h : OwnU b W0 w C D G s) : Calls Try.prog 20 #[.pointer (some ⟨C, 0, none⟩), .agg #[.int .i64 ty, .int .i64 ri, .int .i64 ai]] w fun r w' => ∃ a cap, r = .returned (.slice a (Um.message s ty ri ai).2.length cap) ∧ UOut w.heap.size w' (.slice a (Um.message s ty ri ai).2.length cap) (Um.message s ty ri ai).2 ∧ Mvu w w' C D G (Um.message s ty ri ai).1 ∧ OwnU b W0 w' C D G (Um.message s ty ri ai).1 := by
  refine (umessage_any ty ri ai h.us).mono ?_
  rintro r w' ⟨v, rfl, h2, h3⟩
  obtain ⟨a, cap, rfl⟩ := h2.form
  exact ⟨a, cap, rfl, h2, h3, h.then h3⟩
theorem ownu_want (h : OwnU b W0 w C D G s) : Calls Try.prog 16 #[.pointer (some ⟨C, 0, none⟩)] w fun r w' => ∃ a cap, r = .returned (.tuple #[.slice a (Um.want s).2.length cap, .int .i64 (Um.wantN s)]) ∧ UOut w.heap.size w' (.slice a (Um.want s).2.length cap) (Um.want s).2 ∧ Mvu w w' C D G (Um.want s).1 ∧ OwnU b W0 w' C D G (Um.want s).1 := by
  refine (uwant_any h.us).mono ?_
  rintro r w' ⟨v, rfl, h2, h3⟩
  obtain ⟨a, cap, rfl⟩ := h2.form
  exact ⟨a, cap, rfl, h2, h3, h.then h3⟩
theorem ownu_verify (h : OwnU b W0 w C D G s) : Calls Try.prog 17 #[.pointer (some ⟨C, 0, none⟩)] w fun r w' => ∃ a cap, r = .returned (.tuple #[.slice a (Um.verifyE s).length cap, .int .i64 (Um.verifyN s)]) ∧ UOut w.heap.size w' (.slice a (Um.verifyE s).length cap) (Um.verifyE s) ∧ Mvu w w' C D G s ∧ OwnU b W0 w' C D G s := by
  refine (uverify_any h.us).mono ?_
  rintro r w' ⟨v, rfl, h2, h3⟩
  obtain ⟨a, cap, rfl⟩ := h2.form
  exact ⟨a, cap, rfl, h2, h3, h.then h3⟩
theorem ownu_drop (h : OwnU b W0 w C D G s) : Calls Try.prog 18 #[.pointer (some ⟨C, 0, none⟩)] w fun r w' => ∃ a cap, r = .returned (.tuple #[.slice a (Um.drop s).2.length cap, .int .i64 (Um.dropN s)]) ∧ UOut w.heap.size w' (.slice a (Um.drop s).2.length cap) (Um.drop s).2 ∧ Mvu w w' C D G (Um.drop s).1 ∧ OwnU b W0 w' C D G (Um.drop s).1 := by
  refine (udrop_any h.us).mono ?_
  rintro r w' ⟨v, rfl, h2, h3⟩
  obtain ⟨a, cap, rfl⟩ := h2.form
  exact ⟨a, cap, rfl, h2, h3, h.then h3⟩
theorem ownu_timeout (h : OwnU b W0 w C D G s) : Calls Try.prog 19 #[.pointer (some ⟨C, 0, none⟩)] w fun r w' => ∃ a cap, r = .returned (.slice a (Um.timeout s).2.length cap) ∧ UOut w.heap.size w' (.slice a (Um.timeout s).2.length cap) (Um.timeout s).2 ∧ Mvu w w' C D G (Um.timeout s).1 ∧ OwnU b W0 w' C D G (Um.timeout s).1 := by
  refine (utimeout_any h.us).mono ?_
  rintro r w' ⟨v, rfl, h2, h3⟩
  obtain ⟨a, cap, rfl⟩ := h2.form
  exact ⟨a, cap, rfl, h2, h3, h.then h3⟩
theorem ownu_view (h : OwnU b W0 w C D G s) : Calls Try.prog 15 #[.pointer (some ⟨C, 0, none⟩)] w fun r w' => r = .returned (.agg #[.int .i64 s.tei, .bool s.asks, .int .i64 s.ri, .int .i64 s.tries]) ∧ Below w.heap.size w w' ∧ OwnU b W0 w' C D G s :=
  (uview_any h.us).mono fun r w' h2 => ⟨h2.1, h2.2, h.below h2.2⟩
end

def Um.wk0 : Um.St := Um.new 3 false [7] 0
def Um.wk1 : Um.St := (Um.want Um.wk0).1
theorem uwk_n : Um.wantN Um.wk0 = 0 := by first | rfl | kernel_rfl
theorem uwk_a : (Um.want Um.wk0).2 = [Um.say 1 7 127, Um.tell 4 0] := by first | rfl | kernel_rfl
theorem uwk_b : (Um.message Um.wk1 2 7 64).2 = [Um.tell 5 0, Um.tell 1 64] := by first | rfl | kernel_rfl
theorem field_tei (W : World) (a b c d : Value) : (Instr.field 37 (.agg #[a, b, c, d]) 0).run Try.prog W = .ok a W := by
  first | kernel_rfl | rfl
theorem field_ri (W : World) (a b c d : Value) : (Instr.field 37 (.agg #[a, b, c, d]) 2).run Try.prog W = .ok c W := by
  first | kernel_rfl | rfl
set_option maxHeartbeats 2000000 in
theorem uwakes_any (w : World) : Calls Try.prog 13 #[] w fun r w' => r = .returned (.bool true) ∧ Below w.heap.size w w' := by
  obtain ⟨W1, hW1⟩ : ∃ W1, W1 = w.alloc (.cells #[.int .i64 7] 3) := ⟨_, rfl⟩
  have hb1 : Below w.heap.size w W1 := by rw [hW1]; exact (Below.refl _ _).alloc (Nat.le_refl _) _
  have HN := dnew_any 0 (some ⟨w.heap.size, 0, none⟩) 1 (some w.heap.size) [7] W1 (Or.inr ⟨w.heap.size, 0, rfl, rfl, by rw [hW1]; simp, fun i hi => by
    rw [hW1]
    match i, hi with
    | 0, _ => simp⟩) (fun e => by cases e) (by decide) (by intro n hn; simp at hn; subst hn; exact ⟨by decide, by decide⟩) (by decide) (by decide)
  rw [show ([7] : List Int).length = 1 from rfl] at HN
  have HB : Hid (Below w.heap.size w W1) := hb1
  clear hb1
  go_enter Try.func13, Try.ntmps13
  go_wp2_with fail
  rw [← hW1]
  refine HN.mono ?_
  rintro e w1 ⟨D, G, rfl, h1, h2, h3, h4⟩
  have HB1 : Below w.heap.size w w1 := HB.out.trans (h2.mono HB.out.size)
  have HC := ownu_new (b := w.heap.size) (W0 := w) 3 h1 (fun B hB => (h4 B hB).2) (Nat.le_trans HB.out.size h3) HB1 HB1.size
  clear h1 h2 h3 h4 HN HB hW1 HB1
  go_wp2_with fail
  refine HC.mono ?_
  rintro r w2 ⟨C, rfl, O2, -⟩
  replace O2 : OwnU w.heap.size w w2 C D G Um.wk0 := O2
  have H2 := ownu_want O2
  rw [uwk_a, uwk_n] at H2
  have HL : Hid (w.heap.size ≤ C ∧ C < w2.heap.size ∧ D < w2.heap.size) := ⟨O2.bC, O2.us.lt, O2.us.dl⟩
  clear O2 HC
  go_wp2_with fail
  refine H2.mono ?_
  rintro r w3 ⟨a, cap, rfl, ho, hm, O3⟩
  replace O3 : OwnU w.heap.size w w3 C D G Um.wk1 := O3
  have H3 := ownu_message 2 7 64 O3
  rw [uwk_b] at H3
  have HO1 : Hid (UOut w2.heap.size w3 (.slice a 2 cap) [Um.say 1 7 127, Um.tell 4 0]) := ho
  clear O3 H2 ho hm
  go_wp2_with fail
  refine H3.mono ?_
  rintro r w4 ⟨a4, cap4, rfl, ho4, hm, O4⟩
  have ho1 := HO1.out.kept hm.2 (fun k hk _ hx => by have := HL.out; rcases hx with rfl | rfl <;> omega)
  have HBE : Hid (Below w.heap.size w w4) := O4.bel
  obtain ⟨g, rfl, _, hg, hc, hx⟩ := UOut.own (l := [Um.say 1 7 127, Um.tell 4 0]) ho1 (by simp)
  obtain ⟨g4, rfl, _, hg4, hc4, hx4⟩ := UOut.own (l := [Um.tell 5 0, Um.tell 1 64]) ho4 (by simp)
  have x1 : w4.cell? ⟨g, 1, none⟩ = some (.int .i64 1) := hx 1 _ rfl
  have x2 : w4.cell? ⟨g, 2, none⟩ = some (.int .i64 7) := hx 2 _ rfl
  have x3 : w4.cell? ⟨g, 3, none⟩ = some (.int .i64 127) := hx 3 _ rfl
  have y0 : w4.cell? ⟨g4, 5, none⟩ = some (.int .i64 1) := hx4 5 _ rfl
  have y1 : w4.cell? ⟨g4, 6, none⟩ = some (.int .i64 0) := hx4 6 _ rfl
  have y2 : w4.cell? ⟨g4, 7, none⟩ = some (.int .i64 0) := hx4 7 _ rfl
  have y3 : w4.cell? ⟨g4, 8, none⟩ = some (.int .i64 0) := hx4 8 _ rfl
  have y4 : w4.cell? ⟨g4, 9, none⟩ = some (.int .i64 64) := hx4 9 _ rfl
  have hc' : 2 ≤ cap := hc
  have hc4' : 2 ≤ cap4 := hc4
  clear hx hx4 ho1 ho4 hm O4 H3 HO1 hc hc4
  go_wp2
  go_ret
  exact ⟨rfl, HBE.out⟩
/-- the law's 'made': its own blocks -/
structure MkW (w w' : World) (mine : Bool) (t r a : Int) : Prop where
  bel : Below w.heap.size w w'
  sz : w.heap.size + 2 < w'.heap.size
  a5 : w'.cell? ⟨w.heap.size, 5, none⟩ = some (.bool mine)
  m0 : w'.cell? ⟨w.heap.size + 1 + 1, 0, none⟩ = some (.int .i64 t)
  m1 : w'.cell? ⟨w.heap.size + 1 + 1, 1, none⟩ = some (.int .i64 r)
  m2 : w'.cell? ⟨w.heap.size + 1 + 1, 2, none⟩ = some (.int .i64 a)
  mf : ∀ j, j < 3 → w'.frozen? ⟨w.heap.size + 1 + 1, j, none⟩ = false
  r0 : w'.cell? ⟨w.heap.size + 1, 0, none⟩ = some (.int .i64 0)
  r1 : w'.cell? ⟨w.heap.size + 1, 1, none⟩ = some (.int .i64 0)
  r2 : w'.cell? ⟨w.heap.size + 1, 2, none⟩ = some (.int .i64 0)
  rf : ∀ j, j < 3 → w'.frozen? ⟨w.heap.size + 1, j, none⟩ = false
section
variable {w w' w2 : World} {mine : Bool} {t r a : Int}
theorem MkW.on (h : MkW w w' mine t r a) (hb : Below w'.heap.size w' w2) : MkW w w2 mine t r a := by
  have h0 := h.sz
  have k0 : w.heap.size < w'.heap.size := by omega
  have k1 : w.heap.size + 1 < w'.heap.size := by omega
  have k2 : w.heap.size + 1 + 1 < w'.heap.size := by omega
  exact ⟨h.bel.trans (hb.mono h.bel.size), Nat.lt_of_lt_of_le h0 hb.size, (hb.cell (p := ⟨w.heap.size, 5, none⟩) k0).trans h.a5, (hb.cell (p := ⟨w.heap.size + 1 + 1, 0, none⟩) k2).trans h.m0, (hb.cell (p := ⟨w.heap.size + 1 + 1, 1, none⟩) k2).trans h.m1, (hb.cell (p := ⟨w.heap.size + 1 + 1, 2, none⟩) k2).trans h.m2,
    fun j hj => (hb.frozen (p := ⟨w.heap.size + 1 + 1, j, none⟩) k2).trans (h.mf j hj), (hb.cell (p := ⟨w.heap.size + 1, 0, none⟩) k1).trans h.r0, (hb.cell (p := ⟨w.heap.size + 1, 1, none⟩) k1).trans h.r1, (hb.cell (p := ⟨w.heap.size + 1, 2, none⟩) k1).trans h.r2, fun j hj => (hb.frozen (p := ⟨w.heap.size + 1, j, none⟩) k1).trans (h.rf j hj)⟩
theorem MkW.setR (h : MkW w w' mine t r a) (v : Int) : MkW w (w'.setCell ⟨w.heap.size + 1 + 1, 1, none⟩ (.int .i64 v)) mine t v a := by
  have m1 := h.m1
  refine ⟨h.bel.setCell (by show w.heap.size ≤ w.heap.size + 1 + 1; omega) _, by simpa using h.sz, ?_, ?_, ?_, ?_, ?_, ?_, ?_, ?_, ?_⟩
  · rw [World.cell?_setCell_other _ _ _ _ (fun h => by injection h with h1 h2; omega)]; exact h.a5
  · rw [World.cell?_setCell_other _ _ _ _ (fun h => by injection h with h1 h2; omega)]; exact h.m0
  · exact World.cell?_setCell_same' _ ⟨w.heap.size + 1 + 1, 1, none⟩ _ (by rw [m1]; rfl)
  · rw [World.cell?_setCell_other _ _ _ _ (fun h => by injection h with h1 h2; omega)]; exact h.m2
  · intro j hj; rw [World.frozen?_setCell]; exact h.mf j hj
  · rw [World.cell?_setCell_other _ _ _ _ (fun h => by injection h with h1 h2; omega)]; exact h.r0
  · rw [World.cell?_setCell_other _ _ _ _ (fun h => by injection h with h1 h2; omega)]; exact h.r1
  · rw [World.cell?_setCell_other _ _ _ _ (fun h => by injection h with h1 h2; omega)]; exact h.r2
  · intro j hj; rw [World.frozen?_setCell]; exact h.rf j hj
theorem MkW.setA (h : MkW w w' mine t r a) (v : Int) : MkW w (w'.setCell ⟨w.heap.size + 1 + 1, 2, none⟩ (.int .i64 v)) mine t r v := by
  have m2 := h.m2
  refine ⟨h.bel.setCell (by show w.heap.size ≤ w.heap.size + 1 + 1; omega) _, by simpa using h.sz, ?_, ?_, ?_, ?_, ?_, ?_, ?_, ?_, ?_⟩
  · rw [World.cell?_setCell_other _ _ _ _ (fun h => by injection h with h1 h2; omega)]; exact h.a5
  · rw [World.cell?_setCell_other _ _ _ _ (fun h => by injection h with h1 h2; omega)]; exact h.m0
  · rw [World.cell?_setCell_other _ _ _ _ (fun h => by injection h with h1 h2; omega)]; exact h.m1
  · exact World.cell?_setCell_same' _ ⟨w.heap.size + 1 + 1, 2, none⟩ _ (by rw [m2]; rfl)
  · intro j hj; rw [World.frozen?_setCell]; exact h.mf j hj
  · rw [World.cell?_setCell_other _ _ _ _ (fun h => by injection h with h1 h2; omega)]; exact h.r0
  · rw [World.cell?_setCell_other _ _ _ _ (fun h => by injection h with h1 h2; omega)]; exact h.r1
  · rw [World.cell?_setCell_other _ _ _ _ (fun h => by injection h with h1 h2; omega)]; exact h.r2
  · intro j hj; rw [World.frozen?_setCell]; exact h.rf j hj
theorem MkW.out (h : MkW w w' mine t r a) : Below w.heap.size w (((w'.setCell ⟨w.heap.size + 1, 0, none⟩ (.int .i64 t)).setCell ⟨w.heap.size + 1, 1, none⟩ (.int .i64 r)).setCell ⟨w.heap.size + 1, 2, none⟩ (.int .i64 a)) :=
  ((h.bel.setCell (by show w.heap.size ≤ w.heap.size + 1; omega) _).setCell (by show w.heap.size ≤ w.heap.size + 1; omega) _).setCell (by show w.heap.size ≤ w.heap.size + 1; omega) _
end
theorem mkw_new (w : World) (d ty ri ai : Int) (own mine : Bool) : MkW w (((w.alloc (.cells #[.int .i64 d, .int .i64 ty, .int .i64 ri, .int .i64 ai, .bool own, .bool mine] 34)).alloc (.cells #[.int .i64 0, .int .i64 0, .int .i64 0] 51)).alloc (.cells #[.int .i64 ty, .int .i64 ri, .int .i64 ai] 51)) mine ty ri ai := by
  obtain ⟨A, hA⟩ : ∃ A, A = w.alloc (.cells #[.int .i64 d, .int .i64 ty, .int .i64 ri, .int .i64 ai, .bool own, .bool mine] 34) := ⟨_, rfl⟩
  rw [← hA]
  have sA : A.heap.size = w.heap.size + 1 := by rw [hA]; simp
  have cA : A.cell? ⟨w.heap.size, 5, none⟩ = some (.bool mine) := by rw [hA]; simp
  have bA : Below w.heap.size w A := by rw [hA]; exact (Below.refl _ _).alloc (Nat.le_refl _) _
  clear hA
  obtain ⟨B, hB⟩ : ∃ B, B = A.alloc (.cells #[.int .i64 0, .int .i64 0, .int .i64 0] 51) := ⟨_, rfl⟩
  rw [← hB]
  have sB : B.heap.size = w.heap.size + 1 + 1 := by rw [hB]; simp [sA]
  have bB : Below A.heap.size A B := by rw [hB]; exact (Below.refl _ _).alloc (Nat.le_refl _) _
  have c0 : B.cell? ⟨w.heap.size + 1, 0, none⟩ = some (.int .i64 0) := by rw [hB, ← sA]; simp
  have c1 : B.cell? ⟨w.heap.size + 1, 1, none⟩ = some (.int .i64 0) := by rw [hB, ← sA]; simp
  have c2 : B.cell? ⟨w.heap.size + 1, 2, none⟩ = some (.int .i64 0) := by rw [hB, ← sA]; simp
  have fB : ∀ j, j < 3 → B.frozen? ⟨w.heap.size + 1, j, none⟩ = false := by
    intro j hj
    rw [hB, ← sA]
    have : j = 0 ∨ j = 1 ∨ j = 2 := by omega
    rcases this with rfl | rfl | rfl <;> simp
  clear hB
  obtain ⟨D, hD⟩ : ∃ D, D = B.alloc (.cells #[.int .i64 ty, .int .i64 ri, .int .i64 ai] 51) := ⟨_, rfl⟩
  rw [← hD]
  have sD : D.heap.size = w.heap.size + 1 + 1 + 1 := by rw [hD]; simp [sB]
  have bD : Below B.heap.size B D := by rw [hD]; exact (Below.refl _ _).alloc (Nat.le_refl _) _
  have e0 : D.cell? ⟨w.heap.size + 1 + 1, 0, none⟩ = some (.int .i64 ty) := by rw [hD, ← sB]; simp
  have e1 : D.cell? ⟨w.heap.size + 1 + 1, 1, none⟩ = some (.int .i64 ri) := by rw [hD, ← sB]; simp
  have e2 : D.cell? ⟨w.heap.size + 1 + 1, 2, none⟩ = some (.int .i64 ai) := by rw [hD, ← sB]; simp
  have fD : ∀ j, j < 3 → D.frozen? ⟨w.heap.size + 1 + 1, j, none⟩ = false := by
    intro j hj
    rw [hD, ← sB]
    have : j = 0 ∨ j = 1 ∨ j = 2 := by omega
    rcases this with rfl | rfl | rfl <;> simp
  clear hD
  have k0 : w.heap.size < A.heap.size := by omega
  have k0' : w.heap.size < B.heap.size := by omega
  have k1 : w.heap.size + 1 < B.heap.size := by omega
  exact ⟨(bA.trans (bB.mono bA.size)).trans (bD.mono (by omega)), by omega, ((bD.cell (p := ⟨w.heap.size, 5, none⟩) k0').trans (bB.cell (p := ⟨w.heap.size, 5, none⟩) k0)).trans cA, e0, e1, e2, fD,
    (bD.cell (p := ⟨w.heap.size + 1, 0, none⟩) k1).trans c0, (bD.cell (p := ⟨w.heap.size + 1, 1, none⟩) k1).trans c1, (bD.cell (p := ⟨w.heap.size + 1, 2, none⟩) k1).trans c2, fun j hj => (bD.frozen (p := ⟨w.heap.size + 1, j, none⟩) k1).trans (fB j hj)⟩
def Um.mkR (x2 ri : Int) (own : Bool) : Int := if own then x2 else ri
def Um.mkA (x0 ai : Int) (mine : Bool) : Int := if mine then if 0 ≤ x0 then x0 else ai else ai
set_option maxHeartbeats 4000000 in
theorem umk_any (p : Option Addr) (x0 x2 x3 : Int) (x1 : Bool) (d ty ri ai : Int) (own mine : Bool) (w : World)
    (hv : ∀ w1, Below w.heap.size w w1 → Calls Try.prog 15 #[.pointer p] w1 fun r w' => r = .returned (.agg #[.int .i64 x0, .bool x1, .int .i64 x2, .int .i64 x3]) ∧ Below w1.heap.size w1 w') :
    Calls Try.prog 21 #[.pointer p, .agg #[.int .i64 d, .int .i64 ty, .int .i64 ri, .int .i64 ai, .bool own, .bool mine]] w fun r w' => r = .returned (.agg #[.int .i64 ty, .int .i64 (Um.mkR x2 ri own), .int .i64 (Um.mkA x0 ai mine)]) ∧ Below w.heap.size w w' := by
  have HV : Hid (∀ w1, Below w.heap.size w w1 → Calls Try.prog 15 #[.pointer p] w1 fun r w' => r = .returned (.agg #[.int .i64 x0, .bool x1, .int .i64 x2, .int .i64 x3]) ∧ Below w1.heap.size w1 w') := hv
  have ft := field_tei
  have fr := field_ri
  clear hv
  rcases own with _ | _ <;> rcases mine with _ | _
  · show Calls _ _ _ _ fun r w' => r = .returned (.agg #[.int .i64 ty, .int .i64 ri, .int .i64 ai]) ∧ _
    clear HV ft fr
    obtain ⟨W, hW⟩ : ∃ W, W = (((w.alloc (.cells #[.int .i64 d, .int .i64 ty, .int .i64 ri, .int .i64 ai, .bool false, .bool false] 34)).alloc (.cells #[.int .i64 0, .int .i64 0, .int .i64 0] 51)).alloc (.cells #[.int .i64 ty, .int .i64 ri, .int .i64 ai] 51)) := ⟨_, rfl⟩
    have HK : Hid (MkW w W false ty ri ai) := by rw [hW]; exact mkw_new w d ty ri ai false false
    go_enter Try.func21, Try.ntmps21
    go_wp2
    refine bodyPost_ret (v := .agg #[.int .i64 ty, .int .i64 ri, .int .i64 ai]) (by simp [results, Try.results21, go_sem]) rfl ⟨rfl, ?_⟩
    exact (((Below.refl _ _).alloc (Nat.le_refl _) _).alloc (by simp) _).alloc (by simp; omega) _
  · rw [show Um.mkR x2 ri false = ri from rfl]
    by_cases hx : 0 ≤ x0
    · rw [show Um.mkA x0 ai true = x0 from if_pos hx]
      obtain ⟨W, hW⟩ : ∃ W, W = (((w.alloc (.cells #[.int .i64 d, .int .i64 ty, .int .i64 ri, .int .i64 ai, .bool false, .bool true] 34)).alloc (.cells #[.int .i64 0, .int .i64 0, .int .i64 0] 51)).alloc (.cells #[.int .i64 ty, .int .i64 ri, .int .i64 ai] 51)) := ⟨_, rfl⟩
      have HK : Hid (MkW w W true ty ri ai) := by rw [hW]; exact mkw_new w d ty ri ai false true
      go_enter Try.func21, Try.ntmps21
      go_wp2_with fail
      rw [← hW]
      refine (HV.out W HK.out.bel).mono ?_
      rintro r w1 ⟨rfl, hb⟩
      have HK1 : Hid (MkW w w1 true ty ri ai) := HK.out.on hb
      clear hb hW HK
      have a5w1 := HK1.out.a5
      have m0w1 := HK1.out.m0
      have m1w1 := HK1.out.m1
      have m2w1 := HK1.out.m2
      have f0w1 := HK1.out.mf 0 (by decide)
      have f1w1 := HK1.out.mf 1 (by decide)
      have f2w1 := HK1.out.mf 2 (by decide)
      have r0w1 := HK1.out.r0
      have r1w1 := HK1.out.r1
      have r2w1 := HK1.out.r2
      have q0w1 := HK1.out.rf 0 (by decide)
      have q1w1 := HK1.out.rf 1 (by decide)
      have q2w1 := HK1.out.rf 2 (by decide)
      have szw1 := HK1.out.sz
      have HK1b : Hid (MkW w w1 true ty ri ai) := HK1
      clear HK1
      go_wp2_with fail
      refine (HV.out w1 HK1b.out.bel).mono ?_
      rintro r w2 ⟨rfl, hb⟩
      have HK2 : Hid (MkW w w2 true ty ri ai) := HK1b.out.on hb
      clear hb HK1b
      clear a5w1 m0w1 m1w1 m2w1 f0w1 f1w1 f2w1 r0w1 r1w1 r2w1 q0w1 q1w1 q2w1 szw1
      have a5w2 := HK2.out.a5
      have m0w2 := HK2.out.m0
      have m1w2 := HK2.out.m1
      have m2w2 := HK2.out.m2
      have f0w2 := HK2.out.mf 0 (by decide)
      have f1w2 := HK2.out.mf 1 (by decide)
      have f2w2 := HK2.out.mf 2 (by decide)
      have r0w2 := HK2.out.r0
      have r1w2 := HK2.out.r1
      have r2w2 := HK2.out.r2
      have q0w2 := HK2.out.rf 0 (by decide)
      have q1w2 := HK2.out.rf 1 (by decide)
      have q2w2 := HK2.out.rf 2 (by decide)
      have szw2 := HK2.out.sz
      have HK2b : Hid (MkW w (w2.setCell ⟨w.heap.size + 1 + 1, 2, none⟩ (.int .i64 x0)) true ty ri x0) := HK2.out.setA x0
      clear HK2
      go_wp2
      refine bodyPost_ret (v := .agg #[.int .i64 ty, .int .i64 ri, .int .i64 x0]) (by simp [results, Try.results21, go_sem, m0w2, m1w2, m2w2, r0w2, r1w2, r2w2]) rfl ⟨rfl, ?_⟩
      exact HK2b.out.out
    · rw [show Um.mkA x0 ai true = ai from if_neg hx]
      obtain ⟨W, hW⟩ : ∃ W, W = (((w.alloc (.cells #[.int .i64 d, .int .i64 ty, .int .i64 ri, .int .i64 ai, .bool false, .bool true] 34)).alloc (.cells #[.int .i64 0, .int .i64 0, .int .i64 0] 51)).alloc (.cells #[.int .i64 ty, .int .i64 ri, .int .i64 ai] 51)) := ⟨_, rfl⟩
      have HK : Hid (MkW w W true ty ri ai) := by rw [hW]; exact mkw_new w d ty ri ai false true
      go_enter Try.func21, Try.ntmps21
      go_wp2_with fail
      rw [← hW]
      refine (HV.out W HK.out.bel).mono ?_
      rintro r w1 ⟨rfl, hb⟩
      have HK1 : Hid (MkW w w1 true ty ri ai) := HK.out.on hb
      clear hb hW HK
      have a5w1 := HK1.out.a5
      have m0w1 := HK1.out.m0
      have m1w1 := HK1.out.m1
      have m2w1 := HK1.out.m2
      have f0w1 := HK1.out.mf 0 (by decide)
      have f1w1 := HK1.out.mf 1 (by decide)
      have f2w1 := HK1.out.mf 2 (by decide)
      have r0w1 := HK1.out.r0
      have r1w1 := HK1.out.r1
      have r2w1 := HK1.out.r2
      have q0w1 := HK1.out.rf 0 (by decide)
      have q1w1 := HK1.out.rf 1 (by decide)
      have q2w1 := HK1.out.rf 2 (by decide)
      have szw1 := HK1.out.sz
      have HK1b : Hid (MkW w w1 true ty ri ai) := HK1
      clear HK1
      go_wp2
      refine bodyPost_ret (v := .agg #[.int .i64 ty, .int .i64 ri, .int .i64 ai]) (by simp [results, Try.results21, go_sem, m0w1, m1w1, m2w1, r0w1, r1w1, r2w1]) rfl ⟨rfl, ?_⟩
      exact HK1b.out.out
  · show Calls _ _ _ _ fun r w' => r = .returned (.agg #[.int .i64 ty, .int .i64 x2, .int .i64 ai]) ∧ _
    obtain ⟨W, hW⟩ : ∃ W, W = (((w.alloc (.cells #[.int .i64 d, .int .i64 ty, .int .i64 ri, .int .i64 ai, .bool true, .bool false] 34)).alloc (.cells #[.int .i64 0, .int .i64 0, .int .i64 0] 51)).alloc (.cells #[.int .i64 ty, .int .i64 ri, .int .i64 ai] 51)) := ⟨_, rfl⟩
    have HK : Hid (MkW w W false ty ri ai) := by rw [hW]; exact mkw_new w d ty ri ai true false
    go_enter Try.func21, Try.ntmps21
    go_wp2_with fail
    rw [← hW]
    refine (HV.out W HK.out.bel).mono ?_
    rintro r w1 ⟨rfl, hb⟩
    have HK1 : Hid (MkW w w1 false ty ri ai) := HK.out.on hb
    clear hb hW HK
    have a5w1 := HK1.out.a5
    have m0w1 := HK1.out.m0
    have m1w1 := HK1.out.m1
    have m2w1 := HK1.out.m2
    have f0w1 := HK1.out.mf 0 (by decide)
    have f1w1 := HK1.out.mf 1 (by decide)
    have f2w1 := HK1.out.mf 2 (by decide)
    have r0w1 := HK1.out.r0
    have r1w1 := HK1.out.r1
    have r2w1 := HK1.out.r2
    have q0w1 := HK1.out.rf 0 (by decide)
    have q1w1 := HK1.out.rf 1 (by decide)
    have q2w1 := HK1.out.rf 2 (by decide)
    have szw1 := HK1.out.sz
    have HK1b : Hid (MkW w (w1.setCell ⟨w.heap.size + 1 + 1, 1, none⟩ (.int .i64 x2)) false ty x2 ai) := HK1.out.setR x2
    clear HK1
    go_wp2
    refine bodyPost_ret (v := .agg #[.int .i64 ty, .int .i64 x2, .int .i64 ai]) (by simp [results, Try.results21, go_sem, m0w1, m1w1, m2w1, r0w1, r1w1, r2w1]) rfl ⟨rfl, ?_⟩
    exact HK1b.out.out
  · rw [show Um.mkR x2 ri true = x2 from rfl]
    by_cases hx : 0 ≤ x0
    · rw [show Um.mkA x0 ai true = x0 from if_pos hx]
      obtain ⟨W, hW⟩ : ∃ W, W = (((w.alloc (.cells #[.int .i64 d, .int .i64 ty, .int .i64 ri, .int .i64 ai, .bool true, .bool true] 34)).alloc (.cells #[.int .i64 0, .int .i64 0, .int .i64 0] 51)).alloc (.cells #[.int .i64 ty, .int .i64 ri, .int .i64 ai] 51)) := ⟨_, rfl⟩
      have HK : Hid (MkW w W true ty ri ai) := by rw [hW]; exact mkw_new w d ty ri ai true true
      go_enter Try.func21, Try.ntmps21
      go_wp2_with fail
      rw [← hW]
      refine (HV.out W HK.out.bel).mono ?_
      rintro r w1 ⟨rfl, hb⟩
      have HK1 : Hid (MkW w w1 true ty ri ai) := HK.out.on hb
      clear hb hW HK
      have a5w1 := HK1.out.a5
      have m0w1 := HK1.out.m0
      have m1w1 := HK1.out.m1
      have m2w1 := HK1.out.m2
      have f0w1 := HK1.out.mf 0 (by decide)
      have f1w1 := HK1.out.mf 1 (by decide)
      have f2w1 := HK1.out.mf 2 (by decide)
      have r0w1 := HK1.out.r0
      have r1w1 := HK1.out.r1
      have r2w1 := HK1.out.r2
      have q0w1 := HK1.out.rf 0 (by decide)
      have q1w1 := HK1.out.rf 1 (by decide)
      have q2w1 := HK1.out.rf 2 (by decide)
      have szw1 := HK1.out.sz
      have HK1b : Hid (MkW w (w1.setCell ⟨w.heap.size + 1 + 1, 1, none⟩ (.int .i64 x2)) true ty x2 ai) := HK1.out.setR x2
      clear HK1
      go_wp2_with fail
      refine (HV.out (w1.setCell ⟨w.heap.size + 1 + 1, 1, none⟩ (.int .i64 x2)) HK1b.out.bel).mono ?_
      rintro r w2 ⟨rfl, hb⟩
      have HK2 : Hid (MkW w w2 true ty x2 ai) := HK1b.out.on hb
      clear hb HK1b
      clear a5w1 m0w1 m1w1 m2w1 f0w1 f1w1 f2w1 r0w1 r1w1 r2w1 q0w1 q1w1 q2w1 szw1
      have a5w2 := HK2.out.a5
      have m0w2 := HK2.out.m0
      have m1w2 := HK2.out.m1
      have m2w2 := HK2.out.m2
      have f0w2 := HK2.out.mf 0 (by decide)
      have f1w2 := HK2.out.mf 1 (by decide)
      have f2w2 := HK2.out.mf 2 (by decide)
      have r0w2 := HK2.out.r0
      have r1w2 := HK2.out.r1
      have r2w2 := HK2.out.r2
      have q0w2 := HK2.out.rf 0 (by decide)
      have q1w2 := HK2.out.rf 1 (by decide)
      have q2w2 := HK2.out.rf 2 (by decide)
      have szw2 := HK2.out.sz
      have HK2b : Hid (MkW w w2 true ty x2 ai) := HK2
      clear HK2
      go_wp2_with fail
      refine (HV.out w2 HK2b.out.bel).mono ?_
      rintro r w3 ⟨rfl, hb⟩
      have HK3 : Hid (MkW w w3 true ty x2 ai) := HK2b.out.on hb
      clear hb HK2b
      clear a5w2 m0w2 m1w2 m2w2 f0w2 f1w2 f2w2 r0w2 r1w2 r2w2 q0w2 q1w2 q2w2 szw2
      have a5w3 := HK3.out.a5
      have m0w3 := HK3.out.m0
      have m1w3 := HK3.out.m1
      have m2w3 := HK3.out.m2
      have f0w3 := HK3.out.mf 0 (by decide)
      have f1w3 := HK3.out.mf 1 (by decide)
      have f2w3 := HK3.out.mf 2 (by decide)
      have r0w3 := HK3.out.r0
      have r1w3 := HK3.out.r1
      have r2w3 := HK3.out.r2
      have q0w3 := HK3.out.rf 0 (by decide)
      have q1w3 := HK3.out.rf 1 (by decide)
      have q2w3 := HK3.out.rf 2 (by decide)
      have szw3 := HK3.out.sz
      have HK3b : Hid (MkW w (w3.setCell ⟨w.heap.size + 1 + 1, 2, none⟩ (.int .i64 x0)) true ty x2 x0) := HK3.out.setA x0
      clear HK3
      go_wp2
      refine bodyPost_ret (v := .agg #[.int .i64 ty, .int .i64 x2, .int .i64 x0]) (by simp [results, Try.results21, go_sem, m0w3, m1w3, m2w3, r0w3, r1w3, r2w3]) rfl ⟨rfl, ?_⟩
      exact HK3b.out.out
    · rw [show Um.mkA x0 ai true = ai from if_neg hx]
      obtain ⟨W, hW⟩ : ∃ W, W = (((w.alloc (.cells #[.int .i64 d, .int .i64 ty, .int .i64 ri, .int .i64 ai, .bool true, .bool true] 34)).alloc (.cells #[.int .i64 0, .int .i64 0, .int .i64 0] 51)).alloc (.cells #[.int .i64 ty, .int .i64 ri, .int .i64 ai] 51)) := ⟨_, rfl⟩
      have HK : Hid (MkW w W true ty ri ai) := by rw [hW]; exact mkw_new w d ty ri ai true true
      go_enter Try.func21, Try.ntmps21
      go_wp2_with fail
      rw [← hW]
      refine (HV.out W HK.out.bel).mono ?_
      rintro r w1 ⟨rfl, hb⟩
      have HK1 : Hid (MkW w w1 true ty ri ai) := HK.out.on hb
      clear hb hW HK
      have a5w1 := HK1.out.a5
      have m0w1 := HK1.out.m0
      have m1w1 := HK1.out.m1
      have m2w1 := HK1.out.m2
      have f0w1 := HK1.out.mf 0 (by decide)
      have f1w1 := HK1.out.mf 1 (by decide)
      have f2w1 := HK1.out.mf 2 (by decide)
      have r0w1 := HK1.out.r0
      have r1w1 := HK1.out.r1
      have r2w1 := HK1.out.r2
      have q0w1 := HK1.out.rf 0 (by decide)
      have q1w1 := HK1.out.rf 1 (by decide)
      have q2w1 := HK1.out.rf 2 (by decide)
      have szw1 := HK1.out.sz
      have HK1b : Hid (MkW w (w1.setCell ⟨w.heap.size + 1 + 1, 1, none⟩ (.int .i64 x2)) true ty x2 ai) := HK1.out.setR x2
      clear HK1
      go_wp2_with fail
      refine (HV.out (w1.setCell ⟨w.heap.size + 1 + 1, 1, none⟩ (.int .i64 x2)) HK1b.out.bel).mono ?_
      rintro r w2 ⟨rfl, hb⟩
      have HK2 : Hid (MkW w w2 true ty x2 ai) := HK1b.out.on hb
      clear hb HK1b
      clear a5w1 m0w1 m1w1 m2w1 f0w1 f1w1 f2w1 r0w1 r1w1 r2w1 q0w1 q1w1 q2w1 szw1
      have a5w2 := HK2.out.a5
      have m0w2 := HK2.out.m0
      have m1w2 := HK2.out.m1
      have m2w2 := HK2.out.m2
      have f0w2 := HK2.out.mf 0 (by decide)
      have f1w2 := HK2.out.mf 1 (by decide)
      have f2w2 := HK2.out.mf 2 (by decide)
      have r0w2 := HK2.out.r0
      have r1w2 := HK2.out.r1
      have r2w2 := HK2.out.r2
      have q0w2 := HK2.out.rf 0 (by decide)
      have q1w2 := HK2.out.rf 1 (by decide)
      have q2w2 := HK2.out.rf 2 (by decide)
      have szw2 := HK2.out.sz
      have HK2b : Hid (MkW w w2 true ty x2 ai) := HK2
      clear HK2
      go_wp2
      refine bodyPost_ret (v := .agg #[.int .i64 ty, .int .i64 x2, .int .i64 ai]) (by simp [results, Try.results21, go_sem, m0w2, m1w2, m2w2, r0w2, r1w2, r2w2]) rfl ⟨rfl, ?_⟩
      exact HK2b.out.out
end Go.Proofs.Ytdnhcpkpajbhoaa
