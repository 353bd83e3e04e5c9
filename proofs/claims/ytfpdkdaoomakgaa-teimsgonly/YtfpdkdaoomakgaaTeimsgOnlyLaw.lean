/-
  The walk of the law TeimsgOnly: it returns true.
-/
import Derived.Test.YtfpdkdaoomakgaaTeimsgOfWalks
import Derived.Test.YtfpdkdaoomakgaaTeimsgWakes
import Derived.Test.YtfpdkdaoomakgaaRegionGrow
namespace Go.Proofs.Ytfpdkdaoomakgaa
open Go.RowKit
set_option linter.unusedVariables false
set_option linter.unusedSimpArgs false

/-- two numbers lie where they were put -/
structure Two (w : World) (B : Nat) (a b : Int) : Prop where
  lt : B < w.heap.size
  c0 : w.cell? ⟨B, 0, none⟩ = some (.int .i64 a)
  c1 : w.cell? ⟨B, 1, none⟩ = some (.int .i64 b)
theorem Two.later {w w' : World} {B : Nat} {a b : Int} (h : Two w B a b) (hb : Below w.heap.size w w') : Two w' B a b :=
  ⟨Nat.lt_of_lt_of_le h.lt hb.size, (hb.cell (p := ⟨B, 0, none⟩) h.lt).trans h.c0, (hb.cell (p := ⟨B, 1, none⟩) h.lt).trans h.c1⟩
theorem two_new (w : World) (a b : Int) (T : TypeId) : Two (w.alloc (.cells #[.int .i64 a, .int .i64 b] T)) w.heap.size a b := ⟨by simp, by simp, by simp⟩

/-- the message and the two numbers lie where they were put -/
structure OnlyH (w0 : World) (t ri ai y0 y1 : Int) (w : World) : Prop where
  x : Msg3 w w0.heap.size t ri ai
  y : Two w (w0.heap.size + 1) y0 y1
  bel : Below w0.heap.size w0 w
theorem OnlyH.later {w0 w w' : World} {t ri ai y0 y1 : Int} (h : OnlyH w0 t ri ai y0 y1 w) (hb : Below w.heap.size w w') : OnlyH w0 t ri ai y0 y1 w' :=
  ⟨h.x.later hb, h.y.later hb, h.bel.trans (hb.mono h.bel.size)⟩
theorem only_start (w : World) (t ri ai y0 y1 : Int) (T U : TypeId) : OnlyH w t ri ai y0 y1 ((w.alloc (.cells #[.int .i64 t, .int .i64 ri, .int .i64 ai] T)).alloc (.cells #[.int .i64 y0, .int .i64 y1] U)) := by
  have hy := two_new (w.alloc (.cells #[.int .i64 t, .int .i64 ri, .int .i64 ai] T)) y0 y1 U
  rw [show (w.alloc (.cells #[.int .i64 t, .int .i64 ri, .int .i64 ai] T)).heap.size = w.heap.size + 1 from by simp] at hy
  exact ⟨(msg3_new w t ri ai _).later ((Below.refl _ _).alloc (Nat.le_refl _) _), hy, ((Below.refl _ _).alloc (Nat.le_refl _) _).alloc (by simp) _⟩

theorem of_snd_link {S : ByteArray} {t ri ai : Int} {b : Bool} (h : Tm.getRes S = ((t, ri, ai), 0)) (hb : Tm.net t = b) (y0 y1 : Int) : (Tm.ofRes y0 y1 true 6 S b).2 = decide (y0 = 63 ∧ y1 = 127) := by
  by_cases hl : y0 = 63 ∧ y1 = 127
  · rw [Tm.of_in ⟨hl.1, hl.2, rfl, rfl⟩ (by rw [h]) (by rw [h]; exact hb)]; simp [hl]
  · rw [Tm.of_out (fun q => hl ⟨q.1.1, q.1.2.1⟩)]; simp [hl]
theorem of_snd_kind {S : ByteArray} {t ri ai : Int} {b : Bool} (h : Tm.getRes S = ((t, ri, ai), 0)) (hb : Tm.net t = b) (k : Int) : (Tm.ofRes 63 127 true k S b).2 = decide (k = 6) := by
  by_cases hl : k = 6
  · rw [Tm.of_in ⟨rfl, rfl, hl, rfl⟩ (by rw [h]) (by rw [h]; exact hb)]; simp [hl]
  · rw [Tm.of_out (fun q => hl q.1.2.2.1)]; simp [hl]
theorem of_snd_cmd (S : ByteArray) (b : Bool) : (Tm.ofRes 63 127 false 6 S b).2 = false := by
  rw [Tm.of_out (fun q => Bool.noConfusion q.1.2.2.2)]

/-! ### the region 'g, h, i := f, f, f': what each operation does -/
theorem runy_ld8 {ρ : Operand → Value} {o : Oper} {x : Operand} {L : Nat} {sapi tei : Int} {c : Bool} {k : Int} {pf : Bool} {ns nr : Int} {info : ByteArray} {w : World} (hop : o.op = .load 38 x) (hx : ρ x = .pointer (some ⟨L, 0, none⟩)) (hc : FrC w L sapi tei c k pf ns nr info) : (execOp ρ o).run Try.prog w = .ok (.value (frA sapi tei c k pf ns nr info)) w := by
  obtain ⟨hlt, c0, c1, c2, c3, c4, c5, c6, c7⟩ := hc
  unfold execOp frA
  simp only [hop, hx]
  go_simp
theorem runy_alloc {ρ : Operand → Value} {o : Oper} (hop : o.op = .alloc 38) (w : World) : (execOp ρ o).run Try.prog w = .ok (.value (.pointer (some ⟨w.heap.size, 0, none⟩))) (w.alloc (.cells #[.int .i64 0, .int .i64 0, .bool false, .int .i64 0, .bool false, .int .i64 0, .int .i64 0, .string ⟨#[]⟩] 38)) := by
  unfold execOp
  simp only [hop]
  go_simp
theorem runy_st8 {ρ : Operand → Value} {o : Oper} {x y : Operand} {B : Nat} {sapi tei : Int} {c : Bool} {k : Int} {pf : Bool} {ns nr : Int} {info : ByteArray} {w : World} (hop : o.op = .store 38 x y) (hx : ρ x = .pointer (some ⟨B, 0, none⟩)) (hy : ρ y = frA sapi tei c k pf ns nr info) (hE : Eight w B) :
    (execOp ρ o).run Try.prog w = .ok .skip (set8 w B (.int .i64 sapi) (.int .i64 tei) (.bool c) (.int .i64 k) (.bool pf) (.int .i64 ns) (.int .i64 nr) (.string info)) := by
  obtain ⟨v0, v1, v2, v3, v4, v5, v6, v7, c0, c1, c2, c3, c4, c5, c6, c7, f0, f1, f2, f3, f4, f5, f6, f7⟩ := hE.parts
  unfold frA at hy
  unfold execOp set8
  simp only [hop, hx, hy]
  go_simp

def onlyDst : Nat → Option Nat
  | 0 => some 34 | 1 => some 35 | 2 => some 36 | 3 => some 8 | 4 => some 9 | 5 => some 10 | _ => none
def onlyVal (F : Value) (B : Nat → Nat) : Nat → Value
  | 0 => F | 1 => F | 2 => F | 3 => .pointer (some ⟨B 3, 0, none⟩) | 4 => .pointer (some ⟨B 4, 0, none⟩) | 5 => .pointer (some ⟨B 5, 0, none⟩) | _ => undef
theorem onlyDst_inj : ∀ i j d, i < 9 → j < 9 → onlyDst i = some d → onlyDst j = some d → i = j := by
  have h : ∀ i < 9, ∀ j < 9, onlyDst i = onlyDst j → onlyDst i ≠ none → i = j := by decide
  intro i j d hi hj h1 h2
  exact h i hi j hj (h1.trans h2.symm) (by rw [h1]; simp)
theorem onlyDst_lt : ∀ i d, i < 9 → onlyDst i = some d → d < 85 := by
  have h : ∀ i < 9, (onlyDst i).all (· < 85) = true := by decide
  intro i d hi hd
  have := h i hi
  rw [hd] at this
  simpa using this

/-- the world while the region runs: three new blocks, one for each that came up, and what they hold -/
structure OnlyJ (w4 : World) (S : ByteArray) (B : Nat → Nat) (l : Array Bool) (w : World) : Prop where
  b : Below w4.heap.size w4 w
  e : ∀ j, 3 ≤ j → j ≤ 5 → l.getD j false = true → Eight w (B j) ∧ w4.heap.size ≤ B j
  d : ∀ i j, 3 ≤ i → i ≤ 5 → 3 ≤ j → j ≤ 5 → i ≠ j → l.getD i false = true → l.getD j false = true → B i ≠ B j
  s : ∀ j, 3 ≤ j → j ≤ 5 → l.getD (j + 3) false = true → l.getD j false = true ∧ Is8 w (B j) (.int .i64 63) (.int .i64 127) (.bool true) (.int .i64 6) (.bool false) (.int .i64 0) (.int .i64 0) (.string S)
theorem OnlyJ.keep {w4 : World} {S : ByteArray} {B : Nat → Nat} {l : Array Bool} {w : World} (h : OnlyJ w4 S B l w) {i : Nat} (hi : i < 3) : OnlyJ w4 S B (l.setIfInBounds i true) w := by
  have hl : ∀ j, 3 ≤ j → (l.setIfInBounds i true).getD j false = true → l.getD j false = true := fun j hj q => (set_listed q).resolve_left (by omega)
  have hb : ∀ j, l.getD j false = true → (l.setIfInBounds i true).getD j false = true := by
    intro j q
    by_cases hij : i = j
    · subst hij
      refine listed_same ?_
      rcases Nat.lt_or_ge i l.size with h' | h'
      · exact h'
      · simp [Array.getElem?_eq_none h'] at q
    · rw [getD_set_ne false hij]; exact q
  exact ⟨h.b, fun j h1 h2 q => h.e j h1 h2 (hl j h1 q), fun a c h1 h2 h3 h4 h5 q r => h.d a c h1 h2 h3 h4 h5 (hl a h1 q) (hl c h3 r), fun j h1 h2 q => ⟨hb j (h.s j h1 h2 (hl (j + 3) (by omega) q)).1, (h.s j h1 h2 (hl (j + 3) (by omega) q)).2⟩⟩
/-- one more new block -/
theorem OnlyJ.made {w4 : World} {S : ByteArray} {B : Nat → Nat} {l : Array Bool} {w : World} (h : OnlyJ w4 S B l w) {i : Nat} (h3 : 3 ≤ i) (h5 : i ≤ 5) (hs : l.size = 9) (hn : l.getD i false = false) : OnlyJ w4 S (fun k => if k = i then w.heap.size else B k) (l.setIfInBounds i true) (w.alloc (.cells #[.int .i64 0, .int .i64 0, .bool false, .int .i64 0, .bool false, .int .i64 0, .int .i64 0, .string ⟨#[]⟩] 38)) := by
  have hq : Below w.heap.size w (w.alloc (.cells #[.int .i64 0, .int .i64 0, .bool false, .int .i64 0, .bool false, .int .i64 0, .int .i64 0, .string ⟨#[]⟩] 38)) := (Below.refl _ _).alloc (Nat.le_refl _) _
  have hle := h.b.size
  refine ⟨h.b.alloc hle _, fun j h1 h2 q => ?_, fun a c h1 h2 h3' h4 h5' q r => ?_, fun j h1 h2 q => ?_⟩
  · by_cases hj : j = i
    · simp only [hj, if_true]
      exact ⟨eight_new w _ _ _ _ _ _ _ _ _, hle⟩
    · simp only [if_neg hj]
      obtain ⟨p1, p2⟩ := h.e j h1 h2 ((set_listed q).resolve_left hj)
      exact ⟨p1.later hq, p2⟩
  · by_cases ha : a = i
    · have hc : c ≠ i := fun e => h5' (by rw [ha, e])
      simp only [ha, if_true, if_neg hc]
      have := (h.e c h3' h4 ((set_listed r).resolve_left hc)).1.lt
      omega
    · by_cases hc : c = i
      · simp only [hc, if_true, if_neg ha]
        have := (h.e a h1 h2 ((set_listed q).resolve_left ha)).1.lt
        omega
      · simp only [if_neg ha, if_neg hc]
        exact h.d a c h1 h2 h3' h4 h5' ((set_listed q).resolve_left ha) ((set_listed r).resolve_left hc)
  · obtain ⟨p1, p2⟩ := h.s j h1 h2 ((set_listed q).resolve_left (by omega))
    have hj : j ≠ i := fun e => by rw [e, hn] at p1; exact absurd p1 (by decide)
    simp only [if_neg hj]
    refine ⟨by rw [getD_set_ne false (Ne.symm hj)]; exact p1, p2.alloc (h.e j h1 h2 p1).1.lt _⟩
/-- one block written -/
theorem OnlyJ.put {w4 : World} {S : ByteArray} {B : Nat → Nat} {l : Array Bool} {w : World} (h : OnlyJ w4 S B l w) {i : Nat} (h3 : 3 ≤ i) (h5 : i ≤ 5) (hi : l.getD i false = true) : OnlyJ w4 S B (l.setIfInBounds (i + 3) true) (set8 w (B i) (.int .i64 63) (.int .i64 127) (.bool true) (.int .i64 6) (.bool false) (.int .i64 0) (.int .i64 0) (.string S)) := by
  obtain ⟨hE, hB⟩ := h.e i h3 h5 hi
  have hl : ∀ j, j ≤ 5 → (l.setIfInBounds (i + 3) true).getD j false = true → l.getD j false = true := fun j hj q => (set_listed q).resolve_left (by omega)
  have hk : ∀ j, 3 ≤ j → j ≤ 5 → j ≠ i → l.getD j false = true → (set8 w (B i) (.int .i64 63) (.int .i64 127) (.bool true) (.int .i64 6) (.bool false) (.int .i64 0) (.int .i64 0) (.string S)).heap[B j]? = w.heap[B j]? := fun j h1 h2 hj q => set8_block _ _ _ _ _ _ _ _ _ _ _ (h.d j i h1 h2 h3 h5 hj q hi)
  refine ⟨set8_below' h.b hB _ _ _ _ _ _ _ _, fun j h1 h2 q => ?_, fun a c h1 h2 h3' h4 h5' q r => h.d a c h1 h2 h3' h4 h5' (hl a h2 q) (hl c h4 r), fun j h1 h2 q => ?_⟩
  · by_cases hj : j = i
    · subst hj
      exact ⟨set8_eight hE _ _ _ _ _ _ _ _, hB⟩
    · obtain ⟨p1, p2⟩ := h.e j h1 h2 (hl j h2 q)
      exact ⟨p1.kept (hk j h1 h2 hj (hl j h2 q)) (by rw [set8_size]; exact Nat.le_refl _), p2⟩
  · by_cases hj : j = i
    · subst hj
      exact ⟨by rw [getD_set_ne false (by omega)]; exact hi, set8_is hE _ _ _ _ _ _ _ _⟩
    · obtain ⟨p1, p2⟩ := h.s j h1 h2 ((set_listed q).resolve_left (by omega))
      exact ⟨by rw [getD_set_ne false (by omega)]; exact p1, p2.kept (hk j h1 h2 hj p1)⟩
theorem unlisted {ops : Array Oper} {l : Array Bool} {i : Nat} (h : i ∈ Region.ready .any ops l) (hs : l.size = 9) : l.getD i false = false := by
  have := (mem_ready.1 h).1
  have hlt := unlisted_lt this
  simp [hlt] at this ⊢
  exact this
theorem onlyVal_keep {F : Value} {B : Nat → Nat} {l : Array Bool} {i n : Nat} (hn : l.getD i false = false) : ∀ j, j < 9 → l.getD j false = true → onlyVal F (fun k => if k = i then n else B k) j = onlyVal F B j := by
  intro j hj hl
  have hne : j ≠ i := fun e => by rw [e, hn] at hl; exact absurd hl (by decide)
  unfold onlyVal
  split <;> first | rfl | (simp only [if_neg hne])
theorem Is8.frc {w : World} {B : Nat} {S : ByteArray} (h : Is8 w B (.int .i64 63) (.int .i64 127) (.bool true) (.int .i64 6) (.bool false) (.int .i64 0) (.int .i64 0) (.string S)) (hlt : B < w.heap.size) : FrC w B 63 127 true 6 false 0 0 S := ⟨hlt, h.c0, h.c1, h.c2, h.c3, h.c4, h.c5, h.c6, h.c7⟩

theorem frc_setl {w : World} {B : Nat} {sapi tei : Int} {c : Bool} {k : Int} {pf : Bool} {ns nr : Int} {info : ByteArray} (h : FrC w B sapi tei c k pf ns nr info) (x y : Int) : FrC ((w.setCell ⟨B, 0, none⟩ (.int .i64 x)).setCell ⟨B, 1, none⟩ (.int .i64 y)) B x y c k pf ns nr info := by
  refine ⟨by simpa using h.lt, ?_, ?_, ?_, ?_, ?_, ?_, ?_, ?_⟩
  · rw [set_other (by decide)]; exact set_same ⟨_, h.c0⟩
  · exact set_same (some_other (by decide) ⟨_, h.c1⟩)
  · rw [set_other (by decide), set_other (by decide)]; exact h.c2
  · rw [set_other (by decide), set_other (by decide)]; exact h.c3
  · rw [set_other (by decide), set_other (by decide)]; exact h.c4
  · rw [set_other (by decide), set_other (by decide)]; exact h.c5
  · rw [set_other (by decide), set_other (by decide)]; exact h.c6
  · rw [set_other (by decide), set_other (by decide)]; exact h.c7
theorem frc_setk {w : World} {B : Nat} {sapi tei : Int} {c : Bool} {k : Int} {pf : Bool} {ns nr : Int} {info : ByteArray} (h : FrC w B sapi tei c k pf ns nr info) (x : Int) : FrC (w.setCell ⟨B, 3, none⟩ (.int .i64 x)) B sapi tei c x pf ns nr info := by
  refine ⟨by simpa using h.lt, ?_, ?_, ?_, set_same ⟨_, h.c3⟩, ?_, ?_, ?_, ?_⟩
  · rw [set_other (by decide)]; exact h.c0
  · rw [set_other (by decide)]; exact h.c1
  · rw [set_other (by decide)]; exact h.c2
  · rw [set_other (by decide)]; exact h.c4
  · rw [set_other (by decide)]; exact h.c5
  · rw [set_other (by decide)]; exact h.c6
  · rw [set_other (by decide)]; exact h.c7
theorem frc_setc {w : World} {B : Nat} {sapi tei : Int} {c : Bool} {k : Int} {pf : Bool} {ns nr : Int} {info : ByteArray} (h : FrC w B sapi tei c k pf ns nr info) (x : Bool) : FrC (w.setCell ⟨B, 2, none⟩ (.bool x)) B sapi tei x k pf ns nr info := by
  refine ⟨by simpa using h.lt, ?_, ?_, set_same ⟨_, h.c2⟩, ?_, ?_, ?_, ?_, ?_⟩
  · rw [set_other (by decide)]; exact h.c0
  · rw [set_other (by decide)]; exact h.c1
  · rw [set_other (by decide)]; exact h.c3
  · rw [set_other (by decide)]; exact h.c4
  · rw [set_other (by decide)]; exact h.c5
  · rw [set_other (by decide)]; exact h.c6
  · rw [set_other (by decide)]; exact h.c7
theorem frc_off {w : World} {B G j : Nat} {v : Value} {sapi tei : Int} {c : Bool} {k : Int} {pf : Bool} {ns nr : Int} {info : ByteArray} (h : FrC w B sapi tei c k pf ns nr info) (hne : B ≠ G) : FrC (w.setCell ⟨G, j, none⟩ v) B sapi tei c k pf ns nr info :=
  h.kept (Below.heap_setCell _ _ _ _ hne) (by simp)

/-- the three frames, each turned at one place, and the first one -/
structure Turned4 (w0 : World) (G H I F : Nat) (y0 y1 : Int) (S : ByteArray) (w : World) : Prop where
  g : FrC w G y0 y1 true 6 false 0 0 S
  h : FrC w H 63 127 true y0 false 0 0 S
  i : FrC w I 63 127 false 6 false 0 0 S
  f : FrC w F 63 127 true 6 false 0 0 S
  bel : Below w0.heap.size w0 w
theorem Turned4.later {w0 : World} {G H I F : Nat} {y0 y1 : Int} {S : ByteArray} {w w' : World} (h : Turned4 w0 G H I F y0 y1 S w) (hb : Below w.heap.size w w') : Turned4 w0 G H I F y0 y1 S w' :=
  ⟨h.g.later hb, h.h.later hb, h.i.later hb, h.f.later hb, h.bel.trans (hb.mono h.bel.size)⟩
theorem turned4 {w0 w : World} {G H I F : Nat} {S : ByteArray} (y0 y1 : Int) (hg : FrC w G 63 127 true 6 false 0 0 S) (hh : FrC w H 63 127 true 6 false 0 0 S) (hi : FrC w I 63 127 true 6 false 0 0 S) (hf : FrC w F 63 127 true 6 false 0 0 S) (bel : Below w0.heap.size w0 w)
    (lg : w0.heap.size ≤ G) (lh : w0.heap.size ≤ H) (li : w0.heap.size ≤ I) (dgh : G ≠ H) (dgi : G ≠ I) (dhi : H ≠ I) (dfg : F ≠ G) (dfh : F ≠ H) (dfi : F ≠ I) :
    Turned4 w0 G H I F y0 y1 S ((((w.setCell ⟨G, 0, none⟩ (.int .i64 y0)).setCell ⟨G, 1, none⟩ (.int .i64 y1)).setCell ⟨H, 3, none⟩ (.int .i64 y0)).setCell ⟨I, 2, none⟩ (.bool false)) :=
  ⟨frc_off (frc_off (frc_setl hg y0 y1) dgh) dgi, frc_off (frc_setk (frc_off (frc_off hh (Ne.symm dgh)) (Ne.symm dgh)) y0) dhi, frc_setc (frc_off (frc_off (frc_off hi (Ne.symm dgi)) (Ne.symm dgi)) (Ne.symm dhi)) false,
   frc_off (frc_off (frc_off (frc_off hf dfg) dfg) dfh) dfi, (((bel.setCell (p := ⟨G, 0, none⟩) lg _).setCell (p := ⟨G, 1, none⟩) lg _).setCell (p := ⟨H, 3, none⟩) lh _).setCell (p := ⟨I, 2, none⟩) li _⟩

theorem field_t (W : World) (t ri ai : Int) : (Instr.field 29 (.agg #[.int .i64 t, .int .i64 ri, .int .i64 ai]) 0).run Try.prog W = .ok (.int .i64 t) W := by
  first | kernel_rfl | rfl

set_option maxHeartbeats 4000000 in
set_option maxRecDepth 100000 in
theorem walk_TeimsgOnly (t ri ai y0 y1 : Int) (w : World) (ht : -9223372036854775808 ≤ t ∧ t ≤ 9223372036854775807) (hr : -9223372036854775808 ≤ ri ∧ ri ≤ 9223372036854775807) (ha : -9223372036854775808 ≤ ai ∧ ai ≤ 9223372036854775807) (hy0 : -9223372036854775808 ≤ y0 ∧ y0 ≤ 9223372036854775807) (hy1 : -9223372036854775808 ≤ y1 ∧ y1 ≤ 9223372036854775807) :
    Calls Try.prog 7 #[.agg #[.int .i64 t, .int .i64 ri, .int .i64 ai], .agg #[.int .i64 y0, .int .i64 y1]] w fun e w' => e = .returned (.bool true) ∧ Below w.heap.size w w' := by
  clear ht hr ha hy0 hy1
  have hH0 := only_start w t ri ai y0 y1 23 65
  have hF := fun W => tframe_any t ri ai W
  go_enter Try.func7, Try.ntmps7
  go_wp2_with fail
  refine (tmade_any t ri ai _).mono ?_
  rintro e w1 ⟨rfl, hb1⟩
  have hH1 := hH0.later hb1
  clear hH0 hb1
  go_wp2_with fail
  refine (hF _).mono ?_
  rintro e w2 ⟨rfl, hb2⟩
  have hH2 := hH1.later hb2
  clear hH1 hb2 hF
  by_cases h0 : (Tm.putRes t ri ai).2 = 0
  · rw [tfr_in h0]
    simp only [frA]
    have HG := Tm.get_back h0
    have hsz := Tm.put_five h0
    clear h0
    generalize (Tm.putRes t ri ai).1 = S at HG hsz ⊢
    have hA2 := frc_new w2 63 127 true 6 false 0 0 S 38
    have hH3 := hH2.later ((Below.refl _ _).alloc (Nat.le_refl _) (.cells #[.int .i64 63, .int .i64 127, .bool true, .int .i64 6, .bool false, .int .i64 0, .int .i64 0, .string S] 38))
    clear hH2
    go_wp2_with fail
    refine (twakes_any _).mono ?_
    rintro e w3 ⟨rfl, hb3⟩
    have hH4 := hH3.later hb3
    have hA3 := hA2.later hb3
    clear hH3 hA2 hb3
    have HX : Hid (Msg3 w3 w.heap.size t ri ai) := hH4.x
    obtain ⟨lx, x0, x1, x2⟩ := hH4.x
    go_wp2_with fail
    refine (tmade_any t ri ai _).mono ?_
    rintro e w4 ⟨rfl, hb4⟩
    clear lx x0 x1 x2 HX
    have hH5 := hH4.later hb4
    have hA4 := hA3.later hb4
    clear hH4 hA3 hb4
    have hN := fun W => from_any t W
    have hft := field_t w4 t ri ai
    go_wp2_with fail
    refine (hN _).mono ?_
    rintro e w' ⟨rfl, rfl⟩
    clear hN hft
    go_wp2
    refine region_grow (by kernel_rfl) 9 rfl onlyDst (onlyVal (frA 63 127 true 6 false 0 0 S)) onlyDst_inj ?hd ?hlow (OnlyJ w4 S) (fun _ => 0) ?h0 ?hstep ?hdone
    case hd => exact onlyDst_lt
    case hlow => kernel_rfl
    case h0 =>
      exact ⟨(Below.refl _ _).drew, fun j _ _ h => by rw [rep_getD'] at h; exact absurd h (by decide), fun i j _ _ _ _ _ h => by rw [rep_getD'] at h; exact absurd h (by decide), fun j _ _ h => by rw [rep_getD'] at h; exact absurd h (by decide)⟩
    case hstep =>
      intro B l a w1 i hi hsz9 hJ hr hK
      have h5 : a.eval (.tmp 5) = .pointer (some ⟨w2.heap.size, 0, none⟩) := hK.rest 5 (by decide)
      have hF := hA4.later hJ.b
      have got : ∀ j, j ∈ depsOf .any _ i → ∀ d, onlyDst j = some d → j < 9 → a.eval (.tmp d) = onlyVal (frA 63 127 true 6 false 0 0 S) B j := fun j hj d hd hj' => hK.got j d hj' (ready_deps hr j hj) hd
      match i, hi, hr, got with
      | 0, _, hr, got => exact grow_val B B rfl (wanted_none rfl) (runy_ld8 rfl h5 hF) rfl (fun _ _ _ => rfl) (hJ.keep (by decide))
      | 1, _, hr, got => exact grow_val B B rfl (wanted_none rfl) (runy_ld8 rfl h5 hF) rfl (fun _ _ _ => rfl) (hJ.keep (by decide))
      | 2, _, hr, got => exact grow_val B B rfl (wanted_none rfl) (runy_ld8 rfl h5 hF) rfl (fun _ _ _ => rfl) (hJ.keep (by decide))
      | 3, _, hr, got =>
        have hn : l.getD 3 false = false := unlisted hr hsz9
        exact grow_val B (fun k => if k = 3 then w1.heap.size else B k) rfl (wanted_none rfl) (runy_alloc rfl w1) rfl (onlyVal_keep hn) (hJ.made (by decide) (by decide) hsz9 hn)
      | 4, _, hr, got =>
        have hn : l.getD 4 false = false := unlisted hr hsz9
        exact grow_val B (fun k => if k = 4 then w1.heap.size else B k) rfl (wanted_none rfl) (runy_alloc rfl w1) rfl (onlyVal_keep hn) (hJ.made (by decide) (by decide) hsz9 hn)
      | 5, _, hr, got =>
        have hn : l.getD 5 false = false := unlisted hr hsz9
        exact grow_val B (fun k => if k = 5 then w1.heap.size else B k) rfl (wanted_none rfl) (runy_alloc rfl w1) rfl (onlyVal_keep hn) (hJ.made (by decide) (by decide) hsz9 hn)
      | 6, _, hr, got => exact grow_skip B rfl (wanted_none rfl) (runy_st8 rfl (got 3 (by decide) 8 rfl (by decide)) (got 0 (by decide) 34 rfl (by decide)) (hJ.e 3 (by decide) (by decide) (ready_deps hr 3 (by decide))).1) rfl rfl (hJ.put (by decide) (by decide) (ready_deps hr 3 (by decide)))
      | 7, _, hr, got => exact grow_skip B rfl (wanted_none rfl) (runy_st8 rfl (got 4 (by decide) 9 rfl (by decide)) (got 1 (by decide) 35 rfl (by decide)) (hJ.e 4 (by decide) (by decide) (ready_deps hr 4 (by decide))).1) rfl rfl (hJ.put (by decide) (by decide) (ready_deps hr 4 (by decide)))
      | 8, _, hr, got => exact grow_skip B rfl (wanted_none rfl) (runy_st8 rfl (got 5 (by decide) 10 rfl (by decide)) (got 2 (by decide) 36 rfl (by decide)) (hJ.e 5 (by decide) (by decide) (ready_deps hr 5 (by decide))).1) rfl rfl (hJ.put (by decide) (by decide) (ready_deps hr 5 (by decide)))
      | j + 9, hlt, _, _ => exact absurd hlt (by omega)
    case hdone =>
      intro B l w5 hall hJ
      have hH6 := hH5.later hJ.b
      have hF6 := hA4.later hJ.b
      have hg := (hJ.s 3 (by decide) (by decide) (hall 6 (by decide))).2.frc (hJ.e 3 (by decide) (by decide) (hall 3 (by decide))).1.lt
      have hh := (hJ.s 4 (by decide) (by decide) (hall 7 (by decide))).2.frc (hJ.e 4 (by decide) (by decide) (hall 4 (by decide))).1.lt
      have hi := (hJ.s 5 (by decide) (by decide) (hall 8 (by decide))).2.frc (hJ.e 5 (by decide) (by decide) (hall 5 (by decide))).1.lt
      obtain ⟨Eg, Lg⟩ := hJ.e 3 (by decide) (by decide) (hall 3 (by decide))
      obtain ⟨Eh, Lh⟩ := hJ.e 4 (by decide) (by decide) (hall 4 (by decide))
      obtain ⟨Ei, Li⟩ := hJ.e 5 (by decide) (by decide) (hall 5 (by decide))
      have dgh := hJ.d 3 4 (by decide) (by decide) (by decide) (by decide) (by decide) (hall 3 (by decide)) (hall 4 (by decide))
      have dgi := hJ.d 3 5 (by decide) (by decide) (by decide) (by decide) (by decide) (hall 3 (by decide)) (hall 5 (by decide))
      have dhi := hJ.d 4 5 (by decide) (by decide) (by decide) (by decide) (by decide) (hall 4 (by decide)) (hall 5 (by decide))
      clear hall hJ
      simp only [putsOf, onlyDst, onlyVal, Act.put, List.setIfInBounds_toArray, List.set_cons_zero, List.set_cons_succ]
      generalize B 3 = G at hg Eg Lg dgh dgi ⊢
      generalize B 4 = H at hh Eh Lh dgh dhi ⊢
      generalize B 5 = I at hi Ei Li dgi dhi ⊢
      have lF := hA4.lt
      have lY := hH5.y.lt
      have l4 := hH5.bel.size
      have ny1 : w.heap.size + 1 ≠ G := by omega
      have ny2 : w.heap.size + 1 ≠ H := by omega
      have hT := turned4 (w0 := w) y0 y1 hg hh hi hF6 hH6.bel (by omega) (by omega) (by omega) dgh dgi dhi (show w2.heap.size ≠ G by omega) (show w2.heap.size ≠ H by omega) (show w2.heap.size ≠ I by omega)
      obtain ⟨lG, g0, g1, g2, g3, g4, g5, g6, g7⟩ := hg
      obtain ⟨lH, _, _, _, q3, _, _, _, _⟩ := hh
      obtain ⟨lI, _, _, r2, _, _, _, _, _⟩ := hi
      obtain ⟨_, u0, u1⟩ := hH6.y
      have fg0 := Eg.f 0 (by decide)
      have fg1 := Eg.f 1 (by decide)
      have fh3 := Eh.f 3 (by decide)
      have fi2 := Ei.f 2 (by decide)
      clear Eg Eh Ei Lg Lh Li lF lY l4 hH6 hF6 hA4 hH5
      have hO1 := of_snd_link HG rfl y0 y1
      have hO2 := of_snd_kind HG rfl y0
      have hO3 := of_snd_cmd S (Tm.net t)
      have hP1 := fun W => tof_any y0 y1 true 6 false 0 0 S (Tm.net t) W (by omega)
      have hP2 := fun W => tof_any 63 127 true y0 false 0 0 S (Tm.net t) W (by omega)
      have hP3 := fun W => tof_any 63 127 false 6 false 0 0 S (Tm.net t) W (by omega)
      clear HG hsz
      generalize Tm.net t = b at hO1 hO2 hO3 hP1 hP2 hP3 ⊢
      generalize Tm.ofRes y0 y1 true 6 S b = R1 at hO1 hP1
      generalize Tm.ofRes 63 127 true y0 S b = R2 at hO2 hP2
      generalize Tm.ofRes 63 127 false 6 S b = R3 at hO3 hP3
      obtain ⟨⟨m1, m2, m3⟩, o1⟩ := R1
      obtain ⟨⟨n1, n2, n3⟩, o2⟩ := R2
      obtain ⟨⟨p1, p2, p3⟩, o3⟩ := R3
      simp only [tofV, msgV] at hO1 hO2 hO3 hP1 hP2 hP3
      have HO1 : Hid (o1 = decide (y0 = 63 ∧ y1 = 127)) := hO1
      have HO2 : Hid (o2 = decide (y0 = 6)) := hO2
      clear hO1 hO2
      subst hO3
      go_wp2_with fail
      refine (hP1 _).mono ?_
      rintro e w6 ⟨rfl, hb6⟩
      have hT6 := hT.later hb6
      clear hP1 hT hb6 lG g0 g1 g2 g3 g4 g5 g6 g7 lH q3 lI r2 u0 u1 fg0 fg1 fh3 fi2 dgh dgi dhi ny1 ny2
      have hT7 := hT6.later ((Below.refl _ _).alloc (Nat.le_refl _) (.cells #[.int .i64 m1, .int .i64 m2, .int .i64 m3] 29))
      obtain ⟨lH, h0, h1, h2, h3, h4, h5, h6, h7⟩ := hT6.h
      clear hT6
      go_wp2_with fail
      refine (hP2 _).mono ?_
      rintro e w7 ⟨rfl, hb7⟩
      have hT8 := hT7.later hb7
      clear hP2 hT7 hb7 lH h0 h1 h2 h3 h4 h5 h6 h7
      have hT9 := hT8.later ((Below.refl _ _).alloc (Nat.le_refl _) (.cells #[.int .i64 n1, .int .i64 n2, .int .i64 n3] 29))
      obtain ⟨lI, i0, i1, i2, i3, i4, i5, i6, i7⟩ := hT8.i
      clear hT8
      go_wp2_with fail
      refine (hP3 _).mono ?_
      rintro e w8 ⟨rfl, hb8⟩
      have hT10 := hT9.later hb8
      clear hP3 hT9 hb8 lI i0 i1 i2 i3 i4 i5 i6 i7
      have hbel := hT10.bel.alloc hT10.bel.size (.cells #[.int .i64 p1, .int .i64 p2, .int .i64 p3] 29)
      obtain ⟨lG, g0, g1, g2, g3, g4, g5, g6, g7⟩ := hT10.g
      obtain ⟨lH, h0, h1, h2, h3, h4, h5, h6, h7⟩ := hT10.h
      obtain ⟨lF, f0, f1, f2, f3, f4, f5, f6, f7⟩ := hT10.f
      clear hT10 g2 g3 g4 g5 g6 g7 h0 h1 h2 h4 h5 h6 h7 f2 f4 f5 f6 f7
      by_cases hk : y0 = 6
      · subst hk
        have e1 : o1 = false := by rw [HO1.out]; simp
        have e2 : o2 = true := by rw [HO2.out]; simp
        subst e1 e2
        clear HO1 HO2
        go_wp2
        go_ret
        exact ⟨by simp, hbel⟩
      · have e2 : o2 = false := by rw [HO2.out]; simp [hk]
        have tk : (y0 == 6) = false := by simpa using hk
        subst e2
        clear HO2 hk
        by_cases hx : y0 = 63
        · subst hx
          by_cases hy : y1 = 127
          · subst hy
            have e1 : o1 = true := by rw [HO1.out]; simp
            subst e1
            clear HO1
            go_wp2
            go_ret
            exact ⟨by simp, hbel⟩
          · have e1 : o1 = false := by rw [HO1.out]; simp [hy]
            have ty : (y1 == 127) = false := by simpa using hy
            subst e1
            clear HO1
            go_wp2
            go_ret
            exact ⟨by simp, hbel⟩
        · have e1 : o1 = false := by rw [HO1.out]; simp [hx]
          have tx : (y0 == 63) = false := by simpa using hx
          subst e1
          clear HO1
          go_wp2
          go_ret
          exact ⟨by simp, hbel⟩
  · rw [tfr_out h0]
    simp only [frA]
    have te : ((Tm.putRes t ri ai).2 != 0) = true := by simpa using h0
    clear h0
    generalize (Tm.putRes t ri ai).2 = e0 at te ⊢
    have hbel := hH2.bel.alloc hH2.bel.size (.cells #[.int .i64 0, .int .i64 0, .bool false, .int .i64 0, .bool false, .int .i64 0, .int .i64 0, .string ByteArray.empty] 38)
    clear hH2
    go_wp2_with fail
    refine (twakes_any _).mono ?_
    rintro e w3 ⟨rfl, hb3⟩
    have hbel3 := hbel.trans (hb3.mono hbel.size)
    clear hbel hb3
    go_wp2_with fail
    refine (twakes_any _).mono ?_
    rintro e w4 ⟨rfl, hb4⟩
    go_wp2
    go_ret
    exact ⟨by simp, hbel3.trans (hb4.mono hbel3.size)⟩
end Go.Proofs.Ytfpdkdaoomakgaa
