/-
  The law's function 'same' of layer 16: what is done is the same.
-/
import Derived.Test.YtdnhcpkpajbhoaaUsrRef
import Derived.Test.YtdnhcpkpajbhoaaUsrHold
import Derived.Test.YtdnhcpkpajbhoaaRegionMore
import Derived.Deep.DeepCutAuto
namespace Go.Proofs.Ytdnhcpkpajbhoaa
open Go.RowKit
set_option linter.unusedVariables false
set_option linter.unusedSimpArgs false
set_option maxRecDepth 100000

/-! ### a block of five cells that may be written -/
structure Five (w : World) (B : Nat) : Prop where
  lt : B < w.heap.size
  c : ∀ j, j < 5 → ∃ v, w.cell? ⟨B, j, none⟩ = some v
  f : ∀ j, j < 5 → w.frozen? ⟨B, j, none⟩ = false
theorem Five.kept {w w' : World} {B : Nat} {T : Nat → Prop} (h : Five w B) (hk : Kept w w' T) (hT : ¬ T B) : Five w' B :=
  ⟨Nat.lt_of_lt_of_le h.lt hk.size, fun j hj => by obtain ⟨v, hv⟩ := h.c j hj; exact ⟨v, (hk.cell (p := ⟨B, j, none⟩) h.lt hT).trans hv⟩, fun j hj => (hk.frozen (p := ⟨B, j, none⟩) h.lt hT).trans (h.f j hj)⟩
theorem five_cases (j : Nat) (h : j < 5) : j = 0 ∨ j = 1 ∨ j = 2 ∨ j = 3 ∨ j = 4 := by omega
theorem five_new (w : World) (T : TypeId) : Five (w.alloc (.cells #[.int .i64 0, .int .i64 0, .int .i64 0, .int .i64 0, .int .i64 0] T)) w.heap.size := by
  refine ⟨by simp, fun j hj => ?_, fun j hj => ?_⟩
  · rcases five_cases j hj with rfl | rfl | rfl | rfl | rfl <;> exact ⟨.int .i64 0, by simp⟩
  · rcases five_cases j hj with rfl | rfl | rfl | rfl | rfl <;> simp
def set5 (w : World) (B : Nat) (x : Um.Ef) : World :=
  ((((w.setCell ⟨B, 0, none⟩ (.int .i64 x.k)).setCell ⟨B, 1, none⟩ (.int .i64 x.ty)).setCell ⟨B, 2, none⟩ (.int .i64 x.ri)).setCell ⟨B, 3, none⟩ (.int .i64 x.ai)).setCell ⟨B, 4, none⟩ (.int .i64 x.tei)
theorem set5_kept (w : World) (B : Nat) (x : Um.Ef) : Kept w (set5 w B x) (fun k => k = B) :=
  (((((Kept.refl w (fun k => k = B)).setCell (p := ⟨B, 0, none⟩) (fun _ => rfl) _).setCell (p := ⟨B, 1, none⟩) (fun _ => rfl) _).setCell (p := ⟨B, 2, none⟩) (fun _ => rfl) _).setCell (p := ⟨B, 3, none⟩) (fun _ => rfl) _).setCell (p := ⟨B, 4, none⟩) (fun _ => rfl) _
/-- the cells of an effect in block B -/
def Is5 (w : World) (B : Nat) (x : Um.Ef) : Prop := ∀ k u, (uefL x)[k]? = some u → w.cell? ⟨B, k, none⟩ = some u
theorem s5_other {w : World} {B i j : Nat} {v : Value} (h : i ≠ j) : (w.setCell ⟨B, i, none⟩ v).cell? ⟨B, j, none⟩ = w.cell? ⟨B, j, none⟩ :=
  World.cell?_setCell_other _ _ _ _ (fun e => by injection e with _ e2; omega)
theorem s5_same {w : World} {B j : Nat} {v : Value} (h : ∃ u, w.cell? ⟨B, j, none⟩ = some u) : (w.setCell ⟨B, j, none⟩ v).cell? ⟨B, j, none⟩ = some v := by
  obtain ⟨u, hu⟩ := h
  exact World.cell?_setCell_same' _ ⟨B, j, none⟩ _ (by rw [hu]; rfl)
theorem s5_some {w : World} {B i j : Nat} {v : Value} (h : i ≠ j) (hj : ∃ u, w.cell? ⟨B, j, none⟩ = some u) : ∃ u, (w.setCell ⟨B, i, none⟩ v).cell? ⟨B, j, none⟩ = some u := by
  rw [s5_other h]; exact hj
theorem set5_is {w : World} {B : Nat} (h : Five w B) (x : Um.Ef) : Is5 (set5 w B x) B x := by
  intro k u hk
  unfold set5
  match k, hk with
  | 0, hk => simp [uefL] at hk; subst hk; rw [s5_other (by decide), s5_other (by decide), s5_other (by decide), s5_other (by decide)]; exact s5_same (h.c 0 (by decide))
  | 1, hk => simp [uefL] at hk; subst hk; rw [s5_other (by decide), s5_other (by decide), s5_other (by decide)]; exact s5_same (s5_some (by decide) (h.c 1 (by decide)))
  | 2, hk => simp [uefL] at hk; subst hk; rw [s5_other (by decide), s5_other (by decide)]; exact s5_same (s5_some (by decide) (s5_some (by decide) (h.c 2 (by decide))))
  | 3, hk => simp [uefL] at hk; subst hk; rw [s5_other (by decide)]; exact s5_same (s5_some (by decide) (s5_some (by decide) (s5_some (by decide) (h.c 3 (by decide)))))
  | 4, hk => simp [uefL] at hk; subst hk; exact s5_same (s5_some (by decide) (s5_some (by decide) (s5_some (by decide) (s5_some (by decide) (h.c 4 (by decide))))))
  | k + 5, hk => simp [uefL] at hk
theorem set5_five {w : World} {B : Nat} (h : Five w B) (x : Um.Ef) : Five (set5 w B x) B := by
  have hi := set5_is h x
  refine ⟨Nat.lt_of_lt_of_le h.lt (set5_kept w B x).size, fun j hj => ?_, fun j hj => ?_⟩
  · rcases five_cases j hj with rfl | rfl | rfl | rfl | rfl
    · exact ⟨_, hi 0 _ rfl⟩
    · exact ⟨_, hi 1 _ rfl⟩
    · exact ⟨_, hi 2 _ rfl⟩
    · exact ⟨_, hi 3 _ rfl⟩
    · exact ⟨_, hi 4 _ rfl⟩
  · unfold set5
    rw [World.frozen?_setCell, World.frozen?_setCell, World.frozen?_setCell, World.frozen?_setCell, World.frozen?_setCell]
    exact h.f j hj
theorem Is5.kept {w w' : World} {B : Nat} {x : Um.Ef} {T : Nat → Prop} (h : Is5 w B x) (hl : B < w.heap.size) (hk : Kept w w' T) (hT : ¬ T B) : Is5 w' B x := fun k u hu => (hk.cell (p := ⟨B, k, none⟩) hl hT).trans (h k u hu)

/-! ### the region 'x, y := a[i], b[i]' -/
def smD : Nat → Option Nat | 0 => some 18 | 1 => some 19 | 2 => some 20 | 3 => some 21 | 4 => some 22 | 5 => some 23 | 6 => some 24 | 7 => some 25 | 8 => some 6 | 9 => some 7 | _ => none
def smV (ga gb ca cb n j : Nat) (x : Um.Ef) (B : Nat → Nat) : Nat → Value
  | 0 => .slice (some ⟨ga, 0, none⟩) n ca | 1 => .int .i64 j | 2 => .pointer (some ⟨ga, j * 5, none⟩) | 3 => uefV x
  | 4 => .slice (some ⟨gb, 0, none⟩) n cb | 5 => .int .i64 j | 6 => .pointer (some ⟨gb, j * 5, none⟩) | 7 => uefV x
  | 8 => .pointer (some ⟨B 8, 0, none⟩) | 9 => .pointer (some ⟨B 9, 0, none⟩) | _ => undef
theorem smD_inj : ∀ i j d, i < 12 → j < 12 → smD i = some d → smD j = some d → i = j := by
  have h : ∀ i < 12, ∀ j < 12, smD i = smD j → smD i ≠ none → i = j := by decide
  intro i j d hi hj h1 h2
  exact h i hi j hj (h1.trans h2.symm) (by rw [h1]; simp)
theorem smD_lt : ∀ i d, i < 12 → smD i = some d → d < 66 := by
  have h : ∀ i < 12, (smD i).all (· < 66) = true := by decide
  intro i d hi hd
  have := h i hi
  rw [hd] at this
  simpa using this
theorem smV_keep {ga gb ca cb n j : Nat} {x : Um.Ef} {B : Nat → Nat} {l : Array Bool} {i m : Nat} (hn : l.getD i false = false) : ∀ k, k < 12 → l.getD k false = true → smV ga gb ca cb n j x (fun k => if k = i then m else B k) k = smV ga gb ca cb n j x B k := by
  intro k hk hl
  have hne : k ≠ i := fun e => by rw [e, hn] at hl; exact absurd hl (by decide)
  unfold smV
  split <;> first | rfl | (simp only [if_neg hne])
structure SmJ (w4 : World) (x : Um.Ef) (B : Nat → Nat) (l : Array Bool) (w : World) : Prop where
  b : Below w4.heap.size w4 w
  e : ∀ k, (k = 8 ∨ k = 9) → l.getD k false = true → Five w (B k) ∧ w4.heap.size ≤ B k
  d : l.getD 8 false = true → l.getD 9 false = true → B 8 ≠ B 9
  s : ∀ k, (k = 8 ∨ k = 9) → l.getD (k + 2) false = true → l.getD k false = true ∧ Is5 w (B k) x
theorem SmJ.keep {w4 : World} {x : Um.Ef} {B : Nat → Nat} {l : Array Bool} {w : World} (h : SmJ w4 x B l w) {i : Nat} (hi : i < 8) : SmJ w4 x B (l.setIfInBounds i true) w := by
  have hq : ∀ k, 8 ≤ k → (l.setIfInBounds i true).getD k false = l.getD k false := fun k hk => gr_other (by omega)
  refine ⟨h.b, fun k hk hl => h.e k hk (by rwa [hq k (by omega)] at hl), fun h1 h2 => h.d (by rwa [hq 8 (by omega)] at h1) (by rwa [hq 9 (by omega)] at h2), fun k hk hl => ?_⟩
  have := h.s k hk (by rwa [hq (k + 2) (by omega)] at hl)
  rw [hq k (by omega)]
  exact this
theorem SmJ.made {w4 : World} {x : Um.Ef} {B : Nat → Nat} {l : Array Bool} {w : World} {md : Region.Mode} {ops : Array Oper} (h : SmJ w4 x B l w) {i : Nat} (hi : i = 8 ∨ i = 9) (hr : i ∈ Region.ready md ops l) (T : TypeId) : SmJ w4 x (fun k => if k = i then w.heap.size else B k) (l.setIfInBounds i true) (w.alloc (.cells #[.int .i64 0, .int .i64 0, .int .i64 0, .int .i64 0, .int .i64 0] T)) := by
  have hq : Below w.heap.size w (w.alloc (.cells #[.int .i64 0, .int .i64 0, .int .i64 0, .int .i64 0, .int .i64 0] T)) := (Below.refl _ _).alloc (Nat.le_refl _) _
  have hk : Kept w (w.alloc (.cells #[.int .i64 0, .int .i64 0, .int .i64 0, .int .i64 0, .int .i64 0] T)) (fun _ => False) := Kept.of_below hq (fun k hk h' => by omega)
  obtain ⟨hn, _⟩ := gr_not_yet hr
  have hle := h.b.size
  refine ⟨h.b.alloc hle _, fun k hk' hl => ?_, fun h1 h2 => ?_, fun k hk' hl => ?_⟩
  · by_cases e : k = i
    · simp only [e, if_true]
      exact ⟨five_new w T, hle⟩
    · simp only [if_neg e]
      rw [gr_other e] at hl
      obtain ⟨p1, p2⟩ := h.e k hk' hl
      exact ⟨p1.kept hk (fun x => x), p2⟩
  · rcases hi with rfl | rfl
    · rw [gr_other (by decide)] at h2
      have := (h.e 9 (Or.inr rfl) h2).1.lt
      show (if 8 = 8 then w.heap.size else B 8) ≠ (if 9 = 8 then w.heap.size else B 9)
      simp
      omega
    · rw [gr_other (by decide)] at h1
      have := (h.e 8 (Or.inl rfl) h1).1.lt
      show (if 8 = 9 then w.heap.size else B 8) ≠ (if 9 = 9 then w.heap.size else B 9)
      simp
      omega
  · rw [gr_other (by omega)] at hl
    obtain ⟨p1, p2⟩ := h.s k hk' hl
    have e : k ≠ i := fun e => by rw [e, hn] at p1; exact absurd p1 (by decide)
    simp only [if_neg e]
    exact ⟨by rw [gr_other e]; exact p1, p2.kept (h.e k hk' p1).1.lt hk (fun x => x)⟩
theorem SmJ.put {w4 : World} {x : Um.Ef} {B : Nat → Nat} {l : Array Bool} {w : World} (h : SmJ w4 x B l w) {i : Nat} (hi : i = 8 ∨ i = 9) (hl8 : l.getD i false = true) : SmJ w4 x B (l.setIfInBounds (i + 2) true) (set5 w (B i) x) := by
  obtain ⟨hE, hB⟩ := h.e i hi hl8
  have hk := set5_kept w (B i) x
  have hq : ∀ k, k ≤ 9 → (l.setIfInBounds (i + 2) true).getD k false = l.getD k false := fun k hk => gr_other (by omega)
  have hne : ∀ k, (k = 8 ∨ k = 9) → k ≠ i → l.getD k false = true → ¬ B k = B i := by
    intro k hk' e hlk he
    rcases hi with rfl | rfl <;> rcases hk' with rfl | rfl
    · exact e rfl
    · exact h.d hl8 hlk he.symm
    · exact h.d hlk hl8 he
    · exact e rfl
  refine ⟨h.b.trans (hk.below h.b.size (fun k hk => by rw [hk]; exact hB)), fun k hk' hl => ?_, fun h1 h2 => ?_, fun k hk' hl => ?_⟩
  · rw [hq k (by omega)] at hl
    by_cases e : k = i
    · subst e
      exact ⟨set5_five hE x, hB⟩
    · obtain ⟨p1, p2⟩ := h.e k hk' hl
      exact ⟨p1.kept hk (hne k hk' e hl), p2⟩
  · rw [hq 8 (by omega)] at h1
    rw [hq 9 (by omega)] at h2
    exact h.d h1 h2
  · by_cases e : k = i
    · subst e
      exact ⟨by rw [hq k (by omega)]; exact hl8, set5_is hE x⟩
    · rw [gr_other (by omega)] at hl
      obtain ⟨p1, p2⟩ := h.s k hk' hl
      exact ⟨by rw [hq k (by omega)]; exact p1, p2.kept (h.e k hk' p1).1.lt hk (hne k hk' e p1)⟩
section
variable {ρ : Operand → Value} {o : Oper}
theorem runs_idx {x y : Operand} {g n cap i : Nat} (hop : o.op = .indexAddr 43 x y ∨ o.op = .indexAddr 39 x y) (hx : ρ x = .slice (some ⟨g, 0, none⟩) n cap) (hy : ρ y = .int .i64 (i : Int)) (hi : i < n) (w : World) :
    (execOp ρ o).run Try.prog w = .ok (.value (.pointer (some ⟨g, i * 5, none⟩))) w := by
  have h0 : (0 : Int) ≤ (i : Int) := by omega
  have h1 : (i : Int) < (n : Int) := by omega
  unfold execOp
  rcases hop with hop | hop
  all_goals
    simp only [hop, hx, hy]
    go_simp
theorem runs_ld {x : Operand} {g p : Nat} {e : Um.Ef} {w : World} (hop : o.op = .load 55 x ∨ o.op = .load 87 x) (hx : ρ x = .pointer (some ⟨g, p, none⟩)) (hl : g < w.heap.size) (hc : ∀ k u, (uefL e)[k]? = some u → w.cell? ⟨g, p + k, none⟩ = some u) :
    (execOp ρ o).run Try.prog w = .ok (.value (uefV e)) w := by
  have c0 : w.cell? ⟨g, p, none⟩ = some (.int .i64 e.k) := hc 0 _ rfl
  have c1 : w.cell? ⟨g, p + 1, none⟩ = some (.int .i64 e.ty) := hc 1 _ rfl
  have c2 : w.cell? ⟨g, p + 2, none⟩ = some (.int .i64 e.ri) := hc 2 _ rfl
  have c3 : w.cell? ⟨g, p + 3, none⟩ = some (.int .i64 e.ai) := hc 3 _ rfl
  have c4 : w.cell? ⟨g, p + 4, none⟩ = some (.int .i64 e.tei) := hc 4 _ rfl
  unfold execOp uefV
  rcases hop with hop | hop
  all_goals
    simp only [hop, hx]
    go_simp
theorem runs_alloc {T : TypeId} (hT : T = 55 ∨ T = 87) (hop : o.op = .alloc T) (w : World) : (execOp ρ o).run Try.prog w = .ok (.value (.pointer (some ⟨w.heap.size, 0, none⟩))) (w.alloc (.cells #[.int .i64 0, .int .i64 0, .int .i64 0, .int .i64 0, .int .i64 0] T)) := by
  unfold execOp
  rcases hT with rfl | rfl
  all_goals
    simp only [hop]
    go_simp
theorem runs_st {x y : Operand} {B : Nat} {e : Um.Ef} {w : World} (hop : o.op = .store 55 x y ∨ o.op = .store 87 x y) (hx : ρ x = .pointer (some ⟨B, 0, none⟩)) (hy : ρ y = uefV e) (hE : Five w B) :
    (execOp ρ o).run Try.prog w = .ok .skip (set5 w B e) := by
  obtain ⟨v0, c0⟩ := hE.c 0 (by decide)
  obtain ⟨v1, c1⟩ := hE.c 1 (by decide)
  obtain ⟨v2, c2⟩ := hE.c 2 (by decide)
  obtain ⟨v3, c3⟩ := hE.c 3 (by decide)
  obtain ⟨v4, c4⟩ := hE.c 4 (by decide)
  have f0 := hE.f 0 (by decide)
  have f1 := hE.f 1 (by decide)
  have f2 := hE.f 2 (by decide)
  have f3 := hE.f 3 (by decide)
  have f4 := hE.f 4 (by decide)
  have hl := hE.lt
  unfold uefV at hy
  unfold execOp set5
  rcases hop with hop | hop
  all_goals
    simp only [hop, hx, hy]
    go_simp
end
/-- a row of the document's effects, told by places -/
theorem RowR_of {w : World} {b n : Nat} {v : Value} {l : List Um.Ef} (h : w.ownsRow b 87 5 v n (uefsL l)) (hn : n = l.length) : ∃ a cap, v = .slice a n cap ∧ n ≤ cap ∧ RowL w a l := by
  subst hn
  rcases h.2 with ⟨rfl, h0⟩ | ⟨g, cap, cur, rfl, hb, hgg, hle, hr⟩
  · refine ⟨none, 0, by rw [h0], by omega, fun j x hj => ?_⟩
    have := (List.getElem?_eq_some_iff.1 hj).1
    omega
  · refine ⟨_, cap, rfl, hle, fun j x hj => ⟨g, rfl, (Array.getElem?_eq_some_iff.1 hgg).1, fun k u hk => ?_⟩⟩
    have h5 := uef_at l j x hj k u hk
    have hlt := (List.getElem?_eq_some_iff.1 h5).1
    rw [uefsL_len] at hlt
    exact (World.ownsRow.cellAt h (j * 5 + k) hlt).trans h5
set_option maxHeartbeats 4000000 in
theorem usame_any (a a2 : Option Addr) (n c1 c2 : Nat) (l : List Um.Ef) (w : World) (h1 : RowL w a l) (h2 : RowL w a2 l) (hn : n = l.length) (hc1 : n ≤ c1) (hc2 : n ≤ c2) (hl : n ≤ 1000) :
    Calls Try.prog 30 #[.slice a n c1, .slice a2 n c2] w fun r w' => r = .returned (.bool true) ∧ Below w.heap.size w w' := by
  have H1 : Hid (∀ w', Below w.heap.size w w' → RowL w' a l) := fun w' hb => h1.below hb
  have H2 : Hid (∀ w', Below w.heap.size w w' → RowL w' a2 l) := fun w' hb => h2.below hb
  have HN : Hid (n = l.length) := hn
  clear h1 h2 hn
  go_enter Try.func30, Try.ntmps30
  go_wp2
  go_loopw [15] (fun c wr => ∃ j : Nat, j ≤ n ∧ c = .int .i64 j ∧ Hid (Below w.heap.size w wr)) (fun c _ => n - (intOf c).toNat)
  case atStart => exact ⟨0, Nat.zero_le _, rfl, Below.refl _ _⟩
  case round =>
    obtain ⟨j, hjn, rfl, HB⟩ := hrel
    by_cases hj : j < n
    · obtain ⟨x, hx⟩ : ∃ x, l[j]? = some x := ⟨_, List.getElem?_eq_getElem (by rw [← HN.out]; exact hj)⟩
      obtain ⟨ga, rfl, hga, hca⟩ := H1.out wr HB.out j x hx
      obtain ⟨gb, rfl, hgb, hcb⟩ := H2.out wr HB.out j x hx
      have HA : Hid (ga < wr.heap.size ∧ ∀ k u, (uefL x)[k]? = some u → wr.cell? ⟨ga, j * 5 + k, none⟩ = some u) := ⟨hga, hca⟩
      have HBb : Hid (gb < wr.heap.size ∧ ∀ k u, (uefL x)[k]? = some u → wr.cell? ⟨gb, j * 5 + k, none⟩ = some u) := ⟨hgb, hcb⟩
      clear hx hga hca hgb hcb
      go_upto_region 6 with fail
      refine region_grow (by kernel_rfl) 12 rfl smD (smV ga gb c1 c2 n j x) smD_inj ?hd ?hlow (SmJ wr x) (fun _ => 0) ?h0 ?hstep ?hdone
      case hd => exact smD_lt
      case hlow => kernel_rfl
      case h0 =>
        exact ⟨(Below.refl _ _).drew, fun k _ h => by rw [rep_getD'] at h; exact absurd h (by decide), fun h => by rw [rep_getD'] at h; exact absurd h (by decide), fun k _ h => by rw [rep_getD'] at h; exact absurd h (by decide)⟩
      case hstep =>
        intro B l' fa w1 i hi hsz hJ hr hK
        have r0 : fa.eval (.tmp 0) = .slice (some ⟨ga, 0, none⟩) n c1 := hK.rest 0 (by decide)
        have r1 : fa.eval (.tmp 1) = .slice (some ⟨gb, 0, none⟩) n c2 := hK.rest 1 (by decide)
        have r5 : fa.eval (.tmp 5) = .int .i64 (j : Int) := hK.rest 5 (by decide)
        have got : ∀ k, k ∈ depsOf .any _ i → ∀ d, smD k = some d → k < 12 → fa.eval (.tmp d) = smV ga gb c1 c2 n j x B k := fun k hk d hd hk' => hK.got k d hk' (ready_deps hr k hk) hd
        have la : ∀ k u, (uefL x)[k]? = some u → w1.cell? ⟨ga, j * 5 + k, none⟩ = some u := fun k u hu => (hJ.b.cell (p := ⟨ga, j * 5 + k, none⟩) HA.out.1).trans (HA.out.2 k u hu)
        have lb : ∀ k u, (uefL x)[k]? = some u → w1.cell? ⟨gb, j * 5 + k, none⟩ = some u := fun k u hu => (hJ.b.cell (p := ⟨gb, j * 5 + k, none⟩) HBb.out.1).trans (HBb.out.2 k u hu)
        have lga : ga < w1.heap.size := Nat.lt_of_lt_of_le HA.out.1 hJ.b.size
        have lgb : gb < w1.heap.size := Nat.lt_of_lt_of_le HBb.out.1 hJ.b.size
        match i, hi, hr, got with
        | 0, _, hr, got => exact grow_val B B rfl (wanted_none rfl) (runw_move rfl r0 w1) rfl (fun _ _ _ => rfl) (hJ.keep (by decide))
        | 1, _, hr, got => exact grow_val B B rfl (wanted_none rfl) (runw_move rfl r5 w1) rfl (fun _ _ _ => rfl) (hJ.keep (by decide))
        | 2, _, hr, got => exact grow_val B B rfl (wanted_none rfl) (runs_idx (Or.inl rfl) (got 0 (by decide) 18 rfl (by decide)) (got 1 (by decide) 19 rfl (by decide)) hj w1) rfl (fun _ _ _ => rfl) (hJ.keep (by decide))
        | 3, _, hr, got => exact grow_val B B rfl (wanted_none rfl) (runs_ld (Or.inl rfl) (got 2 (by decide) 20 rfl (by decide)) lga la) rfl (fun _ _ _ => rfl) (hJ.keep (by decide))
        | 4, _, hr, got => exact grow_val B B rfl (wanted_none rfl) (runw_move rfl r1 w1) rfl (fun _ _ _ => rfl) (hJ.keep (by decide))
        | 5, _, hr, got => exact grow_val B B rfl (wanted_none rfl) (runw_move rfl r5 w1) rfl (fun _ _ _ => rfl) (hJ.keep (by decide))
        | 6, _, hr, got => exact grow_val B B rfl (wanted_none rfl) (runs_idx (Or.inr rfl) (got 4 (by decide) 22 rfl (by decide)) (got 5 (by decide) 23 rfl (by decide)) hj w1) rfl (fun _ _ _ => rfl) (hJ.keep (by decide))
        | 7, _, hr, got => exact grow_val B B rfl (wanted_none rfl) (runs_ld (Or.inr rfl) (got 6 (by decide) 24 rfl (by decide)) lgb lb) rfl (fun _ _ _ => rfl) (hJ.keep (by decide))
        | 8, _, hr, got => exact grow_val B (fun k => if k = 8 then w1.heap.size else B k) rfl (wanted_none rfl) (runs_alloc (Or.inl rfl) rfl w1) rfl (smV_keep (gr_not_yet hr).1) (hJ.made (Or.inl rfl) hr _)
        | 9, _, hr, got => exact grow_val B (fun k => if k = 9 then w1.heap.size else B k) rfl (wanted_none rfl) (runs_alloc (Or.inr rfl) rfl w1) rfl (smV_keep (gr_not_yet hr).1) (hJ.made (Or.inr rfl) hr _)
        | 10, _, hr, got => exact grow_skip B rfl (wanted_none rfl) (runs_st (Or.inl rfl) (got 8 (by decide) 6 rfl (by decide)) (got 3 (by decide) 21 rfl (by decide)) (hJ.e 8 (Or.inl rfl) (ready_deps hr 8 (by decide))).1) rfl rfl (hJ.put (Or.inl rfl) (ready_deps hr 8 (by decide)))
        | 11, _, hr, got => exact grow_skip B rfl (wanted_none rfl) (runs_st (Or.inr rfl) (got 9 (by decide) 7 rfl (by decide)) (got 7 (by decide) 25 rfl (by decide)) (hJ.e 9 (Or.inr rfl) (ready_deps hr 9 (by decide))).1) rfl rfl (hJ.put (Or.inr rfl) (ready_deps hr 9 (by decide)))
        | k + 12, hlt, _, _ => exact absurd hlt (by omega)
      case hdone =>
        intro B l' w5 hall hJ
        have i8 := (hJ.s 8 (Or.inl rfl) (hall 10 (by decide))).2
        have i9 := (hJ.s 9 (Or.inr rfl) (hall 11 (by decide))).2
        have l8 := (hJ.e 8 (Or.inl rfl) (hall 8 (by decide))).1.lt
        have l9 := (hJ.e 9 (Or.inr rfl) (hall 9 (by decide))).1.lt
        have HB5 : Hid (Below w.heap.size w w5) := HB.out.trans (hJ.b.mono HB.out.size)
        clear hall hJ HA HBb HB
        simp only [putsOf, smD, smV, Act.put, List.setIfInBounds_toArray, List.set_cons_zero, List.set_cons_succ]
        generalize B 8 = X at i8 l8 ⊢
        generalize B 9 = Y at i9 l9 ⊢
        obtain ⟨xk, xt, xr, xa, xi⟩ := x
        have x0 : w5.cell? ⟨X, 0, none⟩ = some (.int .i64 xk) := i8 0 _ rfl
        have x1 : w5.cell? ⟨X, 1, none⟩ = some (.int .i64 xt) := i8 1 _ rfl
        have x2 : w5.cell? ⟨X, 2, none⟩ = some (.int .i64 xr) := i8 2 _ rfl
        have x3 : w5.cell? ⟨X, 3, none⟩ = some (.int .i64 xa) := i8 3 _ rfl
        have x4 : w5.cell? ⟨X, 4, none⟩ = some (.int .i64 xi) := i8 4 _ rfl
        have y0 : w5.cell? ⟨Y, 0, none⟩ = some (.int .i64 xk) := i9 0 _ rfl
        have y1 : w5.cell? ⟨Y, 1, none⟩ = some (.int .i64 xt) := i9 1 _ rfl
        have y2 : w5.cell? ⟨Y, 2, none⟩ = some (.int .i64 xr) := i9 2 _ rfl
        have y3 : w5.cell? ⟨Y, 3, none⟩ = some (.int .i64 xa) := i9 3 _ rfl
        have y4 : w5.cell? ⟨Y, 4, none⟩ = some (.int .i64 xi) := i9 4 _ rfl
        clear i8 i9
        go_wp2
        go_roundw
        case rel => exact ⟨j + 1, by omega, by go_num, HB5⟩
        case measure => simp [intOf]; omega
    · go_wp2
      go_ret
      exact ⟨rfl, HB.out⟩
end Go.Proofs.Ytdnhcpkpajbhoaa
