/-
  The walks of the document's user: say, tell, idle, lose, ask, New.
-/
import Derived.Test.YtdnhcpkpajbhoaaUsrRef
namespace Go.Proofs.Ytdnhcpkpajbhoaa
open Go.RowKit
set_option linter.unusedVariables false
set_option linter.unusedSimpArgs false
set_option maxRecDepth 100000

theorem wplr_append {ops : Array Oper} {rest : List Oper} {o : Oper} {a : Act} {Q : Exit → Act → World → Prop} {w1 : World} {b : Nat} {v : Value} {l : List Um.Ef} {g : Nat} {x : Um.Ef} (hgd : o.guard = none) (p q : Operand)
    (ho : o.op = .call { callee := .builtin .append, args := #[p, q], argTypes := #[39, 39] }) (hp : a.eval p = v) (hq : a.eval q = .slice (some ⟨g, 0, none⟩) 1 1)
    (h1 : w1.ownsRow b 87 5 v l.length (uefsL l)) (hx : ∀ k u, (uefL x)[k]? = some u → w1.cell? ⟨g, k, none⟩ = some u) (hl : l.length ≤ 100000) (hb : b ≤ w1.heap.size)
    (h : ∀ v' w', w'.ownsRow b 87 5 v' (l.length + 1) (uefsL (l ++ [x])) → w1.grownBy w' v.ownBlock → wpList Try.prog ops Q rest (a.put o.dst v') w') : wpList Try.prog ops Q (o :: rest) a w1 := by
  obtain ⟨v', w', hr, ho', hg'⟩ := rapp_out h1 hx hl hb
  refine wpList_plain hgd fun K hK => ?_
  unfold Oper.wp execOp
  simp only [ho, resolve, invoke, builtin, Sem.run_bind, Sem.run_pure, Result.andThen_ok, List.map_toArray, List.map_cons, List.map_nil, hp, hq, hr]
  rw [List.length_append] at ho'
  exact hK _ _ (h v' w' ho' hg')
theorem rrow_base {b B n : Nat} {w : World} {v : Value} {l : List Value} (ho : w.ownsRow b 87 5 v n l) (hB : v.ownBlock = some B) : b ≤ B := by
  rcases ho.2 with ⟨rfl, _⟩ | ⟨g, cap, cur, rfl, hb, hgg, _⟩
  · cases hB
  · have : g = B := by simpa [Value.ownBlock] using hB
    omega
section
variable {w : World} {R S bb : Nat} {s : Um.St} {l : List Um.Ef}
set_option maxHeartbeats 1000000 in
theorem rsay_any (t ri ai : Int) (h : Ur w R S bb s l) (hl : l.length ≤ 1000) :
    Calls Try.prog 43 #[.pointer (some ⟨R, 0, none⟩), .int .i64 t, .int .i64 ri, .int .i64 ai] w fun r w' => r = .returned (.tuple #[]) ∧ MvR w w' R S bb s (l ++ [Um.say t ri ai]) := by
  obtain ⟨v, hv, ho⟩ := h.out
  have hf := h.fz 6 (by decide)
  have hlt := h.lt
  obtain ⟨W1, hW1⟩ : ∃ W1, W1 = w.alloc (.cells #[.int .i64 0, .int .i64 t, .int .i64 ri, .int .i64 ai, .int .i64 0] 87) := ⟨_, rfl⟩
  have hb1 : Below w.heap.size w W1 := by rw [hW1]; exact (Below.refl _ _).alloc (Nat.le_refl _) _
  have hu1 := h.below hb1
  have hx : ∀ k u, (uefL (Um.say t ri ai))[k]? = some u → W1.cell? ⟨w.heap.size, k, none⟩ = some u := by
    intro k u hk
    rw [hW1]
    match k, hk with
    | 0, hk => simp [uefL, Um.say] at hk; subst hk; simp
    | 1, hk => simp [uefL, Um.say] at hk; subst hk; simp
    | 2, hk => simp [uefL, Um.say] at hk; subst hk; simp
    | 3, hk => simp [uefL, Um.say] at hk; subst hk; simp
    | 4, hk => simp [uefL, Um.say] at hk; subst hk; simp
    | k + 5, hk => simp [uefL] at hk
  obtain ⟨v1, hv1, ho1⟩ := hu1.out
  obtain rfl : v1 = v := by
    have := (hb1.cell (p := ⟨R, 6, none⟩) hlt).trans hv
    rw [hv1] at this
    exact Option.some.inj this
  have HS : Hid (∀ v' w', w'.ownsRow bb 87 5 v' (l.length + 1) (uefsL (l ++ [Um.say t ri ai])) → W1.grownBy w' v1.ownBlock → MvR w (w'.setCell ⟨R, 6, none⟩ v') R S bb s (l ++ [Um.say t ri ai]) ∧ w'.cell? ⟨R, 6, none⟩ = some v1 ∧ w'.frozen? ⟨R, 6, none⟩ = false ∧ R < w'.heap.size) := by
    intro v' w' ho' hg
    have hk : Kept W1 w' (fun k => bb ≤ k) := Kept.of_grown hg (fun k e => rrow_base ho1 e)
    have hR : ¬ bb ≤ R := by have := h.rb; omega
    have hlt1 : R < W1.heap.size := Nat.lt_of_lt_of_le hlt hb1.size
    exact ⟨MvR.ahead hb1 (hu1.setOut hk (by rw [List.length_append]; exact ho')), (hk.cell (p := ⟨R, 6, none⟩) hlt1 hR).trans hv1, (hk.frozen (p := ⟨R, 6, none⟩) hlt1 hR).trans (hu1.fz 6 (by decide)), Nat.lt_of_lt_of_le hlt1 hk.size⟩
  have HO1 : Hid (W1.ownsRow bb 87 5 v1 l.length (uefsL l) ∧ bb ≤ W1.heap.size) := ⟨ho1, hu1.bw⟩
  clear h ho hb1 hu1 hv1 ho1
  go_enter Try.func43, Try.ntmps43
  go_wp2_with (at_builtin; rw [← hW1]; refine wplr_append rfl _ _ rfl rfl rfl HO1.out.1 hx (by omega) HO1.out.2 ?_)
  intro v' w' ho' hg'
  rw [← hW1] at hg'
  obtain ⟨g', c', rfl, -, -⟩ := World.ownsRow.form ho' (Nat.succ_pos _)
  obtain ⟨q1, q2, q3, q4⟩ := HS.out _ w' ho' hg'
  have HM : Hid (MvR w (w'.setCell ⟨R, 6, none⟩ (.slice (some ⟨g', 0, none⟩) (l.length + 1) c')) R S bb s (l ++ [Um.say t ri ai])) := q1
  clear HS ho' hg' q1 HO1 hx hW1 hv hf
  go_wp2
  go_end0
  exact ⟨rfl, HM.out⟩
set_option maxHeartbeats 1000000 in
theorem rtell_more (k t : Int) (h : Ur w R S bb s l) (hl : l.length ≤ 1000) :
    Calls Try.prog 44 #[.pointer (some ⟨R, 0, none⟩), .int .i64 k, .int .i64 t] w fun r w' => r = .returned (.tuple #[]) ∧ MvR w w' R S bb s (l ++ [Um.tell k t]) ∧ ∀ v, w.cell? ⟨R, 6, none⟩ = some v → Kept w w' (fun k => k = R ∨ v.ownBlock = some k) := by
  obtain ⟨v, hv, ho⟩ := h.out
  have hf := h.fz 6 (by decide)
  have hlt := h.lt
  obtain ⟨W1, hW1⟩ : ∃ W1, W1 = w.alloc (.cells #[.int .i64 k, .int .i64 0, .int .i64 0, .int .i64 0, .int .i64 t] 87) := ⟨_, rfl⟩
  have hb1 : Below w.heap.size w W1 := by rw [hW1]; exact (Below.refl _ _).alloc (Nat.le_refl _) _
  have hu1 := h.below hb1
  have hx : ∀ j u, (uefL (Um.tell k t))[j]? = some u → W1.cell? ⟨w.heap.size, j, none⟩ = some u := by
    intro j u hk
    rw [hW1]
    match j, hk with
    | 0, hk => simp [uefL, Um.tell] at hk; subst hk; simp
    | 1, hk => simp [uefL, Um.tell] at hk; subst hk; simp
    | 2, hk => simp [uefL, Um.tell] at hk; subst hk; simp
    | 3, hk => simp [uefL, Um.tell] at hk; subst hk; simp
    | 4, hk => simp [uefL, Um.tell] at hk; subst hk; simp
    | k + 5, hk => simp [uefL] at hk
  obtain ⟨v1, hv1, ho1⟩ := hu1.out
  obtain rfl : v1 = v := by
    have := (hb1.cell (p := ⟨R, 6, none⟩) hlt).trans hv
    rw [hv1] at this
    exact Option.some.inj this
  have HS : Hid (∀ v' w', w'.ownsRow bb 87 5 v' (l.length + 1) (uefsL (l ++ [Um.tell k t])) → W1.grownBy w' v1.ownBlock → MvR w (w'.setCell ⟨R, 6, none⟩ v') R S bb s (l ++ [Um.tell k t]) ∧ w'.cell? ⟨R, 6, none⟩ = some v1 ∧ w'.frozen? ⟨R, 6, none⟩ = false ∧ R < w'.heap.size ∧ ∀ v0, w.cell? ⟨R, 6, none⟩ = some v0 → Kept w (w'.setCell ⟨R, 6, none⟩ v') (fun k => k = R ∨ v0.ownBlock = some k)) := by
    intro v' w' ho' hg
    have hk : Kept W1 w' (fun k => bb ≤ k) := Kept.of_grown hg (fun k e => rrow_base ho1 e)
    have hR : ¬ bb ≤ R := by have := h.rb; omega
    have hlt1 : R < W1.heap.size := Nat.lt_of_lt_of_le hlt hb1.size
    exact ⟨MvR.ahead hb1 (hu1.setOut hk (by rw [List.length_append]; exact ho')), (hk.cell (p := ⟨R, 6, none⟩) hlt1 hR).trans hv1, (hk.frozen (p := ⟨R, 6, none⟩) hlt1 hR).trans (hu1.fz 6 (by decide)), Nat.lt_of_lt_of_le hlt1 hk.size, fun v0 h0 => by
      obtain rfl : v1 = v0 := by rw [hv] at h0; exact Option.some.inj h0
      have hg1 : Kept W1 w' (fun k => k = R ∨ v1.ownBlock = some k) := Kept.of_grown hg (fun k e => Or.inr e)
      have hs1 : Kept w' (w'.setCell ⟨R, 6, none⟩ v') (fun k => k = R ∨ v1.ownBlock = some k) := (Kept.refl w' _).setCell (p := ⟨R, 6, none⟩) (fun _ => Or.inl rfl) _
      exact ((Kept.of_below (T := fun k => k = R ∨ v1.ownBlock = some k) hb1 (fun k hk h' => by omega)).trans hg1 (fun k _ x => x)).trans hs1 (fun k _ x => x)⟩
  have HO1 : Hid (W1.ownsRow bb 87 5 v1 l.length (uefsL l) ∧ bb ≤ W1.heap.size) := ⟨ho1, hu1.bw⟩
  clear h ho hb1 hu1 hv1 ho1
  go_enter Try.func44, Try.ntmps44
  go_wp2_with (at_builtin; rw [← hW1]; refine wplr_append rfl _ _ rfl rfl rfl HO1.out.1 hx (by omega) HO1.out.2 ?_)
  intro v' w' ho' hg'
  rw [← hW1] at hg'
  obtain ⟨g', c', rfl, -, -⟩ := World.ownsRow.form ho' (Nat.succ_pos _)
  obtain ⟨q1, q2, q3, q4, q5⟩ := HS.out _ w' ho' hg'
  have HM : Hid (MvR w (w'.setCell ⟨R, 6, none⟩ (.slice (some ⟨g', 0, none⟩) (l.length + 1) c')) R S bb s (l ++ [Um.tell k t])) := q1
  have HK : Hid (∀ v0, w.cell? ⟨R, 6, none⟩ = some v0 → Kept w (w'.setCell ⟨R, 6, none⟩ (.slice (some ⟨g', 0, none⟩) (l.length + 1) c')) (fun k => k = R ∨ v0.ownBlock = some k)) := q5
  clear HS ho' hg' q1 HO1 hx hW1 hv hf q5
  go_wp2
  go_end0
  exact ⟨rfl, HM.out, HK.out⟩
theorem rtell_any (k t : Int) (h : Ur w R S bb s l) (hl : l.length ≤ 1000) :
    Calls Try.prog 44 #[.pointer (some ⟨R, 0, none⟩), .int .i64 k, .int .i64 t] w fun r w' => r = .returned (.tuple #[]) ∧ MvR w w' R S bb s (l ++ [Um.tell k t]) :=
  (rtell_more k t h hl).mono fun r w' h => ⟨h.1, h.2.1⟩
theorem ridle_more (h : Ur w R S bb s l) (ht : s.tei = -1) :
    Calls Try.prog 45 #[.pointer (some ⟨R, 0, none⟩)] w fun r w' => r = .returned (.tuple #[]) ∧ MvR w w' R S bb (Um.idle s) l ∧ Kept w w' (fun k => k = R) := by
  have m2 := h.set 2 (by decide) { s with asks := false } (fun i hi hne => by match i, hi, hne with | 0, _, _ => rfl | 1, _, _ => rfl | 2, _, h => exact absurd rfl h | 3, _, _ => rfl | 4, _, _ => rfl | 5, _, _ => rfl) rfl rfl rfl
  have m3 := m2.1.set 3 (by decide) { s with asks := false, ri := 0 } (fun i hi hne => by match i, hi, hne with | 0, _, _ => rfl | 1, _, _ => rfl | 2, _, _ => rfl | 3, _, h => exact absurd rfl h | 4, _, _ => rfl | 5, _, _ => rfl) rfl rfl rfl
  have m4 := m3.1.set 4 (by decide) { s with asks := false, ri := 0, tries := 0 } (fun i hi hne => by match i, hi, hne with | 0, _, _ => rfl | 1, _, _ => rfl | 2, _, _ => rfl | 3, _, _ => rfl | 4, _, h => exact absurd rfl h | 5, _, _ => rfl) rfl rfl rfl
  have e : ({ s with asks := false, ri := 0, tries := 0 } : Um.St) = Um.idle s := by unfold Um.idle Um.has; rw [ht]
  rw [e] at m4
  have HM : Hid (MvR w (((w.setCell ⟨R, 2, none⟩ (.bool false)).setCell ⟨R, 3, none⟩ (.int .i64 0)).setCell ⟨R, 4, none⟩ (.int .i64 0)) R S bb (Um.idle s) l) := MvR.on m2.2 (MvR.on m3.2 m4)
  have HK : Hid (Kept w (((w.setCell ⟨R, 2, none⟩ (.bool false)).setCell ⟨R, 3, none⟩ (.int .i64 0)).setCell ⟨R, 4, none⟩ (.int .i64 0)) (fun k => k = R)) := (((Kept.refl w (fun k => k = R)).setCell (p := ⟨R, 2, none⟩) (fun _ => rfl) _).setCell (p := ⟨R, 3, none⟩) (fun _ => rfl) _).setCell (p := ⟨R, 4, none⟩) (fun _ => rfl) _
  have c2 := h.c 2 (by decide)
  have c3 := h.c 3 (by decide)
  have c4 := h.c 4 (by decide)
  have f2 := h.fz 2 (by decide)
  have f3 := h.fz 3 (by decide)
  have f4 := h.fz 4 (by decide)
  have hlt := h.lt
  simp only [urV] at c2 c3 c4
  clear m2 m3 m4 e h ht
  go_enter Try.func45, Try.ntmps45
  go_wp2
  go_end0
  exact ⟨rfl, HM.out, HK.out⟩
theorem ridle_any (h : Ur w R S bb s l) (ht : s.tei = -1) :
    Calls Try.prog 45 #[.pointer (some ⟨R, 0, none⟩)] w fun r w' => r = .returned (.tuple #[]) ∧ MvR w w' R S bb (Um.idle s) l :=
  (ridle_more h ht).mono fun r w' h => ⟨h.1, h.2.1⟩
theorem rlose_any (h : Ur w R S bb s l) (hl : l.length ≤ 1000) (ha : s.asks = false) (hz : s.ri = 0 ∧ s.tries = 0) :
    Calls Try.prog 46 #[.pointer (some ⟨R, 0, none⟩)] w fun r w' => r = .returned (.tuple #[]) ∧ MvR w w' R S bb (Um.idle s) (l ++ [Um.tell 2 s.tei]) := by
  have HT := rtell_any 2 s.tei h hl
  have c1 := h.c 1 (by decide)
  have hlt := h.lt
  simp only [urV] at c1
  have HE : Hid (({ s with tei := -1 } : Um.St) = Um.idle s) := by
    show _ = _
    unfold Um.idle Um.has
    rw [ha, hz.1, hz.2]
  clear h hl ha hz
  go_enter Try.func46, Try.ntmps46
  go_wp2_with fail
  refine HT.mono ?_
  rintro r w1 ⟨rfl, hm⟩
  have m1 := hm.1.set 1 (by decide) { s with tei := -1 } (fun i hi hne => by match i, hi, hne with | 0, _, _ => rfl | 1, _, h => exact absurd rfl h | 2, _, _ => rfl | 3, _, _ => rfl | 4, _, _ => rfl | 5, _, _ => rfl) rfl rfl rfl
  rw [HE.out] at m1
  have HM : Hid (MvR w (w1.setCell ⟨R, 1, none⟩ (.int .i64 (-1))) R S bb (Um.idle s) (l ++ [Um.tell 2 s.tei])) := MvR.on hm.2 m1
  have d1 := hm.1.c 1 (by decide)
  have f1 := hm.1.fz 1 (by decide)
  have hlt1 := hm.1.lt
  simp only [urV] at d1
  clear hm m1 HT c1 HE
  go_wp2
  go_end0
  exact ⟨rfl, HM.out⟩
end
end Go.Proofs.Ytdnhcpkpajbhoaa
