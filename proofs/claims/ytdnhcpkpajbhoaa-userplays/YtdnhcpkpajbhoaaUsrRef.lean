/-
  The document's user in the world; the walks of its say, tell, idle, lose, ask, New.
-/
import Derived.Test.YtdnhcpkpajbhoaaUsrRow
import Derived.Test.YtdnhcpkpajbhoaaDrawDoc
import Derived.OwnWalk
namespace Go.Proofs.Ytdnhcpkpajbhoaa
open Go.RowKit
set_option linter.unusedVariables false
set_option linter.unusedSimpArgs false
set_option maxRecDepth 100000

/-! ### a row of the document's effects -/
theorem uref_info : (Try.prog.info? 87).map (fun i => (i.zero, i.size, i.bytes)) = some (some (uefV ⟨0, 0, 0, 0, 0⟩), 5, 40) := by kernel_rfl
theorem uefsL_app (l m : List Um.Ef) : uefsL l ++ uefsL m = uefsL (l ++ m) := by simp [uefsL]
theorem uefsL_one (l : List Um.Ef) : ∀ u ∈ uefsL l, u.oneCell' = true := by
  intro u hu
  obtain ⟨x, _, hx⟩ := List.mem_flatMap.1 hu
  simp [uefL] at hx
  rcases hx with rfl | rfl | rfl | rfl | rfl <;> rfl
/-- an effect laid down behind the others -/
theorem rapp_out {w : World} {b : Nat} {v : Value} {l : List Um.Ef} {g : Nat} {x : Um.Ef} (h1 : w.ownsRow b 87 5 v l.length (uefsL l)) (hx : ∀ k u, (uefL x)[k]? = some u → w.cell? ⟨g, k, none⟩ = some u) (hl : l.length ≤ 100000) (hb : b ≤ w.heap.size) :
    ∃ v' w', (∀ ty, (Builtin.append_ #[39, 39] ty #[v, .slice (some ⟨g, 0, none⟩) 1 1]).run Try.prog w = .ok v' w') ∧ w'.ownsRow b 87 5 v' (l ++ [x]).length (uefsL (l ++ [x])) ∧ w.grownBy w' v.ownBlock := by
  obtain ⟨i0, hi, hz0, hz1, hz2⟩ := info_parts uref_info
  have e1 : uefsL [x] = uefL x := by simp [uefsL]
  have hcells : ∀ j u, (uefsL [x])[j]? = some u → w.cell? ((⟨g, 0, none⟩ : Addr).add j) = some u := fun j u hj => by
    rw [e1] at hj
    have e : (⟨g, 0, none⟩ : Addr).add j = ⟨g, j, none⟩ := by unfold Addr.add; split <;> simp_all
    rw [e]
    exact hx j u hj
  have hall : ∀ ty, _ := fun ty => run_append_own_at (P := Try.prog) w b 39 ty 87 i0 (uefV ⟨0, 0, 0, 0, 0⟩) 5 40 Try.underlying39 hi hz0 hz1 hz2 rfl (by decide) v l.length (uefsL l) h1 ⟨g, 0, none⟩ 1 1 (uefsL [x]) (uefsL_len [x]) hcells (uefsL_one [x]) (by unfold maxLen; omega) (by omega) hb
  obtain ⟨v', w', hr, ho, hgr, _, hat⟩ := hall 0
  refine ⟨v', w', fun ty => hr, ?_, hgr⟩
  rw [List.length_append, ← uefsL_app]
  exact ho

/-! ### the document's user -/
def urV (s : Um.St) (S : Nat) : Nat → Value | 0 => .int .i64 s.most | 1 => .int .i64 s.tei | 2 => .bool s.asks | 3 => .int .i64 s.ri | 4 => .int .i64 s.tries | _ => .pointer (some ⟨S, 0, none⟩)
structure Ur (w : World) (R S bb : Nat) (s : Um.St) (l : List Um.Ef) : Prop where
  lt : R < w.heap.size
  c : ∀ j, j < 6 → w.cell? ⟨R, j, none⟩ = some (urV s S j)
  out : ∃ v, w.cell? ⟨R, 6, none⟩ = some v ∧ w.ownsRow bb 87 5 v l.length (uefsL l)
  fz : ∀ j, j < 7 → w.frozen? ⟨R, j, none⟩ = false
  src : Rs w S none [] 0 s.x
  nil : s.nil = false
  ls : s.L = []
  ne : R ≠ S
  rb : R < bb
  sb : S < bb
  bw : bb ≤ w.heap.size
def TchR (R S bb : Nat) (k : Nat) : Prop := k = R ∨ k = S ∨ bb ≤ k
def MvR (w w' : World) (R S bb : Nat) (s' : Um.St) (l' : List Um.Ef) : Prop := Ur w' R S bb s' l' ∧ Kept w w' (TchR R S bb)
section
variable {w w' : World} {R S bb : Nat} {s : Um.St} {l : List Um.Ef}
theorem Ur.kept {T : Nat → Prop} (h : Ur w R S bb s l) (hk : Kept w w' T) (h1 : ¬ T R) (h2 : ¬ T S) (h3 : ∀ k, bb ≤ k → k < w.heap.size → ¬ T k) : Ur w' R S bb s l := by
  obtain ⟨v, hv, ho⟩ := h.out
  refine ⟨Nat.lt_of_lt_of_le h.lt hk.size, fun j hj => (hk.cell (p := ⟨R, j, none⟩) h.lt h1).trans (h.c j hj), ⟨v, (hk.cell (p := ⟨R, 6, none⟩) h.lt h1).trans hv, ?_⟩, fun j hj => (hk.frozen (p := ⟨R, j, none⟩) h.lt h1).trans (h.fz j hj), h.src.kept hk h2 (fun B hB => by cases hB), h.nil, h.ls, h.ne, h.rb, h.sb, Nat.le_trans h.bw hk.size⟩
  exact hk.owns ho (fun B hB => by
    rcases ho.2 with ⟨rfl, _⟩ | ⟨g, cap, cur, rfl, hb, hgg, _⟩
    · cases hB
    · have : g = B := by simpa [Value.ownBlock] using hB
      subst this
      exact h3 g hb (Array.getElem?_eq_some_iff.1 hgg).1)
theorem Ur.below (h : Ur w R S bb s l) (hb : Below w.heap.size w w') : Ur w' R S bb s l :=
  h.kept (T := fun _ => False) (Kept.of_below hb (fun k hk h' => by omega)) (fun x => x) (fun x => x) (fun _ _ _ x => x)
theorem MvR.on {w1 : World} {s' : Um.St} {l' : List Um.Ef} (hk : Kept w w1 (TchR R S bb)) (h : MvR w1 w' R S bb s' l') : MvR w w' R S bb s' l' := ⟨h.1, hk.trans h.2 (fun k _ x => x)⟩
theorem MvR.ahead {w1 : World} {s' : Um.St} {l' : List Um.Ef} (hb : Below w.heap.size w w1) (h : MvR w1 w' R S bb s' l') : MvR w w' R S bb s' l' := MvR.on (Kept.of_below hb (fun k hk h' => by omega)) h
theorem Ur.refl (h : Ur w R S bb s l) : MvR w w R S bb s l := ⟨h, Kept.refl _ _⟩
/-- one of its fields is laid down anew -/
theorem Ur.set (h : Ur w R S bb s l) (j : Nat) (hj : j < 5) (s' : Um.St) (h1 : ∀ i, i < 6 → i ≠ j → urV s' S i = urV s S i) (h2 : s'.x = s.x) (h3 : s'.nil = s.nil) (h4 : s'.L = s.L) : MvR w (w.setCell ⟨R, j, none⟩ (urV s' S j)) R S bb s' l := by
  have hk : Kept w (w.setCell ⟨R, j, none⟩ (urV s' S j)) (fun k => k = R) := (Kept.refl w (fun k => k = R)).setCell (p := ⟨R, j, none⟩) (fun _ => rfl) _
  obtain ⟨v, hv, ho⟩ := h.out
  refine ⟨⟨Nat.lt_of_lt_of_le h.lt hk.size, fun i hi => ?_, ⟨v, ?_, ?_⟩, fun i hi => by rw [World.frozen?_setCell]; exact h.fz i hi, ?_, h3.trans h.nil, h4.trans h.ls, h.ne, h.rb, h.sb, Nat.le_trans h.bw hk.size⟩, hk.mono (fun k _ x => Or.inl x)⟩
  · by_cases e : i = j
    · subst e
      exact World.cell?_setCell_same' _ ⟨R, i, none⟩ _ (by rw [h.c i hi]; rfl)
    · rw [World.cell?_setCell_other _ _ _ _ (fun h => by injection h with _ h2; omega), h1 i hi e]
      exact h.c i hi
  · rw [World.cell?_setCell_other _ _ _ _ (fun h => by injection h with _ h2; omega)]; exact hv
  · exact hk.owns ho (fun B hB e => by
      rcases ho.2 with ⟨rfl, _⟩ | ⟨g, cap, cur, rfl, hb, hgg, _⟩
      · cases hB
      · have : g = B := by simpa [Value.ownBlock] using hB
        have := h.rb
        omega)
  · rw [h2]
    exact h.src.kept hk (fun e => h.ne e.symm) (fun B hB => by cases hB)
/-- its effects are laid down anew -/
theorem Ur.setOut {wq : World} {v : Value} {l' : List Um.Ef} (h : Ur w R S bb s l) (hk : Kept w wq (fun k => bb ≤ k)) (ho : wq.ownsRow bb 87 5 v l'.length (uefsL l')) : MvR w (wq.setCell ⟨R, 6, none⟩ v) R S bb s l' := by
  have hk1 : Kept wq (wq.setCell ⟨R, 6, none⟩ v) (fun k => k = R) := (Kept.refl wq (fun k => k = R)).setCell (p := ⟨R, 6, none⟩) (fun _ => rfl) _
  have hR : ¬ bb ≤ R := by have := h.rb; omega
  have hS : ¬ bb ≤ S := by have := h.sb; omega
  obtain ⟨v0, hv0, _⟩ := h.out
  have hv1 := (hk.cell (p := ⟨R, 6, none⟩) h.lt hR).trans hv0
  refine ⟨⟨by have := hk.size; have := hk1.size; have := h.lt; omega, fun i hi => ?_, ⟨v, World.cell?_setCell_same' _ ⟨R, 6, none⟩ _ (by rw [hv1]; rfl), ?_⟩, fun i hi => by rw [World.frozen?_setCell]; exact (hk.frozen (p := ⟨R, i, none⟩) h.lt hR).trans (h.fz i hi), ?_, h.nil, h.ls, h.ne, h.rb, h.sb, by have := hk.size; have := hk1.size; have := h.bw; omega⟩, ?_⟩
  · rw [World.cell?_setCell_other _ _ _ _ (fun h => by injection h with _ h2; omega)]
    exact (hk.cell (p := ⟨R, i, none⟩) h.lt hR).trans (h.c i hi)
  · exact hk1.owns ho (fun B hB e => by
      rcases ho.2 with ⟨rfl, _⟩ | ⟨g, cap, cur, rfl, hb, hgg, _⟩
      · cases hB
      · have : g = B := by simpa [Value.ownBlock] using hB
        omega)
  · have h1 := h.src.kept hk hS (fun B hB => by cases hB)
    exact h1.kept hk1 (fun e => h.ne e.symm) (fun B hB => by cases hB)
  · exact Kept.trans (T := TchR R S bb) (hk.mono (fun k _ x => Or.inr (Or.inr x))) (hk1.mono (fun k _ x => Or.inl x)) (fun k _ x => x)
theorem Ur.clear (h : Ur w R S bb s l) : MvR w (w.setCell ⟨R, 6, none⟩ (.slice none 0 0)) R S bb s [] :=
  h.setOut (Kept.refl _ _) (World.ownsRow_nil _ _ _ _)
/-- as it stands ahead of a call: what lies in its row of effects is of no account -/
structure UrC (w : World) (R S bb : Nat) (s : Um.St) : Prop where
  lt : R < w.heap.size
  c : ∀ j, j < 6 → w.cell? ⟨R, j, none⟩ = some (urV s S j)
  out : ∃ v, w.cell? ⟨R, 6, none⟩ = some v
  fz : ∀ j, j < 7 → w.frozen? ⟨R, j, none⟩ = false
  src : Rs w S none [] 0 s.x
  nil : s.nil = false
  ls : s.L = []
  ne : R ≠ S
  rb : R < bb
  sb : S < bb
  bw : bb ≤ w.heap.size
theorem Ur.toC (h : Ur w R S bb s l) : UrC w R S bb s := ⟨h.lt, h.c, by obtain ⟨v, hv, _⟩ := h.out; exact ⟨v, hv⟩, h.fz, h.src, h.nil, h.ls, h.ne, h.rb, h.sb, h.bw⟩
theorem UrC.up {bb' : Nat} (h : UrC w R S bb s) (h1 : bb ≤ bb') (h2 : bb' ≤ w.heap.size) : UrC w R S bb' s := ⟨h.lt, h.c, h.out, h.fz, h.src, h.nil, h.ls, h.ne, Nat.lt_of_lt_of_le h.rb h1, Nat.lt_of_lt_of_le h.sb h1, h2⟩
theorem UrC.kept {T : Nat → Prop} (h : UrC w R S bb s) (hk : Kept w w' T) (h1 : ¬ T R) (h2 : ¬ T S) : UrC w' R S bb s := by
  obtain ⟨v, hv⟩ := h.out
  exact ⟨Nat.lt_of_lt_of_le h.lt hk.size, fun j hj => (hk.cell (p := ⟨R, j, none⟩) h.lt h1).trans (h.c j hj), ⟨v, (hk.cell (p := ⟨R, 6, none⟩) h.lt h1).trans hv⟩, fun j hj => (hk.frozen (p := ⟨R, j, none⟩) h.lt h1).trans (h.fz j hj), h.src.kept hk h2 (fun B hB => by cases hB), h.nil, h.ls, h.ne, h.rb, h.sb, Nat.le_trans h.bw hk.size⟩
theorem UrC.below (h : UrC w R S bb s) (hb : Below w.heap.size w w') : UrC w' R S bb s :=
  h.kept (T := fun _ => False) (Kept.of_below hb (fun k hk h' => by omega)) (fun x => x) (fun x => x)
theorem UrC.clear (h : UrC w R S bb s) : MvR w (w.setCell ⟨R, 6, none⟩ (.slice none 0 0)) R S bb s [] := by
  have hk : Kept w (w.setCell ⟨R, 6, none⟩ (.slice none 0 0)) (fun k => k = R) := (Kept.refl w (fun k => k = R)).setCell (p := ⟨R, 6, none⟩) (fun _ => rfl) _
  obtain ⟨v, hv⟩ := h.out
  refine ⟨⟨Nat.lt_of_lt_of_le h.lt hk.size, fun i hi => ?_, ⟨_, World.cell?_setCell_same' _ ⟨R, 6, none⟩ _ (by rw [hv]; rfl), World.ownsRow_nil _ _ _ _⟩, fun i hi => by rw [World.frozen?_setCell]; exact h.fz i hi, h.src.kept hk (fun e => h.ne e.symm) (fun B hB => by cases hB), h.nil, h.ls, h.ne, h.rb, h.sb, Nat.le_trans h.bw hk.size⟩, hk.mono (fun k _ x => Or.inl x)⟩
  rw [World.cell?_setCell_other _ _ _ _ (fun h => by injection h with _ h2; omega)]
  exact h.c i hi
end
end Go.Proofs.Ytdnhcpkpajbhoaa
