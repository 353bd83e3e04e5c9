/-
  What a user's calls hand out, and what is so of it: plain data; a view of it in a block.
-/
import Derived.Test.YtdnhcpkpajbhoaaUsrWakes
namespace Go.Proofs.Ytdnhcpkpajbhoaa
open Go.RowKit
set_option linter.unusedVariables false
set_option linter.unusedSimpArgs false
set_option maxRecDepth 100000

/-- what is so of an effect: s ahead of it, s' behind it -/
def Um.EfOk (s s' : Um.St) (x : Um.Ef) : Prop :=
  (x.k = 0 ∧ Tm.net x.ty = false ∧ (x.ty = 1 ∨ x.ai = s.tei) ∧ 0 ≤ x.ri ∧ x.ri ≤ 65535) ∨ (x.k = 1 ∧ s.tei = -1 ∧ s'.tei = x.tei ∧ 64 ≤ x.tei ∧ x.tei ≤ 126) ∨ (x.k = 2 ∧ s.tei = x.tei ∧ s'.tei = -1) ∨ 3 ≤ x.k
structure Um.HoldOk (s s' : Um.St) (l : List Um.Ef) (e : Int) : Prop where
  err : e ≠ 0 → l = [] ∧ s' = s
  each : ∀ x ∈ l, Um.EfOk s s' x
  len : l.length ≤ 2
theorem Um.ho_none (s : Um.St) (e : Int) : Um.HoldOk s s [] e := ⟨fun _ => ⟨rfl, rfl⟩, fun x h => by simp at h, by decide⟩
theorem Um.ho_ask {s : Um.St} (t : Int) : Um.HoldOk s (Um.ask s t) (Um.askE s) 0 := by
  refine ⟨fun h => absurd rfl h, fun x h => ?_, by show (2 : Nat) ≤ 2; decide⟩
  unfold Um.askE at h
  simp only [List.mem_cons, List.not_mem_nil, or_false] at h
  rcases h with rfl | rfl
  · exact Or.inl ⟨rfl, rfl, Or.inl rfl, Um.nx_lo s, Um.nx_hi s⟩
  · exact Or.inr (Or.inr (Or.inr (by show (3 : Int) ≤ 4; decide)))
theorem Um.ho_lose (s : Um.St) : Um.HoldOk s (Um.idle s) (Um.loseE s) 0 := by
  refine ⟨fun h => absurd rfl h, fun x h => ?_, by show (1 : Nat) ≤ 2; decide⟩
  unfold Um.loseE at h
  simp only [List.mem_cons, List.not_mem_nil, or_false] at h
  subst h
  exact Or.inr (Or.inr (Or.inl ⟨rfl, rfl, rfl⟩))
theorem Um.ho_tell (s s' : Um.St) (k : Int) (h : 3 ≤ k) : Um.HoldOk s s' [Um.tell k 0] 0 := by
  refine ⟨fun h => absurd rfl h, fun x hx => ?_, by show (1 : Nat) ≤ 2; decide⟩
  simp only [List.mem_cons, List.not_mem_nil, or_false] at hx
  subst hx
  exact Or.inr (Or.inr (Or.inr h))
theorem Um.ho_want {s : Um.St} : Um.HoldOk s (Um.want s).1 (Um.want s).2 (Um.wantN s) := by
  unfold Um.want Um.wantN
  split
  · split
    · exact Um.ho_none s _
    · exact Um.ho_ask 1
  · exact Um.ho_none s _
theorem Um.ho_verify {s : Um.St} : Um.HoldOk s s (Um.verifyE s) (Um.verifyN s) := by
  unfold Um.verifyE Um.verifyN
  split
  · exact Um.ho_none s _
  · refine ⟨fun h => absurd rfl h, fun x hx => ?_, by show (1 : Nat) ≤ 2; decide⟩
    simp only [List.mem_cons, List.not_mem_nil, or_false] at hx
    subst hx
    exact Or.inl ⟨rfl, rfl, Or.inr rfl, by show (0 : Int) ≤ 0; decide, by show (0 : Int) ≤ 65535; decide⟩
theorem Um.ho_drop {s : Um.St} : Um.HoldOk s (Um.drop s).1 (Um.drop s).2 (Um.dropN s) := by
  unfold Um.drop Um.dropN
  split
  · exact Um.ho_tell _ _ 5 (by decide)
  · split
    · exact Um.ho_none s _
    · exact Um.ho_lose s
theorem Um.ho_timeout {s : Um.St} : Um.HoldOk s (Um.timeout s).1 (Um.timeout s).2 0 := by
  unfold Um.timeout
  split
  · split
    · exact Um.ho_tell _ _ 3 (by decide)
    · exact Um.ho_ask _
  · exact Um.ho_none s _
theorem Um.ho_message {s : Um.St} (hok : Um.Ok s) (ty ri ai : Int) : Um.HoldOk s (Um.message s ty ri ai).1 (Um.message s ty ri ai).2 0 := by
  unfold Um.message
  split
  · split
    · unfold Um.assigned
      split
      · rename_i hm
        unfold Um.mine at hm
        simp only [Bool.and_eq_true, decide_eq_true_eq] at hm
        refine ⟨fun h => absurd rfl h, fun x hx => ?_, by show (2 : Nat) ≤ 2; decide⟩
        simp only [List.mem_cons, List.not_mem_nil, or_false] at hx
        rcases hx with rfl | rfl
        · exact Or.inr (Or.inr (Or.inr (by show (3 : Int) ≤ 5; decide)))
        · exact Or.inr (Or.inl ⟨rfl, (hok.ask hm.1).1, rfl, hm.2.2⟩)
      · split
        · exact Um.ho_lose s
        · exact Um.ho_none s _
    · split
      · unfold Um.check
        split
        · refine ⟨fun h => absurd rfl h, fun x hx => ?_, by show (1 : Nat) ≤ 2; decide⟩
          simp only [List.mem_cons, List.not_mem_nil, or_false] at hx
          subst hx
          exact Or.inl ⟨rfl, rfl, Or.inr rfl, Um.nx_lo s, Um.nx_hi s⟩
        · exact Um.ho_none s _
      · split
        · unfold Um.remove
          split
          · exact Um.ho_lose s
          · exact Um.ho_none s _
        · exact Um.ho_none s _
  · exact Um.ho_none s _

/-- a view of it in block V -/
structure VwU (w : World) (V : Nat) (s : Um.St) : Prop where
  lt : V < w.heap.size
  v0 : w.cell? ⟨V, 0, none⟩ = some (.int .i64 s.tei)
  v1 : w.cell? ⟨V, 1, none⟩ = some (.bool s.asks)
  v2 : w.cell? ⟨V, 2, none⟩ = some (.int .i64 s.ri)
  v3 : w.cell? ⟨V, 3, none⟩ = some (.int .i64 s.tries)
theorem VwU.kept {w w' : World} {V : Nat} {s : Um.St} {T : Nat → Prop} (h : VwU w V s) (hk : Kept w w' T) (hT : ¬ T V) : VwU w' V s :=
  ⟨Nat.lt_of_lt_of_le h.lt hk.size, (hk.cell (p := ⟨V, 0, none⟩) h.lt hT).trans h.v0, (hk.cell (p := ⟨V, 1, none⟩) h.lt hT).trans h.v1, (hk.cell (p := ⟨V, 2, none⟩) h.lt hT).trans h.v2, (hk.cell (p := ⟨V, 3, none⟩) h.lt hT).trans h.v3⟩
theorem VwU.below {w w' : World} {V : Nat} {s : Um.St} (h : VwU w V s) (hb : Below w.heap.size w w') : VwU w' V s :=
  h.kept (T := fun _ => False) (Kept.of_below hb (fun k hk h' => by omega)) (fun x => x)
theorem vwu_new (w : World) (s : Um.St) : VwU (w.alloc (.cells #[.int .i64 s.tei, .bool s.asks, .int .i64 s.ri, .int .i64 s.tries] 37)) w.heap.size s :=
  ⟨by simp, by simp, by simp, by simp, by simp⟩
/-- a row of effects -/
def RowL (w : World) (a : Option Addr) (l : List Um.Ef) : Prop := ∀ j x, l[j]? = some x → ∃ g, a = some ⟨g, 0, none⟩ ∧ g < w.heap.size ∧ ∀ k u, (uefL x)[k]? = some u → w.cell? ⟨g, j * 5 + k, none⟩ = some u
theorem RowL.below {w w' : World} {a : Option Addr} {l : List Um.Ef} (h : RowL w a l) (hb : Below w.heap.size w w') : RowL w' a l := fun j x hj => by
  obtain ⟨g, e, hg, hc⟩ := h j x hj
  exact ⟨g, e, Nat.lt_of_lt_of_le hg hb.size, fun k u hk => (hb.cell (p := ⟨g, j * 5 + k, none⟩) hg).trans (hc k u hk)⟩
theorem UOut.row {b : Nat} {w : World} {l : List Um.Ef} {a : Option Addr} {cap : Nat} (h : UOut b w (.slice a l.length cap) l) : RowL w a l := fun j x hj => by
  obtain ⟨g, e, _, hg, _, hc⟩ := UOut.own h (by have := (List.getElem?_eq_some_iff.1 hj).1; omega)
  exact ⟨g, e, hg, fun k u hk => hc _ u (uef_at l j x hj k u hk)⟩
theorem UOut.capU {b : Nat} {w : World} {l : List Um.Ef} {a : Option Addr} {cap : Nat} (h : UOut b w (.slice a l.length cap) l) : l.length ≤ cap := by
  rcases h.own'.2 with ⟨h1, h2⟩ | ⟨g', c', cur, hv, _, _, hle, _⟩
  · omega
  · injection hv with _ _ e
    omega
end Go.Proofs.Ytdnhcpkpajbhoaa
