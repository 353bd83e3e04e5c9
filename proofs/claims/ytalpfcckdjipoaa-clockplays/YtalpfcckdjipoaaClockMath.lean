/-
  Plain mathematics of timers in order: what the walks of layer 9 come to. It names nothing of the program.
-/
import Derived.RowKit
namespace Go.Proofs.Ytalpfcckdjipoaa.Km
set_option linter.unusedVariables false
set_option linter.unusedSimpArgs false

/-- a timer that runs: till when, whose, which -/
abbrev Tmr := Int × Int × Int

/-- does one stand ahead of another one? -/
def lt (a b : Tmr) : Bool := if a.1 = b.1 then (if a.2.1 = b.2.1 then decide (a.2.2 < b.2.2) else decide (a.2.1 < b.2.1)) else decide (a.1 < b.1)

theorem lt_iff (a b : Tmr) : lt a b = true ↔ a.1 < b.1 ∨ (a.1 = b.1 ∧ (a.2.1 < b.2.1 ∨ (a.2.1 = b.2.1 ∧ a.2.2 < b.2.2))) := by
  unfold lt
  split
  · split
    · rw [decide_eq_true_eq]; omega
    · rw [decide_eq_true_eq]; omega
  · rw [decide_eq_true_eq]; omega
theorem lt_irrefl (a : Tmr) : lt a a = false := by
  cases h : lt a a
  · rfl
  · rw [lt_iff] at h; omega
theorem lt_trans {a b c : Tmr} (h : lt a b = true) (h' : lt b c = true) : lt a c = true := by rw [lt_iff] at *; omega
theorem lt_total {a b : Tmr} (h : a ≠ b) : lt a b = true ∨ lt b a = true := by
  rw [lt_iff, lt_iff]
  have : ¬ (a.1 = b.1 ∧ a.2.1 = b.2.1 ∧ a.2.2 = b.2.2) := fun e => h (Prod.ext e.1 (Prod.ext e.2.1 e.2.2))
  omega
theorem lt_le {a b : Tmr} (h : lt a b = true) : a.1 ≤ b.1 := by rw [lt_iff] at h; omega
theorem lt_asymm {a b : Tmr} (h : lt a b = true) : lt b a = false := by
  cases h' : lt b a
  · rfl
  · have := lt_trans h h'; rw [lt_irrefl] at this; exact this.symm ▸ rfl

def Sorted (L : List Tmr) : Prop := L.Pairwise (fun a b => lt a b = true)

/-- two rows in order, of the same timers, are one -/
theorem eq_of_mem : ∀ {l m : List Tmr}, Sorted l → Sorted m → (∀ a, a ∈ l ↔ a ∈ m) → l = m
  | [], [], _, _, _ => rfl
  | [], b :: s, _, _, h => by have := (h b).2 (by simp); simp at this
  | a :: r, [], _, _, h => by have := (h a).1 (by simp); simp at this
  | a :: r, b :: s, h1, h2, h => by
    obtain ⟨a1, a2⟩ := List.pairwise_cons.1 h1
    obtain ⟨b1, b2⟩ := List.pairwise_cons.1 h2
    have hab : a = b := by
      rcases List.mem_cons.1 ((h a).1 (by simp)) with e | ha
      · exact e
      · rcases List.mem_cons.1 ((h b).2 (by simp)) with e | hb
        · exact e.symm
        · have := lt_trans (a1 b hb) (b1 a ha)
          rw [lt_irrefl] at this
          cases this
    subst hab
    rw [eq_of_mem a2 b2 (fun p => ⟨fun hp => by
      rcases List.mem_cons.1 ((h p).1 (by simp [hp])) with e | hp'
      · have := a1 p hp
        rw [e, lt_irrefl] at this
        cases this
      · exact hp', fun hp => by
      rcases List.mem_cons.1 ((h p).2 (by simp [hp])) with e | hp'
      · have := b1 p hp
        rw [e, lt_irrefl] at this
        cases this
      · exact hp'⟩)]

/-- what may be a timer's numbers -/
def In (n : Int) : Prop := -9223372036854775808 ≤ n ∧ n ≤ 9223372036854775807
structure InT (a : Tmr) : Prop where
  lo : 1 ≤ a.1
  hi : a.1 ≤ 9007199255789568
  ow : In a.2.1
  ti : In a.2.2

/-- timers that run: in order, none twice -/
structure Ok (L : List Tmr) : Prop where
  sorted : Sorted L
  uniq : L.Pairwise (fun a b => a.2 ≠ b.2)
  inn : ∀ a ∈ L, InT a

theorem ok_nil : Ok [] := ⟨List.Pairwise.nil, List.Pairwise.nil, fun a h => by simp at h⟩
theorem Ok.tail {a : Tmr} {r : List Tmr} (h : Ok (a :: r)) : Ok r := ⟨(List.pairwise_cons.1 h.sorted).2, (List.pairwise_cons.1 h.uniq).2, fun b hb => h.inn b (by simp [hb])⟩
theorem Ok.filter {L : List Tmr} (h : Ok L) (p : Tmr → Bool) : Ok (L.filter p) :=
  ⟨h.sorted.filter p, h.uniq.filter p, fun a ha => h.inn a (List.mem_filter.1 ha).1⟩
/-- one key, one timer -/
theorem Ok.one {L : List Tmr} (h : Ok L) {a b : Tmr} (ha : a ∈ L) (hb : b ∈ L) (e : a.2 = b.2) : a = b := by
  have key : ∀ {L : List Tmr}, L.Pairwise (fun a b => a.2 ≠ b.2) → ∀ a b : Tmr, a ∈ L → b ∈ L → a.2 = b.2 → a = b := by
    intro L hp
    induction hp with
    | nil => intro a b ha; simp at ha
    | cons h1 _ ih =>
      intro a b ha hb e
      rcases List.mem_cons.1 ha with ea | ha'
      · rcases List.mem_cons.1 hb with eb | hb'
        · rw [ea, eb]
        · exact absurd (ea ▸ e) (h1 b hb')
      · rcases List.mem_cons.1 hb with eb | hb'
        · exact absurd (eb ▸ e).symm (h1 a ha')
        · exact ih a b ha' hb' e
  exact key h.uniq a b ha hb e

/-! ### one timer less -/
def rem (k : Int × Int) (L : List Tmr) : List Tmr := L.filter (fun a => !(decide (a.2 = k)))
theorem mem_rem {k : Int × Int} {L : List Tmr} {a : Tmr} : a ∈ rem k L ↔ a ∈ L ∧ a.2 ≠ k := by simp [rem]
theorem Ok.rem {L : List Tmr} (h : Ok L) (k : Int × Int) : Ok (rem k L) := h.filter _
theorem rem_none {k : Int × Int} {L : List Tmr} (h : ∀ a ∈ L, a.2 ≠ k) : rem k L = L := List.filter_eq_self.2 (fun a ha => by simpa using h a ha)
theorem rem_snoc (k : Int × Int) (l : List Tmr) (a : Tmr) : rem k (l ++ [a]) = if a.2 = k then rem k l else rem k l ++ [a] := by
  unfold rem
  rw [List.filter_append]
  by_cases h : a.2 = k <;> simp [h]
theorem rem_length_le (k : Int × Int) (L : List Tmr) : (rem k L).length ≤ L.length := List.length_filter_le _ _
theorem filter_lt {p : Tmr → Bool} : ∀ {L : List Tmr} {a : Tmr}, a ∈ L → p a = false → (L.filter p).length < L.length
  | b :: r, a, h, hp => by
    have hle := List.length_filter_le p r
    rcases List.mem_cons.1 h with e | h
    · rw [← e, List.filter_cons, hp]
      simp; omega
    · have := filter_lt h hp
      rw [List.filter_cons]
      split <;> simp only [List.length_cons] <;> omega

/-- till when it runs, if it does -/
def look (L : List Tmr) (k : Int × Int) : Option Int := (L.find? (fun a => decide (a.2 = k))).map (·.1)
theorem look_none {L : List Tmr} {k : Int × Int} (h : look L k = none) : ∀ a ∈ L, a.2 ≠ k := by
  unfold look at h
  intro a ha
  have h2 : L.find? (fun a => decide (a.2 = k)) = none := by simpa using h
  have := List.find?_eq_none.1 h2 a ha
  simpa using this
theorem look_some {L : List Tmr} {k : Int × Int} {e : Int} (h : look L k = some e) : (e, k) ∈ L := by
  unfold look at h
  cases hf : L.find? (fun a => decide (a.2 = k)) with
  | none => rw [hf] at h; simp at h
  | some a =>
    rw [hf] at h
    have h1 := List.find?_some hf
    have h2 := List.mem_of_find?_eq_some hf
    simp at h h1
    rw [← h, ← h1]
    exact h2
theorem look_of {L : List Tmr} (hL : Ok L) {k : Int × Int} {e : Int} (h : (e, k) ∈ L) : look L k = some e := by
  cases hl : look L k with
  | none => exact absurd rfl (look_none hl _ h)
  | some e' =>
    have := hL.one (look_some hl) h rfl
    injection this with this _
    rw [this]
theorem look_of_none {L : List Tmr} {k : Int × Int} (h : ∀ a ∈ L, a.2 ≠ k) : look L k = none := by
  cases hl : look L k with
  | none => rfl
  | some e => exact absurd rfl (h _ (look_some hl))
/-- does it run? -/
def runs (L : List Tmr) (k : Int × Int) : Bool := (look L k).isSome
def till (L : List Tmr) (k : Int × Int) : Int := (look L k).getD 0
theorem runs_iff {L : List Tmr} {k : Int × Int} : runs L k = decide ((rem k L).length < L.length) := by
  unfold runs
  cases hl : look L k with
  | none =>
    rw [rem_none (look_none hl)]
    simp
  | some e =>
    have : (rem k L).length < L.length := filter_lt (look_some hl) (by simp)
    simp [this]
theorem not_runs {L : List Tmr} {k : Int × Int} (h : runs L k = false) : rem k L = L := by
  unfold runs at h
  cases hl : look L k with
  | none => exact rem_none (look_none hl)
  | some e => rw [hl] at h; simp at h
theorem till_bounds {L : List Tmr} (hL : Ok L) (k : Int × Int) : 0 ≤ till L k ∧ till L k ≤ 9007199255789568 := by
  unfold till
  cases hl : look L k with
  | none => simp
  | some e =>
    have := hL.inn _ (look_some hl)
    have h1 := this.lo
    have h2 := this.hi
    simp at *
    omega

/-! ### one timer more -/
def ins (x : Tmr) : List Tmr → List Tmr
  | [] => [x]
  | y :: r => if lt x y = true then x :: y :: r else y :: ins x r
theorem mem_ins {x a : Tmr} : ∀ {L : List Tmr}, a ∈ ins x L ↔ a = x ∨ a ∈ L
  | [] => by simp [ins]
  | y :: r => by
    unfold ins
    split
    · simp
    · rw [List.mem_cons, mem_ins, List.mem_cons]
      constructor
      · rintro (h | h | h)
        · exact Or.inr (Or.inl h)
        · exact Or.inl h
        · exact Or.inr (Or.inr h)
      · rintro (h | h | h)
        · exact Or.inr (Or.inl h)
        · exact Or.inl h
        · exact Or.inr (Or.inr h)
theorem ins_length (x : Tmr) : ∀ L : List Tmr, (ins x L).length = L.length + 1
  | [] => rfl
  | y :: r => by
    unfold ins
    split
    · simp
    · simp [ins_length x r]
theorem sorted_ins {x : Tmr} : ∀ {L : List Tmr}, Sorted L → x ∉ L → Sorted (ins x L)
  | [], _, _ => by simp [ins, Sorted]
  | y :: r, h, hx => by
    obtain ⟨h1, h2⟩ := List.pairwise_cons.1 h
    unfold ins
    split
    · rename_i hl
      refine List.pairwise_cons.2 ⟨fun b hb => ?_, h⟩
      rcases List.mem_cons.1 hb with rfl | hb
      · exact hl
      · exact lt_trans hl (h1 b hb)
    · rename_i hl
      have hyx : lt y x = true := by
        rcases lt_total (a := x) (b := y) (fun e => hx (by simp [e])) with h' | h'
        · exact absurd h' hl
        · exact h'
      refine List.pairwise_cons.2 ⟨fun b hb => ?_, sorted_ins h2 (fun hm => hx (by simp [hm]))⟩
      rcases mem_ins.1 hb with rfl | hb
      · exact hyx
      · exact h1 b hb
theorem uniq_ins {x : Tmr} : ∀ {L : List Tmr}, L.Pairwise (fun a b => a.2 ≠ b.2) → (∀ a ∈ L, a.2 ≠ x.2) → (ins x L).Pairwise (fun a b => a.2 ≠ b.2)
  | [], _, _ => by simp [ins]
  | y :: r, h, hx => by
    obtain ⟨h1, h2⟩ := List.pairwise_cons.1 h
    unfold ins
    split
    · exact List.pairwise_cons.2 ⟨fun b hb => (hx b hb).symm, h⟩
    · refine List.pairwise_cons.2 ⟨fun b hb => ?_, uniq_ins h2 (fun a ha => hx a (by simp [ha]))⟩
      rcases mem_ins.1 hb with rfl | hb
      · exact hx y (by simp)
      · exact h1 b hb

/-- may it be started so? -/
abbrev good (now period : Int) : Prop := (0 ≤ now ∧ now ≤ 9007199254740992) ∧ (1 ≤ period ∧ period ≤ 1048576)
def startL (k : Int × Int) (e : Int) (L : List Tmr) : List Tmr := ins (e, k) (rem k L)
theorem mem_start {k : Int × Int} {e : Int} {L : List Tmr} {a : Tmr} : a ∈ startL k e L ↔ a = (e, k) ∨ (a ∈ L ∧ a.2 ≠ k) := by
  unfold startL; rw [mem_ins, mem_rem]
theorem Ok.start {L : List Tmr} (h : Ok L) {k : Int × Int} {e : Int} (hx : InT (e, k)) : Ok (startL k e L) := by
  refine ⟨sorted_ins (h.rem k).sorted (fun hm => (mem_rem.1 hm).2 rfl), uniq_ins (h.rem k).uniq (fun a ha => (mem_rem.1 ha).2), fun a ha => ?_⟩
  rcases mem_start.1 ha with rfl | ⟨ha, _⟩
  · exact hx
  · exact h.inn a ha
theorem start_length (k : Int × Int) (e : Int) (L : List Tmr) : (startL k e L).length ≤ L.length + 1 := by
  unfold startL; rw [ins_length]; have := rem_length_le k L; omega

/-! ### none of somebody's -/
def dropL (o : Int) (L : List Tmr) : List Tmr := L.filter (fun a => !(decide (a.2.1 = o)))
theorem mem_drop {o : Int} {L : List Tmr} {a : Tmr} : a ∈ dropL o L ↔ a ∈ L ∧ a.2.1 ≠ o := by simp [dropL]
theorem Ok.drop {L : List Tmr} (h : Ok L) (o : Int) : Ok (dropL o L) := h.filter _

/-! ### the first one -/
def nextN : List Tmr → Int
  | [] => 0
  | a :: _ => a.1
def nextB : List Tmr → Bool
  | [] => false
  | _ :: _ => true
theorem Ok.first {a : Tmr} {r : List Tmr} (h : Ok (a :: r)) : ∀ b ∈ a :: r, a.1 ≤ b.1 := by
  intro b hb
  rcases List.mem_cons.1 hb with rfl | hb
  · exact Int.le_refl _
  · exact lt_le ((List.pairwise_cons.1 h.sorted).1 b hb)
theorem next_found {L : List Tmr} (h : Ok L) {f : Int} {a : Tmr} (ha : a ∈ L) (hf : a.1 = f) (hm : ∀ b ∈ L, f ≤ b.1) : nextN L = f ∧ nextB L = true := by
  cases L with
  | nil => simp at ha
  | cons x r =>
    refine ⟨?_, rfl⟩
    have h1 := h.first a ha
    have h2 := hm x (by simp)
    show x.1 = f
    omega

/-! ### those that are over -/
def dueL (now : Int) (L : List Tmr) : List Tmr := L.filter (fun a => decide (a.1 ≤ now))
def restL (now : Int) (L : List Tmr) : List Tmr := L.filter (fun a => !(decide (a.1 ≤ now)))
theorem mem_due {now : Int} {L : List Tmr} {a : Tmr} : a ∈ dueL now L ↔ a ∈ L ∧ a.1 ≤ now := by simp [dueL]
theorem mem_rest {now : Int} {L : List Tmr} {a : Tmr} : a ∈ restL now L ↔ a ∈ L ∧ now < a.1 := by simp [restL]
theorem Ok.due {L : List Tmr} (h : Ok L) (now : Int) : Ok (dueL now L) := h.filter _
theorem Ok.rest {L : List Tmr} (h : Ok L) (now : Int) : Ok (restL now L) := h.filter _
theorem due_cons_in {now : Int} {a : Tmr} {r : List Tmr} (h : a.1 ≤ now) : dueL now (a :: r) = a :: dueL now r := by simp [dueL, h]
theorem rest_cons_in {now : Int} {a : Tmr} {r : List Tmr} (h : a.1 ≤ now) : restL now (a :: r) = restL now r := by simp [restL, h]
theorem due_cons_out {now : Int} {a : Tmr} {r : List Tmr} (hL : Ok (a :: r)) (h : ¬ a.1 ≤ now) : dueL now (a :: r) = [] := by
  refine List.filter_eq_nil_iff.2 (fun b hb => ?_)
  have := hL.first b hb
  simp; omega
theorem rest_cons_out {now : Int} {a : Tmr} {r : List Tmr} (hL : Ok (a :: r)) (h : ¬ a.1 ≤ now) : restL now (a :: r) = a :: r := by
  refine List.filter_eq_self.2 (fun b hb => ?_)
  have := hL.first b hb
  simp; omega
theorem due_length (now : Int) (L : List Tmr) : (dueL now L).length ≤ L.length := List.length_filter_le _ _
theorem rest_length (now : Int) (L : List Tmr) : (restL now L).length ≤ L.length := List.length_filter_le _ _

/-- P9.2: first those of the one time, then those of the later one -/
theorem due_parts {L : List Tmr} (h : Ok L) {x y : Int} (hxy : x ≤ y) : dueL x L ++ dueL y (restL x L) = dueL y L := by
  refine eq_of_mem ?_ (h.due y).sorted (fun a => ?_)
  · refine List.pairwise_append.2 ⟨(h.due x).sorted, ((h.rest x).due y).sorted, fun a ha b hb => ?_⟩
    have h1 := (mem_due.1 ha).2
    have h2 := (mem_rest.1 (mem_due.1 hb).1).2
    rw [lt_iff]; omega
  · rw [List.mem_append, mem_due, mem_due, mem_rest, mem_due]
    constructor
    · rintro (⟨h1, h2⟩ | ⟨⟨h1, h2⟩, h3⟩)
      · exact ⟨h1, by omega⟩
      · exact ⟨h1, h3⟩
    · rintro ⟨h1, h2⟩
      by_cases hx : a.1 ≤ x
      · exact Or.inl ⟨h1, hx⟩
      · exact Or.inr ⟨⟨h1, by omega⟩, h2⟩

/-- P9.1: a timer that is stopped at the end is as one that never was -/
theorem rem_start_other {L : List Tmr} (h : Ok L) {g k : Int × Int} {e : Int} (hx : InT (e, k)) (hne : k ≠ g) : rem g (startL k e L) = startL k e (rem g L) := by
  refine eq_of_mem ((h.start hx).rem g).sorted ((h.rem g).start hx).sorted (fun a => ?_)
  rw [mem_rem, mem_start, mem_start, mem_rem]
  constructor
  · rintro ⟨h1 | ⟨h1, h2⟩, h3⟩
    · exact Or.inl h1
    · exact Or.inr ⟨⟨h1, h3⟩, h2⟩
  · rintro (h1 | ⟨⟨h1, h3⟩, h2⟩)
    · exact ⟨Or.inl h1, by rw [h1]; exact hne⟩
    · exact ⟨Or.inr ⟨h1, h2⟩, h3⟩
theorem rem_start_same {L : List Tmr} (h : Ok L) {g : Int × Int} {e : Int} (hx : InT (e, g)) : rem g (startL g e L) = rem g L := by
  refine eq_of_mem ((h.start hx).rem g).sorted (h.rem g).sorted (fun a => ?_)
  rw [mem_rem, mem_start, mem_rem]
  constructor
  · rintro ⟨h1 | ⟨h1, h2⟩, h3⟩
    · exact absurd (by rw [h1]) h3
    · exact ⟨h1, h3⟩
  · rintro ⟨h1, h3⟩
    exact ⟨Or.inr ⟨h1, h3⟩, h3⟩

/-! ### as the document goes: one behind the other -/
/-- what is built of the first i, with x put in its place -/
def insAt (x : Tmr) (L : List Tmr) (i : Nat) : List Tmr × Bool := (L.take i).foldl (fun s y => if !s.2 && lt x y then (s.1 ++ [x] ++ [y], true) else (s.1 ++ [y], s.2)) ([], false)
theorem foldl_put (x : Tmr) : ∀ (L out : List Tmr), L.foldl (fun s y => if !s.2 && lt x y then (s.1 ++ [x] ++ [y], true) else (s.1 ++ [y], s.2)) (out, true) = (out ++ L, true)
  | [], out => by simp
  | y :: r, out => by
    rw [List.foldl_cons]
    simp only [Bool.not_true, Bool.false_and, Bool.false_eq_true, if_false]
    rw [foldl_put x r]
    simp
theorem foldl_ins (x : Tmr) : ∀ (L out : List Tmr), let s := L.foldl (fun s y => if !s.2 && lt x y then (s.1 ++ [x] ++ [y], true) else (s.1 ++ [y], s.2)) (out, false)
    (if s.2 then s.1 else s.1 ++ [x]) = out ++ ins x L
  | [], out => by simp [ins]
  | y :: r, out => by
    simp only [List.foldl_cons]
    cases hl : lt x y with
    | true =>
      simp only [Bool.not_false, Bool.and_true, if_true]
      rw [foldl_put x r]
      simp [ins, hl]
    | false =>
      simp only [Bool.and_false, Bool.false_eq_true, if_false]
      have := foldl_ins x r (out ++ [y])
      simp only at this
      rw [this]
      simp [ins, hl]
theorem insAt_zero (x : Tmr) (L : List Tmr) : insAt x L 0 = ([], false) := rfl
theorem insAt_succ (x : Tmr) (L : List Tmr) (i : Nat) (h : i < L.length) : insAt x L (i + 1) = (if !(insAt x L i).2 && lt x L[i] then ((insAt x L i).1 ++ [x] ++ [L[i]], true) else ((insAt x L i).1 ++ [L[i]], (insAt x L i).2)) := by
  unfold insAt
  rw [List.take_succ_eq_append_getElem h, List.foldl_append]
  rfl
theorem insAt_all (x : Tmr) (L : List Tmr) : (if (insAt x L L.length).2 then (insAt x L L.length).1 else (insAt x L L.length).1 ++ [x]) = ins x L := by
  unfold insAt
  rw [List.take_length]
  have := foldl_ins x L []
  simpa using this
theorem insAt_length (x : Tmr) (L : List Tmr) : ∀ i, i ≤ L.length → (insAt x L i).1.length = i + (if (insAt x L i).2 then 1 else 0)
  | 0, _ => by simp [insAt_zero]
  | i + 1, h => by
    have ih := insAt_length x L i (by omega)
    rw [insAt_succ x L i (by omega)]
    cases h2 : (insAt x L i).2 <;> rw [h2] at ih <;> cases lt x L[i] <;> simp at ih ⊢ <;> omega

/-! ### the walks over all, in whatever order -/
/-- of an Owner's timers those that have not come yet -/
def dropAt (o : Int) (left : Int × Int → Bool) (L : List Tmr) : List Tmr := L.filter (fun a => !(decide (a.2.1 = o)) || left a.2)
theorem dropAt_start {o : Int} {left : Int × Int → Bool} {L : List Tmr} (h : ∀ a ∈ L, left a.2 = true) : dropAt o left L = L := List.filter_eq_self.2 (fun a ha => by simp [h a ha])
theorem dropAt_end {o : Int} {left : Int × Int → Bool} {L : List Tmr} (h : ∀ a ∈ L, left a.2 = false) : dropAt o left L = dropL o L := by
  unfold dropAt dropL
  exact List.filter_congr (fun a ha => by simp [h a ha])
theorem dropAt_other {o : Int} {left : Int × Int → Bool} {L : List Tmr} {k : Int × Int} (h : k.1 ≠ o) : dropAt o (fun z => left z && !decide (z = k)) L = dropAt o left L := by
  unfold dropAt
  refine List.filter_congr (fun a ha => ?_)
  by_cases e : a.2 = k
  · have : ¬ a.2.1 = o := by rw [e]; exact h
    simp [this]
  · simp [e]
theorem dropAt_hit {o : Int} {left : Int × Int → Bool} {L : List Tmr} {k : Int × Int} (h : k.1 = o) : dropAt o (fun z => left z && !decide (z = k)) L = rem k (dropAt o left L) := by
  unfold dropAt rem
  rw [List.filter_filter]
  refine List.filter_congr (fun a ha => ?_)
  by_cases e : a.2 = k
  · have : a.2.1 = o := by rw [e]; exact h
    simp [e, h]
  · simp [e]
/-- just one goes -/
theorem rem_length {L : List Tmr} (h : Ok L) {a : Tmr} (ha : a ∈ L) : (rem a.2 L).length + 1 = L.length := by
  have key : ∀ {L : List Tmr}, L.Pairwise (fun a b => a.2 ≠ b.2) → a ∈ L → (rem a.2 L).length + 1 = L.length := by
    intro L hp
    induction hp with
    | nil => intro h; simp at h
    | @cons b r h1 _ ih =>
      intro hm
      by_cases e : b.2 = a.2
      · have : rem a.2 r = r := rem_none (fun c hc => by rw [← e]; exact (h1 c hc).symm)
        unfold rem at this ⊢
        rw [List.filter_cons]
        simp [e, this]
      · have hm' : a ∈ r := by
          rcases List.mem_cons.1 hm with rfl | h
          · exact absurd rfl e
          · exact h
        have := ih hm'
        unfold rem at this ⊢
        rw [List.filter_cons]
        simp [e]
        omega
  exact key h.uniq ha

/-- those of a list struck -/
def remAll (ks : List (Int × Int)) (L : List Tmr) : List Tmr := L.filter (fun a => !(decide (a.2 ∈ ks)))
theorem remAll_nil (L : List Tmr) : remAll [] L = L := List.filter_eq_self.2 (fun a _ => by simp)
theorem remAll_snoc (ks : List (Int × Int)) (k : Int × Int) (L : List Tmr) : remAll (ks ++ [k]) L = rem k (remAll ks L) := by
  unfold remAll rem
  rw [List.filter_filter]
  refine List.filter_congr (fun a _ => ?_)
  by_cases e : a.2 = k <;> by_cases e2 : a.2 ∈ ks <;> simp [e, e2]
theorem remAll_due {L : List Tmr} (h : Ok L) (now : Int) : remAll ((dueL now L).map (·.2)) L = restL now L := by
  unfold remAll restL
  refine List.filter_congr (fun a ha => ?_)
  have e : (a.2 ∈ (dueL now L).map (·.2)) ↔ a.1 ≤ now := by
    rw [List.mem_map]
    constructor
    · rintro ⟨b, hb, hab⟩
      obtain ⟨hb1, hb2⟩ := mem_due.1 hb
      rw [← h.one hb1 ha hab]
      exact hb2
    · intro hle
      exact ⟨a, mem_due.2 ⟨ha, hle⟩, rfl⟩
  rw [decide_eq_decide.2 e]

/-! ### in order -/
/-- how two keys stand, by till when they run -/
def cmpI (a b : Int) : Int := if a < b then -1 else if b < a then 1 else 0
def cf (L : List Tmr) (a b : Int × Int) : Int := if cmpI (till L a) (till L b) ≠ 0 then cmpI (till L a) (till L b) else if cmpI a.1 b.1 ≠ 0 then cmpI a.1 b.1 else cmpI a.2 b.2
theorem cf_lt (L : List Tmr) (a b : Int × Int) : decide (cf L a b < 0) = lt (till L a, a) (till L b, b) := by
  unfold cf cmpI lt
  by_cases h1 : till L a < till L b
  · have : till L a ≠ till L b := by omega
    simp [h1, this]
  · by_cases h2 : till L b < till L a
    · have : till L a ≠ till L b := by omega
      simp [h1, h2, this]
    · have e : till L a = till L b := by omega
      by_cases h3 : a.1 < b.1
      · have : a.1 ≠ b.1 := by omega
        simp [h3, this, e]
      · by_cases h4 : b.1 < a.1
        · have : a.1 ≠ b.1 := by omega
          simp [h3, h4, this, e]
        · have e2 : a.1 = b.1 := by omega
          by_cases h5 : a.2 < b.2
          · simp [h5, e, e2]
          · by_cases h6 : b.2 < a.2 <;> simp [h5, h6, e, e2]
/-- keys that are those over, in order, are the ones over -/
theorem due_of_keys {L : List Tmr} (h : Ok L) {now : Int} {ks : List (Int × Int)} (hm : ∀ k, k ∈ ks ↔ ∃ a ∈ L, a.2 = k ∧ a.1 ≤ now) (hs : ks.Pairwise (fun a b => lt (till L a, a) (till L b, b) = true)) : ks = (dueL now L).map (·.2) := by
  have hmem : ∀ k ∈ ks, (till L k, k) ∈ dueL now L := by
    intro k hk
    obtain ⟨a, ha, rfl, hle⟩ := (hm k).1 hk
    have e := look_of h (k := a.2) (e := a.1) ha
    have : till L a.2 = a.1 := by rw [till, e]; rfl
    rw [this]
    exact mem_due.2 ⟨ha, hle⟩
  have e : ks.map (fun k => (till L k, k)) = dueL now L := by
    refine eq_of_mem (List.pairwise_map.2 hs) (h.due now).sorted (fun a => ?_)
    rw [List.mem_map]
    constructor
    · rintro ⟨k, hk, rfl⟩
      exact hmem k hk
    · intro ha
      obtain ⟨h1, h2⟩ := mem_due.1 ha
      refine ⟨a.2, (hm a.2).2 ⟨a, h1, rfl, h2⟩, ?_⟩
      have e := look_of h (k := a.2) (e := a.1) h1
      have : till L a.2 = a.1 := by rw [till, e]; rfl
      rw [this]
  rw [← e, List.map_map]
  simp [Function.comp_def]
end Go.Proofs.Ytalpfcckdjipoaa.Km
