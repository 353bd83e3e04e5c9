/-
  The reference's clock: a list of timers in order, in a row, behind a pointer. The walks of its Runs and Next.
-/
import Derived.Test.YtalpfcckdjipoaaClockSteps
import Derived.BigQuiet
namespace Go.Proofs.Ytalpfcckdjipoaa
open Go.RowKit Go.Maps
set_option linter.unusedVariables false
set_option linter.unusedSimpArgs false

theorem tim_info : (Try.prog.info? 42).map (fun i => (i.zero, i.size, i.bytes)) = some (some (.agg #[.int .i64 0, .int .i64 0, .int .i64 0]), 3, 24) := by kernel_rfl
/-- a row of timers -/
def flatT (L : List Km.Tmr) : List Value := L.flatMap fun a => [.int .i64 a.2.1, .int .i64 a.2.2, .int .i64 a.1]
theorem flatT_append (a b : List Km.Tmr) : flatT (a ++ b) = flatT a ++ flatT b := by simp [flatT]
theorem flatT_length (L : List Km.Tmr) : (flatT L).length = L.length * 3 := by
  unfold flatT
  induction L with
  | nil => rfl
  | cons k r ih => simp [ih]; omega
theorem flatT_at : ∀ (L : List Km.Tmr) (i : Nat) (h : i < L.length), (flatT L)[i * 3]? = some (.int .i64 L[i].2.1) ∧ (flatT L)[i * 3 + 1]? = some (.int .i64 L[i].2.2) ∧ (flatT L)[i * 3 + 2]? = some (.int .i64 L[i].1)
  | k :: r, 0, h => by simp [flatT]
  | k :: r, i + 1, h => by
    have ih := flatT_at r i (by simpa using h)
    have e : flatT (k :: r) = [.int .i64 k.2.1, .int .i64 k.2.2, .int .i64 k.1] ++ flatT r := by simp [flatT]
    have e1 : (i + 1) * 3 = i * 3 + 3 := by omega
    rw [e, e1, List.getElem?_append_right (by simp), List.getElem?_append_right (by simp), List.getElem?_append_right (by simp)]
    simpa using ih

/-- a slice of timers: the address, how many more it may take, the row's block -/
structure RowT (w : World) (a : Option Addr) (cap : Nat) (G : Option Nat) (L : List Km.Tmr) : Prop where
  le : L.length ≤ cap
  row : L = [] ∨ ∃ g off, a = some ⟨g, off, none⟩ ∧ G = some g ∧ g < w.heap.size ∧ ∀ i (h : i < L.length), w.cell? ⟨g, off + i * 3, none⟩ = some (.int .i64 L[i].2.1) ∧ w.cell? ⟨g, off + i * 3 + 1, none⟩ = some (.int .i64 L[i].2.2) ∧ w.cell? ⟨g, off + i * 3 + 2, none⟩ = some (.int .i64 L[i].1)
theorem RowT.kept {w w' : World} {a : Option Addr} {cap : Nat} {G : Option Nat} {L : List Km.Tmr} {T : Nat → Prop} (h : RowT w a cap G L) (hk : Kept w w' T) (hG : ∀ B, G = some B → ¬ T B) : RowT w' a cap G L := by
  refine ⟨h.le, ?_⟩
  rcases h.row with h' | ⟨g, off, h1, h2, h3, h4⟩
  · exact Or.inl h'
  · exact Or.inr ⟨g, off, h1, h2, Nat.lt_of_lt_of_le h3 hk.size, fun i hi => ⟨(hk.cell (p := ⟨g, off + i * 3, none⟩) h3 (hG g h2)).trans (h4 i hi).1, (hk.cell (p := ⟨g, off + i * 3 + 1, none⟩) h3 (hG g h2)).trans (h4 i hi).2.1, (hk.cell (p := ⟨g, off + i * 3 + 2, none⟩) h3 (hG g h2)).trans (h4 i hi).2.2⟩⟩
theorem RowT.at {w : World} {a : Option Addr} {cap : Nat} {G : Option Nat} {L : List Km.Tmr} (h : RowT w a cap G L) (i : Nat) (hi : i < L.length) :
    ∃ g off, a = some ⟨g, off, none⟩ ∧ G = some g ∧ g < w.heap.size ∧ w.cell? ⟨g, off + i * 3, none⟩ = some (.int .i64 L[i].2.1) ∧ w.cell? ⟨g, off + i * 3 + 1, none⟩ = some (.int .i64 L[i].2.2) ∧ w.cell? ⟨g, off + i * 3 + 2, none⟩ = some (.int .i64 L[i].1) := by
  rcases h.row with h' | ⟨g, off, h1, h2, h3, h4⟩
  · rw [h'] at hi; simp at hi
  · exact ⟨g, off, h1, h2, h3, h4 i hi⟩
/-- a row of the call's own is such a slice -/
theorem own_rowT {w : World} {base : Nat} {v : Value} {L : List Km.Tmr} (h : w.ownsRow base 42 3 v L.length (flatT L)) : ∃ a cap G, v = .slice a L.length cap ∧ RowT w a cap G L ∧ ∀ B, G = some B → base ≤ B ∧ B < w.heap.size := by
  have h0 := h
  rcases h.2 with ⟨rfl, h'⟩ | ⟨g, cap, cur, rfl, hb, hgg, hle, hm, _⟩
  · exact ⟨none, 0, none, by rw [h'], ⟨by omega, Or.inl (List.eq_nil_of_length_eq_zero h')⟩, fun B hB => by cases hB⟩
  · have hgl := (Array.getElem?_eq_some_iff.1 hgg).1
    refine ⟨_, cap, some g, rfl, ⟨hle, Or.inr ⟨g, 0, rfl, rfl, hgl, fun i hi => ?_⟩⟩, fun B hB => by injection hB with hB; subst hB; exact ⟨hb, hgl⟩⟩
    obtain ⟨x0, x1, x2⟩ := flatT_at L i hi
    have y0 := h0.cells (g := g) rfl _ _ x0
    have y1 := h0.cells (g := g) rfl _ _ x1
    have y2 := h0.cells (g := g) rfl _ _ x2
    rw [addr_at] at y0 y1 y2
    rw [Nat.zero_add]
    exact ⟨y0, y1, y2⟩

/-- the reference's clock -/
structure Rf (w : World) (R : Nat) (G : Option Nat) (L : List Km.Tmr) : Prop where
  lt : R < w.heap.size
  c : ∃ a cap, w.cell? ⟨R, 0, none⟩ = some (.slice a L.length cap) ∧ RowT w a cap G L
  f : w.frozen? ⟨R, 0, none⟩ = false
  ne : G ≠ some R
theorem Rf.kept {w w' : World} {R : Nat} {G : Option Nat} {L : List Km.Tmr} {T : Nat → Prop} (h : Rf w R G L) (hk : Kept w w' T) (hR : ¬ T R) (hG : ∀ B, G = some B → ¬ T B) : Rf w' R G L := by
  obtain ⟨a, cap, h1, h2⟩ := h.c
  exact ⟨Nat.lt_of_lt_of_le h.lt hk.size, ⟨a, cap, (hk.cell (p := ⟨R, 0, none⟩) h.lt hR).trans h1, h2.kept hk hG⟩, (hk.frozen (p := ⟨R, 0, none⟩) h.lt hR).trans h.f, h.ne⟩
theorem Rf.below {w w' : World} {R : Nat} {G : Option Nat} {L : List Km.Tmr} (h : Rf w R G L) (hb : Below w.heap.size w w') : Rf w' R G L :=
  h.kept (T := fun _ => False) (Kept.of_below hb (fun k hk h' => by omega)) (fun x => x) (fun _ _ x => x)
/-- it was that clock and is now one with the timers L'; nothing else is turned -/
def RfM (w w' : World) (R : Nat) (G : Option Nat) (L' : List Km.Tmr) : Prop :=
  ∃ G', Rf w' R G' L' ∧ Kept w w' (fun k => k = R) ∧ ∀ B, G' = some B → G = some B ∨ (w.heap.size ≤ B ∧ B < w'.heap.size)
/-- a new list is laid down -/
theorem Rf.set {w wq : World} {R : Nat} {G : Option Nat} {L L' : List Km.Tmr} (h : Rf w R G L) (hb : Below w.heap.size w wq) {v : Value} (ho : wq.ownsRow w.heap.size 42 3 v L'.length (flatT L')) : RfM w (wq.setCell ⟨R, 0, none⟩ v) R G L' := by
  obtain ⟨a, cap, G', rfl, hT, hG'⟩ := own_rowT ho
  have hlt := h.lt
  obtain ⟨a0, cap0, hc0, _⟩ := h.c
  have hcq := (hb.cell (p := ⟨R, 0, none⟩) hlt).trans hc0
  have hk0 : Kept wq (wq.setCell ⟨R, 0, none⟩ (.slice a L'.length cap)) (fun k => k = R) := (Kept.refl wq (fun k => k = R)).setCell (p := ⟨R, 0, none⟩) (fun _ => rfl) _
  refine ⟨G', ⟨by have := hb.size; have := hk0.size; omega, ⟨a, cap, World.cell?_setCell_same' _ ⟨R, 0, none⟩ _ (by rw [hcq]; rfl), hT.kept hk0 (fun B hB e => by have := (hG' B hB).1; omega)⟩, ?_, fun e => by have := (hG' R e).1; omega⟩, ?_, fun B hB => Or.inr ⟨(hG' B hB).1, Nat.lt_of_lt_of_le (hG' B hB).2 hk0.size⟩⟩
  · rw [World.frozen?_setCell]; exact (hb.frozen (p := ⟨R, 0, none⟩) hlt).trans h.f
  · exact (Kept.of_below hb (fun k hk h' => by omega)).trans hk0 (fun k _ e => e)

theorem tim_new {w : World} (a b c : Int) (g : Nat) (hg : g = w.heap.size) : ∀ (j : Nat) (u : Value), [Value.int .i64 a, Value.int .i64 b, Value.int .i64 c][j]? = some u → (w.alloc (.cells #[.int .i64 a, .int .i64 b, .int .i64 c] 42)).cell? ((⟨g, 0, none⟩ : Addr).add j) = some u := by
  subst hg
  intro j u hu
  rw [addr_at]
  match j, hu with
  | 0, hu => simp at hu; subst hu; simp
  | 1, hu => simp at hu; subst hu; simp
  | 2, hu => simp at hu; subst hu; simp
theorem tim_one (a b c : Int) : ∀ u ∈ [Value.int .i64 a, Value.int .i64 b, Value.int .i64 c], u.oneCell' = true := by
  intro u hu; simp at hu; rcases hu with rfl | rfl | rfl <;> rfl
theorem filt_step (p : Km.Tmr → Bool) (L : List Km.Tmr) (i : Nat) (h : i < L.length) : (L.take (i + 1)).filter p = (L.take i).filter p ++ (if p L[i] then [L[i]] else []) := by
  rw [List.take_succ_eq_append_getElem h, List.filter_append]
  congr 1
  by_cases e : p L[i] <;> simp [e]
theorem find_step (p : Km.Tmr → Bool) (L : List Km.Tmr) (i : Nat) (h : i < L.length) (h0 : (L.take i).find? p = none) : (L.take (i + 1)).find? p = (if p L[i] then some L[i] else none) := by
  rw [List.take_succ_eq_append_getElem h, List.find?_append, h0]
  by_cases e : p L[i] <;> simp [e]
theorem find_prefix (p : Km.Tmr → Bool) (L : List Km.Tmr) (i : Nat) {a : Km.Tmr} (h : (L.take i).find? p = some a) : L.find? p = some a := by
  have e : L = L.take i ++ L.drop i := (List.take_append_drop i L).symm
  rw [e, List.find?_append, h]; rfl

set_option maxHeartbeats 1000000 in
set_option maxRecDepth 100000 in
theorem rnext_any (R : Nat) (G : Option Nat) (L : List Km.Tmr) (w : World) (h : Rf w R G L) (hlen : L.length ≤ 1000000) :
    Calls Try.prog 21 #[.pointer (some ⟨R, 0, none⟩)] w fun e w' => e = .returned (.tuple #[.int .i64 (Km.nextN L), .bool (Km.nextB L)]) ∧ Below w.heap.size w w' := by
  obtain ⟨a, cap, hc, hT⟩ := h.c
  have hlt := h.lt
  cases L with
  | nil =>
    simp only [List.length_nil] at hc
    clear h hT
    go_enter Try.func21, Try.ntmps21
    go_wp2
    go_ret2
    exact ⟨rfl, Below.refl _ _⟩
  | cons x r =>
    obtain ⟨g, off, rfl, rfl, hg, c0, c1, c2⟩ := hT.at 0 (by simp)
    obtain ⟨n, hn⟩ : ∃ n : Nat, n = (x :: r).length := ⟨_, rfl⟩
    have hn0 : 0 < n := by rw [hn]; simp
    rw [← hn] at hc hlen
    have hcp : n ≤ cap := by rw [hn]; exact hT.le
    have HN : Hid (Km.nextN (x :: r) = x.1 ∧ Km.nextB (x :: r) = true) := ⟨rfl, rfl⟩
    simp only [Nat.zero_mul, Nat.add_zero, List.getElem_cons_zero] at c0 c1 c2
    clear h hT hn
    go_enter Try.func21, Try.ntmps21
    go_wp2
    go_ret2
    exact ⟨by rw [HN.out.1, HN.out.2]; rfl, Below.refl _ _⟩

set_option maxHeartbeats 2000000 in
set_option maxRecDepth 100000 in
theorem rruns_any (R : Nat) (G : Option Nat) (L : List Km.Tmr) (k1 k2 : Int) (w : World) (h : Rf w R G L) (hlen : L.length ≤ 1000000) :
    Calls Try.prog 19 #[.pointer (some ⟨R, 0, none⟩), .int .i64 k1, .int .i64 k2] w fun e w' => e = .returned (.tuple #[.int .i64 (Km.till L (k1, k2)), .bool (Km.runs L (k1, k2))]) ∧ Below w.heap.size w w' := by
  obtain ⟨a, cap, hc, hT⟩ := h.c
  have hlt := h.lt
  have hcp := hT.le
  have HT : Hid (RowT w a cap G L) := hT
  obtain ⟨n, hn⟩ : ∃ n : Nat, n = L.length := ⟨_, rfl⟩
  rw [← hn] at hc hlen hcp
  have HN : Hid (n = L.length) := hn
  clear h hT hn
  go_enter Try.func19, Try.ntmps19
  go_wp2
  go_loopw [8] (fun c wq => ∃ i : Nat, i ≤ n ∧ c = .int .i64 i ∧ wq = w ∧ Hid ((L.take i).find? (fun a => decide (a.2 = (k1, k2))) = none)) (fun c _ => n - (intOf c).toNat)
  case atStart => exact ⟨0, Nat.zero_le _, rfl, rfl, by show List.find? _ _ = none; simp⟩
  case round =>
    obtain ⟨i, hi, rfl, rfl, HF⟩ := hrel
    by_cases hil : i < n
    · have hiL : i < L.length := by rw [← HN.out]; exact hil
      obtain ⟨g, off, rfl, rfl, hg, c0, c1, c2⟩ := HT.out.at i hiL
      have hst := find_step (fun a => decide (a.2 = (k1, k2))) L i hiL HF.out
      obtain ⟨⟨e1, o1, t1⟩, hx⟩ : ∃ x, L[i] = x := ⟨_, rfl⟩
      rw [hx] at c0 c1 c2 hst
      simp only at c0 c1 c2 hst
      by_cases heq : o1 = k1 ∧ t1 = k2
      · obtain ⟨rfl, rfl⟩ := heq
        have HR : Hid (Km.till L (o1, t1) = e1 ∧ Km.runs L (o1, t1) = true) := by
          have h1 : (L.take (i + 1)).find? (fun a => decide (a.2 = (o1, t1))) = some (e1, o1, t1) := by rw [hst]; simp
          have h2 := find_prefix _ L (i + 1) h1
          have h3 : Km.look L (o1, t1) = some e1 := by unfold Km.look; rw [h2]; rfl
          exact ⟨by unfold Km.till; rw [h3]; rfl, by unfold Km.runs; rw [h3]; rfl⟩
        clear hst hx HF HT HN hiL
        go_wp2
        go_ret2
        exact ⟨by rw [HR.out.1, HR.out.2]; rfl, Below.refl _ _⟩
      · have hf2 : (L.take (i + 1)).find? (fun a => decide (a.2 = (k1, k2))) = none := by
          rw [hst]
          have : ¬ ((o1, t1) = (k1, k2)) := fun e => heq (by injection e with e1 e2; exact ⟨e1, e2⟩)
          simp [this]
        have HF2 : Hid ((L.take (i + 1)).find? (fun a => decide (a.2 = (k1, k2))) = none) := hf2
        clear hf2
        have hcs : (o1 = k1 ∧ (t1 == k2) = false) ∨ (o1 == k1) = false := by
          by_cases y1 : o1 = k1
          · exact Or.inl ⟨y1, by simpa using fun e => heq ⟨y1, e⟩⟩
          · exact Or.inr (by simpa using y1)
        clear hst hx HF heq hiL
        rcases hcs with ⟨rfl, t2⟩ | t2
        · go_wp2
          go_roundw
          case rel => exact ⟨i + 1, by omega, by go_num, trivial, HF2⟩
          case measure => simp [intOf]; omega
        · go_wp2
          go_roundw
          case rel => exact ⟨i + 1, by omega, by go_num, trivial, HF2⟩
          case measure => simp [intOf]; omega
    · have hie : i = n := by omega
      subst hie
      have HR : Hid (Km.till L (k1, k2) = 0 ∧ Km.runs L (k1, k2) = false) := by
        have h1 := HF.out
        rw [HN.out, List.take_length] at h1
        have h3 : Km.look L (k1, k2) = none := by unfold Km.look; rw [h1]; rfl
        exact ⟨by unfold Km.till; rw [h3]; rfl, by unfold Km.runs; rw [h3]; rfl⟩
      clear HF HT HN
      go_wp2
      go_ret2
      exact ⟨by rw [HR.out.1, HR.out.2]; rfl, Below.refl _ _⟩
end Go.Proofs.Ytalpfcckdjipoaa
