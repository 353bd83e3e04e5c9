/-
  The walks of a decoder's inner methods: turn, take. A decoder lies in a block of its own; its content in another one, or nowhere.
-/
import Derived.Test.YtdcohbdndkphnabDoorCommon
import Derived.Test.YtdcohbdndkphnabDoorDecMath
namespace Go.Proofs.YtdcohbdndkphnabDoor
open Go.RowKit
set_option linter.unusedVariables false
set_option linter.unusedSimpArgs false

/-- but for the blocks T, what was there is as it was -/
structure Kept (w w' : World) (T : Nat → Prop) : Prop where
  os : w'.os = w.os
  tape : w'.tape = w.tape
  output : w'.output = w.output
  size : w.heap.size ≤ w'.heap.size
  block : ∀ k, k < w.heap.size → ¬ T k → w'.heap[k]? = w.heap[k]?

theorem Kept.refl (w : World) (T : Nat → Prop) : Kept w w T := ⟨rfl, rfl, rfl, Nat.le_refl _, fun _ _ _ => rfl⟩
theorem Kept.trans {a b c : World} {T T' : Nat → Prop} (h : Kept a b T) (k : Kept b c T') (hT : ∀ k, k < a.heap.size → T' k → T k) : Kept a c T :=
  ⟨k.os.trans h.os, k.tape.trans h.tape, k.output.trans h.output, Nat.le_trans h.size k.size,
    fun i hi hn => (k.block i (Nat.lt_of_lt_of_le hi h.size) (fun hx => hn (hT i hi hx))).trans (h.block i hi hn)⟩
theorem Kept.mono {a b : World} {T T' : Nat → Prop} (h : Kept a b T) (hT : ∀ k, k < a.heap.size → T k → T' k) : Kept a b T' :=
  ⟨h.os, h.tape, h.output, h.size, fun i hi hn => h.block i hi (fun hx => hn (hT i hi hx))⟩
theorem Kept.of_below {a b : World} {T : Nat → Prop} {B : Nat} (h : Below B a b) (hB : ∀ k, k < a.heap.size → B ≤ k → T k) : Kept a b T :=
  ⟨h.os, h.tape, h.output, h.size, fun i hi hn => h.block i (by
    rcases Nat.lt_or_ge i B with h' | h'
    · exact h'
    · exact absurd (hB i hi h') hn)⟩
theorem Kept.below {a b : World} {T : Nat → Prop} {B : Nat} (h : Kept a b T) (hB : B ≤ a.heap.size) (hT : ∀ k, T k → B ≤ k) : Below B a b :=
  ⟨h.os, h.tape, h.output, h.size, fun k hk => h.block k (by omega) (fun hx => by have := hT k hx; omega)⟩
theorem Kept.of_grown {a b : World} {r : Option Nat} {T : Nat → Prop} (h : a.grownBy b r) (hT : ∀ k, r = some k → T k) : Kept a b T :=
  ⟨h.os, h.tape, h.output, h.size, fun k hk hn => h.block k hk (fun e => hn (hT k e.symm))⟩
theorem Kept.setCell {a w : World} {T : Nat → Prop} (h : Kept a w T) {p : Addr} (hp : p.block < a.heap.size → T p.block) (u : Value) : Kept a (w.setCell p u) T :=
  h.trans (T' := fun k => k = p.block) ⟨rfl, rfl, rfl, by simp [World.setCell], fun k hk hn => Below.heap_setCell _ _ _ _ hn⟩ (fun k hk e => by subst e; exact hp hk)
theorem Kept.alloc {a w : World} {T : Nat → Prop} (h : Kept a w T) (o : Obj) : Kept a (w.alloc o) T :=
  h.trans (T' := fun _ => False) ⟨rfl, rfl, rfl, by simp, fun k hk _ => Below.heap_alloc _ _ _ hk⟩ (fun _ _ h => h.elim)
theorem Kept.drew {a w : World} {T : Nat → Prop} (h : Kept a w T) : Kept a w.drew T := ⟨h.os, h.tape, h.output, h.size, h.block⟩
theorem Kept.cell {a b : World} {T : Nat → Prop} (h : Kept a b T) {p : Addr} (hp : p.block < a.heap.size) (hn : ¬ T p.block) : b.cell? p = a.cell? p := World.cell?_of_block (w := a) (h.block p.block hp hn)
theorem Kept.frozen {a b : World} {T : Nat → Prop} (h : Kept a b T) {p : Addr} (hp : p.block < a.heap.size) (hn : ¬ T p.block) : b.frozen? p = a.frozen? p := World.frozen?_of_block (w := a) (h.block p.block hp hn)
theorem Kept.owns {a b : World} {T : Nat → Prop} (h : Kept a b T) {base : Nat} {e : TypeId} {size : Nat} {v : Value} {n : Nat} {xs : List Value} (ho : a.ownsRow base e size v n xs)
    (hn : ∀ k, v.ownBlock = some k → ¬ T k) : b.ownsRow base e size v n xs := by
  refine ⟨ho.1, ?_⟩
  rcases ho.2 with hn' | ⟨g, cap, cur, rfl, hb, hgg, rest⟩
  · exact .inl hn'
  · refine .inr ⟨g, cap, cur, rfl, hb, ?_, rest⟩
    rw [h.block g (Array.getElem?_eq_some_iff.1 hgg).1 (hn g rfl)]
    exact hgg

/-- A decoder: its three fields in block D, its content in a row of its own. -/
structure Dec (w : World) (base D : Nat) (v : Value) (st : Hm.St) : Prop where
  ge : base ≤ D
  lt : D < w.heap.size
  c0 : w.cell? ⟨D, 0, none⟩ = some (.int .i64 (st.ones : Int))
  c1 : w.cell? ⟨D, 1, none⟩ = some (.bool st.inn)
  c2 : w.cell? ⟨D, 2, none⟩ = some v
  f : ∀ j, j < 3 → w.frozen? ⟨D, j, none⟩ = false
  own : w.ownsRow base 5 1 v st.cont.length (st.cont.map (Value.int .u8))
  ne : v.ownBlock ≠ some D
  ok : Hm.Ok st

def touch (D : Nat) (v : Value) (k : Nat) : Prop := k = D ∨ v.ownBlock = some k

/-- a decoder that was, with content v, is now in state st, and nothing else is turned -/
def Moved (w w' : World) (base D : Nat) (v : Value) (st : Hm.St) : Prop :=
  ∃ v', Dec w' base D v' st ∧ Kept w w' (touch D v) ∧ ∀ k, v'.ownBlock = some k → v.ownBlock = some k ∨ w.heap.size ≤ k

theorem Dec.same {w : World} {base D : Nat} {v : Value} {st : Hm.St} (h : Dec w base D v st) : Moved w w base D v st :=
  ⟨v, h, Kept.refl _ _, fun k hk => Or.inl hk⟩

theorem own_lt {w : World} {base : Nat} {e : TypeId} {size : Nat} {v : Value} {n : Nat} {xs : List Value} (h : w.ownsRow base e size v n xs) : ∀ k, v.ownBlock = some k → base ≤ k ∧ k < w.heap.size := h.lt

/-- what does not touch a decoder leaves it -/
theorem Dec.kept {w w' : World} {base D : Nat} {v : Value} {st : Hm.St} {T : Nat → Prop} (h : Dec w base D v st) (hk : Kept w w' T) (hD : ¬ T D) (hv : ∀ k, v.ownBlock = some k → ¬ T k) : Dec w' base D v st :=
  ⟨h.ge, Nat.lt_of_lt_of_le h.lt hk.size, (hk.cell (p := ⟨D, 0, none⟩) h.lt hD).trans h.c0, (hk.cell (p := ⟨D, 1, none⟩) h.lt hD).trans h.c1, (hk.cell (p := ⟨D, 2, none⟩) h.lt hD).trans h.c2,
    fun j hj => (hk.frozen (p := ⟨D, j, none⟩) h.lt hD).trans (h.f j hj), hk.owns h.own hv, h.ne, h.ok⟩

theorem Dec.below {w w' : World} {base D : Nat} {v : Value} {st : Hm.St} {B : Nat} (h : Dec w base D v st) (hb : Below B w w') (hB : w.heap.size ≤ B) : Dec w' base D v st :=
  h.kept (T := fun _ => False) (Kept.of_below hb (fun k hk h' => by omega)) (fun x => x) (fun _ _ x => x)

/-- the number of 1s is set -/
theorem Dec.set0 {w : World} {base D : Nat} {v : Value} {st : Hm.St} (h : Dec w base D v st) (n : Nat) : Dec (w.setCell ⟨D, 0, none⟩ (.int .i64 (n : Int))) base D v ⟨n, st.inn, st.cont⟩ := by
  have hk : Kept w (w.setCell ⟨D, 0, none⟩ (.int .i64 (n : Int))) (fun k => k = D) := Kept.setCell (T := fun k => k = D) (Kept.refl w _) (p := ⟨D, 0, none⟩) (fun _ => rfl) _
  refine ⟨h.ge, Nat.lt_of_lt_of_le h.lt hk.size, ?_, ?_, ?_, fun j hj => ?_, hk.owns h.own (fun k hk e => h.ne (by rw [hk, e])), h.ne, ⟨h.ok.bits, h.ok.len, h.ok.hunts⟩⟩
  · exact World.cell?_setCell_same' w ⟨D, 0, none⟩ _ (by rw [h.c0]; rfl)
  · exact (World.cell?_setCell_other w ⟨D, 0, none⟩ ⟨D, 1, none⟩ _ (fun e => by injection e with _ e2; omega)).trans h.c1
  · exact (World.cell?_setCell_other w ⟨D, 0, none⟩ ⟨D, 2, none⟩ _ (fun e => by injection e with _ e2; omega)).trans h.c2
  · have := h.f j hj
    simpa using this

theorem Dec.set0_moved {w : World} {base D : Nat} {v : Value} {st : Hm.St} (h : Dec w base D v st) (n : Nat) : Moved w (w.setCell ⟨D, 0, none⟩ (.int .i64 (n : Int))) base D v ⟨n, st.inn, st.cont⟩ :=
  ⟨v, h.set0 n, (Kept.refl w _).setCell (p := ⟨D, 0, none⟩) (fun _ => Or.inl rfl) _, fun k hk => Or.inl hk⟩

theorem Moved.trans {w w1 w2 : World} {base D : Nat} {v v1 : Value} {st2 : Hm.St} (hk : Kept w w1 (touch D v)) (hf : ∀ k, v1.ownBlock = some k → v.ownBlock = some k ∨ w.heap.size ≤ k)
    (h2 : Moved w1 w2 base D v1 st2) : Moved w w2 base D v st2 := by
  obtain ⟨v2, hd, hk2, hf2⟩ := h2
  refine ⟨v2, hd, hk.trans hk2 (fun k hk' ht => ?_), fun k hk' => ?_⟩
  · rcases ht with rfl | ht
    · exact Or.inl rfl
    · rcases hf k ht with h | h
      · exact Or.inr h
      · omega
  · rcases hf2 k hk' with h | h
    · exact hf k h
    · exact Or.inr (Nat.le_trans hk.size h)

theorem Moved.drew {w w' : World} {base D : Nat} {v : Value} {st : Hm.St} (h : Moved w w' base D v st) : Moved w w'.drew base D v st := by
  obtain ⟨v', hd, hk, hf⟩ := h
  exact ⟨v', hd.kept (T := fun _ => False) ((Kept.refl _ _).drew) (fun x => x) (fun _ _ x => x), hk.drew, hf⟩

/-- within, and the content cut to nothing -/
theorem Dec.turned {w : World} {base D : Nat} {v : Value} {st : Hm.St} (h : Dec w base D v st) (b : Bool) (v' : Value) (hb : v'.ownBlock = v.ownBlock) (ho : w.ownsRow base 5 1 v' 0 []) :
    Moved w ((w.setCell ⟨D, 1, none⟩ (.bool b)).setCell ⟨D, 2, none⟩ v') base D v ⟨st.ones, b, []⟩ := by
  have hk : Kept w ((w.setCell ⟨D, 1, none⟩ (.bool b)).setCell ⟨D, 2, none⟩ v') (fun k => k = D) :=
    Kept.setCell (T := fun k => k = D) (Kept.setCell (T := fun k => k = D) (Kept.refl w _) (p := ⟨D, 1, none⟩) (fun _ => rfl) _) (p := ⟨D, 2, none⟩) (fun _ => rfl) _
  have n01 : (⟨D, 1, none⟩ : Addr) ≠ ⟨D, 0, none⟩ := fun e => by injection e with _ e2; omega
  have n02 : (⟨D, 2, none⟩ : Addr) ≠ ⟨D, 0, none⟩ := fun e => by injection e with _ e2; omega
  have n21 : (⟨D, 2, none⟩ : Addr) ≠ ⟨D, 1, none⟩ := fun e => by injection e with _ e2; omega
  have n12 : (⟨D, 1, none⟩ : Addr) ≠ ⟨D, 2, none⟩ := fun e => by injection e with _ e2; omega
  refine ⟨v', ⟨h.ge, Nat.lt_of_lt_of_le h.lt hk.size, ?_, ?_, ?_, fun j hj => ?_, ?_, by rw [hb]; exact h.ne, ⟨Hm.bit_nil, by simp, fun _ => rfl⟩⟩, hk.mono (fun k _ e => Or.inl e), fun k hk => Or.inl (by rw [← hb]; exact hk)⟩
  · rw [World.cell?_setCell_other _ _ _ _ n02, World.cell?_setCell_other _ _ _ _ n01]; exact h.c0
  · rw [World.cell?_setCell_other _ _ _ _ n21]
    exact World.cell?_setCell_same' w ⟨D, 1, none⟩ _ (by rw [h.c1]; rfl)
  · exact World.cell?_setCell_same' _ ⟨D, 2, none⟩ _ (by rw [World.cell?_setCell_other _ _ _ _ n12, h.c2]; rfl)
  · have := h.f j hj
    simpa using this
  · exact hk.owns ho (fun k hk e => h.ne (by rw [← hb, hk, e]))

set_option maxHeartbeats 400000 in
set_option maxRecDepth 100000 in
theorem turn_any (b : Bool) (st : Hm.St) (base D : Nat) (v : Value) (w : World) (h : Dec w base D v st) :
    Calls Tryd.prog 45 #[.pointer (some ⟨D, 0, none⟩), .bool b] w fun e w' => e = .returned (.tuple #[]) ∧ Moved w w' base D v ⟨st.ones, b, []⟩ := by
  have hc0 := h.c0
  have hc1 := h.c1
  have hc2 := h.c2
  have hf0 := h.f 0 (by decide)
  have hf1 := h.f 1 (by decide)
  have hf2 := h.f 2 (by decide)
  have hlt := h.lt
  rcases h.own.2 with ⟨rfl, h0⟩ | ⟨g, cap, cur, rfl, hbg, hgg, hnc, hcm, hcs, htake⟩
  · have R := (h.turned b (.slice none 0 0) rfl (World.ownsRow_nil _ _ _ _)).drew
    go_enter Tryd.func45, Tryd.ntmps45
    go_wp2
    go_region
    go_end0
    exact ⟨rfl, R⟩
  · have R := (h.turned b (.slice (some ⟨g, 0, none⟩) 0 cap) rfl ⟨rfl, .inr ⟨g, cap, cur, rfl, hbg, hgg, Nat.zero_le _, hcm, hcs, rfl⟩⟩).drew
    clear hgg htake hcs
    unfold maxLen at hcm
    go_enter Tryd.func45, Tryd.ntmps45
    go_wp2
    go_region
    go_end0
    exact ⟨rfl, R⟩

theorem take_in {st : Hm.St} {b : Int} (h : st.inn = true) (hl : st.cont.length ≤ 2134) : Hm.takeS st b = ⟨st.ones, st.inn, st.cont ++ [b]⟩ := by
  unfold Hm.takeS
  rw [if_pos ⟨h, hl⟩]
theorem take_out {st : Hm.St} {b : Int} (h : ¬ (st.inn = true ∧ st.cont.length ≤ 2134)) : Hm.takeS st b = st := by
  unfold Hm.takeS
  rw [if_neg h]

/-- a bit behind the content -/
theorem Dec.took {w w1 : World} {base D : Nat} {v v' : Value} {st : Hm.St} {b : Int} (hb : b = 48 ∨ b = 49) (h : Dec w base D v st) (hi : st.inn = true) (hl : st.cont.length ≤ 2134)
    (hg : (w.alloc (.cells #[.int .u8 b] 5)).grownBy w1 v.ownBlock) (ho : w1.ownsRow base 5 1 v' (st.cont.length + 1) (st.cont.map (Value.int .u8) ++ [.int .u8 b]))
    (hf : ∀ k, v'.ownBlock = some k → v.ownBlock = some k ∨ w.heap.size ≤ k) :
    Moved w (w1.setCell ⟨D, 2, none⟩ v') base D v ⟨st.ones, st.inn, st.cont ++ [b]⟩ := by
  have hk1 : Kept w w1 (fun k => v.ownBlock = some k) := ((Kept.refl w (fun k => v.ownBlock = some k)).alloc (.cells #[.int .u8 b] 5)).trans (Kept.of_grown (T := fun k => v.ownBlock = some k) hg (fun k e => e)) (fun _ _ h => h)
  have h1 : Dec w1 base D v st → True := fun _ => trivial
  have hD : ¬ v.ownBlock = some D := h.ne
  have hk : Kept w (w1.setCell ⟨D, 2, none⟩ v') (touch D v) :=
    Kept.setCell (T := touch D v) (hk1.mono (fun k _ e => Or.inr e)) (p := ⟨D, 2, none⟩) (fun _ => Or.inl rfl) _
  have n02 : (⟨D, 2, none⟩ : Addr) ≠ ⟨D, 0, none⟩ := fun e => by injection e with _ e2; omega
  have n21 : (⟨D, 2, none⟩ : Addr) ≠ ⟨D, 1, none⟩ := fun e => by injection e with _ e2; omega
  have hne : v'.ownBlock ≠ some D := fun e => by
    rcases hf D e with h' | h'
    · exact h.ne h'
    · have := h.lt; omega
  refine ⟨v', ⟨h.ge, Nat.lt_of_lt_of_le h.lt hk.size, ?_, ?_, ?_, fun j hj => ?_, ?_, hne, ?_⟩, hk, hf⟩
  · rw [World.cell?_setCell_other _ _ _ _ n02, hk1.cell (p := ⟨D, 0, none⟩) h.lt hD]; exact h.c0
  · rw [World.cell?_setCell_other _ _ _ _ n21, hk1.cell (p := ⟨D, 1, none⟩) h.lt hD]; exact h.c1
  · exact World.cell?_setCell_same' _ ⟨D, 2, none⟩ _ (by rw [hk1.cell (p := ⟨D, 2, none⟩) h.lt hD, h.c2]; rfl)
  · have := (hk1.frozen (p := ⟨D, j, none⟩) h.lt hD).trans (h.f j hj)
    simpa using this
  · have hk2 : Kept w1 (w1.setCell ⟨D, 2, none⟩ v') (fun k => k = D) := Kept.setCell (T := fun k => k = D) (Kept.refl w1 _) (p := ⟨D, 2, none⟩) (fun _ => rfl) _
    have := hk2.owns ho (fun k hk e => hne (by rw [hk, e]))
    simpa using this
  · have := h.ok.take b hb
    rwa [take_in hi hl] at this

/-- a decoder's third field behind an append to its content -/
theorem Dec.behind {w w1 : World} {base D : Nat} {v : Value} {st : Hm.St} {b : Int} (h : Dec w base D v st) (hg : (w.alloc (.cells #[.int .u8 b] 5)).grownBy w1 v.ownBlock) :
    w1.cell? ⟨D, 2, none⟩ = some v ∧ w1.frozen? ⟨D, 2, none⟩ = false := by
  have hk1 : Kept w w1 (fun k => v.ownBlock = some k) := ((Kept.refl w (fun k => v.ownBlock = some k)).alloc (.cells #[.int .u8 b] 5)).trans (Kept.of_grown (T := fun k => v.ownBlock = some k) hg (fun k e => e)) (fun _ _ h => h)
  exact ⟨(hk1.cell (p := ⟨D, 2, none⟩) h.lt h.ne).trans h.c2, (hk1.frozen (p := ⟨D, 2, none⟩) h.lt h.ne).trans (h.f 2 (by decide))⟩

/-- append, and where the row lies behind it: where it lay, or in a new block -/
theorem append_at {P : Program} (w : World) (base : Nat) (t ty e : TypeId) (i : TypeInfo) (z : Value) (size bytes : Nat) (ht : P.underlying t = some (.slice e)) (hi : P.info? e = some i) (hz : i.zero = some z)
    (hsize : i.size = size) (hby : i.bytes = bytes) (hzs : z.cells.size = size) (hsz : 0 < size)
    (v : Value) (n : Nat) (xs : List Value) (hown : w.ownsRow base e size v n xs)
    (a : Addr) (m c : Nat) (news : List Value) (hl : news.length = m * size) (hnews : ∀ j u, news[j]? = some u → w.cell? (a.add j) = some u) (h1 : ∀ u ∈ news, u.oneCell' = true)
    (h63 : n + m ≤ maxLen) (hbytes : (n + m) * bytes ≤ 140737488355328) (hbase : base ≤ w.heap.size) (hm : 0 < m) :
    ∃ g cap w', (Builtin.append_ #[t, t] ty #[v, .slice (some a) m c]).run P w = .ok (.slice (some ⟨g, 0, none⟩) (n + m) cap) w' ∧ w'.ownsRow base e size (.slice (some ⟨g, 0, none⟩) (n + m) cap) (n + m) (xs ++ news) ∧ w.grownBy w' v.ownBlock ∧
      (v.ownBlock = some g ∨ w.heap.size ≤ g) := by
  obtain ⟨v', w', hr, ho, hg, hn⟩ := run_append_own (P := P) w base t ty e i z size bytes ht hi hz hsize hby hzs hsz v n xs hown a m c news hl hnews h1 h63 hbytes hbase
  obtain ⟨g, cap, rfl⟩ : ∃ g cap, v' = .slice (some ⟨g, 0, none⟩) (n + m) cap := by
    rcases ho.2 with ⟨_, h⟩ | ⟨g, cap, cur, h, _⟩
    · omega
    · exact ⟨g, cap, h⟩
  refine ⟨g, cap, w', hr, ho, hg, ?_⟩
  have hsmall : n + m ≤ 9223372036854775807 := by simp only [maxLen] at h63; omega
  subst hsize
  subst hby
  rcases hown.2 with ⟨rfl, rfl⟩ | ⟨g0, cap0, cur, rfl, hbg, hg0, hnc, hcm, hcs, htake⟩
  · have hr2 := run_append_nil (P := P) w t ty e i z ht hi hz a m c news hl hnews hm (by omega) (by have hb := hbytes; simp only [Nat.zero_add] at hb; omega)
    rw [hr] at hr2
    injection hr2 with h1' h2'
    injection h1' with h1' _ _
    injection h1' with h1'
    injection h1' with h1'
    exact Or.inr (by omega)
  · by_cases hroom : n + m ≤ cap0
    · have hfit : n * i.size + news.length ≤ cur.size := by rw [hl, hcs, ← Nat.add_mul]; exact Nat.mul_le_mul_right _ hroom
      have hr2 := run_append_room (P := P) w t ty e i ht hi g0 n cap0 cur hg0 a m c news hl hnews h1 hroom hfit
      rw [hr] at hr2
      injection hr2 with h1' h2'
      injection h1' with h1' _ _
      injection h1' with h1'
      injection h1' with h1'
      subst h1'
      exact Or.inl rfl
    · have holds : ∀ j u, xs[j]? = some u → w.cell? ((⟨g0, 0, none⟩ : Addr).add j) = some u := hown.cells (g := g0) rfl
      have hr2 := run_append_grow (P := P) w t ty e i z ht hi hz ⟨g0, 0, none⟩ n cap0 xs hown.1 holds a m c news hl hnews (by omega) (by omega) (growslice_fits (by omega) hbytes)
      rw [hr] at hr2
      injection hr2 with h1' h2'
      injection h1' with h1' _ _
      injection h1' with h1'
      injection h1' with h1'
      exact Or.inr (by omega)

theorem wpList_append_at {P : Program} (w : World) {ops : Array Oper} {rest : List Oper} {o : Oper} {a : Act} {Q : Exit → Act → World → Prop} (hgd : o.guard = none) (s x : Operand) (t : TypeId)
    (ho : o.op = .call { callee := .builtin .append, args := #[s, x], argTypes := #[t, t] })
    (base : Nat) (e : TypeId) (i : TypeInfo) (z : Value) (size bytes : Nat) (ht : P.underlying t = some (.slice e)) (hi : P.info? e = some i) (hz : i.zero = some z)
    (hsize : i.size = size) (hby : i.bytes = bytes) (hzs : z.cells.size = size) (hsz : 0 < size)
    (v : Value) (n : Nat) (xs : List Value) (hs : a.eval s = v) (hown : w.ownsRow base e size v n xs)
    (ad : Addr) (m c : Nat) (news : List Value) (hx : a.eval x = .slice (some ad) m c) (hl : news.length = m * size) (hnews : ∀ j u, news[j]? = some u → w.cell? (ad.add j) = some u) (h1 : ∀ u ∈ news, u.oneCell' = true)
    (h63 : n + m ≤ maxLen) (hbytes : (n + m) * bytes ≤ 140737488355328) (hbase : base ≤ w.heap.size) (hm : 0 < m)
    (h : ∀ g cap w', w'.ownsRow base e size (.slice (some ⟨g, 0, none⟩) (n + m) cap) (n + m) (xs ++ news) → w.grownBy w' v.ownBlock → (v.ownBlock = some g ∨ w.heap.size ≤ g) → wpList P ops Q rest (a.put o.dst (.slice (some ⟨g, 0, none⟩) (n + m) cap)) w') : wpList P ops Q (o :: rest) a w :=
  wpList_plain hgd fun K hK => by
    obtain ⟨g, cap, w', hr, h2, h3, h4⟩ := append_at (P := P) w base t o.type e i z size bytes ht hi hz hsize hby hzs hsz v n xs hown ad m c news hl hnews h1 h63 hbytes hbase hm
    unfold Oper.wp execOp
    simp only [ho, resolve, invoke, builtin, Sem.run_bind, Sem.run_pure, Result.andThen_ok, List.map_toArray, List.map_cons, List.map_nil, hs, hx, hr]
    exact hK _ _ (h g cap w' h2 h3 h4)

set_option maxHeartbeats 400000 in
set_option maxRecDepth 100000 in
theorem take_any (b : Int) (hb : b = 48 ∨ b = 49) (st : Hm.St) (base D : Nat) (v : Value) (w : World) (h : Dec w base D v st) (hbase : base ≤ w.heap.size) :
    Calls Tryd.prog 46 #[.pointer (some ⟨D, 0, none⟩), .int .u8 b] w fun e w' => e = .returned (.tuple #[]) ∧ Moved w w' base D v (Hm.takeS st b) := by
  obtain ⟨i0, hi, hz0, hz1, hz2⟩ := info_parts byte5
  have hc1 := h.c1
  have hc2 := h.c2
  have hf2 := h.f 2 (by decide)
  have hlt := h.lt
  have hlen := h.ok.len
  obtain ⟨x, cap, hv⟩ : ∃ x cap, v = .slice x st.cont.length cap := by
    rcases h.own.2 with ⟨rfl, h0⟩ | ⟨g, cap, cur, rfl, _⟩
    · exact ⟨none, 0, by rw [h0]⟩
    · exact ⟨_, cap, rfl⟩
  subst hv
  cases hin : st.inn with
  | false =>
    rw [take_out (fun hx => by rw [hin] at hx; cases hx.1)]
    rw [hin] at hc1
    go_enter Tryd.func46, Tryd.ntmps46
    go_wp2
    go_end0
    exact ⟨rfl, h.same⟩
  | true =>
    rw [hin] at hc1
    by_cases hl : st.cont.length ≤ 2134
    · rw [take_in hin hl]
      go_enter Tryd.func46, Tryd.ntmps46
      go_wp2_with (at_builtin; refine wpList_append_at _ rfl _ _ 26 rfl base 5 i0 (.int .u8 0) 1 1 Tryd.underlying26 hi hz0 hz1 hz2 rfl (by decide) _ _ _ rfl (h.own.alloc _) ⟨w.heap.size, 0, none⟩ 1 1 [.int .u8 b] rfl rfl (one_new _) (one_one _) ?c3 ?c4 ?c5 (by decide) ?_)
      case c3 => unfold maxLen; omega
      case c4 => omega
      case c5 => simp; omega
      intro g cap' w1 ho hg hw
      have R := h.took hb hin hl hg ho (fun k hk => by
        simp [Value.ownBlock] at hk
        subst hk
        rcases hw with h' | h'
        · exact Or.inl h'
        · exact Or.inr (by omega))
      obtain ⟨k2, e2⟩ := h.behind hg
      clear hg ho hw
      go_wp2
      go_end0
      exact ⟨rfl, R⟩
    · rw [take_out (fun hx => hl hx.2)]
      have hl' : ¬ (st.cont.length : Int) ≤ 2134 := by omega
      go_enter Tryd.func46, Tryd.ntmps46
      go_wp2
      go_end0
      exact ⟨rfl, h.same⟩
end Go.Proofs.YtdcohbdndkphnabDoor
