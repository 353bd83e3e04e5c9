/-
  Small parts that the laws of the clock have in common: a call's data and its key in blocks of their own; a row of keys behind another one; two rows of keys held against each other.
-/
import Derived.Test.YtalpfcckdjipoaaClockWakes
import Derived.Test.YtalpfcckdjipoaaActRows
import Derived.Laws.AppendOwnNone
import Derived.Laws.StructEq
namespace Go.Proofs.Ytalpfcckdjipoaa
open Go.RowKit Go.Maps
set_option linter.unusedVariables false
set_option linter.unusedSimpArgs false

/-- a call's data in block s, its key in the block behind -/
structure ActIn (q : ActV) (W : World) (s : Nat) : Prop where
  a0 : W.cell? ⟨s, 0, none⟩ = some (.int .i64 q.d)
  a1 : W.cell? ⟨s, 1, none⟩ = some (.int .i64 q.o)
  a2 : W.cell? ⟨s, 2, none⟩ = some (.int .i64 q.t)
  a3 : W.cell? ⟨s, 3, none⟩ = some (.int .i64 q.n)
  a4 : W.cell? ⟨s, 4, none⟩ = some (.int .i64 q.p)
  k0 : W.cell? ⟨s + 1, 0, none⟩ = some (.int .i64 q.o)
  k1 : W.cell? ⟨s + 1, 1, none⟩ = some (.int .i64 q.t)
  lt : s + 2 ≤ W.heap.size
/-- the world with them -/
def actW (w : World) (q : ActV) : World := (w.alloc (.cells #[.int .i64 q.d, .int .i64 q.o, .int .i64 q.t, .int .i64 q.n, .int .i64 q.p] 24)).alloc (.cells #[.int .i64 q.o, .int .i64 q.t] 33)
theorem actIn_made (w : World) (q : ActV) : ActIn q (actW w q) w.heap.size := by
  have e : w.heap.size + 1 = (w.alloc (.cells #[.int .i64 q.d, .int .i64 q.o, .int .i64 q.t, .int .i64 q.n, .int .i64 q.p] 24)).heap.size := by simp
  have hb : Below (w.alloc (.cells #[.int .i64 q.d, .int .i64 q.o, .int .i64 q.t, .int .i64 q.n, .int .i64 q.p] 24)).heap.size _ (actW w q) := (Below.refl _ _).alloc (Nat.le_refl _) _
  refine ⟨?_, ?_, ?_, ?_, ?_, ?_, ?_, ?_⟩
  · exact (hb.cell (p := ⟨w.heap.size, 0, none⟩) (by simp)).trans (by simp)
  · exact (hb.cell (p := ⟨w.heap.size, 1, none⟩) (by simp)).trans (by simp)
  · exact (hb.cell (p := ⟨w.heap.size, 2, none⟩) (by simp)).trans (by simp)
  · exact (hb.cell (p := ⟨w.heap.size, 3, none⟩) (by simp)).trans (by simp)
  · exact (hb.cell (p := ⟨w.heap.size, 4, none⟩) (by simp)).trans (by simp)
  · unfold actW; rw [e]; simp
  · unfold actW; rw [e]; simp
  · unfold actW; simp
theorem actW_below (w : World) (q : ActV) : Below w.heap.size w (actW w q) := ((Below.refl _ _).alloc (Nat.le_refl _) _).alloc (by simp) _
theorem actW_size (w : World) (q : ActV) : (actW w q).heap.size = w.heap.size + 2 := by unfold actW; simp
theorem ActIn.kept {q : ActV} {W W' : World} {s : Nat} {T : Nat → Prop} (h : ActIn q W s) (hk : Kept W W' T) (h0 : ¬ T s) (h1 : ¬ T (s + 1)) : ActIn q W' s := by
  have hs := h.lt
  have hz := hk.size
  exact ⟨(hk.cell (p := ⟨s, 0, none⟩) (by show s < _; omega) h0).trans h.a0, (hk.cell (p := ⟨s, 1, none⟩) (by show s < _; omega) h0).trans h.a1, (hk.cell (p := ⟨s, 2, none⟩) (by show s < _; omega) h0).trans h.a2, (hk.cell (p := ⟨s, 3, none⟩) (by show s < _; omega) h0).trans h.a3, (hk.cell (p := ⟨s, 4, none⟩) (by show s < _; omega) h0).trans h.a4,
    (hk.cell (p := ⟨s + 1, 0, none⟩) (by show s + 1 < _; omega) h1).trans h.k0, (hk.cell (p := ⟨s + 1, 1, none⟩) (by show s + 1 < _; omega) h1).trans h.k1, by omega⟩
theorem ActIn.below {q : ActV} {W W' : World} {s : Nat} (h : ActIn q W s) (hb : Below W.heap.size W W') : ActIn q W' s :=
  h.kept (T := fun _ => False) (Kept.of_below hb (fun k hk h' => by omega)) (fun x => x) (fun x => x)

theorem startT_length (k : Int × Int) (now per : Int) (L : List Km.Tmr) : (startT k now per L).length ≤ L.length + 1 := by
  unfold startT
  split
  · exact Km.start_length _ _ _
  · omega
theorem flatDue_length (ks : List (Int × Int)) : (flatDue ks).length = ks.length * 2 := by
  unfold flatDue
  induction ks with
  | nil => rfl
  | cons k r ih => simp [ih]; omega
theorem flatDue_append (a b : List (Int × Int)) : flatDue (a ++ b) = flatDue a ++ flatDue b := by simp [flatDue]
theorem flatDue_one (ks : List (Int × Int)) : ∀ u ∈ flatDue ks, u.oneCell' = true := by
  intro u hu
  simp only [flatDue, List.mem_flatMap, List.mem_cons, List.not_mem_nil, or_false] at hu
  obtain ⟨k, _, h | h⟩ := hu <;> subst h <;> rfl
theorem flatDue_at : ∀ (ks : List (Int × Int)) (i : Nat) (h : i < ks.length), (flatDue ks)[i * 2]? = some (.int .i64 ks[i].1) ∧ (flatDue ks)[i * 2 + 1]? = some (.int .i64 ks[i].2)
  | k :: r, 0, h => by simp [flatDue]
  | k :: r, i + 1, h => by
    have ih := flatDue_at r i (by simpa using h)
    have e : flatDue (k :: r) = [.int .i64 k.1, .int .i64 k.2] ++ flatDue r := by simp [flatDue]
    have e1 : (i + 1) * 2 = i * 2 + 2 := by omega
    rw [e, e1, List.getElem?_append_right (by simp), List.getElem?_append_right (by simp)]
    simpa using ih

/-- a row of keys behind another one -/
theorem append_due {w : World} {ops : Array Oper} {rest : List Oper} {o : Oper} {a : Act} {Q : Exit → Act → World → Prop} (hgd : o.guard = none) (s x : Operand)
    (ho : o.op = .call { callee := .builtin .append, args := #[s, x], argTypes := #[38, 38] })
    (base base2 : Nat) (v v2 : Value) (ks ks2 : List (Int × Int)) (hs : a.eval s = v) (h1 : w.ownsRow base 33 2 v ks.length (flatDue ks)) (hx : a.eval x = v2) (h2 : w.ownsRow base2 33 2 v2 ks2.length (flatDue ks2))
    (hn : ks.length + ks2.length ≤ 1000000) (hbase : base ≤ w.heap.size)
    (h : ∀ v' w', w'.ownsRow base 33 2 v' (ks ++ ks2).length (flatDue (ks ++ ks2)) → w.grownBy w' v.ownBlock → wpList Try.prog ops Q rest (a.put o.dst v') w') : wpList Try.prog ops Q (o :: rest) a w := by
  obtain ⟨i0, hi, hz0, hz1, hz2⟩ := info_parts key_info
  have h2' := h2
  rcases h2.2 with ⟨rfl, h0⟩ | ⟨g, cap, cur, rfl, hb, hgg, rest'⟩
  · obtain rfl : ks2 = [] := List.eq_nil_of_length_eq_zero h0
    refine wpList_append_own_none hgd s x 38 ho base 33 i0 2 Try.underlying38 hi v _ _ hs h1 hx ?_
    refine h v w ?_ (World.grownBy.refl _ _)
    rw [List.append_nil]; exact h1
  · refine wpList_append_own _ hgd s x 38 ho base 33 i0 (.agg #[.int .i64 0, .int .i64 0]) 2 16 Try.underlying38 hi hz0 hz1 hz2 rfl (by decide) v _ _ hs h1 ⟨g, 0, none⟩ ks2.length cap (flatDue ks2) hx (flatDue_length ks2) (h2'.cells (g := g) rfl) (flatDue_one ks2) (by unfold maxLen; omega) (by omega) hbase ?_
    intro v' w' ho' hg' _
    refine h v' w' ?_ hg'
    rw [flatDue_append, List.length_append]; exact ho'
/-- how a row of keys stands -/
theorem own_shape {w : World} {base : Nat} {v : Value} {ks : List (Int × Int)} (h : w.ownsRow base 33 2 v ks.length (flatDue ks)) : ∃ a cap, v = .slice a ks.length cap ∧ ∀ j (hj : j < ks.length), ∃ g, a = some ⟨g, 0, none⟩ ∧ g < w.heap.size ∧ base ≤ g ∧ ks.length ≤ cap ∧ w.cell? ⟨g, j * 2, none⟩ = some (.int .i64 ks[j].1) ∧ w.cell? ⟨g, j * 2 + 1, none⟩ = some (.int .i64 ks[j].2) := by
  have h0 := h
  rcases h.2 with ⟨rfl, h'⟩ | ⟨g, cap, cur, rfl, hb, hgg, hle, hm, _⟩
  · exact ⟨none, 0, by rw [h'], fun j hj => by omega⟩
  · refine ⟨_, cap, rfl, fun j hj => ⟨g, rfl, (Array.getElem?_eq_some_iff.1 hgg).1, hb, hle, ?_, ?_⟩⟩
    · have := h0.cells (g := g) rfl _ _ (flatDue_at ks j hj).1
      rw [addr_at] at this
      exact this
    · have := h0.cells (g := g) rfl _ _ (flatDue_at ks j hj).2
      rw [addr_at] at this
      exact this
end Go.Proofs.Ytalpfcckdjipoaa
