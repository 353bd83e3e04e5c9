/-
  A row of timers' keys, as the sort takes it and leaves it; the keys that are over, in order.
-/
import Derived.Test.YtalpfcckdjipoaaSortAny
namespace Go.Proofs.Ytalpfcckdjipoaa
open Go.RowKit Go.Shelf Go.Lib
open Go.Sort (grow PermIn SortedIn SWO putRowK HoldsK flatK)
set_option linter.unusedVariables false
set_option linter.unusedSimpArgs false

def flatKs (ks : List KeyIn) : List Value := ks.flatMap encK
theorem flatKs_length (ks : List KeyIn) : (flatKs ks).length = ks.length * 2 := by
  unfold flatKs
  induction ks with
  | nil => rfl
  | cons k r ih => simp [encK, ih]; omega
theorem flatKs_snoc (ks : List KeyIn) (k : KeyIn) : flatKs (ks ++ [k]) = flatKs ks ++ encK k := by simp [flatKs]
theorem flatKs_at [Inhabited KeyIn] : ∀ (ks : List KeyIn) (t : Nat), t < ks.length * 2 → (flatKs ks)[t]? = some ((encK (ks[t / 2]!))[t % 2]!)
  | [], t, h => by simp at h
  | k :: r, t, h => by
    have hf : flatKs (k :: r) = [.int .i64 k.1.1, .int .i64 k.1.2] ++ flatKs r := by simp [flatKs, encK]
    rw [hf]
    match t, h with
    | 0, _ => simp [encK]
    | 1, _ => simp [encK]
    | t + 2, h =>
      have ih := flatKs_at r t (by simp at h; omega)
      have e1 : (t + 2) / 2 = t / 2 + 1 := by omega
      have e2 : (t + 2) % 2 = t % 2 := by omega
      rw [List.getElem?_append_right (by simp), e1, e2]
      simpa using ih
theorem flatK_eq [Inhabited KeyIn] (d : Array KeyIn) : flatK encK 2 d = (flatKs d.toList).toArray := by
  apply Array.ext_getElem?
  intro t
  by_cases h : t < d.size * 2
  · have h1 := flatKs_at d.toList t (by simpa using h)
    have h2 : (flatK encK 2 d)[t]? = some ((encK (d[t / 2]!))[t % 2]!) := by
      have := Go.Sort.get_flatK encK 2 d t h
      rw [← this]
      rw [Array.getElem?_eq_getElem (by simpa using h), getElem!_pos (flatK encK 2 d) t (by simpa using h)]
    rw [h2]
    have h3 : (flatKs d.toList).toArray[t]? = (flatKs d.toList)[t]? := by simp
    rw [h3, h1]
    have hlt : t / 2 < d.size := by omega
    have : d.toList[t / 2]! = d[t / 2]! := by rw [getElem!_pos d _ hlt, getElem!_pos d.toList _ (by simpa using hlt)]; simp
    rw [this]
  · rw [Array.getElem?_eq_none (by simpa using h), Array.getElem?_eq_none (by rw [List.size_toArray, flatKs_length]; simpa using h)]

theorem holds_of_own [Inhabited KeyIn] {w : World} {base g n cap : Nat} {ks : List KeyIn} (h : w.ownsRow base 33 2 (.slice (some ⟨g, 0, none⟩) n cap) n (flatKs ks)) : HoldsK encK 2 w g 0 ks.toArray := by
  rcases h.2 with ⟨h', _⟩ | ⟨g', cap', cur, he, _, hb, hle, hm, hs, htk⟩
  · cases h'
  · injection he with he _ _
    injection he with he
    injection he with he
    subst he
    unfold HoldsK
    intro j hj
    rw [flatK_eq] at hj ⊢
    have hj' : j < (flatKs ks).length := by simpa using hj
    have hcur : cur.toList[j]? = some ((flatKs ks)[j]) := by
      have h1 : (cur.toList.take (n * 2))[j]? = (flatKs ks)[j]? := by rw [htk]
      have hjn : j < n * 2 := by have := h.1; omega
      rw [List.getElem?_take_of_lt hjn, List.getElem?_eq_getElem hj'] at h1
      exact h1
    refine ⟨?_, ?_⟩
    · have h2 : cur[j]? = some ((flatKs ks)[j]) := by rw [← hcur]; simp
      have h3 : ((flatKs ks).toArray)[j]! = (flatKs ks)[j] := by rw [getElem!_pos _ j (by simpa using hj')]; simp
      simp only [World.cell?, Nat.zero_add, hb, id]
      have h4 : (flatKs ks.toArray.toList).toArray[j]! = (flatKs ks)[j] := h3
      rw [h4]
      simpa using h2
    · simp [World.frozen?, hb]

theorem own_of_sort [Inhabited KeyIn] {w : World} {base g n cap : Nat} {ks : List KeyIn} (h : w.ownsRow base 33 2 (.slice (some ⟨g, 0, none⟩) n cap) n (flatKs ks)) (m : Nat) (d' : Array KeyIn) (os : Array Obj) (hd : d'.size = n) :
    (sortWorldK encK 2 w g 0 m d' os).ownsRow base 33 2 (.slice (some ⟨g, 0, none⟩) n cap) n (flatKs d'.toList) := by
  refine ⟨by rw [flatKs_length]; simp [hd], ?_⟩
  rcases h.2 with ⟨h', _⟩ | ⟨g', cap', cur, he, hbase, hb, hle, hm, hs, htk⟩
  · cases h'
  · injection he with he1 _ he3
    injection he1 with he1
    injection he1 with he1
    subst he1 he3
    have hglt : g < w.heap.size := (Array.getElem?_eq_some_iff.1 hb).1
    refine Or.inr ⟨g, cap, Go.Sort.putCells id 0 (flatK encK 2 d') cur, rfl, hbase, ?_, hle, hm, by simp [Go.Sort.putCells, hs], ?_⟩
    · unfold sortWorldK putRowK
      show ((Go.Sort.putRow id (Go.Sort.ahead w m) g 0 _).heap ++ os)[g]? = _
      rw [Array.getElem?_append_left (by simpa [Go.Sort.ahead] using hglt)]
      unfold Go.Sort.putRow Go.Sort.mapBlock
      simp only [Go.Sort.ahead, Array.getElem?_modify, if_true, hb, Option.map_some]
      rfl
    · have hfs : (flatK encK 2 d').size = n * 2 := by simp [hd]
      have hle2 : n * 2 ≤ cur.size := by rw [hs]; exact Nat.mul_le_mul_right 2 hle
      apply List.ext_getElem?
      intro t
      by_cases ht : t < n * 2
      · rw [List.getElem?_take_of_lt ht]
        have h1 : (Go.Sort.putCells id 0 (flatK encK 2 d') cur).toList[t]? = some ((flatK encK 2 d')[t]!) := by
          simp only [Go.Sort.putCells, Array.getElem?_toList, Array.getElem?_mapIdx]
          rw [Array.getElem?_eq_getElem (show t < cur.size by omega), Option.map_some, if_pos ⟨by omega, by omega⟩]
          simp
        rw [h1, flatK_eq]
        have ht' : t < (flatKs d'.toList).length := by rw [flatKs_length]; simp [hd]; exact ht
        rw [getElem!_pos _ t (by simpa using ht'), List.getElem?_eq_getElem ht']
        simp
      · rw [List.getElem?_eq_none (by simp [Go.Sort.putCells]; omega), List.getElem?_eq_none (by rw [flatKs_length]; simp [hd]; omega)]

/-- keys behind the sort -/
theorem sorted_keys [Inhabited KeyIn] {L : List Km.Tmr} (hL : Km.Ok L) {now : Int} {ks : List KeyIn} (hmem : ∀ k, k ∈ ks.map (·.1) ↔ ∃ a ∈ L, a.2 = k ∧ a.1 ≤ now) (hnd : (ks.map (·.1)).Nodup) {d' : Array KeyIn} (hP : PermIn 0 ks.toArray.size ks.toArray d') (hS : SortedIn (ltOf (cfK L)) 0 ks.toArray.size d') :
    d'.toList.map (·.1) = (Km.dueL now L).map (·.2) ∧ d'.size = ks.length := by
  obtain ⟨hs, _, hp⟩ := hP
  have hs' : d'.size = ks.length := by simpa using hs
  have hp' : d'.toList.Perm ks := by
    have e1 : (d'.extract 0 ks.toArray.size).toList = d'.toList := by rw [← hs]; simp
    have e2 : (ks.toArray.extract 0 ks.toArray.size).toList = ks := by simp
    rw [e1, e2] at hp
    exact hp
  refine ⟨Km.due_of_keys hL (fun k => ?_) ?_, hs'⟩
  · rw [← hmem k]
    exact (hp'.map (·.1)).mem_iff
  · have hnd' : (d'.toList.map (·.1)).Nodup := (hp'.map (·.1)).nodup_iff.2 hnd
    rw [List.pairwise_iff_getElem]
    intro i j hi hj hij
    have hi' : i < d'.size := by simpa using hi
    have hj' : j < d'.size := by simpa using hj
    have h1 := hS i j (Nat.zero_le _) hij (by rw [← hs]; exact hj')
    rw [ltK, getElem!_pos d' j hj', getElem!_pos d' i hi'] at h1
    have hne : (d'.toList.map (·.1))[i] ≠ (d'.toList.map (·.1))[j] := List.pairwise_iff_getElem.1 hnd' i j hi hj hij
    simp only [List.getElem_map, Array.getElem_toList] at hne ⊢
    rcases Km.lt_total (a := (Km.till L d'[i].1, d'[i].1)) (b := (Km.till L d'[j].1, d'[j].1)) (fun e => hne (by injection e)) with h' | h'
    · exact h'
    · rw [h1] at h'; cases h'
end Go.Proofs.Ytalpfcckdjipoaa
