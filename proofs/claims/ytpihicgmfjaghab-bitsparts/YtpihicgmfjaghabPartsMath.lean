/-
  An octet's fields, one above the other, make it again: the arithmetic; and a slice of pairs of the call's own.
-/
import Derived.Test.YtpihicgmfjaghabPackWalks
import Derived.Test.YtpihicgmfjaghabFieldWalks
namespace Go.Proofs.Ytpihicgmfjaghab
open Go.RowKit
set_option linter.unusedVariables false
set_option linter.unusedSimpArgs false

theorem st_snoc (ps : List (Int × Int)) (q : Int × Int) : Bm.st (ps ++ [q]) = Bm.step (Bm.st ps) q := by rw [Bm.st, List.foldl_append]; rfl

theorem fld_eq (x low wd : Int) (h0 : 0 ≤ low) (h1 : 1 ≤ wd) (h2 : low + wd ≤ 8) : Bm.fld x low wd = x / 2 ^ low.toNat % 2 ^ wd.toNat := by
  rw [Bm.fld, if_neg (by omega), Int.min_eq_left (by omega)]

theorem part_step (x low wd : Int) (hx0 : 0 ≤ x) (h0 : 0 ≤ low) (h1 : 1 ≤ wd) (h2 : low + wd ≤ 8) : x % 2 ^ low.toNat + Bm.fld x low wd * 2 ^ low.toNat = x % 2 ^ (low + wd).toNat := by
  rw [fld_eq x low wd h0 h1 h2, show (low + wd).toNat = low.toNat + wd.toNat from by omega]
  obtain ⟨n, rfl⟩ := Int.eq_ofNat_of_zero_le hx0
  have e : ∀ k : Nat, (2 : Int) ^ k = ((2 ^ k : Nat) : Int) := fun k => by simp
  rw [e, e, e]
  have h := Nat.mod_mul (x := n) (a := 2 ^ low.toNat) (b := 2 ^ wd.toNat)
  rw [← Nat.pow_add] at h
  have h' : ((n % 2 ^ (low.toNat + wd.toNat) : Nat) : Int) = ((n % 2 ^ low.toNat + 2 ^ low.toNat * (n / 2 ^ low.toNat % 2 ^ wd.toNat) : Nat) : Int) := by rw [h]
  rw [Int.natCast_emod, Int.natCast_add, Int.natCast_mul, Int.natCast_emod, Int.natCast_emod, Int.natCast_ediv] at h'
  rw [h', Int.mul_comm]

theorem fld_fits (x low wd : Int) (h0 : 0 ≤ low) (h1 : 1 ≤ wd) (h2 : low + wd ≤ 8) : Bm.fitsQ (wd, Bm.fld x low wd) = true := by
  have hp : (0 : Int) < 2 ^ wd.toNat := Int.pow_pos (by decide)
  refine (Bm.fitsB_iff _ _).2 ⟨h1, by omega, ?_, ?_⟩
  · rw [fld_eq x low wd h0 h1 h2]; exact Int.emod_nonneg _ (by omega)
  · rw [fld_eq x low wd h0 h1 h2]; exact Int.emod_lt_of_pos _ hp

/-- the cells of pairs -/
def flat (ps : List (Int × Int)) : List Value := ps.flatMap fun q => [.int .i64 q.1, .int .i64 q.2]
theorem flat_length (ps : List (Int × Int)) : (flat ps).length = ps.length * 2 := by
  induction ps with
  | nil => rfl
  | cons q ps ih => simp only [flat, List.flatMap_cons, List.length_append, List.length_cons, List.length_nil] at *; omega
theorem flat_snoc (ps : List (Int × Int)) (q : Int × Int) : flat (ps ++ [q]) = flat ps ++ [.int .i64 q.1, .int .i64 q.2] := by simp [flat]
theorem flat_get : ∀ (ps : List (Int × Int)) (i : Nat), i < ps.length → (flat ps)[i * 2]? = some (.int .i64 (ps.getD i (0, 0)).1) ∧ (flat ps)[i * 2 + 1]? = some (.int .i64 (ps.getD i (0, 0)).2)
  | [], i, h => by simp at h
  | q :: ps, 0, _ => by simp [flat]
  | q :: ps, i + 1, h => by
    have := flat_get ps i (by simpa using h)
    have e : flat (q :: ps) = [.int .i64 q.1, .int .i64 q.2] ++ flat ps := by simp [flat]
    rw [e, List.getElem?_append_right (by simp; omega), List.getElem?_append_right (by simp; omega)]
    simpa [show (i + 1) * 2 - 2 = i * 2 from by omega, show (i + 1) * 2 + 1 - 2 = i * 2 + 1 from by omega] using this

theorem pair25 : (Try.prog.info? 25).map (fun i => (i.zero, i.size, i.bytes)) = some (some (.agg #[.int .i64 0, .int .i64 0]), 2, 16) := by kernel_rfl

/-- what is owned stays owned in every later world -/
theorem own_later {w w' : World} {base : Nat} {e : TypeId} {size : Nat} {v : Value} {n : Nat} {xs : List Value} (h : w.ownsRow base e size v n xs) (hb : Below w.heap.size w w') : w'.ownsRow base e size v n xs := by
  refine ⟨h.1, ?_⟩
  rcases h.2 with h2 | ⟨g, cap, cur, hv, hg, hh, r⟩
  · exact Or.inl h2
  · have hlt : g < w.heap.size := by
      rcases Nat.lt_or_ge g w.heap.size with h' | h'
      · exact h'
      · rw [Array.getElem?_eq_none h'] at hh; cases hh
    exact Or.inr ⟨g, cap, cur, hv, hg, by rw [hb.block g hlt]; exact hh, r⟩

/-- a slice of pairs of the call's own, as one that came in -/
theorem own_row2 {w : World} {base : Nat} {v : Value} {n : Nat} {ps : List (Int × Int)} (h : w.ownsRow base 25 2 v n (flat ps)) (hf : ∀ q ∈ ps, Bm.fitsQ q = true) : ∃ a cap, v = .slice a n cap ∧ Row2 w a n cap ps := by
  have hl : ps.length = n := by have := h.1; rw [flat_length] at this; omega
  have hbd : ∀ q ∈ ps, (-9223372036854775808 ≤ q.1 ∧ q.1 ≤ 9223372036854775807) ∧ (-9223372036854775808 ≤ q.2 ∧ q.2 ≤ 9223372036854775807) := by
    intro q hq
    obtain ⟨a, b, c, d⟩ := (Bm.fitsB_iff q.1 q.2).1 (hf q hq)
    have := (Bm.pow_bd q.1 (by omega) b).2
    omega
  rcases h.2 with ⟨rfl, rfl⟩ | ⟨g, cap, cur, rfl, hb, hh, hnc, hcm, _⟩
  · exact ⟨none, 0, rfl, hl, Nat.le_refl _, Nat.zero_le _, hbd, Or.inl ⟨rfl, rfl, rfl⟩⟩
  · refine ⟨some ⟨g, 0, none⟩, cap, rfl, hl, hnc, hcm, hbd, ?_⟩
    by_cases h0 : n = 0
    · exact Or.inr (Or.inl ⟨⟨_, rfl⟩, h0⟩)
    · have hlt : g < w.heap.size := by
        rcases Nat.lt_or_ge g w.heap.size with h' | h'
        · exact h'
        · rw [Array.getElem?_eq_none h'] at hh; cases hh
      refine Or.inr (Or.inr ⟨g, 0, rfl, by omega, hlt, fun i hi => ?_⟩)
      have hg := flat_get ps i (by omega)
      rw [Nat.zero_add, h.cellAt (i * 2) (by omega), h.cellAt (i * 2 + 1) (by omega)]
      exact hg

theorem two_new {w : World} (a b : Int) : ∀ (j : Nat) (u : Value), [Value.int .i64 a, Value.int .i64 b][j]? = some u → (w.alloc (.cells #[.int .i64 a, .int .i64 b] 25)).cell? ((⟨w.heap.size, 0, none⟩ : Addr).add j) = some u := by
  intro j u hj
  match j, hj with
  | 0, hj => simp at hj; subst hj; simp [Addr.add]
  | 1, hj => simp at hj; subst hj; simp [Addr.add]
theorem two_newN {w : World} (a b : Int) (n : Nat) : ∀ (j : Nat) (u : Value), [Value.int .i64 a, Value.int .i64 b][j]? = some u → ((w.alloc (.cells #[.int .i64 a, .int .i64 b] 25)).drewN n).cell? ((⟨w.heap.size, 0, none⟩ : Addr).add j) = some u := by
  intro j u hj
  exact two_new a b j u hj
theorem two_one (a b : Int) : ∀ u ∈ [Value.int .i64 a, Value.int .i64 b], u.oneCell' = true := by
  intro u hu; simp at hu; rcases hu with rfl | rfl <;> rfl
theorem parts_whole (ps : List (Int × Int)) (x : Int) (h0 : 0 ≤ x) (h1 : x ≤ 255) (hf : ∀ q ∈ ps, Bm.fitsQ q = true) (hs : Bm.st ps = (x % 2 ^ (8 : Int).toNat, 8)) : Bm.packRes ps = (x, 0) := by
  rw [Bm.packRes, if_neg (by rw [Bm.all_of ps hf]; decide), if_neg (by rw [hs]; show ¬ (8 : Int) < 8; decide), hs]
  show (x % 2 ^ (8 : Int).toNat, (0 : Int)) = (x, 0)
  rw [show (2 : Int) ^ (8 : Int).toNat = 256 from by decide, Int.emod_eq_of_lt h0 (by omega)]
theorem parts_long (ps : List (Int × Int)) (x : Int) (hf : ∀ q ∈ ps, Bm.fitsQ q = true) (hs : Bm.st ps = (x % 2 ^ (8 : Int).toNat, 8)) : Bm.packRes (ps ++ [(1, 0)]) = (0, 5) := by
  have hf' : ∀ q ∈ ps ++ [(1, 0)], Bm.fitsQ q = true := by
    intro q hq
    rw [List.mem_append] at hq
    rcases hq with hq | hq
    · exact hf q hq
    · simp at hq; subst hq; decide
  rw [Bm.packRes, if_neg (by rw [Bm.all_of _ hf']; decide), if_pos (by rw [st_snoc, hs]; show (8 : Int) < 8 + 1; decide)]
theorem fits_snoc (ps : List (Int × Int)) (q : Int × Int) (hf : ∀ q ∈ ps, Bm.fitsQ q = true) (hq : Bm.fitsQ q = true) : ∀ r ∈ ps ++ [q], Bm.fitsQ r = true := by
  intro r hr
  rw [List.mem_append] at hr
  rcases hr with hr | hr
  · exact hf r hr
  · simp at hr; subst hr; exact hq
theorem st_next (ps : List (Int × Int)) (x low wd : Int) (hx0 : 0 ≤ x) (h0 : 0 ≤ low) (h1 : 1 ≤ wd) (h2 : low + wd ≤ 8) (hs : Bm.st ps = (x % 2 ^ low.toNat, low)) : Bm.st (ps ++ [(wd, Bm.fld x low wd)]) = (x % 2 ^ (low + wd).toNat, low + wd) := by
  rw [st_snoc, hs, Bm.step]
  show (x % 2 ^ low.toNat + Bm.fld x low wd * 2 ^ low.toNat, low + wd) = _
  rw [part_step x low wd hx0 h0 h1 h2]
end Go.Proofs.Ytpihicgmfjaghab
