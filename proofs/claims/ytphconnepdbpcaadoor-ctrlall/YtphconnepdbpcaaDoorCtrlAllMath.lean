/-
  Plain mathematics: of all first octets each begins one kind's field, or none; how often each kind comes; what is read is put as it was.
-/
import Derived.Test.YtphconnepdbpcaaDoorCtrlBackMath
import Derived.Maps.Views
namespace Go.Proofs.YtphconnepdbpcaaDoor.Cm
open Go.RowKit Go.Maps Go.WideMaps

/-- the kind that an octet begins -/
def kd (x : Int) : Option Nat := (beg x).map fun q => q.1.toNat

/-- how many of a kind a map of counts has -/
def cntOf (D : DataW Unit) (n : Nat) : Int := match D.atKey (.int .i64 (n : Int)) (.lit (.int .i64 0)) with | .lit (.int _ c) => c | _ => 0
def bump (D : DataW Unit) (n : Nat) : DataW Unit := D.put (.int .i64 (n : Int)) (.lit (.int .i64 (cntOf D n + 1)))
/-- the counts behind so many first octets -/
def dx : Nat → DataW Unit
  | 0 => .map []
  | x + 1 => match kd (x : Int) with | none => dx x | some n => bump (dx x) n
theorem dx_none {x : Nat} (h : kd (x : Int) = none) : dx (x + 1) = dx x := by rw [dx, h]
theorem dx_some {x n : Nat} (h : kd (x : Int) = some n) : dx (x + 1) = bump (dx x) n := by rw [dx, h]
theorem dx_isMap : ∀ x, IsMap (dx x)
  | 0 => ⟨[], rfl⟩
  | x + 1 => by
    rw [dx]
    split
    · exact dx_isMap x
    · exact (dx_isMap x).put _ _
theorem cnt_bump_same (D : DataW Unit) (n : Nat) (h : IsMap D) : cntOf (bump D n) n = cntOf D n + 1 := by
  rw [cntOf, bump, atKey_put_same h (show WideAt.IsKeyLit (.int .i64 (n : Int)) from trivial)]
theorem cnt_bump_other (D : DataW Unit) (n m : Nat) (h : m ≠ n) : cntOf (bump D n) m = cntOf D m := by
  rw [cntOf, bump, atKey_put_other (by intro e; injection e with _ e; omega)]; rfl
theorem cnt_bd : ∀ x n, 0 ≤ cntOf (dx x) n ∧ cntOf (dx x) n ≤ (x : Int)
  | 0, n => by
    show 0 ≤ (0 : Int) ∧ (0 : Int) ≤ _
    omega
  | x + 1, n => by
    have ih := cnt_bd x n
    cases hk : kd (x : Int) with
    | none => rw [dx_none hk]; omega
    | some m =>
      rw [dx_some hk]
      by_cases e : n = m
      · subst e; rw [cnt_bump_same _ _ (dx_isMap x)]; omega
      · rw [cnt_bump_other _ _ _ e]; omega

/-- the counts behind all of them -/
def dAll : DataW Unit := .map [(.int .i64 0, .lit (.int .i64 128)), (.int .i64 1, .lit (.int .i64 1)), (.int .i64 2, .lit (.int .i64 1)), (.int .i64 3, .lit (.int .i64 1)), (.int .i64 4, .lit (.int .i64 2)), (.int .i64 5, .lit (.int .i64 2)), (.int .i64 6, .lit (.int .i64 2)), (.int .i64 7, .lit (.int .i64 2)), (.int .i64 8, .lit (.int .i64 2)), (.int .i64 9, .lit (.int .i64 2))]
theorem dx_all : dx 256 = dAll := by kernel_rfl
theorem all_size : Maps.size dAll = 10 := rfl
theorem all_i : dAll.atKey (.int .i64 0) (.lit (.int .i64 0)) = .lit (.int .i64 128) := by kernel_rfl
/-- a kind that was counted, and how often -/
theorem all_at {x c : Int} (h : has dAll (.int .i64 x) = true) (hat : ∀ z, dAll.atKey (.int .i64 x) z = .lit (.int .i64 c)) : x = 0 ∨ (numd x = true ∧ x ≠ 0 ∧ c = 1) ∨ (numd x = false ∧ x ≠ 0 ∧ c = 2) := by
  have hx : 0 ≤ x ∧ x ≤ 9 := by
    simp [has, dAll, Lit.sameKey] at h
    omega
  obtain ⟨n, rfl⟩ : ∃ n : Nat, x = (n : Int) := ⟨x.toNat, by omega⟩
  have hn : n < 10 := by omega
  have hc := hat .nil
  have : n = 0 ∨ n = 1 ∨ n = 2 ∨ n = 3 ∨ n = 4 ∨ n = 5 ∨ n = 6 ∨ n = 7 ∨ n = 8 ∨ n = 9 := by omega
  rcases this with rfl | rfl | rfl | rfl | rfl | rfl | rfl | rfl | rfl | rfl
  · exact Or.inl rfl
  all_goals
    injection hc with hc
    injection hc with _ hc
    subst hc
    first | exact Or.inr (Or.inl ⟨rfl, by decide, rfl⟩) | exact Or.inr (Or.inr ⟨rfl, by decide, rfl⟩)

theorem extract_app (l : List Int) (rest : ByteArray) (n : Nat) (h : n ≤ l.length) (hl : ∀ z ∈ l, 0 ≤ z ∧ z ≤ 255) : (strOfNums l ++ rest).extract 0 n = strOfNums (l.take n) := by
  rw [← Bm.str_nums ((strOfNums l ++ rest).extract 0 n)]
  congr 1
  have e : ∀ s : ByteArray, Bm.nums (s.extract 0 n) = (Bm.nums s).take n := fun s => by simp [Bm.nums, ByteArray.data_extract, List.map_take]
  rw [e, nums_app l rest hl, List.take_append_of_le_length h]

/-- what is read of octets whose first one is x, and how it is put -/
theorem all_ways (x sec : Int) (rest : ByteArray) (hx : 0 ≤ x ∧ x ≤ 255) (hs : 0 ≤ sec ∧ sec ≤ 255) :
    (kd x = none ∧ getRes (strOfNums [x, sec] ++ rest) = ((0, false, 0, 0), 0, 4)) ∨
    (∃ (n : Nat) (pf : Bool), kd x = some n ∧ n < 10 ∧ numd (n : Int) = false ∧ getRes (strOfNums [x, sec] ++ rest) = (((n : Int), pf, 0, 0), 1, 0) ∧ putRes (n : Int) pf 0 0 = ((strOfNums [x, sec] ++ rest).extract 0 1, 0)) ∨
    (∃ (n : Nat) (pf : Bool) (ns nr : Int), kd x = some n ∧ n < 10 ∧ numd (n : Int) = true ∧ getRes (strOfNums [x, sec] ++ rest) = (((n : Int), pf, ns, nr), 2, 0) ∧ putRes (n : Int) pf ns nr = ((strOfNums [x, sec] ++ rest).extract 0 2, 0)) := by
  have hl : ∀ z ∈ [x, sec], 0 ≤ z ∧ z ≤ 255 := by intro z hz; simp at hz; rcases hz with rfl | rfl; exact hx; exact hs
  have hn : Bm.nums (strOfNums [x, sec] ++ rest) = x :: sec :: Bm.nums rest := nums_app _ _ hl
  have e1 := extract_app [x, sec] rest 1 (by simp) hl
  have e2 := extract_app [x, sec] rest 2 (by simp) hl
  have hsec : 2 * (sec / 2) + Am.crN (sec % 2 == 1) = sec := by
    by_cases h : sec % 2 = 1
    · rw [show (sec % 2 == 1) = true from by simp [h], show Am.crN true = 1 from rfl]; omega
    · rw [show (sec % 2 == 1) = false from by simp [h], show Am.crN false = 0 from rfl]; omega
  cases hb : beg x with
  | none => exact Or.inl ⟨by rw [kd, hb]; rfl, by rw [getRes, hn, getN_none _ hb]⟩
  | some q =>
    obtain ⟨k, pf, ns⟩ := q
    obtain ⟨n, rfl, hn10, hc⟩ := beg_some hb
    have hkd : kd x = some n := by rw [kd, hb]; rfl
    by_cases h4 : 4 ≤ n
    · obtain ⟨_, rfl, hxf, _⟩ : 1 ≤ n ∧ ns = 0 ∧ x = foct n pf ∧ x % 2 = 1 := by
        rcases hc with h | h
        · omega
        · exact h
      refine Or.inr (Or.inl ⟨n, pf, hkd, hn10, ?_, by rw [getRes, hn, getN_one _ hb (by omega)], ?_⟩)
      · rw [numd, decide_eq_false_iff_not]; omega
      · rw [put_high n pf 0 0 hn10 h4, e1, ← hxf]; rfl
    · refine Or.inr (Or.inr ⟨n, sec % 2 == 1, ns, sec / 2, hkd, hn10, ?_, by rw [getRes, hn, getN_two _ _ hb (by omega)], ?_⟩)
      · rw [numd, decide_eq_true_eq]; omega
      · rw [e2]
        rcases hc with ⟨rfl, _, rfl, he⟩ | ⟨h1, _, hxf, _⟩
        · rw [show ((0 : Nat) : Int) = 0 from rfl, put_i _ _ _ (by omega) (by omega), hsec, show 2 * (x / 2) = x from by omega]; rfl
        · rw [put_s n _ _ _ (by omega) (by omega) (by omega), hsec, foct_low n (by omega) false, ← foct_low n (by omega) pf, ← hxf]; rfl
end Go.Proofs.YtphconnepdbpcaaDoor.Cm
