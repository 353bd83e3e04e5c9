/-
  The walk of the law FcsBursts: it returns true.
-/
import Derived.Test.YtnagiiaelpnfnaaFcsTurned
import Derived.Test.YtnagiiaelpnfnaaOfWalks
namespace Go.Proofs.Ytnagiiaelpnfnaa
open Go.RowKit
set_option linter.unusedVariables false
set_option linter.unusedSimpArgs false

theorem int3 : (Try.prog.info? 3).map (fun i => (i.zero, i.size, i.bytes)) = some (some (.int .i64 0), 1, 8) := by kernel_rfl
/-- one more number, appended: the cell that the walk lays for it -/
theorem one_newi {w : World} (n : Int) : ∀ (j : Nat) (u : Value), [Value.int .i64 n][j]? = some u → (w.alloc (.cells #[.int .i64 n] 3)).cell? ((⟨w.heap.size, 0, none⟩ : Addr).add j) = some u := by
  intro j u hj
  match j, hj with
  | 0, hj => simp at hj; subst hj; simp [Addr.add]
theorem one_onei (n : Int) : ∀ u ∈ [Value.int .i64 n], u.oneCell' = true := by
  intro u hu; simp at hu; subst hu; rfl
theorem burst_bit (p i : Nat) (hp : p < 65536) : bits .and .u16 ((p : Int) / 2 ^ i) 1 = ((p / 2 ^ i % 2 : Nat) : Int) := by
  have hd : p / 2 ^ i ≤ p := Nat.div_le_self _ _
  rw [Fm.nat_div_pow, show (1 : Int) = ((1 : Nat) : Int) from rfl, u16_and_nat _ 1 (by omega) (by decide), nat_mask1]
theorem burst_bit1 (p i : Nat) (hp : p < 65536) (h : p / 2 ^ i % 2 = 1) : (bits .and .u16 ((p : Int) / 2 ^ i) 1 == 1) = true := by
  rw [burst_bit p i hp, h]; rfl
theorem burst_bit0 (p i : Nat) (hp : p < 65536) (h : ¬ p / 2 ^ i % 2 = 1) : (bits .and .u16 ((p : Int) / 2 ^ i) 1 == 1) = false := by
  rw [burst_bit p i hp, show p / 2 ^ i % 2 = 0 from by omega]; rfl
/-- bits.Flip of places that the call itself has gathered -/
theorem flip_own {base : Nat} {v : Value} {xs : List Int} (s : ByteArray) (w : World) (hs : s.size ≤ 140737488351232) (hx : 8 * xs.length ≤ 140737488351232) (h : w.ownsRow base 3 1 v xs.length (xs.map (Value.int .i64))) :
    Calls Try.prog 19 #[.string s, v] w fun e w' => e = .returned (.string (strOfNums (Bm.flips (Bm.nums s) xs))) ∧ Below w.heap.size w w' := by
  rcases h.2 with ⟨rfl, hn⟩ | ⟨g, cap, cur, rfl, _⟩
  · have : xs = [] := List.eq_nil_of_length_eq_zero hn
    subst this
    exact flip_none s none 0 w hs
  · by_cases h0 : xs.length = 0
    · have : xs = [] := List.eq_nil_of_length_eq_zero h0
      subst this
      exact flip_none s _ cap w hs
    · have hc : ∀ i, i < xs.length → w.cell? ⟨g, 0 + i, none⟩ = some (.int .i64 (xs.getD i 0)) := fun i hi => by
        have := h.cellAt i (by omega)
        rw [Nat.zero_add, this]
        simp [List.getD, List.getElem?_eq_getElem hi]
      exact flip_some s g 0 xs.length cap xs w hs (cell_lt (hc 0 (by omega))) rfl hx hc

theorem own_shape {w : World} {base : Nat} {e : TypeId} {size : Nat} {v : Value} {n : Nat} {xs : List Value} (h : w.ownsRow base e size v n xs) : ∃ x cap, v = .slice x n cap := by
  rcases h.2 with ⟨rfl, rfl⟩ | ⟨g, cap, cur, rfl, _⟩
  · exact ⟨_, _, rfl⟩
  · exact ⟨_, _, rfl⟩
theorem sum_nine'' : ((Fm.sum ⟨#[49, 50, 51, 52, 53, 54, 55, 56, 57]⟩ : Nat) : Int) = 36974 := by decide +kernel

set_option maxHeartbeats 1000000 in
theorem walk_FcsBursts (s : ByteArray) (a p : Int) (w : World) (hs : s.size ≤ 140737488351232) (ha : -9223372036854775808 ≤ a ∧ a ≤ 9223372036854775807) (hp : 0 ≤ p ∧ p ≤ 65535) :
    Calls Try.prog 7 #[.string s, .int .i64 a, .int .u16 p] w fun e w' => e = .returned (.bool true) ∧ Below w.heap.size w w' := by
  obtain ⟨p, rfl⟩ := Int.eq_ofNat_of_zero_le hp.1
  have hp1 : p < 65536 := by omega
  clear hp
  obtain ⟨ha0, ha1⟩ := ha
  go_enter Try.func7, Try.ntmps7
  go_wp2_with fail
  obtain ⟨t, hT⟩ : ∃ t, t = s.extract 0 (min (s.size : Int) 300).toNat := ⟨_, rfl⟩
  have hts : t.size ≤ 300 := by rw [hT]; simp; omega
  rw [← hT]
  clear hT
  refine (seal_any t _ (by omega)).mono ?_
  rintro e w1 ⟨rfl, hb1⟩
  have hsz := Fm.sealB_size t
  go_wp2_with fail
  refine (of_any (Fm.sealB t) _ (by omega)).mono ?_
  rintro e w2 ⟨rfl, hb2⟩
  have hq2 := hb1.trans (hb2.mono hb1.size)
  clear hb2 hb1
  have HK : Hid (∀ f : Nat, f + 16 ≤ 8 * (t.size + 2) → ∃ U : ByteArray, U.size = t.size + 2 ∧ octRes (strOfNums (Bm.flips (Bm.nums (strOfNums (Bm.ofN (Bm.nums (Fm.sealB t))))) (Fm.places f p 16))) = (U, 0) ∧ (p ≠ 0 → checkRes U = (ByteArray.empty, 6))) := by
    intro f hf
    obtain ⟨U, h1, h2, h3⟩ := Fm.burst_seen t f p (by rw [hsz]; exact hf) hp1
    exact ⟨U, by omega, turned_oct _ _ _ h2, fun h0 => turned_check U (by omega) (h3 h0)⟩
  have hB : (strOfNums (Bm.ofN (Bm.nums (Fm.sealB t)))).size = 8 * (t.size + 2) := by rw [back_size, hsz]
  generalize strOfNums (Bm.ofN (Bm.nums (Fm.sealB t))) = B at HK hB ⊢
  clear hsz
  have hB1 : B.size ≤ 8 * (t.size + 2) := by omega
  have hB2 : 8 * (t.size + 2) ≤ B.size := by omega
  clear hB
  have hmax0 : (0 : Int) ≤ max 0 a := by omega
  have hmax1 : max 0 a ≤ 9223372036854775807 := by omega
  go_wp2
  obtain ⟨f, hf⟩ : ∃ f : Nat, max 0 a % ((B.size : Int) - 15) = (f : Int) := Int.eq_ofNat_of_zero_le (Int.emod_nonneg _ (by omega))
  have hf1 : f + 16 ≤ 8 * (t.size + 2) := by
    have h1 : max 0 a % ((B.size : Int) - 15) < (B.size : Int) - 15 := Int.emod_lt_of_pos _ (by omega)
    omega
  rw [hf]
  clear hf hmax0 hmax1
  obtain ⟨U, hU, ho, hk⟩ := HK.out f hf1
  have HO : Hid (octRes (strOfNums (Bm.flips (Bm.nums B) (Fm.places f p 16))) = (U, 0)) := ho
  have HC : Hid (p ≠ 0 → checkRes U = (ByteArray.empty, 6)) := hk
  have hU1 : U.size ≤ 302 := by omega
  clear ho hk hU HK
  obtain ⟨i0, hi, hz0, hz1, hz2⟩ := info_parts int3
  go_loopw [9, 32] (fun v c wr => ∃ i : Nat, i ≤ 16 ∧ c = .int .i64 i ∧ wr.ownsRow w.heap.size 3 1 v (Fm.places f p i).length ((Fm.places f p i).map (Value.int .i64)) ∧ Below w.heap.size w wr) (fun _ c _ => 16 - (intOf c).toNat)
  case atStart => exact ⟨0, Nat.zero_le _, rfl, by simpa [Fm.places] using World.ownsRow_nil _ _ _ _, hq2⟩
  case round =>
    obtain ⟨i, hi16, rfl, hown, hbel⟩ := hrel
    have hpl := Fm.places_length f p i
    by_cases hlt : i < 16
    · by_cases hbit : p / 2 ^ i % 2 = 1
      · have ht := burst_bit1 p i hp1 hbit
        have HS : Hid (Fm.places f p (i + 1) = Fm.places f p i ++ [((f + i : Nat) : Int)]) := by show Fm.places f p (i + 1) = _; rw [Fm.places, if_pos hbit]
        clear hbit
        go_wp2_with (at_builtin; refine wpList_append_own _ rfl _ _ 35 rfl w.heap.size 3 i0 (.int .i64 0) 1 8 Try.underlying35 hi hz0 hz1 hz2 rfl (by decide) _ _ _ rfl (hown.alloc _) ⟨wr.heap.size, 0, none⟩ 1 1 [.int .i64 ((f : Int) + (i : Int))] rfl rfl (one_newi _) (one_onei _) ?c3 ?c4 ?c5 ?_)
        case c3 => unfold maxLen; omega
        case c4 => omega
        case c5 => have := hbel.size; simp; omega
        intro v' w3 hown' hgrow _
        have hbel3 : Below w.heap.size w w3 := (hbel.alloc hbel.size _).grown hgrow (by have := hbel.size; simp; omega) (own_base hown)
        have hown3 : w3.ownsRow w.heap.size 3 1 v' (Fm.places f p (i + 1)).length ((Fm.places f p (i + 1)).map (Value.int .i64)) := by
          rw [HS.out]
          simpa using hown'
        clear hown' hgrow hown
        go_wp2
        go_roundw
        case rel => exact ⟨i + 1, by omega, by go_num, hown3, hbel3⟩
        case measure => simp [intOf]; omega
      · have ht := burst_bit0 p i hp1 hbit
        have HS : Hid (Fm.places f p (i + 1) = Fm.places f p i) := by show Fm.places f p (i + 1) = _; rw [Fm.places, if_neg hbit]
        clear hbit
        go_wp2
        go_roundw
        case rel => exact ⟨i + 1, by omega, by go_num, by rw [HS.out]; exact hown, hbel⟩
        case measure => simp [intOf]; omega
    · have e : i = 16 := by omega
      subst e
      obtain ⟨x, cap, hv⟩ := own_shape hown
      have HV := hv
      rw [hv] at hown
      subst HV
      clear hv
      have HO2 := HO
      have hL0 : (Fm.places f p 16).length ≤ 16 := hpl
      have H0 : Hid ((Fm.places f p 16).length ≠ 0 → p ≠ 0) := by
        intro h1 h2
        rw [h2, Fm.places_zero] at h1
        exact h1 rfl
      go_wp2_with fail
      refine (flip_own B _ (by omega) (by omega) hown).mono ?_
      rintro e w3 ⟨rfl, hb3⟩
      have hq3 := hbel.trans (hb3.mono hbel.size)
      clear hb3
      go_wp2_with fail
      refine (octets_any _ _ (by rw [turned_size]; omega)).mono ?_
      rintro e w4 ⟨rfl, hb4⟩
      rw [HO.out]
      have hq4 := hq3.trans (hb4.mono hq3.size)
      clear hb4 hq3 hown
      generalize (Fm.places f p 16).length = L at H0 hL0 ⊢
      by_cases hL : L = 0
      · subst hL
        go_wp2_with fail
        refine (sum_any ⟨#[49, 50, 51, 52, 53, 54, 55, 56, 57]⟩ _ (by decide)).mono ?_
        rintro e w' ⟨rfl, rfl⟩
        rw [sum_nine'']
        go_wp2
        go_ret
        exact ⟨rfl, hq4⟩
      · have hc := HC.out (H0.out hL)
        have hLB : (((L : Nat) : Int) == 0) = false := by simp; omega
        go_wp2_with fail
        refine (check_any U _ (by omega)).mono ?_
        rintro e w5 ⟨rfl, hb5⟩
        rw [hc]
        have hq5 := hq4.trans (hb5.mono hq4.size)
        clear hb5 hq4 hc
        go_wp2
        go_ret
        exact ⟨rfl, hq5⟩
end Go.Proofs.Ytnagiiaelpnfnaa
