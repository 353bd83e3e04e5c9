/-
  The walk of the law FrameBits: it returns true.
-/
import Derived.Test.YtdcohbdndkphnaaDoorFrameWakes
import Derived.Test.YtdcohbdndkphnaaDoorFcsTurned
import Derived.Test.YtdcohbdndkphnaaDoorOfWalks
import Derived.Laws.BitsLemmas
namespace Go.Proofs.YtdcohbdndkphnaaDoor
open Go.RowKit
set_option linter.unusedVariables false
set_option linter.unusedSimpArgs false

theorem int3 : (Tryd.prog.info? 3).map (fun i => (i.zero, i.size, i.bytes)) = some (some (.int .i64 0), 1, 8) := by kernel_rfl
/-- one more number, appended: the cell that the walk lays for it -/
theorem one_newi {w : World} (n : Int) : ∀ (j : Nat) (u : Value), [Value.int .i64 n][j]? = some u → (w.alloc (.cells #[.int .i64 n] 3)).cell? ((⟨w.heap.size, 0, none⟩ : Addr).add j) = some u := by
  intro j u hj
  match j, hj with
  | 0, hj => simp at hj; subst hj; simp [Addr.add]
theorem one_onei (n : Int) : ∀ u ∈ [Value.int .i64 n], u.oneCell' = true := by
  intro u hu; simp at hu; subst hu; rfl
theorem i64_and1 (n : Int) : bits .and .i64 n 1 = n % 2 := by
  have h1 : (BitVec.ofInt 64 1).toNat = 2 ^ 1 - 1 := by decide
  have key : (BitVec.ofInt 64 n &&& BitVec.ofInt 64 1).toNat = (n % ((2 ^ 64 : Nat) : Int)).toNat % 2 ^ 1 := by
    rw [BitVec.toNat_and, BitVec.toNat_ofInt, h1, Nat.and_two_pow_sub_one_eq_mod]
  show IntKind.i64.wrap ((BitVec.ofInt 64 n &&& BitVec.ofInt 64 1).toNat : Nat) = n % 2
  rw [key, IntKind.wrap_i64]
  omega
/-- the pattern's lowest sixteen bits -/
theorem pat_bit (y : Int) (p i : Nat) (hp : (p : Int) = y % 65536) (hi : i < 16) : bits .and .i64 (y / 2 ^ i) 1 = ((p / 2 ^ i % 2 : Nat) : Int) := by
  rw [i64_and1]
  have : i = 0 ∨ i = 1 ∨ i = 2 ∨ i = 3 ∨ i = 4 ∨ i = 5 ∨ i = 6 ∨ i = 7 ∨ i = 8 ∨ i = 9 ∨ i = 10 ∨ i = 11 ∨ i = 12 ∨ i = 13 ∨ i = 14 ∨ i = 15 := by omega
  rcases this with rfl | rfl | rfl | rfl | rfl | rfl | rfl | rfl | rfl | rfl | rfl | rfl | rfl | rfl | rfl | rfl <;> simp <;> omega
theorem pat_bit1 (y : Int) (p i : Nat) (hp : (p : Int) = y % 65536) (hi : i < 16) (h : p / 2 ^ i % 2 = 1) : (bits .and .i64 (y / 2 ^ i) 1 == 1) = true := by
  rw [pat_bit y p i hp hi, h]; rfl
theorem pat_bit0 (y : Int) (p i : Nat) (hp : (p : Int) = y % 65536) (hi : i < 16) (h : ¬ p / 2 ^ i % 2 = 1) : (bits .and .i64 (y / 2 ^ i) 1 == 1) = false := by
  rw [pat_bit y p i hp hi, show p / 2 ^ i % 2 = 0 from by omega]; rfl
theorem pat_zero_n : ∀ (n p : Nat), p < 2 ^ n → (∀ i, i < n → p / 2 ^ i % 2 = 0) → p = 0
  | 0, p, hp, _ => by simpa using hp
  | n + 1, p, hp, h => by
    have h0 : p % 2 = 0 := by have := h 0 (by omega); simpa using this
    have h1 := pat_zero_n n (p / 2) (by rw [Nat.pow_succ] at hp; omega) (fun i hi => by
      have := h (i + 1) (by omega)
      rw [Nat.pow_succ, Nat.mul_comm, ← Nat.div_div_eq_div_mul] at this
      exact this)
    omega
theorem pat_zero (p : Nat) (hp : p < 65536) (h : ∀ i, i < 16 → p / 2 ^ i % 2 = 0) : p = 0 := pat_zero_n 16 p hp h
/-- a pattern that isn't 0 turns some place -/
theorem places_some (f p : Nat) (hp : p < 65536) (h : (Fm.places f p 16).length = 0) : p = 0 := by
  have hn : Fm.places f p 16 = [] := List.eq_nil_of_length_eq_zero h
  refine pat_zero p hp (fun i hi => ?_)
  have := Fm.places_count f p (f + i) 16
  rw [hn, if_pos ⟨by omega, by omega⟩, show f + i - f = i from by omega] at this
  simpa using this.symm
/-- bits.Flip of places that the call itself has gathered -/
theorem flip_own {base : Nat} {v : Value} {xs : List Int} (s : ByteArray) (w : World) (hs : s.size ≤ 140737488351232) (hx : 8 * xs.length ≤ 140737488351232) (h : w.ownsRow base 3 1 v xs.length (xs.map (Value.int .i64))) :
    Calls Tryd.prog 24 #[.string s, v] w fun e w' => e = .returned (.string (strOfNums (Bm.flips (Bm.nums s) xs))) ∧ Below w.heap.size w w' := by
  rcases h.2 with ⟨rfl, hn⟩ | ⟨g, cap, cur, rfl, _⟩
  · have : xs = [] := List.eq_nil_of_length_eq_zero hn
    subst this
    exact flip_none s none 0 w hs
  · by_cases h0 : xs.length = 0
    · have : xs = [] := List.eq_nil_of_length_eq_zero h0
      subst this
      exact flip_none s _ cap w hs
    · have hc : ∀ i, i < xs.length → w.cell? ⟨g, 0 + i, none⟩ = some (.int .i64 (xs.getD i 0)) := fun i hi => by
        have := h.cellAt i (by omega)
        rw [Nat.zero_add, this]
        simp [List.getD, List.getElem?_eq_getElem hi]
      exact flip_some s g 0 xs.length cap xs w hs (cell_lt (hc 0 (by omega))) rfl hx hc
theorem own_shape {w : World} {base : Nat} {e : TypeId} {size : Nat} {v : Value} {n : Nat} {xs : List Value} (h : w.ownsRow base e size v n xs) : ∃ x cap, v = .slice x n cap := by
  rcases h.2 with ⟨rfl, rfl⟩ | ⟨g, cap, cur, rfl, _⟩
  · exact ⟨_, _, rfl⟩
  · exact ⟨_, _, rfl⟩

/-- two numbers lie where they were put -/
structure TwoC (w : World) (B : Nat) (x y : Int) : Prop where
  lt : B < w.heap.size
  c0 : w.cell? ⟨B, 0, none⟩ = some (.int .i64 x)
  c1 : w.cell? ⟨B, 1, none⟩ = some (.int .i64 y)
theorem TwoC.later {w w' : World} {B : Nat} {x y : Int} (h : TwoC w B x y) (hb : Below w.heap.size w w') : TwoC w' B x y :=
  ⟨Nat.lt_of_lt_of_le h.lt hb.size, (hb.cell (p := ⟨B, 0, none⟩) h.lt).trans h.c0, (hb.cell (p := ⟨B, 1, none⟩) h.lt).trans h.c1⟩

/-- a frame's octets, some of their bits turned -/
theorem bits_seen (f : Xm.Fr) (net : Bool) (h : (Xm.putRes f net).2 = 0) (p : Nat) (hp : p < 65536) (at0 : Nat) (ha : at0 + 16 ≤ 8 * (Xm.putRes f net).1.size) :
    ∃ U : ByteArray, U.size = (Xm.putRes f net).1.size ∧ octRes (strOfNums (Bm.flips (Bm.nums (strOfNums (Bm.ofN (Bm.nums (Xm.putRes f net).1)))) (Fm.places at0 p 16))) = (U, 0) ∧ (p ≠ 0 → Xm.getRes U net = (Xm.zero, 6)) ∧ (p = 0 → Xm.getRes U net = (Xm.norm f, 0)) := by
  obtain ⟨_, _, _, _, e⟩ := Xm.put_ok h
  have hsz := Xm.put_size h
  have hT : (Xm.putRes f net).1 = Fm.sealB (Xm.body f net) := by rw [e]
  by_cases h0 : p = 0
  · subst h0
    refine ⟨(Xm.putRes f net).1, rfl, ?_, fun h => absurd rfl h, fun _ => Xm.back h⟩
    rw [Fm.places_zero, show ∀ l, Bm.flips l [] = l from fun _ => rfl, Bm.str_nums, back_oct]
  · rw [hT] at ha ⊢
    obtain ⟨U, h1, h2, h3⟩ := Fm.burst_seen (Xm.body f net) at0 p ha hp
    refine ⟨U, h1, turned_oct _ _ _ h2, fun _ => Xm.get_sum net ?_, fun h => absurd h h0⟩
    rw [turned_check U (by rw [h1, ← hT]; omega) (h3 h0)]
    decide

set_option maxHeartbeats 4000000 in
set_option maxRecDepth 100000 in
theorem walk_FrameBits (sapi tei : Int) (c : Bool) (k : Int) (pf : Bool) (ns nr : Int) (info : ByteArray) (net : Bool) (y0 y1 : Int) (w : World) (hi : info.size ≤ 140737488351232) (hy0 : -9223372036854775808 ≤ y0 ∧ y0 ≤ 9223372036854775807) (hy1 : -9223372036854775808 ≤ y1 ∧ y1 ≤ 9223372036854775807) (hL : Laws6 w) :
    Calls Tryd.prog 7 #[.agg #[.int .i64 sapi, .int .i64 tei, .bool c, .int .i64 k, .bool pf, .int .i64 ns, .int .i64 nr, .string info], .bool net, .agg #[.int .i64 y0, .int .i64 y1]] w fun e w' => e = .returned (.bool true) ∧ Below w.heap.size w w' := by
  have hq0 : Below w.heap.size w ((w.alloc (.cells #[.int .i64 sapi, .int .i64 tei, .bool c, .int .i64 k, .bool pf, .int .i64 ns, .int .i64 nr, .string info] 29)).alloc (.cells #[.int .i64 y0, .int .i64 y1] 51)) := ((Below.refl w.heap.size w).alloc (Nat.le_refl _) _).alloc (by simp) _
  have hY0 : TwoC ((w.alloc (.cells #[.int .i64 sapi, .int .i64 tei, .bool c, .int .i64 k, .bool pf, .int .i64 ns, .int .i64 nr, .string info] 29)).alloc (.cells #[.int .i64 y0, .int .i64 y1] 51)) (w.heap.size + 1) y0 y1 := ⟨by simp, by simp, by simp⟩
  go_enter Tryd.func7, Tryd.ntmps7
  go_wp2_with fail
  refine (frames_any sapi tei c k pf ns nr info _).mono ?_
  rintro e w1 ⟨rfl, hb1⟩
  have hq1 := hq0.trans (hb1.mono hq0.size)
  have hY1 := hY0.later hb1
  clear hb1 hq0 hY0
  simp only [frV]
  have hqa : Below w1.heap.size w1 ((w1.alloc (.cells #[.int .i64 sapi, .int .i64 tei, .bool c, .int .i64 k, .bool pf, .int .i64 ns, .int .i64 nr, .string info] 33)).alloc (.cells #[.int .i64 sapi, .int .i64 tei, .bool c, .int .i64 k, .bool pf, .int .i64 ns, .int .i64 nr, .string info] 34)) := ((Below.refl _ _).alloc (Nat.le_refl _) _).alloc (by simp) _
  have hqb := hq1.trans (hqa.mono hq1.size)
  have hC0 : FrC ((w1.alloc (.cells #[.int .i64 sapi, .int .i64 tei, .bool c, .int .i64 k, .bool pf, .int .i64 ns, .int .i64 nr, .string info] 33)).alloc (.cells #[.int .i64 sapi, .int .i64 tei, .bool c, .int .i64 k, .bool pf, .int .i64 ns, .int .i64 nr, .string info] 34)) w1.heap.size sapi tei c k pf ns nr info := (frc_new w1 sapi tei c k pf ns nr info _).later ((Below.refl _ _).alloc (Nat.le_refl _) _)
  have hE0 : Eight ((w1.alloc (.cells #[.int .i64 sapi, .int .i64 tei, .bool c, .int .i64 k, .bool pf, .int .i64 ns, .int .i64 nr, .string info] 33)).alloc (.cells #[.int .i64 sapi, .int .i64 tei, .bool c, .int .i64 k, .bool pf, .int .i64 ns, .int .i64 nr, .string info] 34)) w1.heap.size := (eight_new w1 _ _ _ _ _ _ _ _ _).later ((Below.refl _ _).alloc (Nat.le_refl _) _)
  have hP := fput_any sapi tei c k pf ns nr info net ((w1.alloc (.cells #[.int .i64 sapi, .int .i64 tei, .bool c, .int .i64 k, .bool pf, .int .i64 ns, .int .i64 nr, .string info] 33)).alloc (.cells #[.int .i64 sapi, .int .i64 tei, .bool c, .int .i64 k, .bool pf, .int .i64 ns, .int .i64 nr, .string info] 34)) hi (hL.later hqb)
  have HB := bits_seen ⟨sapi, tei, c, k, pf, ns, nr, info⟩ net
  have HZ := Xm.put_size (f := ⟨sapi, tei, c, k, pf, ns, nr, info⟩) (net := net)
  have HO := Xm.put_ok (f := ⟨sapi, tei, c, k, pf, ns, nr, info⟩) (net := net)
  generalize hR : Xm.putRes ⟨sapi, tei, c, k, pf, ns, nr, info⟩ net = R at hP HB HZ HO
  clear hR
  obtain ⟨T, e0⟩ := R
  simp only at hP HB HZ HO
  have HB' : Hid (e0 = 0 → ∀ p, p < 65536 → ∀ at0, at0 + 16 ≤ 8 * T.size → ∃ U : ByteArray, U.size = T.size ∧ octRes (strOfNums (Bm.flips (Bm.nums (strOfNums (Bm.ofN (Bm.nums T)))) (Fm.places at0 p 16))) = (U, 0) ∧ (p ≠ 0 → Xm.getRes U net = (Xm.zero, 6)) ∧ (p = 0 → Xm.getRes U net = (Xm.norm ⟨sapi, tei, c, k, pf, ns, nr, info⟩, 0))) := HB
  have HZ' : Hid (e0 = 0 → T.size ≤ 1000 ∧ 5 ≤ T.size) := by
    intro h
    have h1 := HZ h
    have h2 := Xm.ctl_size (HO h).2.1
    omega
  clear HB HZ HO
  have hY2 := hY1.later hqa
  clear hY1
  go_wp2_with fail
  refine hP.mono ?_
  rintro e w2 ⟨rfl, hb2⟩
  clear hP
  have hq2 := hqb.trans (hb2.mono hqb.size)
  have hY3 := hY2.later hb2
  clear hb2 hC0 hE0 hqb hqa hY2
  go_wp2_with fail
  refine (fwakes_any _ (hL.later hq2)).mono ?_
  rintro e w3 ⟨rfl, hb3⟩
  have hq3 := hq2.trans (hb3.mono hq2.size)
  have hY4 := hY3.later hb3
  clear hb3 hq2 hY3
  by_cases h0 : e0 = 0
  · subst h0
    obtain ⟨hT1, hT2⟩ := HZ'.out rfl
    have HK : Hid _ := HB'.out rfl
    clear HB' HZ'
    have hT1' : (T.size : Int) ≤ 1000 := by omega
    have hT2' : (5 : Int) ≤ (T.size : Int) := by omega
    go_wp2_with fail
    refine (of_any T _ (by omega)).mono ?_
    rintro e w4 ⟨rfl, hb4⟩
    have hq4 := hq3.trans (hb4.mono hq3.size)
    obtain ⟨ly, cy0, cy1⟩ := hY4.later hb4
    have HY : Hid (TwoC w4 (w.heap.size + 1) y0 y1) := ⟨ly, cy0, cy1⟩
    clear hb4 hq3 hY4
    have hB : (strOfNums (Bm.ofN (Bm.nums T))).size = 8 * T.size := back_size T
    generalize strOfNums (Bm.ofN (Bm.nums T)) = B at HK hB ⊢
    have hB1 : B.size ≤ 8 * T.size := by omega
    have hB2 : 8 * T.size ≤ B.size := by omega
    clear hB
    have hmax0 : (0 : Int) ≤ max 0 y0 := by omega
    have hmax1 : max 0 y0 ≤ 9223372036854775807 := by omega
    clear hy0
    go_wp2
    obtain ⟨f, hf⟩ : ∃ f : Nat, max 0 y0 % ((B.size : Int) - 15) = (f : Int) := Int.eq_ofNat_of_zero_le (Int.emod_nonneg _ (by omega))
    have hf1 : f + 16 ≤ 8 * T.size := by
      have h1 : max 0 y0 % ((B.size : Int) - 15) < (B.size : Int) - 15 := Int.emod_lt_of_pos _ (by omega)
      omega
    rw [hf]
    rw [show decide ((T.size : Int) < 2) = false from by rw [decide_eq_false_iff_not]; omega]
    clear hf hmax0 hmax1
    obtain ⟨p, hp⟩ : ∃ p : Nat, (p : Int) = y1 % 65536 := ⟨(y1 % 65536).toNat, by omega⟩
    have hp1 : p < 65536 := by omega
    obtain ⟨U, hU, ho, hk1, hk2⟩ := HK.out p hp1 f hf1
    have HO : Hid (octRes (strOfNums (Bm.flips (Bm.nums B) (Fm.places f p 16))) = (U, 0)) := ho
    have HC1 : Hid (p ≠ 0 → Xm.getRes U net = (Xm.zero, 6)) := hk1
    have HC2 : Hid (p = 0 → Xm.getRes U net = (Xm.norm ⟨sapi, tei, c, k, pf, ns, nr, info⟩, 0)) := hk2
    have HP : Hid ((p : Int) = y1 % 65536) := hp
    have hU1 : U.size ≤ 1000 := by omega
    clear ho hk1 hk2 hU HK hp hT1' hT2'
    obtain ⟨i0, hi, hz0, hz1, hz2⟩ := info_parts int3
    go_loopw [13, 51] (fun v c wr => ∃ i : Nat, i ≤ 16 ∧ c = .int .i64 i ∧ wr.ownsRow w4.heap.size 3 1 v (Fm.places f p i).length ((Fm.places f p i).map (Value.int .i64)) ∧ Below w4.heap.size w4 wr) (fun _ c _ => 16 - (intOf c).toNat)
    case atStart => exact ⟨0, Nat.zero_le _, rfl, by simpa [Fm.places] using World.ownsRow_nil _ _ _ _, Below.refl _ _⟩
    case round =>
      obtain ⟨i, hi16, rfl, hown, hbel⟩ := hrel
      have hpl := Fm.places_length f p i
      obtain ⟨ly', dy0, dy1⟩ := HY.out.later hbel
      by_cases hlt : i < 16
      · by_cases hbit : p / 2 ^ i % 2 = 1
        · have ht := pat_bit1 y1 p i HP.out hlt hbit
          have HS : Hid (Fm.places f p (i + 1) = Fm.places f p i ++ [((f + i : Nat) : Int)]) := by show Fm.places f p (i + 1) = _; rw [Fm.places, if_pos hbit]
          clear hbit
          go_wp2_with (at_builtin; refine wpList_append_own _ rfl _ _ 52 rfl w4.heap.size 3 i0 (.int .i64 0) 1 8 Tryd.underlying52 hi hz0 hz1 hz2 rfl (by decide) _ _ _ rfl (hown.alloc _) ⟨wr.heap.size, 0, none⟩ 1 1 [.int .i64 ((f : Int) + (i : Int))] rfl rfl (one_newi _) (one_onei _) ?c3 ?c4 ?c5 ?_)
          case c3 => unfold maxLen; omega
          case c4 => omega
          case c5 => have := hbel.size; simp; omega
          intro v' w6 hown' hgrow _
          have hbel3 : Below w4.heap.size w4 w6 := (hbel.alloc hbel.size _).grown hgrow (by have := hbel.size; simp; omega) (own_base hown)
          have hown3 : w6.ownsRow w4.heap.size 3 1 v' (Fm.places f p (i + 1)).length ((Fm.places f p (i + 1)).map (Value.int .i64)) := by
            rw [HS.out]
            simpa using hown'
          clear hown' hgrow hown
          go_wp2
          go_roundw
          case rel => exact ⟨i + 1, by omega, by go_num, hown3, hbel3⟩
          case measure => simp [intOf]; omega
        · have ht := pat_bit0 y1 p i HP.out hlt hbit
          have HS : Hid (Fm.places f p (i + 1) = Fm.places f p i) := by show Fm.places f p (i + 1) = _; rw [Fm.places, if_neg hbit]
          clear hbit
          go_wp2
          go_roundw
          case rel => exact ⟨i + 1, by omega, by go_num, by rw [HS.out]; exact hown, hbel⟩
          case measure => simp [intOf]; omega
      · have e : i = 16 := by omega
        subst e
        obtain ⟨x, cap, hv⟩ := own_shape hown
        have HV := hv
        rw [hv] at hown
        subst HV
        clear hv
        have hL0 : (Fm.places f p 16).length ≤ 16 := hpl
        have H0 : Hid (p ≠ 0 → (Fm.places f p 16).length ≠ 0) := fun h1 h2 => h1 (places_some f p hp1 h2)
        have H1 : Hid (p = 0 → (Fm.places f p 16).length = 0) := by intro h2; rw [h2, Fm.places_zero]; rfl
        go_wp2_with fail
        refine (flip_own B _ (by omega) (by omega) hown).mono ?_
        rintro e w6 ⟨rfl, hb6⟩
        have hq6 := hbel.trans (hb6.mono hbel.size)
        clear hb6
        go_wp2_with fail
        refine (octets_any _ _ (by rw [turned_size]; omega)).mono ?_
        rintro e w7 ⟨rfl, hb7⟩
        rw [HO.out]
        have hq7 := hq4.trans ((hq6.trans (hb7.mono hq6.size)).mono hq4.size)
        clear hb7 hq6 hown hbel
        have hG := fget_any U net w7 (by omega) (hL.later hq7)
        generalize (Fm.places f p 16).length = L at H0 H1 hL0 ⊢
        by_cases hp0 : p = 0
        · have hL := H1.out hp0
          rw [HC2.out hp0] at hG
          subst hL
          clear hp0 HO HC1 HC2 H0 H1 HP
          simp only [fgetV, frV, Xm.norm] at hG
          generalize (if k = 0 then ns else 0) = ns' at hG
          generalize (if k < 4 then nr else 0) = nr' at hG
          go_wp2_with fail
          refine hG.mono ?_
          rintro e w8 ⟨rfl, hb8⟩
          clear hG
          have hq8 := hq7.trans (hb8.mono hq7.size)
          go_wp2
          go_ret
          exact ⟨by simp, hq8.alloc hq8.size _⟩
        · have hLn := H0.out hp0
          rw [HC1.out hp0] at hG
          have hLB : (((L : Nat) : Int) == 0) = false := by simp; omega
          clear hp0 HO HC1 HC2 H0 H1 HP hLn
          simp only [fgetV, frV, Xm.zero] at hG
          go_wp2_with fail
          refine hG.mono ?_
          rintro e w8 ⟨rfl, hb8⟩
          clear hG
          have hq8 := hq7.trans (hb8.mono hq7.size)
          go_wp2
          go_ret
          exact ⟨by simp, hq8.alloc hq8.size _⟩
  · have tb : (e0 != 0) = true := by simpa using h0
    clear h0 HB' HZ' hY4
    go_wp2_with fail
    refine (fwakes_any _ (hL.later hq3)).mono ?_
    rintro e w4 ⟨rfl, hb4⟩
    go_wp2
    go_ret
    exact ⟨rfl, hq3.trans (hb4.mono hq3.size)⟩
end Go.Proofs.YtdcohbdndkphnaaDoor
