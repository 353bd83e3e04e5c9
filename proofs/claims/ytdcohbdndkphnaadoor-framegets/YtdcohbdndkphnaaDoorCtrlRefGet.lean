/-
  The walk of the document's Get: it answers 'getRes'. Nothing that was there is turned.
-/
import Derived.Test.YtdcohbdndkphnaaDoorCtrlRefSmall
import Derived.Test.YtdcohbdndkphnaaDoorCtrlGetTwo
namespace Go.Proofs.YtdcohbdndkphnaaDoor
open Go.RowKit
set_option linter.unusedVariables false
set_option linter.unusedSimpArgs false

/-- how far the look for a kind has come -/
def Looked (x : Int) (n m : Nat) : Prop := n = 0 ∨ (x % 2 ≠ 0 ∧ Cm.begFrom x 9 1 = Cm.begFrom x m n)
theorem looked_zero (x : Int) (m : Nat) : Looked x 0 m := Or.inl rfl
theorem looked_one (x : Int) (h : x % 2 ≠ 0) : Looked x 1 9 := Or.inr ⟨h, rfl⟩
theorem Looked.hit {x : Int} {n m : Nat} (h : Looked x n (m + 1)) (h1 : 1 ≤ n) (hx : x = Cm.octs.getD n 0) : Cm.beg x = some ((n : Int), false, 0) := by
  rcases h with h | ⟨h, e⟩
  · omega
  · rw [Cm.beg_odd x h, e, Cm.begFrom_hit x m n (by rw [Cm.foct_false]; exact hx)]; rfl
theorem Looked.hit2 {x : Int} {n m : Nat} (h : Looked x n (m + 1)) (h1 : 4 ≤ n) (hx : x = Cm.octs.getD n 0 + 16) : Cm.beg x = some ((n : Int), true, 0) := by
  rcases h with h | ⟨h, e⟩
  · omega
  · rw [Cm.beg_odd x h, e, Cm.begFrom_hit2 x m n (by rw [Cm.foct_false]; omega) (by rw [Cm.foct_high n h1]; exact hx)]; rfl
theorem Looked.low {x : Int} {n m : Nat} (h : Looked x n (m + 1)) (h1 : 1 ≤ n) (h4 : n < 4) (hx : x ≠ Cm.octs.getD n 0) : Looked x (n + 1) m := by
  rcases h with h | ⟨h, e⟩
  · omega
  · exact Or.inr ⟨h, by rw [e, Cm.begFrom_miss x m n (by rw [Cm.foct_false]; exact hx) (by rw [Cm.foct_low n h4]; exact hx)]⟩
theorem Looked.high {x : Int} {n m : Nat} (h : Looked x n (m + 1)) (h4 : 4 ≤ n) (hx : x ≠ Cm.octs.getD n 0) (hx2 : x ≠ Cm.octs.getD n 0 + 16) : Looked x (n + 1) m := by
  rcases h with h | ⟨h, e⟩
  · omega
  · exact Or.inr ⟨h, by rw [e, Cm.begFrom_miss x m n (by rw [Cm.foct_false]; exact hx) (by rw [Cm.foct_high n h4]; exact hx2)]⟩
theorem Looked.over {x : Int} (h : Looked x 10 0) : Cm.beg x = none := by
  rcases h with h | ⟨h, e⟩
  · omega
  · rw [Cm.beg_odd x h, e]; rfl

set_option maxHeartbeats 1000000 in
theorem ref_cget_empty (s : ByteArray) (w : World) (h : s.size = 0) :
    Calls Tryd.prog 41 #[.string s] w fun e w' => e = .returned (getV (Cm.getRes s)) ∧ Below w.heap.size w w' := by
  have HG : Hid (Cm.getRes s = ((0, false, 0, 0), 0, 3)) := by
    show _ = _
    rw [Cm.getRes, show Bm.nums s = [] from List.eq_nil_of_length_eq_zero (by rw [Bm.nums_length]; exact h)]; rfl
  go_enter Tryd.func41, Tryd.ntmps41
  go_wp2
  exact bodyPost_ret (v := getV ((0, false, 0, 0), 0, 3)) (by simp [results, Tryd.results41, go_sem, getV]) rfl ⟨by rw [HG.out], (Below.refl _ _).alloc (Nat.le_refl _) _⟩

set_option maxHeartbeats 2000000 in
set_option maxRecDepth 100000 in
theorem ref_cget_some (s : ByteArray) (w : World) (hs : s.size ≤ 140737488355328) (h : 0 < s.size) :
    Calls Tryd.prog 41 #[.string s] w fun e w' => e = .returned (getV (Cm.getRes s)) ∧ Below w.heap.size w w' := by
  have h0' : (0 : Int) < (s.size : Int) := by omega
  have b0 : 0 ≤ (s[0].toNat : Int) ∧ (s[0].toNat : Int) ≤ 255 := by have := s[0].toNat_lt; omega
  have HN : Hid (∀ n : Nat, ∀ pf ns, Cm.beg (s[0].toNat : Int) = some ((n : Int), pf, ns) → 4 ≤ n → Cm.getRes s = (((n : Int), pf, 0, 0), 1, 0)) := by
    intro n pf ns hb h4
    obtain ⟨r, hr, _⟩ := Cm.nums_one s h
    rw [Cm.getRes, hr, Cm.getN_one r hb (by omega)]
  have HS : Hid (∀ n : Nat, ∀ pf ns, Cm.beg (s[0].toNat : Int) = some ((n : Int), pf, ns) → n < 4 → s.size < 2 → Cm.getRes s = ((0, false, 0, 0), 0, 3)) := by
    intro n pf ns hb h4 h2
    obtain ⟨r, hr, he⟩ := Cm.nums_one s h
    rw [Cm.getRes, hr, he h2, Cm.getN_short hb (by omega)]
  have HO : Hid (Cm.beg (s[0].toNat : Int) = none → Cm.getRes s = ((0, false, 0, 0), 0, 4)) := by
    intro hb
    obtain ⟨r, hr, _⟩ := Cm.nums_one s h
    rw [Cm.getRes, hr, Cm.getN_none r hb]
  have HT : Hid (∀ h2 : 1 < s.size, ∀ n : Nat, ∀ pf ns, Cm.beg (s[0].toNat : Int) = some ((n : Int), pf, ns) → n < 4 → Cm.getRes s = (((n : Int), (s[1].toNat : Int) % 2 == 1, ns, (s[1].toNat : Int) / 2), 2, 0)) := by
    intro h2 n pf ns hb h4
    obtain ⟨r, hr⟩ := Cm.nums_two s h2
    rw [Cm.getRes, hr, Cm.getN_two _ _ hb (by omega)]
  have hq0 : Below w.heap.size w (w.alloc (.cells #[.int .i64 0, .bool false, .int .i64 0, .int .i64 0] 68)) := (Below.refl _ _).alloc (Nat.le_refl _) _
  go_enter Tryd.func41, Tryd.ntmps41
  go_wp2
  obtain ⟨x, hx⟩ : ∃ x : Int, x = (s[0].toNat : Int) := ⟨_, rfl⟩
  rw [← hx] at b0 HN HS HO HT ⊢
  clear hx
  obtain ⟨x0, x1⟩ := b0
  rw [show ((s.size : Int) == 0) = false from beq_eq_false_iff_ne.2 (by omega)]
  go_loop [6] (fun c => ∃ n m : Nat, n + m = 10 ∧ c = .int .i64 n ∧ Hid (Looked x n m)) (fun c => 10 - (intOf c).toNat)
  case atStart => exact ⟨0, 10, rfl, rfl, looked_zero x 10⟩
  case round =>
    obtain ⟨n, m, hnm, rfl, HL⟩ := hrel
    by_cases hlt : n < 10
    · have hM := ref_numbered_any (n : Int) (w.alloc (.cells #[.int .i64 0, .bool false, .int .i64 0, .int .i64 0] 68))
      have hO := ref_octet_any n (w.alloc (.cells #[.int .i64 0, .bool false, .int .i64 0, .int .i64 0] 68)) hlt
      have hb := Cm.octs_bd n
      obtain ⟨m', rfl⟩ : ∃ m', m = m' + 1 := ⟨m - 1, by omega⟩
      obtain ⟨o, ho⟩ : ∃ o, o = Cm.octs.getD n 0 := ⟨_, rfl⟩
      rw [← ho] at hO hb
      obtain ⟨o0, o1⟩ := hb
      by_cases hn0 : n = 0
      · subst hn0
        rw [show Cm.numd ((0 : Nat) : Int) = true from rfl] at hM
        rw [show ((0 : Nat) : Int) = 0 from rfl] at hM hO ⊢
        clear HL ho
        by_cases hx : x % 2 = 0
        · have hbg : Cm.beg x = some (((0 : Nat) : Int), false, x / 2) := Cm.beg_even x hx
          have tx : (x % 2 == 0) = true := by simp [hx]
          clear hx
          go_wp2_with fail
          refine hM.mono ?_
          rintro e w' ⟨rfl, rfl⟩
          go_wp2_with fail
          refine hO.mono ?_
          rintro e w' ⟨rfl, rfl⟩
          clear hM hO
          by_cases h2 : s.size < 2
          · have HR : Hid (Cm.getRes s = ((0, false, 0, 0), 0, 3)) := HS.out 0 false _ hbg (by decide) h2
            clear hbg HN HS HO HT
            go_wp2
            exact bodyPost_ret (v := getV ((0, false, 0, 0), 0, 3)) (by simp [results, Tryd.results41, go_sem, getV]) rfl ⟨by rw [HR.out], hq0⟩
          · have h2i : 1 < s.size := by omega
            have h2' : (1 : Int) < (s.size : Int) := by omega
            have HR : Hid (Cm.getRes s = ((((0 : Nat) : Int), (s[1].toNat : Int) % 2 == 1, x / 2, (s[1].toNat : Int) / 2), 2, 0)) := HT.out h2i 0 false _ hbg (by decide)
            clear hbg HN HS HO HT
            have b1 : 0 ≤ (s[1].toNat : Int) ∧ (s[1].toNat : Int) ≤ 255 := by have := s[1].toNat_lt; omega
            go_wp2
            go_region
            all_goals
              clear b1
              obtain ⟨y, hy⟩ : ∃ y : Int, y = (s[1].toNat : Int) := ⟨_, rfl⟩
              rw [← hy] at HR ⊢
              clear hy
              go_wp2
              exact bodyPost_ret (v := getV (((0 : Int), y % 2 == 1, x / 2, y / 2), 2, 0)) (by simp [results, Tryd.results41, go_sem, getV]) rfl ⟨by rw [HR.out]; rfl, (((Below.refl _ _).alloc (Nat.le_refl _) _).alloc (by simp) _).drew⟩
        · have HL2 : Hid (Looked x 1 9) := looked_one x hx
          have tx : (x % 2 == 0) = false := by simp [hx]
          clear hx
          go_wp2_with fail
          refine hM.mono ?_
          rintro e w' ⟨rfl, rfl⟩
          go_wp2_with fail
          refine hO.mono ?_
          rintro e w' ⟨rfl, rfl⟩
          clear hM hO
          go_wp2
          go_round
          case rel => exact ⟨1, 9, rfl, by go_num, HL2⟩
          case measure => simp [intOf]
      · have hne : ((n : Int) == 0) = false := by simp; omega
        have hn1 : 1 ≤ n := by omega
        clear hn0
        by_cases h4 : n < 4
        · rw [numd_low n h4] at hM
          by_cases hx : x = o
          · have hbg : Cm.beg x = some ((n : Int), false, 0) := HL.out.hit hn1 (hx.trans ho)
            have tx : (x == o) = true := by simp [hx]
            clear hx ho HL
            go_wp2_with fail
            refine hM.mono ?_
            rintro e w' ⟨rfl, rfl⟩
            go_wp2_with fail
            refine hO.mono ?_
            rintro e w' ⟨rfl, rfl⟩
            clear hM hO
            by_cases h2 : s.size < 2
            · have HR : Hid (Cm.getRes s = ((0, false, 0, 0), 0, 3)) := HS.out n false _ hbg h4 h2
              clear hbg HN HS HO HT
              go_wp2
              exact bodyPost_ret (v := getV ((0, false, 0, 0), 0, 3)) (by simp [results, Tryd.results41, go_sem, getV]) rfl ⟨by rw [HR.out], hq0⟩
            · have h2i : 1 < s.size := by omega
              have h2' : (1 : Int) < (s.size : Int) := by omega
              have HR : Hid (Cm.getRes s = (((n : Int), (s[1].toNat : Int) % 2 == 1, (0 : Int), (s[1].toNat : Int) / 2), 2, 0)) := HT.out h2i n false _ hbg h4
              clear hbg HN HS HO HT
              have b1 : 0 ≤ (s[1].toNat : Int) ∧ (s[1].toNat : Int) ≤ 255 := by have := s[1].toNat_lt; omega
              go_wp2
              go_region
              all_goals
                clear b1
                obtain ⟨y, hy⟩ : ∃ y : Int, y = (s[1].toNat : Int) := ⟨_, rfl⟩
                rw [← hy] at HR ⊢
                clear hy
                go_wp2
                exact bodyPost_ret (v := getV (((n : Int), y % 2 == 1, 0, y / 2), 2, 0)) (by simp [results, Tryd.results41, go_sem, getV]) rfl ⟨by rw [HR.out], (((Below.refl _ _).alloc (Nat.le_refl _) _).alloc (by simp) _).drew⟩
          · have HL2 : Hid (Looked x (n + 1) m') := HL.out.low hn1 h4 (fun e => hx (e.trans ho.symm))
            have tx : (x == o) = false := by simp [hx]
            clear hx ho HL
            go_wp2_with fail
            refine hM.mono ?_
            rintro e w' ⟨rfl, rfl⟩
            go_wp2_with fail
            refine hO.mono ?_
            rintro e w' ⟨rfl, rfl⟩
            clear hM hO
            go_wp2
            go_round
            case rel => exact ⟨n + 1, m', by omega, by go_num, HL2⟩
            case measure => simp [intOf]; omega
        · rw [numd_high n (by omega)] at hM
          by_cases hx : x = o
          · have HR : Hid (Cm.getRes s = (((n : Int), false, 0, 0), 1, 0)) := HN.out n false _ (HL.out.hit hn1 (hx.trans ho)) (by omega)
            have tx : (x == o) = true := by simp [hx]
            have t2 : (x == o + 16) = false := by simp; omega
            clear hx ho HL HN HS HO HT
            go_wp2_with fail
            refine hM.mono ?_
            rintro e w' ⟨rfl, rfl⟩
            go_wp2_with fail
            refine hO.mono ?_
            rintro e w' ⟨rfl, rfl⟩
            clear hM hO
            go_wp2
            exact bodyPost_ret (v := getV (((n : Int), false, 0, 0), 1, 0)) (by simp [results, Tryd.results41, go_sem, getV]) rfl ⟨by rw [HR.out], (Below.refl _ _).alloc (Nat.le_refl _) _⟩
          · have tx : (x == o) = false := by simp [hx]
            by_cases hx2 : x = o + 16
            · have HR : Hid (Cm.getRes s = (((n : Int), true, 0, 0), 1, 0)) := HN.out n true _ (HL.out.hit2 (by omega) (by rw [← ho]; exact hx2)) (by omega)
              have t2 : (x == o + 16) = true := by simp [hx2]
              clear hx hx2 ho HL HN HS HO HT
              go_wp2_with fail
              refine hM.mono ?_
              rintro e w' ⟨rfl, rfl⟩
              go_wp2_with fail
              refine hO.mono ?_
              rintro e w' ⟨rfl, rfl⟩
              clear hM hO
              go_wp2
              exact bodyPost_ret (v := getV (((n : Int), true, 0, 0), 1, 0)) (by simp [results, Tryd.results41, go_sem, getV]) rfl ⟨by rw [HR.out], (Below.refl _ _).alloc (Nat.le_refl _) _⟩
            · have HL2 : Hid (Looked x (n + 1) m') := HL.out.high (by omega) (fun e => hx (e.trans ho.symm)) (fun e => hx2 (by rw [ho]; exact e))
              have t2 : (x == o + 16) = false := by simp [hx2]
              clear hx hx2 ho HL
              go_wp2_with fail
              refine hM.mono ?_
              rintro e w' ⟨rfl, rfl⟩
              go_wp2_with fail
              refine hO.mono ?_
              rintro e w' ⟨rfl, rfl⟩
              clear hM hO
              go_wp2
              go_round
              case rel => exact ⟨n + 1, m', by omega, by go_num, HL2⟩
              case measure => simp [intOf]; omega
    · obtain rfl : m = 0 := by omega
      obtain rfl : n = 10 := by omega
      have HR : Hid (Cm.getRes s = ((0, false, 0, 0), 0, 4)) := HO.out HL.out.over
      clear HN HS HO HT HL
      go_wp2
      exact bodyPost_ret (v := getV ((0, false, 0, 0), 0, 4)) (by simp [results, Tryd.results41, go_sem, getV]) rfl ⟨by rw [HR.out], hq0⟩

theorem ref_cget_any (s : ByteArray) (w : World) (hs : s.size ≤ 140737488355328) :
    Calls Tryd.prog 41 #[.string s] w fun e w' => e = .returned (getV (Cm.getRes s)) ∧ Below w.heap.size w w' := by
  by_cases h : s.size = 0
  · exact ref_cget_empty s w h
  · exact ref_cget_some s w hs (by omega)
end Go.Proofs.YtdcohbdndkphnaaDoor
