/-
  The walk of the law AddrOne: it returns true.
-/
import Derived.Test.YtgkegjhnhchomaaAdrMap
import Derived.Test.YtgkegjhnhchomaaAddrWakes
namespace Go.Proofs.Ytgkegjhnhchomaa
open Go.RowKit Go.Maps Go.WideMaps
set_option linter.unusedVariables false
set_option linter.unusedSimpArgs false

theorem u8_mask (x : Int) (m : Nat) (hm : m < 256) (h0 : 0 ≤ x) (h1 : x ≤ 255) : 0 ≤ bits .and .u8 x (m : Int) ∧ bits .and .u8 x (m : Int) ≤ (m : Int) := by
  obtain ⟨n, rfl⟩ : ∃ n : Nat, x = (n : Int) := ⟨x.toNat, by omega⟩
  have e : bits .and .u8 (n : Int) (m : Int) = ((n &&& m : Nat) : Int) := by
    rw [Go.u8_and _ _ h0 (by omega) (by omega) (by omega), Int.toNat_natCast, Int.toNat_natCast]
  rw [e]
  have := @Nat.and_le_right n m
  omega
theorem put_good' (a b : Int) (c : Bool) (h : Am.good a b) : Am.putRes a b c = (strOfNums (Am.octs2 a b c), 0) := by rw [Am.putRes, if_pos h]

set_option maxHeartbeats 2000000 in
set_option maxRecDepth 100000 in
theorem walk_AddrOne (a : Option Addr) (len cap : Nat) (ps : List (Int × Int)) (w : World) (hr : RowB w a len cap ps) :
    Calls Try.prog 8 #[.slice a len cap] w fun e w' => e = .returned (.bool true) ∧ Below w.heap.size w w' := by
  have hlc : len ≤ cap := hr.2.1
  have hcm : cap ≤ 9223372036854775807 := by have := hr.2.2.1; unfold maxLen at this; exact this
  obtain ⟨m, hmin, hm100, hml⟩ : ∃ m : Nat, min (len : Int) 100 = (m : Int) ∧ m ≤ 100 ∧ m ≤ len := ⟨(min (len : Int) 100).toNat, by omega, by omega, by omega⟩
  have hfr : a.map (·.add 0) = a := by
    cases a with
    | none => rfl
    | some x => simp [Addr.add]
  have HR : Hid (RowB w a len cap ps) := hr
  clear hr
  have hmm := @run_makeMap Try.prog
  go_enter Try.func8, Try.ntmps8
  go_wp2
  all_goals
    first
      | (have e100 : max (100 : Int) 0 = (m : Int) := by omega
         rw [e100])
      | (obtain rfl : m = len := by omega)
    clear hmin hmm
    go_loopw [18] (fun c wr => ∃ (i : Nat) (D : DataW Unit), i ≤ m ∧ c = .int .i64 i ∧ wr.ownsMap Try.prog 9 adrElem w.heap.size i D ∧ Hid (MapInv D) ∧ Below w.heap.size w wr) (fun c _ => m - (intOf c).toNat)
    case atStart => exact ⟨0, .map [], Nat.zero_le _, rfl, World.ownsMap_made _ _ _ _, mapInv_start, (Below.refl _ _).alloc (Nat.le_refl _) _⟩
    case round =>
      obtain ⟨i, D, him, rfl, hown, HI, hbel⟩ := hrel
      by_cases hlt : i < m
      · obtain ⟨bb, off, x, y, rfl, hbb, hcx, hcy, ⟨hx0, hx1⟩, hy0, hy1⟩ := HR.out.at i (by omega)
        have hkx := (hbel.cell (p := ⟨bb, off + i * 2, none⟩) hbb).trans hcx
        have hky := (hbel.cell (p := ⟨bb, off + i * 2 + 1, none⟩) hbb).trans hcy
        clear hcx hcy
        have hxm := u8_mask x 63 (by decide) hx0 hx1
        have hym := u8_mask y 127 (by decide) hy0 hy1
        obtain ⟨p, hp⟩ : ∃ p, bits .and .u8 x 63 = p := ⟨_, rfl⟩
        obtain ⟨q, hq⟩ : ∃ q, bits .and .u8 y 127 = q := ⟨_, rfl⟩
        have HG : Hid (Am.good p q) := by rw [← hp, ← hq]; exact ⟨hxm, hym⟩
        have hp0 : 0 ≤ p ∧ p ≤ 63 := HG.out.1
        have hq0 : 0 ≤ q ∧ q ≤ 127 := HG.out.2
        obtain ⟨hp0, hp1⟩ := hp0
        obtain ⟨hq0, hq1⟩ := hq0
        clear hxm hym
        have hsz := hbel.size
        have hi100 : (i : Int) < 100 := by omega
        have hput := put_any p q ((i : Int) % 2 == 0) ((wr.alloc (.cells #[.int .u8 x, .int .u8 y] 55)).alloc (.cells #[.int .i64 p, .int .i64 q, .bool ((i : Int) % 2 == 0)] 35))
        rw [put_good' p q _ HG.out] at hput
        go_wp2_with fail
        refine hput.mono ?_
        rintro e w2 ⟨rfl, hb2⟩
        clear hput
        obtain ⟨c, hc⟩ : ∃ c, c = ((i : Int) % 2 == 0) := ⟨_, rfl⟩
        rw [← hc] at hb2 ⊢
        clear hc
        have e1 : (wr.alloc (.cells #[.int .u8 x, .int .u8 y] 55)).heap.size = wr.heap.size + 1 := by simp
        have hown2 : w2.ownsMap Try.prog 9 adrElem w.heap.size i D := own_map_later ((hown.alloc _).alloc _) hb2
        have k0 : w2.cell? ⟨wr.heap.size + 1, 0, none⟩ = some (.int .i64 p) := (hb2.cell (p := ⟨wr.heap.size + 1, 0, none⟩) (by simp)).trans (by rw [← e1]; simp)
        have k1 : w2.cell? ⟨wr.heap.size + 1, 1, none⟩ = some (.int .i64 q) := (hb2.cell (p := ⟨wr.heap.size + 1, 1, none⟩) (by simp)).trans (by rw [← e1]; simp)
        have k2 : w2.cell? ⟨wr.heap.size + 1, 2, none⟩ = some (.bool c) := (hb2.cell (p := ⟨wr.heap.size + 1, 2, none⟩) (by simp)).trans (by rw [← e1]; simp)
        have hlt2 : wr.heap.size + 1 < w2.heap.size := by have := hb2.size; simp at this; omega
        have q2 : Below w.heap.size w w2 := ((hbel.alloc hsz _).alloc (by simp; omega) _).trans (hb2.mono (by simp; omega))
        have hI2 := mapInv_put HI.out hown2.isMap p q c HG.out
        have HI2 : Hid (MapInv (D.put (keyL p q c) (datum p q c))) := hI2
        clear hown hb2 e1 hkx hky hp hq hI2 hx0 hx1 hy0 hy1 hbb
        have hmax : i < maxLen := by unfold maxLen; omega
        go_wp2_with (first | (at_lookup; refine lookup_adr _ rfl _ _ rfl w.heap.size i D rfl hown2 HI.out p q c HG.out rfl ?_ (fun a' b' c' => ?_)) | (at_mapUpdate; refine wpList_mapUpdate_own _ rfl _ _ _ 54 rfl 9 35 mlaw Try.underlying54 _ w.heap.size i D rfl (hown2.alloc _) hmax _ _ (keyL p q c) rfl rfl (key_of p q c) (datum p q c) [] rfl ?_; intro w4 hown4 hgrow))
        all_goals
          go_wp2
          go_roundw
          case rel => exact ⟨i + 1, D.put (keyL p q c) (datum p q c), by omega, by go_num, hown4, HI2, (q2.alloc q2.size _).grown hgrow (by have := q2.size; simp; omega) (fun j hj => by cases hj; exact Nat.le_refl _)⟩
          case measure => simp [intOf]; omega
      · go_wp2_with fail
        refine (wakes_any _).mono ?_
        rintro e w1 ⟨rfl, hb1⟩
        go_wp2
        go_ret
        exact ⟨rfl, hbel.trans (hb1.mono hbel.size)⟩
end Go.Proofs.Ytgkegjhnhchomaa
