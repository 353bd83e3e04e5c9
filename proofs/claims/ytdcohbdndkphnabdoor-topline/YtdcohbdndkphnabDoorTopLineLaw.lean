/-
  The walk of the law TopLine: it returns true.
-/
import Derived.Test.YtdcohbdndkphnabDoorLookWalks
import Derived.Test.YtdcohbdndkphnabDoorTextRow
import Derived.Test.YtdcohbdndkphnabDoorFlipWalks
import Derived.Deep.DeepCutAuto
namespace Go.Proofs.YtdcohbdndkphnabDoor
open Go.RowKit
set_option linter.unusedVariables false
set_option linter.unusedSimpArgs false

theorem slice_same (a : Option Addr) : a.map (·.add 0) = a := by
  cases a with
  | none => rfl
  | some x => simp [Addr.add]

theorem line_whole {B E T : ByteArray} {gs : List Xm.Fr} {F : Xm.Fr} (h : Tm.Line B gs) (hE : encB T = E) (h1 : 5 ≤ T.size) (h2 : T.size ≤ 106) (hg : Xm.getRes T false = (F, 0)) : Tm.Line (B ++ (E ++ ⟨#[48, 49, 49, 49, 49, 49, 49, 48]⟩)) (gs ++ [F]) := by
  rw [← hE]
  exact h.step (encB T) [F] (fun st hr => Tm.whole (by omega) (by omega) hg st hr)
theorem line_broken {B E T : ByteArray} {gs : List Xm.Fr} (h : Tm.Line B gs) (hE : encB T = E) (j : Nat) (hj : j + 16 ≤ E.size) : Tm.Line (B ++ (E.extract 0 (8 + j) ++ ⟨#[49, 49, 49, 49, 49, 49, 49, 49]⟩ ++ ⟨#[48, 49, 49, 49, 49, 49, 49, 48]⟩)) gs := by
  rw [← hE] at hj ⊢
  exact h.broken T j hj
theorem line_turned {B E T : ByteArray} {gs : List Xm.Fr} (h : Tm.Line B gs) (hE : encB T = E) (j : Nat) (hj : j + 16 < E.size) (hok : Tm.heard (Hm.feedS Hm.init (Bm.nums (strOfNums (Bm.flips (Bm.nums E) [((8 + j : Nat) : Int)])))).2 = []) :
    Tm.Line (B ++ (strOfNums (Bm.flips (Bm.nums E) [((8 + j : Nat) : Int)]) ++ ⟨#[48, 49, 49, 49, 49, 49, 49, 48]⟩)) gs := by
  rw [← hE] at hj hok ⊢
  have := h.step (Tm.turned T ((8 + j : Nat) : Int)) [] (fun st hr => by
    obtain ⟨e1, e2⟩ := Tm.turned_same T j hj st hr
    exact ⟨e1, by rw [e2]; exact hok⟩)
  rw [List.append_nil] at this
  exact this
theorem one_at (w : World) (x : Int) : ∀ q, q < 1 → (w.alloc (.cells #[.int .i64 x] 3)).cell? ⟨w.heap.size, 0 + q, none⟩ = some (.int .i64 ([x].getD q 0)) := by
  intro q hq
  have : q = 0 := by omega
  subst this
  simp
theorem quiet_same {evs : List Hm.Ev} {q : Nat} {y : Hm.Ev} {ob : Bool} (h : Tm.heard (evs.take (q + 1)) = Tm.heard (evs.take q) ++ (Tm.hear1 y).toList) (hn : Tm.hear1 y = none) (ho : ob = (Tm.heard (evs.take q)).isEmpty) : ob = (Tm.heard (evs.take (q + 1))).isEmpty := by
  rw [h, hn, ho]; simp
theorem quiet_not {evs : List Hm.Ev} {q : Nat} {y : Hm.Ev} {f : Xm.Fr} (h : Tm.heard (evs.take (q + 1)) = Tm.heard (evs.take q) ++ (Tm.hear1 y).toList) (hn : Tm.hear1 y = some f) : false = (Tm.heard (evs.take (q + 1))).isEmpty := by
  rw [h, hn]; simp
theorem own_later {w w' : World} {base n : Nat} {v : Value} {xs : List Value} (h : w.ownsRow base 28 8 v n xs) (hb : Below w.heap.size w w') : w'.ownsRow base 28 8 v n xs :=
  (Kept.of_below (T := fun _ => False) hb (fun k hk h' => by omega)).owns h (fun _ _ x => x)
theorem row_at {w : World} {a : Option Addr} {len cap : Nat} {xs : List Int} (h : Row .i64 w a len cap xs) (i : Nat) (hi : i < len) : ∃ b off x, a = some ⟨b, off, none⟩ ∧ b < w.heap.size ∧ w.cell? ⟨b, off + i, none⟩ = some (.int .i64 x) ∧ (-9223372036854775808 ≤ x ∧ x ≤ 9223372036854775807) := by
  obtain ⟨h1, h2, h3, h4, h5⟩ := h
  rcases h5 with ⟨_, h0, _⟩ | ⟨_, h0⟩ | ⟨b, off, e, _, hlt, hc⟩
  · omega
  · omega
  · have hm : xs.getD i 0 ∈ xs := by
      rw [List.getD, List.getElem?_eq_getElem (by omega)]
      exact List.getElem_mem _
    exact ⟨b, off, _, e, hlt, hc i hi, bounds_i64 (h4 _ hm)⟩

/-- a new decoder, and no frames yet -/
theorem hears_new {wo wA : World} (hd : Dec wA wo.heap.size wo.heap.size (.slice none 0 0) Hm.init) (hb : Below wo.heap.size wo wA) (t1 t2 : TypeId) :
    Hears wo.heap.size ((wA.alloc (.cells #[.pointer (some ⟨wo.heap.size, 0, none⟩)] t1)).alloc (.cells #[.slice none 0 0] t2)) wA.heap.size (wA.heap.size + 1) wo.heap.size (.slice none 0 0) (.slice none 0 0) Hm.init [] ∧
      Below wo.heap.size wo ((wA.alloc (.cells #[.pointer (some ⟨wo.heap.size, 0, none⟩)] t1)).alloc (.cells #[.slice none 0 0] t2)) := by
  have hs := hb.size
  have hlt := hd.lt
  have hq : Below wA.heap.size wA ((wA.alloc (.cells #[.pointer (some ⟨wo.heap.size, 0, none⟩)] t1)).alloc (.cells #[.slice none 0 0] t2)) := ((Below.refl _ _).alloc (Nat.le_refl _) _).alloc (by simp) _
  refine ⟨⟨by simp, by simp, by simp, hd.below hq (Nat.le_refl _), World.ownsRow_nil _ _ _ _, hs, by omega, by omega, by omega, by omega, by simp [Value.ownBlock], by simp [Value.ownBlock], by simp [Value.ownBlock], by simp [Value.ownBlock], by simp [Value.ownBlock], fun k hk => by simp [Value.ownBlock] at hk⟩, hb.trans (hq.mono hs)⟩
theorem nums_cut0 (s : ByteArray) (n : Nat) : Bm.nums (s.extract 0 n) = (Bm.nums s).take n := by simp [Bm.nums, ByteArray.data_extract, List.map_take]
theorem nums_parts (s : ByteArray) (n : Nat) (h : n ≤ s.size) : Bm.nums s = Bm.nums (s.extract 0 n) ++ Bm.nums (s.extract n s.size) := by
  rw [← nums_app, Xm.cut_join s n h]
theorem heard_le (l : List Hm.Ev) : (Tm.heard l).length ≤ l.length := List.length_filterMap_le _ _
/-- what was fed, and one piece more -/
theorem fed_more {cs : List Int} {R : ByteArray} (S : ByteArray) : Tm.heard (Hm.feedS Hm.init (cs ++ Bm.nums S)).2 = Tm.heard (Hm.feedS Hm.init cs).2 ++ Tm.heard (Hm.feedS (Hm.feedS Hm.init cs).1 (Bm.nums S)).2 ∧ (Hm.feedS Hm.init (cs ++ Bm.nums S)).1 = (Hm.feedS (Hm.feedS Hm.init cs).1 (Bm.nums S)).1 := by
  rw [Hm.feed_append]
  exact ⟨Tm.heard_append _ _, rfl⟩
/-- one frame of a row -/
theorem row_fr {w : World} {base n cap : Nat} {x : Option Addr} {gs : List Xm.Fr} (h : w.ownsRow base 28 8 (.slice x n cap) n (frCells gs)) (hn : n = gs.length) (i : Nat) (hi : i < gs.length) :
    ∃ g, x = some ⟨g, 0, none⟩ ∧ g < w.heap.size ∧ w.cell? ⟨g, i * 8, none⟩ = some (.int .i64 gs[i].sapi) ∧ w.cell? ⟨g, i * 8 + 1, none⟩ = some (.int .i64 gs[i].tei) ∧ w.cell? ⟨g, i * 8 + 2, none⟩ = some (.bool gs[i].c) ∧ w.cell? ⟨g, i * 8 + 3, none⟩ = some (.int .i64 gs[i].k) ∧
      w.cell? ⟨g, i * 8 + 4, none⟩ = some (.bool gs[i].pf) ∧ w.cell? ⟨g, i * 8 + 5, none⟩ = some (.int .i64 gs[i].ns) ∧ w.cell? ⟨g, i * 8 + 6, none⟩ = some (.int .i64 gs[i].nr) ∧ w.cell? ⟨g, i * 8 + 7, none⟩ = some (.string gs[i].info) := by
  subst hn
  obtain ⟨g, hg⟩ : ∃ g, x = some ⟨g, 0, none⟩ := by
    rcases h.2 with ⟨_, h0⟩ | ⟨g, cap', cur, h', _⟩
    · omega
    · injection h' with h1 h2 h3; exact ⟨g, h1⟩
  subst hg
  have hl := frCells_length gs
  have hsplit : gs = gs.take i ++ gs[i] :: gs.drop (i + 1) := by rw [List.getElem_cons_drop, List.take_append_drop]
  have hcell : ∀ j, j < 8 → w.cell? ⟨g, i * 8 + j, none⟩ = (frCells [gs[i]])[j]? := by
    intro j hj
    rw [h.cellAt (i * 8 + j) (by omega)]
    generalize hy : gs[i] = y at hsplit
    rw [hsplit, frCells_append, show y :: gs.drop (i + 1) = [y] ++ gs.drop (i + 1) from rfl, frCells_append, List.getElem?_append_right (by rw [frCells_length, List.length_take]; omega), frCells_length, List.length_take, show i * 8 + j - min i gs.length * 8 = j from by rw [Nat.min_eq_left (by omega)]; omega, List.getElem?_append_left (by rw [frCells_length]; simpa using hj)]
  exact ⟨g, rfl, (h.lt g rfl).2, by simpa [frCells] using hcell 0 (by decide), by simpa [frCells] using hcell 1 (by decide), by simpa [frCells] using hcell 2 (by decide), by simpa [frCells] using hcell 3 (by decide), by simpa [frCells] using hcell 4 (by decide), by simpa [frCells] using hcell 5 (by decide), by simpa [frCells] using hcell 6 (by decide), by simpa [frCells] using hcell 7 (by decide)⟩

set_option maxHeartbeats 8000000 in
set_option maxRecDepth 100000 in
theorem walk_TopLine (a : Option Addr) (len cap : Nat) (zs : List Txt) (a1 : Option Addr) (len1 cap1 : Nat) (xs1 : List Int) (a2 : Option Addr) (len2 cap2 : Nat) (xs2 : List Int) (w : World)
    (hr : TextRow w a len cap zs) (hr1 : Row .i64 w a1 len1 cap1 xs1) (hr2 : Row .i64 w a2 len2 cap2 xs2) (hL : Laws6 w) (hm : MaxOk w) :
    Calls Tryd.prog 5 #[.slice a len cap, .slice a1 len1 cap1, .slice a2 len2 cap2] w fun e w' => e = .returned (.bool true) ∧ Below w.heap.size w w' := by
  have hlc : len ≤ 9223372036854775807 := by have := hr.2.1; have := hr.2.2.1; unfold maxLen at this; omega
  have hlc1 : len1 ≤ 9223372036854775807 := by have := hr1.2.1; have := hr1.2.2.1; unfold maxLen at this; omega
  have hlc2 : len2 ≤ 9223372036854775807 := by have := hr2.2.1; have := hr2.2.2.1; unfold maxLen at this; omega
  have hcc : cap ≤ 9223372036854775807 := by have := hr.2.2.1; unfold maxLen at this; omega
  have hcc2 : cap2 ≤ 9223372036854775807 := by have := hr2.2.2.1; unfold maxLen at this; omega
  have hlcap : len ≤ cap := hr.2.1
  have hlcap2 : len2 ≤ cap2 := hr2.2.1
  obtain ⟨m, hmin, hm20, hml⟩ : ∃ m : Nat, min (len : Int) 20 = (m : Int) ∧ m ≤ 20 ∧ m ≤ len := ⟨(min (len : Int) 20).toNat, by omega, by omega, by omega⟩
  have hfr := slice_same a
  have HR : Hid (TextRow w a len cap zs) := hr
  have HR1 : Hid (Row .i64 w a1 len1 cap1 xs1) := hr1
  have HR2 : Hid (Row .i64 w a2 len2 cap2 xs2) := hr2
  have HL : Hid (Laws6 w) := hL
  have HM : Hid (MaxOk w) := hm
  clear hr hr1 hr2 hL hm
  go_enter Tryd.func5, Tryd.ntmps5
  go_wp2_with fail
  refine (reads_any _ HL.out HM.out).mono ?_
  rintro e w1 ⟨rfl, hb1⟩
  go_wp2
  go_loopw [7, 8, 39] (fun wv bv c wr => ∃ (i : Nat) (B : ByteArray) (gs : List Xm.Fr), i ≤ m ∧ c = .int .i64 i ∧ bv = .string B ∧ B.size ≤ 5000 * i ∧ Hid (Tm.Line B gs) ∧ gs.length ≤ i ∧
      wr.ownsRow w.heap.size 28 8 wv gs.length (frCells gs) ∧ Below w.heap.size w wr)
    (fun _ _ c _ => m - (intOf c).toNat)
  case atStart => exact ⟨0, ByteArray.empty, [], Nat.zero_le _, rfl, rfl, by simp, Tm.line_nil, Nat.le_refl _, World.ownsRow_nil _ _ _ _, hb1⟩
  case round =>
    obtain ⟨i, B, gs, him, rfl, rfl, hBz, HB, hgl, hown, hbel⟩ := hrel
    generalize wr = wo at hown hbel ⊢
    by_cases hlt : i < m
    · obtain ⟨fb, fo, z, hfa, hfb, hfz, hzk, hzi⟩ := HR.out.at i (by omega)
      subst hfa
      obtain ⟨t0, t1, t2, t3, t4⟩ := hfz.later hbel hfb
      have hfb' : fb < wo.heap.size := Nat.lt_of_lt_of_le hfb hbel.size
      obtain ⟨zk, zn, zr, zp, zf⟩ := z
      simp only at t0 t1 t2 t3 t4 hzk hzi
      obtain ⟨i4, hi4, hi4'⟩ : ∃ i4 : Nat, max 0 zk % 4 = (i4 : Int) ∧ i4 < 4 := ⟨(max 0 zk % 4).toNat, by omega, by omega⟩
      have hMd := made_top zk zn zr zp zf i4 (wo.alloc (.cells #[.int .i64 zk, .int .i64 zn, .int .i64 zr, .bool zp, .string zf] 43)) hzk hzi hi4
      obtain ⟨T, hT, hT1, hT2, hT3⟩ := Tm.made_ok i4 hi4' zn zr zp zf
      generalize Tm.madeF i4 zn zr zp zf = F at hMd hT hT3
      obtain ⟨sapi, tei, c, k, pf, ns, nr, info⟩ := F
      simp only [frV] at hMd
      have hq0 : Below wo.heap.size wo (wo.alloc (.cells #[.int .i64 zk, .int .i64 zn, .int .i64 zr, .bool zp, .string zf] 43)) := (Below.refl _ _).alloc (Nat.le_refl _) _
      clear hfz hi4 hi4' hzk hzi
      go_wp2_with fail
      refine hMd.mono ?_
      rintro e w2 ⟨rfl, hb2⟩
      clear hMd t0 t1 t2 t3 t4
      have hq2 := hq0.trans (hb2.mono hq0.size)
      clear hb2 hq0
      have hqa : Below w2.heap.size w2 (w2.alloc (.cells #[.int .i64 sapi, .int .i64 tei, .bool c, .int .i64 k, .bool pf, .int .i64 ns, .int .i64 nr, .string info] 28)) := (Below.refl _ _).alloc (Nat.le_refl _) _
      have hC2 := frc_new w2 sapi tei c k pf ns nr info 28
      have hq3 := hq2.trans (hqa.mono hq2.size)
      have hqw3 := hbel.trans (hq3.mono hbel.size)
      have his : info.size ≤ 260 := by have := (Xm.put_size (f := ⟨sapi, tei, c, k, pf, ns, nr, info⟩) (net := false) (by rw [hT])).2; exact this
      have hP := fput_any sapi tei c k pf ns nr info false _ (by omega) (HL.out.later hqw3)
      rw [hT] at hP
      have HT3 : Hid (Xm.getRes T false = (⟨sapi, tei, c, k, pf, ns, nr, info⟩, 0)) := hT3
      clear hT hT3 hqa hq2
      go_wp2_with fail
      refine hP.mono ?_
      rintro e w4 ⟨rfl, hb4⟩
      clear hP
      have hq4 := hq3.trans (hb4.mono hq3.size)
      have hC4 := hC2.later hb4
      have hqw4 := hqw3.trans (hb4.mono hqw3.size)
      clear hb4 hC2 hq3 hqw3
      go_wp2_with fail
      refine (encode_any T _ (by omega) (HM.out.later hqw4 HM.out.lt)).mono ?_
      rintro e w5 ⟨rfl, hb5⟩
      have hq5 := hq4.trans (hb5.mono hq4.size)
      have hC5 := hC4.later hb5
      clear hb5 hC4 hq4 hqw4
      obtain ⟨hz1, hz2⟩ := enc_size T
      generalize hE : encB T = E at hz1 hz2
      have HE : Hid (encB T = E) := hE
      clear hE
      have hz1' : (16 : Int) + 40 ≤ (E.size : Int) := by omega
      have hz2' : (E.size : Int) ≤ 16 + 16 * 106 := by omega
      have hqw5 := hbel.trans (hq5.mono hbel.size)
      go_upto_if 61 with fail
      go_cut [16] (fun kv wx => ∃ kn : Nat, kv = .int .i64 kn ∧ kn ≤ 9223372036854775807 ∧ Below w5.heap.size w5 wx)
      case first =>
        by_cases hi1 : i < len1
        · obtain ⟨sb, so, x, hsa, hsb, hsc, hx⟩ := row_at HR1.out i hi1
          subst hsa
          have hsc5 := (hqw5.cell (p := ⟨sb, so + i, none⟩) hsb).trans hsc
          have hsb5 : sb < w5.heap.size := Nat.lt_of_lt_of_le hsb hqw5.size
          clear hsc
          go_wp2
          go_meet
          case rel => exact ⟨(max 0 x).toNat, by rw [show (((max 0 x).toNat : Nat) : Int) = max 0 x from by omega], by omega, Below.refl _ _⟩
        · go_wp2
          go_meet
          case rel => exact ⟨0, rfl, by omega, Below.refl _ _⟩
      case rest =>
        obtain ⟨kn, rfl, hkn, hbc⟩ := hcut
        have hC6 := hC5.later hbc
        have hq6 := hq5.trans (hbc.mono hq5.size)
        have hown6 := own_later hown hq6
        have hqw6 := hbel.trans (hq6.mono hbel.size)
        clear hbc hC5 hq5 hqw5 hown hq6
        obtain ⟨ux, ucap, huv⟩ := fr_shape hown6
        subst huv
        obtain ⟨i0, hi, hz0, hzs, hzb⟩ := info_parts info_fr
        have hbw6 : w.heap.size ≤ wc.heap.size := hqw6.size
        by_cases hk0 : kn = 0
        · subst hk0
          obtain ⟨la, c0, c1, c2, c3, c4, c5, c6, c7⟩ := hC6
          go_wp2_with (at_builtin; refine wpList_append_at _ rfl _ _ 41 rfl w.heap.size 28 i0 (.agg #[.int .i64 0, .int .i64 0, .bool false, .int .i64 0, .bool false, .int .i64 0, .int .i64 0, .string ByteArray.empty]) 8 72 Tryd.underlying41 hi hz0 hzs hzb rfl (by decide) _ _ _ rfl (hown6.alloc _) ⟨wc.heap.size, 0, none⟩ 1 1 (frCells [⟨sapi, tei, c, k, pf, ns, nr, info⟩]) rfl rfl (fr_new ⟨sapi, tei, c, k, pf, ns, nr, info⟩) (frCells_one _) ?c3 ?c4 ?c5 (by decide) ?_)
          case c3 => unfold maxLen; omega
          case c4 => omega
          case c5 => simp; omega
          intro g' cap' w8 ho8 hg8 hw8
          have hqw8 : Below w.heap.size w w8 := (hqw6.alloc hqw6.size _).grown hg8 (by simp; omega) (own_base hown6)
          clear hg8 hw8 hown6
          have HLN : Hid _ := line_whole HB.out HE.out hT1 hT2 HT3.out
          have hEz : (E ++ (⟨#[48, 49, 49, 49, 49, 49, 49, 48]⟩ : ByteArray)).size = E.size + 8 := by rw [ByteArray.size_append]; rfl
          go_wp2
          go_roundw
          case rel => exact ⟨i + 1, _, _, by omega, by go_num, rfl, by rw [ByteArray.size_append, hEz]; omega, HLN, by rw [List.length_append]; simp; omega, by rw [List.length_append, frCells_append]; exact ho8, hqw8⟩
          case measure => simp [intOf]; omega
        · have t0 : ((kn : Int) == 0) = false := by simp; omega
          by_cases hk3 : kn % 3 = 0
          · have t3 : ((kn : Int) % 3 == 0) = true := by simp; omega
            obtain ⟨j, hj, hj2⟩ : ∃ j : Nat, (kn : Int) % ((E.size : Int) - 16) = (j : Int) ∧ j + 16 < E.size := by
              have h1 := Int.emod_nonneg (kn : Int) (show (E.size : Int) - 16 ≠ 0 by omega)
              have h2 := Int.emod_lt_of_pos (kn : Int) (show 0 < (E.size : Int) - 16 by omega)
              exact ⟨((kn : Int) % ((E.size : Int) - 16)).toNat, by omega, by omega⟩
            have HLN : Hid _ := line_broken HB.out HE.out j (by omega)
            have hj3 : ((8 : Int) + (j : Int)).toNat = 8 + j := by omega
            have hj4 : (8 : Int) + (j : Int) ≤ (E.size : Int) := by omega
            have hEz : (E.extract 0 (8 + j) ++ (⟨#[49, 49, 49, 49, 49, 49, 49, 49]⟩ : ByteArray)).size ≤ 2000 := by rw [ByteArray.size_append, ByteArray.size_extract]; show _ + 8 ≤ 2000; omega
            have hEz2 : (E.extract 0 (8 + j)).size ≤ 2000 := by rw [ByteArray.size_extract]; omega
            have hEz3 : (E.extract 0 (8 + j) ++ (⟨#[49, 49, 49, 49, 49, 49, 49, 49]⟩ : ByteArray) ++ (⟨#[48, 49, 49, 49, 49, 49, 49, 48]⟩ : ByteArray)).size ≤ 2008 := by rw [ByteArray.size_append]; show _ + 8 ≤ 2008; omega
            clear hk3 hC6
            go_wp2
            go_roundw
            case rel => exact ⟨i + 1, _, _, by omega, by go_num, rfl, by rw [ByteArray.size_append]; omega, HLN, by omega, hown6, hqw6⟩
            case measure => simp [intOf]; omega
          · have t3 : ((kn : Int) % 3 == 0) = false := by simp; omega
            obtain ⟨j, hj, hj2⟩ : ∃ j : Nat, (kn : Int) % ((E.size : Int) - 16) = (j : Int) ∧ j + 16 < E.size := by
              have h1 := Int.emod_nonneg (kn : Int) (show (E.size : Int) - 16 ≠ 0 by omega)
              have h2 := Int.emod_lt_of_pos (kn : Int) (show 0 < (E.size : Int) - 16 by omega)
              exact ⟨((kn : Int) % ((E.size : Int) - 16)).toNat, by omega, by omega⟩
            have hqx : Below wc.heap.size wc (wc.alloc (.cells #[.int .i64 ((8 : Int) + (j : Int))] 3)) := (Below.refl _ _).alloc (Nat.le_refl _) _
            have hFl := flip_some E wc.heap.size 0 1 1 [(8 : Int) + (j : Int)] (wc.alloc (.cells #[.int .i64 ((8 : Int) + (j : Int))] 3)) (by omega) (by simp) rfl (by decide) (one_at _ _)
            have HCz : Hid ((strOfNums (Bm.flips (Bm.nums E) [(8 : Int) + (j : Int)])).size = E.size) := by show _ = _; rw [strOfNums_size, Bm.flips_length, Bm.nums_length]
            have HLT : Hid (∀ (hok : Tm.heard (Hm.feedS Hm.init (Bm.nums (strOfNums (Bm.flips (Bm.nums E) [(8 : Int) + (j : Int)])))).2 = []), Tm.Line (B ++ (strOfNums (Bm.flips (Bm.nums E) [(8 : Int) + (j : Int)]) ++ ⟨#[48, 49, 49, 49, 49, 49, 49, 48]⟩)) gs) := by
              intro hok
              have e8 : (8 : Int) + (j : Int) = ((8 + j : Nat) : Int) := by omega
              rw [e8] at hok ⊢
              exact line_turned HB.out HE.out j hj2 hok
            generalize strOfNums (Bm.flips (Bm.nums E) [(8 : Int) + (j : Int)]) = C at hFl HCz HLT
            have hCz := HCz.out
            clear HCz hk3
            go_wp2_with fail
            refine hFl.mono ?_
            rintro e w7 ⟨rfl, hb7⟩
            clear hFl
            have hq7 := hqx.trans (hb7.mono hqx.size)
            clear hb7 hqx
            have hC7 := hC6.later hq7
            have hown7 := own_later hown6 hq7
            have hqw7 := hqw6.trans (hq7.mono hqw6.size)
            clear hC6 hown6 hqw6 hq7
            go_wp2_with fail
            refine (new_any _).mono ?_
            rintro e w8 ⟨rfl, hdn, hb8⟩
            have hd8 := hdn w7.heap.size (Nat.le_refl _)
            have hs8 := hb8.size
            clear hdn
            go_wp2_with fail
            refine (feed_any C Hm.init w7.heap.size w7.heap.size _ _ hd8 hs8 (by omega) (by simp [Hm.init]; omega)).mono ?_
            rintro e w9 ⟨mv, v9, rfl, hF⟩
            have hq9 : Below w7.heap.size w7 w9 := hb8.trans (hF.below' hd8 hs8)
            have hsm := feed_small (Bm.nums C) Hm.init
            have hlen := Hm.feed_length Hm.init (Bm.nums C)
            rw [Bm.nums_length] at hlen
            generalize hRR : Hm.feedS Hm.init (Bm.nums C) = RR at hsm hlen hF HLT
            clear hRR
            obtain ⟨st9, evs⟩ := RR
            simp only at hsm hlen
            have hrow : w9.ownsRow w8.heap.size 53 2 mv evs.length (evCells evs) := hF.row
            obtain ⟨mx, mcap, hmv⟩ := row_shape hrow
            subst hmv
            have HSM : Hid (∀ y ∈ evs, y.2.size ≤ 266) := hsm
            have HROW : Hid (w9.ownsRow w8.heap.size 53 2 (.slice mx evs.length mcap) evs.length (evCells evs)) := hrow
            have hC9 := hC7.later hq9
            have hown9 := own_later hown7 hq9
            have hqw9 := hqw7.trans (hq9.mono hqw7.size)
            have HLT2 : Hid (Tm.heard evs = [] → Tm.Line (B ++ (C ++ ⟨#[48, 49, 49, 49, 49, 49, 49, 48]⟩)) gs) := HLT.out
            clear hF hsm hrow hd8 hb8 hC7 hown7 hqw7 hq9 HLT
            go_wp2
            go_loopw [19, 79] (fun okv c wq => ∃ (q : Nat) (ob : Bool), q ≤ evs.length ∧ c = .int .i64 q ∧ okv = .bool ob ∧ Hid (ob = (Tm.heard (evs.take q)).isEmpty) ∧ Below w9.heap.size w9 wq) (fun _ c _ => evs.length - (intOf c).toNat)
            case atStart => exact ⟨0, true, Nat.zero_le _, rfl, rfl, by show _ = _; rfl, Below.refl _ _⟩
            case round =>
              obtain ⟨q, ob, hq, rfl, rfl, HOB, hbq⟩ := hrel
              generalize wr = wi at hbq ⊢
              by_cases hlq : q < evs.length
              · have hrow' := (Kept.of_below (T := fun _ => False) hbq (fun k hk h' => by omega)).owns HROW.out (fun _ _ x => x)
                obtain ⟨g, hg, hc0, hc1, hgl⟩ := row_ev hrow' rfl q hlq
                subst hg
                have hsz := HSM.out evs[q] (List.getElem_mem hlq)
                have HTK := Tm.heard_take evs q hlq
                obtain ⟨y, hy⟩ : ∃ y, y = evs[q] := ⟨_, rfl⟩
                rw [← hy] at hc0 hc1 hsz HTK
                have HTT : Hid (Tm.heard (evs.take (q + 1)) = Tm.heard (evs.take q) ++ (Tm.hear1 y).toList) := HTK
                clear HTK hy hrow'
                obtain ⟨yk, yo⟩ := y
                simp only at hc0 hc1 hsz
                have hbw : Below w.heap.size w wi := hqw9.trans (hbq.mono hqw9.size)
                have hqe : Below wi.heap.size wi (wi.alloc (.cells #[.int .i64 yk, .string yo] 53)) := (Below.refl _ _).alloc (Nat.le_refl _) _
                by_cases hk0' : yk = 0
                · subst hk0'
                  have hG := fget_any yo false (wi.alloc (.cells #[.int .i64 0, .string yo] 53)) (by omega) (HL.out.later (hbw.trans (hqe.mono hbw.size)))
                  go_wp2_with fail
                  refine hG.mono ?_
                  rintro e w10 ⟨rfl, hb10⟩
                  clear hG
                  have hbq2 := hbq.trans ((hqe.trans (hb10.mono hqe.size)).mono hbq.size)
                  clear hb10 hqe hc0 hc1 hgl hbw hbq
                  generalize hGR : Xm.getRes yo false = GR
                  obtain ⟨⟨sapi', tei', c', k', pf', ns', nr', info'⟩, e0⟩ := GR
                  simp only [fgetV, frV]
                  have hbq3 := hbq2.alloc hbq2.size (.cells #[.int .i64 sapi', .int .i64 tei', .bool c', .int .i64 k', .bool pf', .int .i64 ns', .int .i64 nr', .string info'] 28)
                  by_cases he0 : e0 = 0
                  · subst he0
                    have HN : Hid _ := quiet_not (y := (0, yo)) HTT.out (by rw [Tm.hear1, hGR, if_pos ⟨rfl, rfl⟩])
                    clear HTT hGR hbq2
                    go_wp2
                    go_roundw
                    case rel => exact ⟨q + 1, false, by omega, by go_num, rfl, HN, hbq3⟩
                    case measure => simp [intOf]; omega
                  · have te : (e0 == 0) = false := by simpa using he0
                    have HN : Hid _ := quiet_same (y := (0, yo)) HTT.out (by rw [Tm.hear1, hGR, if_neg (fun h => he0 h.2)]) HOB.out
                    clear HTT hGR hbq2 he0
                    go_wp2
                    go_roundw
                    case rel => exact ⟨q + 1, ob, by omega, by go_num, rfl, HN, hbq3⟩
                    case measure => simp [intOf]; omega
                · have tk : (yk != 0) = true := by simpa using hk0'
                  have HN : Hid _ := quiet_same (y := (yk, yo)) HTT.out (by rw [Tm.hear1, if_neg (fun h => hk0' h.1)]) HOB.out
                  have hbq3 := hbq.trans (hqe.mono hbq.size)
                  clear HTT hk0' hqe hbw hbq
                  go_wp2
                  go_roundw
                  case rel => exact ⟨q + 1, ob, by omega, by go_num, rfl, HN, hbq3⟩
                  case measure => simp [intOf]; omega
              · have eq : q = evs.length := by omega
                subst eq
                have hOB := HOB.out
                rw [List.take_length] at hOB
                have hC10 := hC9.later hbq
                have hown10 := own_later hown9 hbq
                have hqw10 := hqw9.trans (hbq.mono hqw9.size)
                have hbw10 : w.heap.size ≤ wi.heap.size := hqw10.size
                clear hC9 hown9 hqw9 hbq HROW HSM HOB
                cases ob with
                | true =>
                  have HLN : Hid _ := HLT2.out (by simpa using hOB.symm)
                  have hEz : (C ++ (⟨#[48, 49, 49, 49, 49, 49, 49, 48]⟩ : ByteArray)).size = C.size + 8 := by rw [ByteArray.size_append]; rfl
                  clear hOB hC10 HLT2
                  go_wp2
                  go_roundw
                  case rel => exact ⟨i + 1, _, _, by omega, by go_num, rfl, by rw [ByteArray.size_append, hEz]; omega, HLN, by omega, hown10, hqw10⟩
                  case measure => simp [intOf]; omega
                | false =>
                  clear hOB HLT2
                  obtain ⟨la, c0, c1, c2, c3, c4, c5, c6, c7⟩ := hC10
                  go_wp2_with (at_builtin; refine wpList_append_at _ rfl _ _ 41 rfl w.heap.size 28 i0 (.agg #[.int .i64 0, .int .i64 0, .bool false, .int .i64 0, .bool false, .int .i64 0, .int .i64 0, .string ByteArray.empty]) 8 72 Tryd.underlying41 hi hz0 hzs hzb rfl (by decide) _ _ _ rfl (hown10.alloc _) ⟨wi.heap.size, 0, none⟩ 1 1 (frCells [⟨sapi, tei, c, k, pf, ns, nr, info⟩]) rfl rfl (fr_new ⟨sapi, tei, c, k, pf, ns, nr, info⟩) (frCells_one _) ?c3 ?c4 ?c5 (by decide) ?_)
                  case c3 => unfold maxLen; omega
                  case c4 => omega
                  case c5 => simp; omega
                  intro g' cap' w11 ho8 hg8 hw8
                  have hqw8 : Below w.heap.size w w11 := (hqw10.alloc hqw10.size _).grown hg8 (by simp; omega) (own_base hown10)
                  clear hg8 hw8 hown10
                  have HLN : Hid _ := line_whole HB.out HE.out hT1 hT2 HT3.out
                  have hEz : (E ++ (⟨#[48, 49, 49, 49, 49, 49, 49, 48]⟩ : ByteArray)).size = E.size + 8 := by rw [ByteArray.size_append]; rfl
                  go_wp2
                  go_roundw
                  case rel => exact ⟨i + 1, _, _, by omega, by go_num, rfl, by rw [ByteArray.size_append, hEz]; omega, HLN, by rw [List.length_append]; simp; omega, by rw [List.length_append, frCells_append]; exact ho8, hqw8⟩
                  case measure => simp [intOf]; omega
    · have ei : i = m := by omega
      subst ei
      have hmf : ∀ (fn : Fn) (first cap : Array Value) (w : World), (Instr.makeFunc fn first cap).run Tryd.prog w = .ok (.func fn first cap) w := fun _ _ _ _ => rfl
      obtain ⟨m3, hmin3, hm300, hm3l⟩ : ∃ m3 : Nat, min (len2 : Int) 300 = (m3 : Int) ∧ m3 ≤ 300 ∧ m3 ≤ len2 := ⟨(min (len2 : Int) 300).toNat, by omega, by omega, by omega⟩
      have hfr2 := slice_same a2
      have hBz2 : B.size ≤ 100000 := by omega
      clear hfr hmin
      go_wp2_with fail
      refine (new_any _).mono ?_
      rintro e wA ⟨rfl, hdn, hbA⟩
      have hdA := hdn wo.heap.size (Nat.le_refl _)
      clear hdn
      obtain ⟨hH, hqB⟩ := hears_new hdA hbA 48 41
      have hownB := own_later hown hqB
      have HOW : Hid (((wA.alloc (.cells #[.pointer (some ⟨wo.heap.size, 0, none⟩)] 48)).alloc (.cells #[.slice none 0 0] 41)).ownsRow w.heap.size 28 8 u7 gs.length (frCells gs)) := hownB
      have HOW0 : Hid (wo.ownsRow w.heap.size 28 8 u7 gs.length (frCells gs)) := hown
      have hsA := hbA.size
      clear hdA hownB hown
      generalize hP : wA.heap.size = P at hH
      go_wp2
      generalize hWB : (wA.alloc (.cells #[.pointer (some ⟨wo.heap.size, 0, none⟩)] 48)).alloc (.cells #[.slice none 0 0] 41) = wB at hH hqB HOW ⊢
      clear hWB hP hbA hsA
      have hsB := hqB.size
      have hqwB := hbel.trans (hqB.mono hbel.size)
      go_loopw [8, 133] (fun bv c wr => ∃ (q : Nat) (cs : List Int) (R : ByteArray) (v gv : Value), q ≤ m3 ∧ c = .int .i64 q ∧ bv = .string R ∧ R.size ≤ B.size ∧ Hid (Bm.nums B = cs ++ Bm.nums R) ∧ Hears wo.heap.size wr P (P + 1) wo.heap.size v gv (Hm.feedS Hm.init cs).1 (Tm.heard (Hm.feedS Hm.init cs).2) ∧ Below wo.heap.size wB wr) (fun _ c _ => m3 - (intOf c).toNat)
      case atStart => exact ⟨0, [], B, _, _, Nat.zero_le _, rfl, rfl, Nat.le_refl _, by show _ = _; rfl, hH, Below.refl _ _⟩
      case round =>
        obtain ⟨q, cs, R, v, gv, hq, rfl, rfl, hRz, HCS, hHr, hbr⟩ := hrel
        generalize wr = wl at hHr hbr ⊢
        have hqwl : Below w.heap.size w wl := hqwB.trans (hbr.mono hbel.size)
        have hbase : wo.heap.size ≤ wl.heap.size := Nat.le_trans hsB hbr.size
        have hcsl : cs.length ≤ 100000 := by
          have := congrArg List.length HCS.out
          rw [Bm.nums_length, List.length_append] at this
          omega
        have hones : (Hm.feedS Hm.init cs).1.ones ≤ 100000 := by
          have := Hm.feed_ones Hm.init cs
          simp [Hm.init] at this ⊢
          omega
        have hheard : (Tm.heard (Hm.feedS Hm.init cs).2).length ≤ 100000 := by
          have h1 := heard_le (Hm.feedS Hm.init cs).2
          have h2 := Hm.feed_length Hm.init cs
          omega
        by_cases hlq : q < m3
        · obtain ⟨pb, po, x, hpa, hpb, hpc, hx⟩ := row_at HR2.out q (by omega)
          subst hpa
          have hpcl := (hqwl.cell (p := ⟨pb, po + q, none⟩) hpb).trans hpc
          have hpbl : pb < wl.heap.size := Nat.lt_of_lt_of_le hpb hqwl.size
          clear hpc
          obtain ⟨kk, hkk, hkR⟩ : ∃ kk : Nat, min (max 0 x % 40) (R.size : Int) = (kk : Int) ∧ kk ≤ R.size := ⟨(min (max 0 x % 40) (R.size : Int)).toNat, by omega, by omega⟩
          have hmax0 : (0 : Int) ≤ max 0 x := by omega
          have hmax1 : max 0 x ≤ 9223372036854775807 := by omega
          have hkR' : (kk : Int) ≤ (R.size : Int) := by omega
          have hcut : (R.extract 0 kk).size ≤ 100000 := by rw [ByteArray.size_extract]; omega
          have hLk := look_any (R.extract 0 kk) w wl wo.heap.size P (P + 1) wo.heap.size v gv (Hm.feedS Hm.init cs).1 _ hHr HL.out hqwl hbel.size hbase hcut (by omega) (by omega)
          obtain ⟨f1, f2⟩ := fed_more (cs := cs) (R := R) (R.extract 0 kk)
          rw [← f1, ← f2] at hLk
          have HCS2 : Hid (Bm.nums B = (cs ++ Bm.nums (R.extract 0 kk)) ++ Bm.nums (R.extract kk R.size)) := by
            show _ = _
            rw [HCS.out, List.append_assoc, ← nums_parts R kk hkR]
          clear f1 f2 hHr hones hheard hcsl HCS
          go_wp2_with fail
          refine hLk.mono ?_
          rintro e w12 ⟨v', gv', rfl, hH', hb'⟩
          clear hLk
          have hR2 : (R.extract kk R.size).size ≤ B.size := by rw [ByteArray.size_extract]; omega
          have hbr2 := hbr.trans hb'
          clear hb' hbr
          go_wp2
          go_roundw
          case rel => exact ⟨q + 1, _, _, _, _, by omega, by go_num, rfl, hR2, HCS2, hH', hbr2⟩
          case measure => simp [intOf]; omega
        · have hLk := look_any R w wl wo.heap.size P (P + 1) wo.heap.size v gv (Hm.feedS Hm.init cs).1 _ hHr HL.out hqwl hbel.size hbase (by omega) (by omega) (by omega)
          obtain ⟨f1, f2⟩ := fed_more (cs := cs) (R := R) R
          rw [← f1, ← f2, ← HCS.out] at hLk
          obtain ⟨stF, EF, hF1, hF2, hF3⟩ := HB.out.ex
          rw [hF1, hF3] at hLk
          clear f1 f2 hHr hones hheard hcsl HCS hF1 hF2 hF3
          go_wp2_with fail
          refine hLk.mono ?_
          rintro e w12 ⟨v', gv', rfl, hH', hb'⟩
          clear hLk
          have hbr2 := hbr.trans hb'
          have hqw12 : Below w.heap.size w w12 := hqwB.trans (hbr2.mono hbel.size)
          have hwant : w12.ownsRow w.heap.size 28 8 u7 gs.length (frCells gs) := own_later HOW0.out (hqB.trans hbr2)
          obtain ⟨ux, ucap, huv⟩ := fr_shape hwant
          subst huv
          have hgot := hH'.own
          have cq := hH'.q
          have lq := cell_lt cq
          obtain ⟨gx, gcap, hgv⟩ := fr_shape hgot
          subst hgv
          have HG1 : Hid (w12.ownsRow w.heap.size 28 8 (.slice ux gs.length ucap) gs.length (frCells gs)) := hwant
          have HG2 : Hid (w12.ownsRow wo.heap.size 28 8 (.slice gx gs.length gcap) gs.length (frCells gs)) := hgot
          clear hwant hgot hH' HOW HOW0 hb' hbr hH hqB
          go_wp2
          go_loopw [162] (fun c wx => ∃ q : Nat, q ≤ gs.length ∧ c = .int .i64 q ∧ Below w12.heap.size w12 wx) (fun c _ => gs.length - (intOf c).toNat)
          case atStart => exact ⟨0, Nat.zero_le _, rfl, Below.refl _ _⟩
          case round =>
            obtain ⟨q, hq, rfl, hbx⟩ := hrel
            generalize wr = wz at hbx ⊢
            by_cases hlq : q < gs.length
            · obtain ⟨g1, hg1, l1, a0, a1', a2', a3, a4, a5, a6, a7⟩ := row_fr (own_later HG1.out hbx) rfl q hlq
              obtain ⟨g2, hg2, l2, b0, b1, b2, b3, b4, b5, b6, b7⟩ := row_fr (own_later HG2.out hbx) rfl q hlq
              have cqz := (hbx.cell (p := ⟨P + 1, 0, none⟩) lq).trans cq
              have lqz : P + 1 < wz.heap.size := Nat.lt_of_lt_of_le lq hbx.size
              subst hg1 hg2
              generalize gs[q] = y at a0 a1' a2' a3 a4 a5 a6 a7 b0 b1 b2 b3 b4 b5 b6 b7
              obtain ⟨sapi, tei, c, k, pf, ns, nr, info⟩ := y
              simp only at a0 a1' a2' a3 a4 a5 a6 a7 b0 b1 b2 b3 b4 b5 b6 b7
              go_wp2
              go_region
              all_goals
                go_wp2
                go_roundw
                case rel => exact ⟨q + 1, by omega, by go_num, hbx.drew⟩
                case measure => simp [intOf]; omega
            · go_wp2
              go_ret
              exact ⟨rfl, hqw12.trans (hbx.mono hqw12.size)⟩
end Go.Proofs.YtdcohbdndkphnabDoor
