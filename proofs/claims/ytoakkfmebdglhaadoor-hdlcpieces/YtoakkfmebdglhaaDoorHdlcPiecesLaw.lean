/-
  The walk of the law HdlcPieces: it returns true.
-/
import Derived.Test.YtoakkfmebdglhaaDoorRowLaws
namespace Go.Proofs.YtoakkfmebdglhaaDoor
open Go.RowKit
set_option linter.unusedVariables false
set_option linter.unusedSimpArgs false

theorem front_add (a : Option Addr) : a.map (·.add 0) = a := by
  cases a with
  | none => rfl
  | some x => simp [Addr.add]
/-- an integer of a row that came in -/
theorem row_int {k : IntKind} {w : World} {a : Option Addr} {len cap : Nat} {xs : List Int} (h : Row k w a len cap xs) (i : Nat) (hi : i < len) : ∃ b off, a = some ⟨b, off, none⟩ ∧ b < w.heap.size ∧ w.cell? ⟨b, off + i, none⟩ = some (.int k (xs.getD i 0)) := by
  obtain ⟨h1, h2, h3, h4, h5⟩ := h
  rcases h5 with ⟨_, h0, _⟩ | ⟨_, h0⟩ | ⟨b, off, e, _, hlt, hc⟩
  · omega
  · omega
  · exact ⟨b, off, e, hlt, hc i hi⟩
theorem row_range {k : IntKind} {w : World} {a : Option Addr} {len cap : Nat} {xs : List Int} (h : Row k w a len cap xs) (i : Nat) (hi : i < len) : (Lit.int k (xs.getD i 0)).wf = true := by
  obtain ⟨h1, h2, h3, h4, h5⟩ := h
  rw [List.getD, List.getElem?_eq_getElem (by omega)]
  exact h4 _ (List.getElem_mem _)

theorem nums_split (R : ByteArray) (K : Nat) (h : K ≤ R.size) : Bm.nums R = Bm.nums (R.extract 0 K) ++ Bm.nums (R.extract K R.size) := by
  have e1 : Bm.nums (R.extract 0 K) = (Bm.nums R).take K := by simp [Bm.nums, List.map_take]
  have e2 : Bm.nums (R.extract K R.size) = (Bm.nums R).drop K := by
    have hd : R.size = R.data.toList.length := by rw [Array.length_toList]; rfl
    simp only [Bm.nums, ByteArray.data_extract, Array.toList_extract, List.extract_eq_take_drop, List.map_drop]
    rw [hd, List.take_of_length_le (by simp), List.map_drop]
  rw [e1, e2, List.take_append_drop]
theorem bounds_of {c : Int} (h : (Lit.int .i64 c).wf = true) : -9223372036854775808 ≤ c ∧ c ≤ 9223372036854775807 := bounds_i64 h

set_option maxHeartbeats 4000000 in
theorem walk_HdlcPieces (s : ByteArray) (a : Option Addr) (len cap : Nat) (xs : List Int) (w : World) (hs : s.size ≤ 140737488351232) (hr : Row .i64 w a len cap xs) (hm : MaxOk w) :
    Calls Tryd.prog 6 #[.string s, .slice a len cap] w fun e w' => e = .returned (.bool true) ∧ Below w.heap.size w w' := by
  obtain ⟨i0, hi, hz0, hz1, hz2⟩ := info_parts info_ev
  have hlc : len ≤ cap := hr.2.1
  have hcm : cap ≤ 9223372036854775807 := by have := hr.2.2.1; unfold maxLen at this; exact this
  obtain ⟨m, hmin, hm200, hml⟩ : ∃ m : Nat, min (len : Int) 200 = (m : Int) ∧ m ≤ 200 ∧ m ≤ len := ⟨(min (len : Int) 200).toNat, by omega, by omega, by omega⟩
  have hfr := front_add a
  have HR : Hid (Row .i64 w a m cap (xs.take m)) := hr.cut m hml
  clear hr
  go_enter Tryd.func6, Tryd.ntmps6
  go_wp2_with fail
  obtain ⟨b, hB⟩ : ∃ b, b = s.extract 0 (min (s.size : Int) 5000).toNat := ⟨_, rfl⟩
  have hbz : b.size ≤ 5000 := by rw [hB]; simp; omega
  rw [← hB]
  clear hB
  refine (new_any _).mono ?_
  rintro e w1 ⟨rfl, hdn1, hb1⟩
  have hd1 := hdn1 w.heap.size (Nat.le_refl _)
  have hs1 : w.heap.size ≤ w1.heap.size := hb1.size
  clear hdn1
  go_wp2_with fail
  refine (new_any _).mono ?_
  rintro e w2 ⟨rfl, hdn2, hb2⟩
  have hd2 := hdn2 w.heap.size hs1
  have hd12 := hd1.below hb2 (Nat.le_refl _)
  have hq2 := hb1.trans (hb2.mono hs1)
  have hs2 : w1.heap.size ≤ w2.heap.size := hb2.size
  have hlt1 : w.heap.size < w1.heap.size := hd1.lt
  clear hdn2 hd1
  have hfe := feed_any b _ w.heap.size w.heap.size _ w2 hd12 (by omega) (by omega) (by show 0 + b.size ≤ _; omega)
  go_wp2_with fail
  refine hfe.mono ?_
  rintro e w3 ⟨x1, v1, rfl, hF1⟩
  have hq3 := hq2.trans (hF1.below' hd12 (by omega))
  have hd3 := hd2.kept hF1.kept (fun hx => by rcases hx with hx | hx; omega; simp [Value.ownBlock] at hx) (fun k hk => by simp [Value.ownBlock] at hk)
  have hs3 : w2.heap.size ≤ w3.heap.size := hF1.kept.size
  have hltD : w1.heap.size < w3.heap.size := hd3.lt
  have hlt2 : w1.heap.size < w2.heap.size := hd2.lt
  clear hfe hd2 hd12
  have HN : Hid ((Hm.feedS Hm.init (Bm.nums b)).2.length ≤ 5000) := by
    show _ ≤ _
    have := Hm.feed_length Hm.init (Bm.nums b)
    rw [Bm.nums_length] at this
    omega
  go_wp2
  go_loopw [8, 9, 11, 12, 31] (fun gv rv _ _ c wr => ∃ (i : Nat) (R : ByteArray) (P : List Int) (v2 : Value), i ≤ m ∧ c = .int .i64 i ∧ rv = .string R ∧ R.size ≤ 5000 ∧ P.length ≤ 5000 ∧ Hid (Bm.nums b = P ++ Bm.nums R) ∧
      Feeding w.heap.size w1.heap.size (.slice none 0 0) w3 wr (Hm.feedS Hm.init P) gv v2)
    (fun _ _ _ _ c _ => m - (intOf c).toNat)
  case atStart => exact ⟨0, b, [], .slice none 0 0, Nat.zero_le _, rfl, rfl, hbz, by simp, by show _ = _; rfl, hd3, Kept.refl _ _, fun k hk => Or.inl hk, World.ownsRow_nil _ _ _ _, fun k hk => by simp [Value.ownBlock] at hk, fun _ => rfl⟩
  case round =>
    obtain ⟨i, R, P, v2, him, rfl, rfl, hRz, hPz, HP, hF⟩ := hrel
    by_cases hlt : i < m
    · obtain ⟨ab, off, hab, hablt, hcell⟩ := row_int HR.out i hlt
      have hcr : wr.cell? ⟨ab, off + i, none⟩ = some (.int .i64 ((xs.take m).getD i 0)) :=
        ((hF.kept.cell (p := ⟨ab, off + i, none⟩) (by show ab < w3.heap.size; omega) (fun hx => by rcases hx with hx | hx; have : ab = w1.heap.size := hx; omega; simp [Value.ownBlock] at hx)).trans (hq3.cell (p := ⟨ab, off + i, none⟩) hablt)).trans hcell
      have hcb := bounds_of (row_range HR.out i hlt)
      obtain ⟨c, hc⟩ : ∃ c, c = (xs.take m).getD i 0 := ⟨_, rfl⟩
      rw [← hc] at hcr hcb
      clear hc hcell
      obtain ⟨hcb1, hcb2⟩ := hcb
      obtain ⟨K, hK, hKR, hK20⟩ : ∃ K : Nat, min (max 0 c % 20) (R.size : Int) = (K : Int) ∧ K ≤ R.size ∧ K ≤ 20 := ⟨(min (max 0 c % 20) (R.size : Int)).toNat, by omega, by omega, by omega⟩
      have hp0 : (0 : Int) ≤ max 0 c := by omega
      have hKR' : (K : Int) ≤ (R.size : Int) := by omega
      have HS : Hid (Bm.nums R = Bm.nums (R.extract 0 K) ++ Bm.nums (R.extract K R.size)) := nums_split R K hKR
      have hQz : (R.extract 0 K).size ≤ 20 := by rw [ByteArray.size_extract]; omega
      have hRz2 : (R.extract K R.size).size ≤ 5000 := by rw [ByteArray.size_extract]; omega
      have hone := Hm.feed_ones Hm.init P
      have hlen := Hm.feed_length Hm.init P
      have hone0 : Hm.init.ones = 0 := rfl
      have hfe := feed_any (R.extract 0 K) _ w.heap.size w1.heap.size v2 wr hF.dec (by have := hF.kept.size; omega) (by omega) (by omega)
      subst hab
      have HP2 : Hid (Bm.nums b = (P ++ Bm.nums (R.extract 0 K)) ++ Bm.nums (R.extract K R.size)) := by show _ = _; rw [List.append_assoc, ← HS.out]; exact HP.out
      have HL : Hid ((P ++ Bm.nums (R.extract 0 K)).length ≤ 5000) := by
        show _ ≤ _
        have := congrArg List.length HP2.out
        rw [Bm.nums_length, List.length_append] at this
        omega
      go_wp2_with fail
      refine hfe.mono ?_
      rintro e w4 ⟨x4, v4, rfl, hG⟩
      clear hfe
      obtain ⟨v5, hF5⟩ := hF.step hltD hG.moved
      have hlen4 : (Hm.feedS (Hm.feedS Hm.init P).1 (Bm.nums (R.extract 0 K))).2.length ≤ 5000 := by
        have := Hm.feed_length (Hm.feedS Hm.init P).1 (Bm.nums (R.extract 0 K))
        rw [Bm.nums_length] at this
        omega
      have hrow4 := hG.row
      have hnil4 := hG.nil
      obtain ⟨evs, hevs⟩ : ∃ evs, evs = (Hm.feedS (Hm.feedS Hm.init P).1 (Bm.nums (R.extract 0 K))).2 := ⟨_, rfl⟩
      have HA : Hid (Hm.feedS Hm.init (P ++ Bm.nums (R.extract 0 K)) = ((Hm.feedS (Hm.feedS Hm.init P).1 (Bm.nums (R.extract 0 K))).1, (Hm.feedS Hm.init P).2 ++ evs)) := by show _ = _; rw [Hm.feed_append, hevs]
      rw [← hevs] at hrow4 hnil4 hlen4
      clear hevs hG
      have hsz5 : w3.heap.size ≤ w4.heap.size := hF5.kept.size
      by_cases hev : evs = []
      · obtain rfl := hnil4 hev
        rw [hev, List.append_nil] at HA
        have HF5 : Hid (Feeding w.heap.size w1.heap.size (.slice none 0 0) w3 w4 (Hm.feedS Hm.init (P ++ Bm.nums (R.extract 0 K))) u8 v5) := by show Feeding _ _ _ _ _ _ _ _; rw [HA.out]; exact hF5
        clear hrow4 hnil4 hev hlen4
        go_wp2_with (at_builtin; refine wpList_append_own_none rfl _ _ 38 rfl w3.heap.size 47 i0 2 Tryd.underlying38 hi _ _ _ rfl hF5.row rfl ?_)
        clear hF5
        go_wp2
        go_roundw
        case rel => exact ⟨i + 1, R.extract K R.size, P ++ Bm.nums (R.extract 0 K), v5, by omega, by go_num, rfl, hRz2, HL.out, HP2, HF5.out⟩
        case measure => simp [intOf]; omega
      · have h1a : 0 < evs.length := List.length_pos_iff.2 hev
        obtain ⟨g, cap4, rfl⟩ : ∃ g cap4, x4 = .slice (some ⟨g, 0, none⟩) evs.length cap4 := by
          rcases hrow4.2 with ⟨_, h0⟩ | ⟨g, cap4, cur, h, _⟩
          · omega
          · exact ⟨g, cap4, h⟩
        clear hnil4 hev
        have hnews : Hid (∀ (j : Nat) (u : Value), (evCells evs)[j]? = some u → w4.cell? ((⟨g, 0, none⟩ : Addr).add j) = some u) := two_new hrow4
        have hcl : Hid ((evCells evs).length = evs.length * 2) := evCells_length evs
        clear hrow4
        go_wp2_with (at_builtin; refine wpList_append_at _ rfl _ _ 38 rfl w3.heap.size 47 i0 _ 2 24 Tryd.underlying38 hi hz0 hz1 hz2 rfl (by decide) _ _ _ rfl hF5.row ⟨g, 0, none⟩ evs.length _ (evCells evs) rfl hcl.out hnews.out (ev_one' _) ?c3 ?c4 hsz5 h1a ?_)
        case c3 => unfold maxLen; show (Hm.feedS Hm.init P).2.length + _ ≤ _; omega
        case c4 => show ((Hm.feedS Hm.init P).2.length + _) * 24 ≤ _; omega
        intro g2 cap2 w5 ho2 hg2 hw2
        have hF6 := hF5.more hltD hg2 rfl h1a ho2 hw2
        have HF6 : Hid (Feeding w.heap.size w1.heap.size (.slice none 0 0) w3 w5 (Hm.feedS Hm.init (P ++ Bm.nums (R.extract 0 K))) (.slice (some ⟨g2, 0, none⟩) ((Hm.feedS Hm.init P).2.length + evs.length) cap2) v5) := by show Feeding _ _ _ _ _ _ _ _; rw [HA.out]; exact hF6
        clear ho2 hg2 hw2 hnews hcl hF6 hF5
        go_wp2
        go_roundw
        case rel => exact ⟨i + 1, R.extract K R.size, P ++ Bm.nums (R.extract 0 K), v5, by omega, by go_num, rfl, hRz2, HL.out, HP2, HF6.out⟩
        case measure => simp [intOf]; omega
    · have hone := Hm.feed_ones Hm.init P
      have hlen := Hm.feed_length Hm.init P
      have hone0 : Hm.init.ones = 0 := rfl
      have HPR : Hid (Bm.nums b = P ++ Bm.nums R) := HP
      have hfe := feed_any R _ w.heap.size w1.heap.size v2 wr hF.dec (by have := hF.kept.size; omega) (by omega) (by omega)
      go_wp2_with fail
      refine hfe.mono ?_
      rintro e w4 ⟨x4, v4, rfl, hG⟩
      clear hfe
      obtain ⟨v5, hF5⟩ := hF.step hltD hG.moved
      have hlen4 : (Hm.feedS (Hm.feedS Hm.init P).1 (Bm.nums R)).2.length ≤ 5000 := by
        have := Hm.feed_length (Hm.feedS Hm.init P).1 (Bm.nums R)
        rw [Bm.nums_length] at this
        omega
      have hrow4 := hG.row
      have hnil4 := hG.nil
      obtain ⟨evs, hevs⟩ : ∃ evs, evs = (Hm.feedS (Hm.feedS Hm.init P).1 (Bm.nums R)).2 := ⟨_, rfl⟩
      have HA : Hid (Hm.feedS Hm.init (P ++ Bm.nums R) = ((Hm.feedS (Hm.feedS Hm.init P).1 (Bm.nums R)).1, (Hm.feedS Hm.init P).2 ++ evs)) := by show _ = _; rw [Hm.feed_append, hevs]
      rw [← hevs] at hrow4 hnil4 hlen4
      clear hevs hG
      have hsz5 : w3.heap.size ≤ w4.heap.size := hF5.kept.size
      by_cases hev : evs = []
      · obtain rfl := hnil4 hev
        rw [hev, List.append_nil] at HA
        have HF5 : Hid (Feeding w.heap.size w1.heap.size (.slice none 0 0) w3 w4 (Hm.feedS Hm.init (P ++ Bm.nums R)) u8 v5) := by show Feeding _ _ _ _ _ _ _ _; rw [HA.out]; exact hF5
        clear hrow4 hnil4 hev hlen4
        go_wp2_with (at_builtin; refine wpList_append_own_none rfl _ _ 38 rfl w3.heap.size 47 i0 2 Tryd.underlying38 hi _ _ _ rfl hF5.row rfl ?_)
        clear hF5
        go_wp2_with fail
        have HFz : Hid (Feeding w.heap.size w1.heap.size (.slice none 0 0) w3 w4 (Hm.feedS Hm.init (Bm.nums b)) u8 v5) := by show Feeding _ _ _ _ _ _ _ _; rw [HPR.out]; exact HF5.out
        clear HF5 HA
        have hqz : Below w.heap.size w w4 := hq3.trans (HFz.out.kept.below (by omega) (fun k hk => by rcases hk with rfl | hk; omega; simp [Value.ownBlock] at hk))
        have hmz := hm.later hqz hm.lt
        have hdz1 := hF1.dec.kept HFz.out.kept (fun hx => by rcases hx with hx | hx; omega; simp [Value.ownBlock] at hx) (fun k hk hx => by
          rcases hF1.fresh k hk with h' | h'
          · simp [Value.ownBlock] at h'
          · rcases hx with hx | hx
            · omega
            · simp [Value.ownBlock] at hx)
        have hxz := HFz.out.kept.owns hF1.row (fun k hk hx => by
          have h' := (hF1.row.lt k hk).1
          rcases hx with hx | hx
          · omega
          · simp [Value.ownBlock] at hx)
        have hdz2 := HFz.out.dec
        have hgz := HFz.out.row
        clear HFz
        obtain ⟨r, hr⟩ : ∃ r, r = Hm.feedS Hm.init (Bm.nums b) := ⟨_, rfl⟩
        rw [← hr] at hdz1 hxz hdz2 hgz
        have HNr : r.2.length ≤ 5000 := by rw [hr]; exact HN.out
        clear hr
        refine (wakes_any _ hmz).mono ?_
        rintro e w6 ⟨rfl, hb6⟩
        have hd61 := hdz1.below hb6 (Nat.le_refl _)
        have hd62 := hdz2.below hb6 (Nat.le_refl _)
        have hx6 := (Kept.of_below (T := fun _ => False) hb6 (fun k hk h' => by omega)).owns hxz (fun _ _ x => x)
        have hg6 := (Kept.of_below (T := fun _ => False) hb6 (fun k hk h' => by omega)).owns hgz (fun _ _ x => x)
        have hq6 := hqz.trans (hb6.mono hqz.size)
        clear hdz1 hdz2 hxz hgz hb6
        obtain ⟨a1, c1, he1⟩ := row_shape hx6
        obtain ⟨a2, c2, he2⟩ := row_shape hg6
        rw [he1] at hx6
        rw [he2] at hg6
        rw [he1, he2]
        clear he1 he2
        have hid1 := idle_any _ _ _ _ _ hd61
        have hid2 := idle_any _ _ _ _ _ hd62
        have HN2 : (r.2.length : Int) ≤ 5000 := by omega
        go_wp2_with fail
        refine hid1.mono ?_
        rintro e w' ⟨rfl, rfl⟩
        clear hid1
        go_wp2_with fail
        refine hid2.mono ?_
        rintro e w' ⟨rfl, rfl⟩
        clear hid2
        go_wp2
        go_loopw [13, 75] (fun _ c wz => ∃ i : Nat, i ≤ r.2.length ∧ c = .int .i64 i ∧ wz.ownsRow w2.heap.size 47 2 (.slice a1 r.2.length c1) r.2.length (evCells r.2) ∧ wz.ownsRow w3.heap.size 47 2 (.slice a2 r.2.length c2) r.2.length (evCells r.2) ∧ Below w.heap.size w wz)
          (fun _ c _ => r.2.length - (intOf c).toNat)
        case atStart => exact ⟨0, Nat.zero_le _, rfl, hx6, hg6, hq6⟩
        case round =>
          obtain ⟨j, hj, rfl, hxr, hgr, hqr⟩ := hrel
          clear hx6 hg6 hq6 hd61 hd62
          by_cases hlt2 : j < r.2.length
          · obtain ⟨g1, e1, p0, p1, pl⟩ := row_ev hxr rfl j hlt2
            obtain ⟨g3, e3, p2, p3, pl3⟩ := row_ev hgr rfl j hlt2
            subst e1
            subst e3
            generalize r.2[j] = ev at p0 p1 p2 p3
            go_wp2
            go_region
            go_wp2
            go_roundw
            case rel => exact ⟨j + 1, by omega, by go_num, hxr.drew, hgr.drew, hqr.drew⟩
            case measure => simp [intOf]; omega
          · go_wp2
            go_ret
            exact ⟨rfl, hqr⟩
      · have h1a : 0 < evs.length := List.length_pos_iff.2 hev
        obtain ⟨g, cap4, rfl⟩ : ∃ g cap4, x4 = .slice (some ⟨g, 0, none⟩) evs.length cap4 := by
          rcases hrow4.2 with ⟨_, h0⟩ | ⟨g, cap4, cur, h, _⟩
          · omega
          · exact ⟨g, cap4, h⟩
        clear hnil4 hev
        have hnews : Hid (∀ (j : Nat) (u : Value), (evCells evs)[j]? = some u → w4.cell? ((⟨g, 0, none⟩ : Addr).add j) = some u) := two_new hrow4
        have hcl : Hid ((evCells evs).length = evs.length * 2) := evCells_length evs
        clear hrow4
        go_wp2_with (at_builtin; refine wpList_append_at _ rfl _ _ 38 rfl w3.heap.size 47 i0 _ 2 24 Tryd.underlying38 hi hz0 hz1 hz2 rfl (by decide) _ _ _ rfl hF5.row ⟨g, 0, none⟩ evs.length _ (evCells evs) rfl hcl.out hnews.out (ev_one' _) ?c3 ?c4 hsz5 h1a ?_)
        case c3 => unfold maxLen; show (Hm.feedS Hm.init P).2.length + _ ≤ _; omega
        case c4 => show ((Hm.feedS Hm.init P).2.length + _) * 24 ≤ _; omega
        intro g2 cap2 w5 ho2 hg2 hw2
        have hF6 := hF5.more hltD hg2 rfl h1a ho2 hw2
        have HF6 : Hid (Feeding w.heap.size w1.heap.size (.slice none 0 0) w3 w5 (Hm.feedS Hm.init (P ++ Bm.nums R)) (.slice (some ⟨g2, 0, none⟩) ((Hm.feedS Hm.init P).2.length + evs.length) cap2) v5) := by show Feeding _ _ _ _ _ _ _ _; rw [HA.out]; exact hF6
        clear ho2 hg2 hw2 hnews hcl hF6 hF5
        go_wp2_with fail
        have HFz : Hid (Feeding w.heap.size w1.heap.size (.slice none 0 0) w3 w5 (Hm.feedS Hm.init (Bm.nums b)) (.slice (some ⟨g2, 0, none⟩) ((Hm.feedS Hm.init P).2.length + evs.length) cap2) v5) := by show Feeding _ _ _ _ _ _ _ _; rw [HPR.out]; exact HF6.out
        clear HF6 HA
        have hqz : Below w.heap.size w w5 := hq3.trans (HFz.out.kept.below (by omega) (fun k hk => by rcases hk with rfl | hk; omega; simp [Value.ownBlock] at hk))
        have hmz := hm.later hqz hm.lt
        have hdz1 := hF1.dec.kept HFz.out.kept (fun hx => by rcases hx with hx | hx; omega; simp [Value.ownBlock] at hx) (fun k hk hx => by
          rcases hF1.fresh k hk with h' | h'
          · simp [Value.ownBlock] at h'
          · rcases hx with hx | hx
            · omega
            · simp [Value.ownBlock] at hx)
        have hxz := HFz.out.kept.owns hF1.row (fun k hk hx => by
          have h' := (hF1.row.lt k hk).1
          rcases hx with hx | hx
          · omega
          · simp [Value.ownBlock] at hx)
        have hdz2 := HFz.out.dec
        have hgz := HFz.out.row
        clear HFz
        obtain ⟨r, hr⟩ : ∃ r, r = Hm.feedS Hm.init (Bm.nums b) := ⟨_, rfl⟩
        rw [← hr] at hdz1 hxz hdz2 hgz
        have HNr : r.2.length ≤ 5000 := by rw [hr]; exact HN.out
        clear hr
        refine (wakes_any _ hmz).mono ?_
        rintro e w6 ⟨rfl, hb6⟩
        have hd61 := hdz1.below hb6 (Nat.le_refl _)
        have hd62 := hdz2.below hb6 (Nat.le_refl _)
        have hx6 := (Kept.of_below (T := fun _ => False) hb6 (fun k hk h' => by omega)).owns hxz (fun _ _ x => x)
        have hg6 := (Kept.of_below (T := fun _ => False) hb6 (fun k hk h' => by omega)).owns hgz (fun _ _ x => x)
        have hq6 := hqz.trans (hb6.mono hqz.size)
        clear hdz1 hdz2 hxz hgz hb6
        obtain ⟨a1, c1, he1⟩ := row_shape hx6
        obtain ⟨a2, c2, he2⟩ := row_shape hg6
        rw [he1] at hx6
        rw [he2] at hg6
        rw [he1, he2]
        clear he1 he2
        have hid1 := idle_any _ _ _ _ _ hd61
        have hid2 := idle_any _ _ _ _ _ hd62
        have HN2 : (r.2.length : Int) ≤ 5000 := by omega
        go_wp2_with fail
        refine hid1.mono ?_
        rintro e w' ⟨rfl, rfl⟩
        clear hid1
        go_wp2_with fail
        refine hid2.mono ?_
        rintro e w' ⟨rfl, rfl⟩
        clear hid2
        go_wp2
        go_loopw [13, 75] (fun _ c wz => ∃ i : Nat, i ≤ r.2.length ∧ c = .int .i64 i ∧ wz.ownsRow w2.heap.size 47 2 (.slice a1 r.2.length c1) r.2.length (evCells r.2) ∧ wz.ownsRow w3.heap.size 47 2 (.slice a2 r.2.length c2) r.2.length (evCells r.2) ∧ Below w.heap.size w wz)
          (fun _ c _ => r.2.length - (intOf c).toNat)
        case atStart => exact ⟨0, Nat.zero_le _, rfl, hx6, hg6, hq6⟩
        case round =>
          obtain ⟨j, hj, rfl, hxr, hgr, hqr⟩ := hrel
          clear hx6 hg6 hq6 hd61 hd62
          by_cases hlt2 : j < r.2.length
          · obtain ⟨g1, e1, p0, p1, pl⟩ := row_ev hxr rfl j hlt2
            obtain ⟨g3, e3, p2, p3, pl3⟩ := row_ev hgr rfl j hlt2
            subst e1
            subst e3
            generalize r.2[j] = ev at p0 p1 p2 p3
            go_wp2
            go_region
            go_wp2
            go_roundw
            case rel => exact ⟨j + 1, by omega, by go_num, hxr.drew, hgr.drew, hqr.drew⟩
            case measure => simp [intOf]; omega
          · go_wp2
            go_ret
            exact ⟨rfl, hqr⟩
end Go.Proofs.YtoakkfmebdglhaaDoor
