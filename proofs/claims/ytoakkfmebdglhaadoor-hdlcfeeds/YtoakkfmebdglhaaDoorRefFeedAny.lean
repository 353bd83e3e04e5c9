/-
  The walk of the document's Feed, round by round.
-/
import Derived.Test.YtoakkfmebdglhaaDoorRefFeedWalks
import Derived.Deep.DeepCutAuto
namespace Go.Proofs.YtoakkfmebdglhaaDoor
open Go.RowKit
set_option linter.unusedVariables false
set_option linter.unusedSimpArgs false

theorem RF.cells {base R : Nat} {v mv v1 : Value} {w wr W w1 : World} {inn : Bool} {ones : Nat} {since : List Int} {evs : List Hm.Ev} (h : RF base R v w wr inn ones since evs mv v1) (hW : Below wr.heap.size wr W) (hg : W.grownBy w1 v1.ownBlock) :
    w1.cell? ⟨R, 0, none⟩ = some v1 ∧ w1.cell? ⟨R, 1, none⟩ = some (.bool inn) ∧ w1.cell? ⟨R, 2, none⟩ = some (.int .i64 (ones : Int)) ∧ w1.frozen? ⟨R, 0, none⟩ = false ∧ w1.frozen? ⟨R, 1, none⟩ = false ∧ w1.frozen? ⟨R, 2, none⟩ = false ∧ R < w1.heap.size := by
  have hk1 : Kept wr w1 (fun k => v1.ownBlock = some k) := (Kept.of_below (T := fun k => v1.ownBlock = some k) hW (fun k hk h' => by omega)).trans (Kept.of_grown (T := fun k => v1.ownBlock = some k) hg (fun k e => e)) (fun _ _ h => h)
  have hlt := h.mem.lt
  have hRv : ¬ v1.ownBlock = some R := h.mem.ne
  exact ⟨(hk1.cell (p := ⟨R, 0, none⟩) hlt hRv).trans h.mem.c0, (hk1.cell (p := ⟨R, 1, none⟩) hlt hRv).trans h.mem.c1, (hk1.cell (p := ⟨R, 2, none⟩) hlt hRv).trans h.mem.c2,
    (hk1.frozen (p := ⟨R, 0, none⟩) hlt hRv).trans (h.mem.f 0 (by decide)), (hk1.frozen (p := ⟨R, 1, none⟩) hlt hRv).trans (h.mem.f 1 (by decide)), (hk1.frozen (p := ⟨R, 2, none⟩) hlt hRv).trans (h.mem.f 2 (by decide)), Nat.lt_of_lt_of_le hlt hk1.size⟩

theorem one_newd {w : World} (n : Int) : ∀ (j : Nat) (u : Value), [Value.int .u8 n][j]? = some u → (w.alloc (.cells #[.int .u8 n] 5)).drew.cell? ((⟨w.heap.size, 0, none⟩ : Addr).add j) = some u := one_new n
theorem two_newd (w : World) (k : Int) (o : ByteArray) : ∀ (j : Nat) (u : Value), (evCells [(k, o)])[j]? = some u → ((w.alloc (.cells #[.int .i64 k, .string o] 55)).alloc (.cells #[.int .i64 k, .string o] 55)).cell? ((⟨w.heap.size + 1, 0, none⟩ : Addr).add j) = some u := by
  intro j u hj
  have hh : ((w.alloc (.cells #[.int .i64 k, .string o] 55)).alloc (.cells #[.int .i64 k, .string o] 55)).heap[w.heap.size + 1]? = some (.cells #[.int .i64 k, .string o] 55 (0, 0)) := by
    show ((w.heap.push _).push _)[w.heap.size + 1]? = _
    rw [Array.getElem?_push, if_pos (by simp)]
  match j, hj with
  | 0, hj =>
    simp [evCells] at hj; subst hj
    rw [Addr.add_lit, cell_of_row _ _ _ _ _ _ hh]; rfl
  | 1, hj =>
    simp [evCells] at hj; subst hj
    rw [Addr.add_lit, cell_of_row _ _ _ _ _ _ hh]; rfl
  | j + 2, hj => simp [evCells] at hj
theorem one_newe (w : World) (k : Int) (o : ByteArray) (g : Nat) (hg : g = w.heap.size) : ∀ (j : Nat) (u : Value), (evCells [(k, o)])[j]? = some u → (w.alloc (.cells #[.int .i64 k, .string o] 55)).cell? ((⟨g, 0, none⟩ : Addr).add j) = some u := by
  subst hg
  intro j u hj
  have hh : (w.alloc (.cells #[.int .i64 k, .string o] 55)).heap[w.heap.size]? = some (.cells #[.int .i64 k, .string o] 55 (0, 0)) := by
    show (w.heap.push _)[w.heap.size]? = _
    simp
  match j, hj with
  | 0, hj =>
    simp [evCells] at hj; subst hj
    rw [Addr.add_lit, cell_of_row _ _ _ _ _ _ hh]; rfl
  | 1, hj =>
    simp [evCells] at hj; subst hj
    rw [Addr.add_lit, cell_of_row _ _ _ _ _ _ hh]; rfl
  | j + 2, hj => simp [evCells] at hj
theorem below_new (w : World) (o : Obj) : Below w.heap.size w (w.alloc o).drew := ((Below.refl _ _).alloc (Nat.le_refl _) _).drew

set_option maxHeartbeats 4000000 in
set_option maxRecDepth 1000000 in
theorem ref_feed_any (s : ByteArray) (st : Hm.St) (since0 : List Int) (base R : Nat) (v : Value) (w : World) (h : RC w base R v st.inn st.ones since0) (hrel0 : Hm.Rel st since0) (hok0 : Hm.Ok st) (hlow0 : Hm.Low st) (hbase : base ≤ w.heap.size) (hs : s.size ≤ 5000) (ho : st.ones ≤ 1000000) (hsl : since0.length ≤ 500000) :
    Calls Tryd.prog 19 #[.pointer (some ⟨R, 0, none⟩), .string s] w fun e w' => ∃ x v' since', e = .returned x ∧ RF base R v w w' (Hm.feedS st (Bm.nums s)).1.inn (Hm.feedS st (Bm.nums s)).1.ones since' (Hm.feedS st (Bm.nums s)).2 x v' ∧ Hm.Rel (Hm.feedS st (Bm.nums s)).1 since' ∧ since'.length ≤ since0.length + s.size := by
  obtain ⟨i0, hi, hz0, hz1, hz2⟩ := info_parts byte5
  obtain ⟨j0, hj, hy0, hy1, hy2⟩ := info_parts info_rev
  have hlt := h.lt
  go_enter Tryd.func19, Tryd.ntmps19
  go_wp2
  go_loopw [5, 6] (fun mv c wr => ∃ (i : Nat) (since : List Int) (v1 : Value), i ≤ s.size ∧ c = .int .i64 i ∧ RF base R v w wr (Hm.feedS st ((Bm.nums s).take i)).1.inn (Hm.feedS st ((Bm.nums s).take i)).1.ones since (Hm.feedS st ((Bm.nums s).take i)).2 mv v1 ∧ Hm.Rel (Hm.feedS st ((Bm.nums s).take i)).1 since ∧ since.length ≤ since0.length + i)
    (fun _ c _ => s.size - (intOf c).toNat)
  case atStart => exact ⟨0, since0, v, Nat.zero_le _, rfl, ⟨h, Kept.refl _ _, fun k hk => Or.inl hk, World.ownsRow_nil _ _ _ _, fun k hk => by simp [Value.ownBlock] at hk, hlt⟩, hrel0, by omega⟩
  case round =>
    obtain ⟨i, since, v1, hik, rfl, hF, hrl, hsn⟩ := hrel
    by_cases hlt2 : i < s.size
    · have HTT : Hid (Hm.feedS st ((Bm.nums s).take (i + 1)) = ((Hm.stepS (Hm.feedS st ((Bm.nums s).take i)).1 (s[i].toNat : Int)).1, (Hm.feedS st ((Bm.nums s).take i)).2 ++ (Hm.stepS (Hm.feedS st ((Bm.nums s).take i)).1 (s[i].toNat : Int)).2)) := feed_take s st i hlt2
      have hon : (Hm.feedS st ((Bm.nums s).take i)).1.ones ≤ 2000000 := by
        have := Hm.feed_ones st ((Bm.nums s).take i)
        rw [List.length_take] at this
        omega
      have hlen : (Hm.feedS st ((Bm.nums s).take i)).2.length ≤ 5000 := by
        have := Hm.feed_length st ((Bm.nums s).take i)
        rw [List.length_take] at this
        omega
      have hok := hok0.feed ((Bm.nums s).take i)
      have hlow := Hm.low_feed hlow0 ((Bm.nums s).take i)
      have hbr : base ≤ wr.heap.size := Nat.le_trans hbase hF.kept.size
      obtain ⟨r, hr⟩ : ∃ r, r = Hm.feedS st ((Bm.nums s).take i) := ⟨_, rfl⟩
      rw [← hr] at hF hon hlen HTT hrl hok hlow
      clear hr
      have ho1 : ((r.1.ones : Nat) : Int) ≤ 2000000 := by omega
      by_cases h48 : (s[i].toNat : Int) = 48
      · have e48 : Hm.stepS r.1 (s[i].toNat : Int) = Hm.zeroS r.1 := by rw [h48]; simp [Hm.stepS]
        rw [e48] at HTT
        have t48' : ((s[i].toNat : Int) != 48) = false := by simp [h48]
        have t49 : ((s[i].toNat : Int) == 49) = false := by simp [h48]
        have HC : Hid ((s[i].toNat : Int) = 48) := h48
        clear h48 e48
        obtain ⟨xv, cp, hv1⟩ : ∃ xv cp, v1 = .slice xv since.length cp := by
          rcases hF.mem.own.2 with ⟨rfl, h0⟩ | ⟨g, cp, cur, rfl, _⟩
          · exact ⟨none, 0, by rw [h0]⟩
          · exact ⟨_, cp, rfl⟩
        subst hv1
        have c0 := hF.mem.c0
        have c1 := hF.mem.c1
        have f0 := hF.mem.f 0 (by decide)
        have hRl := hF.mem.lt
        go_upto_if 29 with fail
        go_cut [5] (fun mv wx => ∃ (since2 : List Int) (v2 : Value), RF base R v w wx r.1.inn r.1.ones since2 r.2 mv v2 ∧ Hid (since2 = if r.1.inn = true then since ++ [48] else since))
        case first =>
          cases hin : r.1.inn with
          | true =>
            rw [hin] at c1
            go_wp2
            go_region_law ((refine step_append_lies _ (by rfl) _ _ _ (by rfl) base 5 i0 (.int .u8 0) 1 1 Tryd.underlying34 hi hz0 hz1 hz2 rfl (by decide) (.slice xv since.length cp) since.length (since.map (Value.int .u8)) (by rfl) ((hF.mem.own.alloc _).drew) ⟨wr.heap.size, 0, none⟩ 1 1 [.int .u8 (s[i].toNat : Int)] (by rfl) (by rfl) (one_newd _) (one_one _) (by decide) (by unfold maxLen; omega) (by omega) (by simp; omega) (wr.heap.size + 1) (by simp) ?_; intro g cap w1 hown1 hgrow hat hgl; obtain ⟨k0, k1, k2, q0, q1, q2, kl⟩ := hF.cells (below_new wr _) hgrow))
            all_goals
              have hF2 := hF.bit (below_new wr _) hgrow hown1 (by rcases hat with h' | h'; exact Or.inl h'; exact Or.inr (by simp; omega))
              rw [HC.out] at hF2
              clear hown1 hgrow hat
              go_wp2
              go_meet
              case rel => exact ⟨_, _, hF2, by show _ = _; rw [hin, if_pos rfl]⟩
          | false =>
            rw [hin] at c1
            go_wp2
            go_meet
            case rel => exact ⟨_, _, hF, by show _ = _; rw [hin, if_neg (by decide)]⟩
        case rest =>
          obtain ⟨since2, v2, hF2, HS2⟩ := hcut
          have d0 := hF2.mem.c0
          have d1 := hF2.mem.c1
          have d2 := hF2.mem.c2
          have g1 := hF2.mem.f 1 (by decide)
          have g0 := hF2.mem.f 0 (by decide)
          have g2 := hF2.mem.f 2 (by decide)
          have hRc := hF2.mem.lt
          clear c0 c1 f0 hRl hF
          have hF3 := hF2.set2 0
          cases hin : r.1.inn with
          | true =>
            have HS3 : Hid (since2 = since ++ [48]) := by show _ = _; rw [HS2.out, if_pos hin]
            rw [hin] at d1 hF3
            by_cases h6 : r.1.ones = 6
            · rw [h6] at d2
              have HEV : Hid ((Hm.zeroS r.1).1 = ⟨0, true, []⟩ ∧ (Hm.zeroS r.1).2 = if (refEv since2).2.2 = true then [((refEv since2).1, (refEv since2).2.1)] else []) := by
                obtain ⟨q1, q2⟩ := hrl.inn hin
                have e1 : Hm.zeroS r.1 = (⟨0, true, []⟩, Hm.endedE r.1.cont) := by unfold Hm.zeroS; rw [if_pos h6]
                have e2 : Hm.raw 0 since2 = Hm.raw 0 since := by rw [HS3.out, Hm.raw_snoc, q2, h6]; simp [Hm.one1]
                refine ⟨by rw [e1], ?_⟩
                rw [e1]
                show Hm.endedE r.1.cont = _
                rw [q1, ← e2, refEv_ended]
              have hsl2 : since2.length ≤ 1000000 := by rw [HS3.out]; simp; omega
              have hen := ref_ended_any since2 base v2 _ hsl2 hF3.mem.own
              clear h6
              go_wp2_with fail
              refine hen.mono ?_
              rintro e w5 ⟨rfl, hb5⟩
              have hF5 := hF3.behind hb5
              have a0 := hF5.mem.c0
              have a1 := hF5.mem.c1
              have a2 := hF5.mem.c2
              have b0 := hF5.mem.f 0 (by decide)
              have b1 := hF5.mem.f 1 (by decide)
              have hR5 := hF5.mem.lt
              clear hen d0 d1 d2 g0 g1 g2 hF3
              obtain ⟨hz1', hz2'⟩ := HEV.out
              have HT2 : Hid (Hm.feedS st ((Bm.nums s).take (i + 1)) = (⟨0, true, []⟩, r.2 ++ if (refEv since2).2.2 = true then [((refEv since2).1, (refEv since2).2.1)] else [])) := by show _ = _; rw [HTT.out, hz1', hz2']
              clear hz1' hz2' HEV HTT
              obtain ⟨ev, hev⟩ : ∃ ev, ev = refEv since2 := ⟨_, rfl⟩
              rw [← hev] at HT2
              rw [← hev]
              clear hev
              have hbw : w.heap.size ≤ w5.heap.size := hF5.kept.size
              cases hok2 : ev.2.2 with
              | true =>
                rw [hok2, if_pos rfl] at HT2
                have hrow6 := (hF5.row.alloc (.cells #[.int .i64 ev.1, .string ev.2.1] 55)).alloc (.cells #[.int .i64 ev.1, .string ev.2.1] 55)
                go_wp2_with (at_builtin; refine wpList_append_at _ rfl _ _ 40 rfl w.heap.size 55 j0 _ 2 24 Tryd.underlying40 hj hy0 hy1 hy2 rfl (by decide) _ _ _ rfl hrow6 ⟨w5.heap.size + 1, 0, none⟩ 1 1 (evCells [(ev.1, ev.2.1)]) rfl rfl (two_newd _ _ _) (ev_one' _) ?c3 ?c4 ?c5 (by decide) ?_)
                case c3 => unfold maxLen; omega
                case c4 => omega
                case c5 => first | omega | (simp; omega)
                intro g2 cap2 w7 ho2 hg2 hw2
                have hF7 := hF5.event (((Below.refl w5.heap.size w5).alloc (Nat.le_refl _) _).alloc (by simp) _) hg2 ho2 (by simpa using hw2)
                have m0 := hF7.mem.c0
                have m1 := hF7.mem.c1
                have n0 := hF7.mem.f 0 (by decide)
                have n1 := hF7.mem.f 1 (by decide)
                have hR7 := hF7.mem.lt
                have hF8 := (hF7.set1 true).nil
                clear ho2 hg2 hw2 hrow6 hF5 hF7 a0 a1 a2 b0 b1
                go_wp2
                go_roundw
                case rel => exact ⟨i + 1, [], _, by omega, by go_num, by rw [HT2.out]; exact hF8, by rw [HT2.out]; exact Hm.Rel.start, by simp⟩
                case measure => simp [intOf]; omega
              | false =>
                rw [hok2, if_neg (by decide), List.append_nil] at HT2
                have hF8 := (((hF5.set1 true).nil).behind (w2 := ((w5.setCell ⟨R, 1, none⟩ (.bool true)).setCell ⟨R, 0, none⟩ (.slice none 0 0)).alloc (.cells #[.int .i64 ev.1, .string ev.2.1] 55)) ((Below.refl _ _).alloc (Nat.le_refl _) _))
                clear hF5
                go_wp2
                go_roundw
                case rel => exact ⟨i + 1, [], _, by omega, by go_num, by rw [HT2.out]; exact hF8, by rw [HT2.out]; exact Hm.Rel.start, by simp⟩
                case measure => simp [intOf]; omega
            · obtain ⟨z1, z2⟩ := hrl.zero hin h6 (by have := hlow hin; omega)
              rw [z1, List.append_nil] at HTT
              have t6 : ((r.1.ones : Int) != 6) = true := by simp; omega
              clear h6 z1
              go_wp2
              go_roundw
              case rel => exact ⟨i + 1, since2, v2, by omega, by go_num, by rw [HTT.out]; exact hF3, by rw [HTT.out, HS3.out]; exact z2, by rw [HS3.out]; simp; omega⟩
              case measure => simp [intOf]; omega
          | false =>
            have HS3 : Hid (since2 = []) := by show _ = _; rw [HS2.out, if_neg (by rw [hin]; decide)]; exact hrl.out hin
            rw [hin] at d1 hF3
            by_cases h6 : r.1.ones = 6
            · rw [h6] at d2
              have z1 : Hm.zeroS r.1 = (⟨0, true, []⟩, []) := by
                unfold Hm.zeroS
                rw [if_pos h6, hok.hunts hin]
                rfl
              rw [z1, List.append_nil] at HTT
              have hF4 := (hF3.set1 true).nil
              clear h6 z1
              go_wp2
              go_roundw
              case rel => exact ⟨i + 1, [], _, by omega, by go_num, by rw [HTT.out]; exact hF4, by rw [HTT.out]; exact Hm.Rel.start, by simp⟩
              case measure => simp [intOf]; omega
            · have z1 := Hm.zero_out hok hin h6
              rw [z1, List.append_nil] at HTT
              have t6 : ((r.1.ones : Int) != 6) = true := by simp; omega
              clear h6 z1
              go_wp2
              go_roundw
              case rel => exact ⟨i + 1, since2, v2, by omega, by go_num, by rw [HTT.out]; exact hF3, by rw [HTT.out, HS3.out]; exact Hm.Rel.out' 0, by rw [HS3.out]; simp⟩
              case measure => simp [intOf]; omega
      · have t48' : ((s[i].toNat : Int) != 48) = true := by simpa using h48
        by_cases h49 : (s[i].toNat : Int) = 49
        · have e49 : Hm.stepS r.1 (s[i].toNat : Int) = Hm.oneS r.1 := by rw [h49]; simp [Hm.stepS]
          rw [e49] at HTT
          have t49' : ((s[i].toNat : Int) != 49) = false := by simp [h49]
          have t49 : ((s[i].toNat : Int) == 49) = true := by simp [h49]
          have HC : Hid ((s[i].toNat : Int) = 49) := h49
          clear h48 h49 e49
          obtain ⟨xv, cp, hv1⟩ : ∃ xv cp, v1 = .slice xv since.length cp := by
            rcases hF.mem.own.2 with ⟨rfl, h0⟩ | ⟨g, cp, cur, rfl, _⟩
            · exact ⟨none, 0, by rw [h0]⟩
            · exact ⟨_, cp, rfl⟩
          subst hv1
          have c0 := hF.mem.c0
          have c1 := hF.mem.c1
          have f0 := hF.mem.f 0 (by decide)
          have hRl := hF.mem.lt
          go_upto_if 29 with fail
          go_cut [5] (fun mv wx => ∃ (since2 : List Int) (v2 : Value), RF base R v w wx r.1.inn r.1.ones since2 r.2 mv v2 ∧ Hid (since2 = if r.1.inn = true then since ++ [49] else since))
          case first =>
            cases hin : r.1.inn with
            | true =>
              rw [hin] at c1
              go_wp2
              go_region_law ((refine step_append_lies _ (by rfl) _ _ _ (by rfl) base 5 i0 (.int .u8 0) 1 1 Tryd.underlying34 hi hz0 hz1 hz2 rfl (by decide) (.slice xv since.length cp) since.length (since.map (Value.int .u8)) (by rfl) ((hF.mem.own.alloc _).drew) ⟨wr.heap.size, 0, none⟩ 1 1 [.int .u8 (s[i].toNat : Int)] (by rfl) (by rfl) (one_newd _) (one_one _) (by decide) (by unfold maxLen; omega) (by omega) (by simp; omega) (wr.heap.size + 1) (by simp) ?_; intro g cap w1 hown1 hgrow hat hgl; obtain ⟨k0, k1, k2, q0, q1, q2, kl⟩ := hF.cells (below_new wr _) hgrow))
              all_goals
                have hF2 := hF.bit (below_new wr _) hgrow hown1 (by rcases hat with h' | h'; exact Or.inl h'; exact Or.inr (by simp; omega))
                rw [HC.out] at hF2
                clear hown1 hgrow hat
                go_wp2
                go_meet
                case rel => exact ⟨_, _, hF2, by show _ = _; rw [hin, if_pos rfl]⟩
            | false =>
              rw [hin] at c1
              go_wp2
              go_meet
              case rel => exact ⟨_, _, hF, by show _ = _; rw [hin, if_neg (by decide)]⟩
          case rest =>
            obtain ⟨since2, v2, hF2, HS2⟩ := hcut
            have d0 := hF2.mem.c0
            have d1 := hF2.mem.c1
            have d2 := hF2.mem.c2
            have g1 := hF2.mem.f 1 (by decide)
            have g0 := hF2.mem.f 0 (by decide)
            have g2 := hF2.mem.f 2 (by decide)
            have hRc := hF2.mem.lt
            clear c0 c1 f0 hRl hF
            have hF3 := hF2.set2 (r.1.ones + 1)
            rw [show ((r.1.ones + 1 : Nat) : Int) = (r.1.ones : Int) + 1 from by omega] at hF3
            cases hin : r.1.inn with
            | true =>
              have HS3 : Hid (since2 = since ++ [49]) := by show _ = _; rw [HS2.out, if_pos hin]
              rw [hin] at d1 hF3
              by_cases h7 : r.1.ones + 1 = 7
              · have z1 := Hm.one_seven hin h7
                rw [z1] at HTT
                have t7 : ((r.1.ones : Int) + 1 == 7) = true := by simp; omega
                have H7 : Hid (r.1.ones + 1 = 7) := h7
                clear h7 z1
                have hrow6 := hF3.row.alloc (.cells #[.int .i64 1, .string ⟨#[]⟩] 55)
                have hbw : w.heap.size ≤ wc.heap.size := hF2.kept.size
                go_wp2_with (at_builtin; refine wpList_append_at _ rfl _ _ 40 rfl w.heap.size 55 j0 _ 2 24 Tryd.underlying40 hj hy0 hy1 hy2 rfl (by decide) _ _ _ rfl hrow6 ⟨wc.heap.size, 0, none⟩ 1 1 (evCells [(1, ⟨#[]⟩)]) rfl rfl (one_newe _ _ _ _ (by simp)) (ev_one' _) ?c3 ?c4 ?c5 (by decide) ?_)
                case c3 => unfold maxLen; omega
                case c4 => omega
                case c5 => first | omega | (simp; omega)
                intro e2 cap2 w7 ho2 hg2 hw2
                have hF7 := hF3.event ((Below.refl _ _).alloc (Nat.le_refl _) _) hg2 ho2 (by simpa using hw2)
                have m0 := hF7.mem.c0
                have m1 := hF7.mem.c1
                have n0 := hF7.mem.f 0 (by decide)
                have n1 := hF7.mem.f 1 (by decide)
                have hR7 := hF7.mem.lt
                have hF8 := (hF7.set1 false).nil
                clear ho2 hg2 hw2 hrow6 hF7 d0 d1 d2 g0 g1 g2 hF3 hF2
                rw [H7.out] at hF8
                go_wp2
                go_roundw
                case rel => exact ⟨i + 1, [], _, by omega, by go_num, by rw [HTT.out]; exact hF8, by rw [HTT.out]; exact Hm.Rel.out' 7, by simp⟩
                case measure => simp [intOf]; omega
              · obtain ⟨z1, z2⟩ := hrl.one hin h7 (hlow hin)
                rw [z1, List.append_nil] at HTT
                have t7 : ((r.1.ones : Int) + 1 == 7) = false := by simp; omega
                clear h7 z1
                go_wp2
                go_roundw
                case rel => exact ⟨i + 1, since2, v2, by omega, by go_num, by rw [HTT.out]; exact hF3, by rw [HTT.out, HS3.out]; exact z2, by rw [HS3.out]; simp; omega⟩
                case measure => simp [intOf]; omega
            | false =>
              have HS3 : Hid (since2 = []) := by show _ = _; rw [HS2.out, if_neg (by rw [hin]; decide)]; exact hrl.out hin
              rw [hin] at d1 hF3
              have z1 := Hm.one_out hok hin
              rw [z1, List.append_nil] at HTT
              clear z1
              by_cases h7 : r.1.ones + 1 = 7
              · have t7 : ((r.1.ones : Int) + 1 == 7) = true := by simp; omega
                clear h7
                go_wp2
                go_roundw
                case rel => exact ⟨i + 1, since2, v2, by omega, by go_num, by rw [HTT.out]; exact hF3, by rw [HTT.out, HS3.out]; exact Hm.Rel.out' _, by rw [HS3.out]; simp⟩
                case measure => simp [intOf]; omega
              · have t7 : ((r.1.ones : Int) + 1 == 7) = false := by simp; omega
                clear h7
                go_wp2
                go_roundw
                case rel => exact ⟨i + 1, since2, v2, by omega, by go_num, by rw [HTT.out]; exact hF3, by rw [HTT.out, HS3.out]; exact Hm.Rel.out' _, by rw [HS3.out]; simp⟩
                case measure => simp [intOf]; omega
        · have e50 : Hm.stepS r.1 (s[i].toNat : Int) = (r.1, []) := by simp [Hm.stepS, h48, h49]
          rw [e50, List.append_nil] at HTT
          have t49' : ((s[i].toNat : Int) != 49) = true := by simpa using h49
          clear h48 h49 e50
          go_wp2
          go_roundw
          case rel => exact ⟨i + 1, since, v1, by omega, by go_num, by rw [HTT.out]; exact hF, by rw [HTT.out]; exact hrl, by omega⟩
          case measure => simp [intOf]; omega
    · have hi' : i = s.size := by omega
      subst hi'
      rw [List.take_of_length_le (by rw [Bm.nums_length]; exact Nat.le_refl _)] at hF hrl
      go_wp2
      go_ret
      exact ⟨_, _, _, rfl, hF, hrl, hsn⟩
end Go.Proofs.YtoakkfmebdglhaaDoor
