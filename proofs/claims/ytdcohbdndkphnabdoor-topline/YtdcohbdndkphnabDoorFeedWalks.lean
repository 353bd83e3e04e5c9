/-
  The walks of hdlc.New, of Idle and of Feed: a new decoder; whether the line is idle; what is met by bits, in a row of its own. Nothing but the decoder is turned.
-/
import Derived.Test.YtdcohbdndkphnabDoorOneWalks
import Derived.Laws.AppendOwnNone
namespace Go.Proofs.YtdcohbdndkphnabDoor
open Go.RowKit
set_option linter.unusedVariables false
set_option linter.unusedSimpArgs false

theorem info_ev : (Tryd.prog.info? 53).map (fun i => (i.zero, i.size, i.bytes)) = some (some (.agg #[.int .i64 0, .string ByteArray.empty]), 2, 24) := by kernel_rfl

/-- bits are on their way: r is what came of them till now; mv what was met, v1 the content -/
structure Feeding (base D : Nat) (v : Value) (w wr : World) (r : Hm.St × List Hm.Ev) (mv v1 : Value) : Prop where
  dec : Dec wr base D v1 r.1
  kept : Kept w wr (touch D v)
  fresh : ∀ k, v1.ownBlock = some k → v.ownBlock = some k ∨ w.heap.size ≤ k
  row : wr.ownsRow w.heap.size 53 2 mv r.2.length (evCells r.2)
  apart : ∀ k, mv.ownBlock = some k → v1.ownBlock ≠ some k
  nil : r.2 = [] → mv = .slice none 0 0

theorem Feeding.step {base D : Nat} {v mv v1 : Value} {w wr w' : World} {r : Hm.St × List Hm.Ev} {st2 : Hm.St} (h : Feeding base D v w wr r mv v1) (hD : D < w.heap.size) (hM : Moved wr w' base D v1 st2) : ∃ v2, Feeding base D v w w' (st2, r.2) mv v2 := by
  obtain ⟨v2, hd, hk, hf⟩ := hM
  have hB := h.kept.size
  refine ⟨v2, hd, ?_, ?_, ?_, ?_, h.nil⟩
  · refine h.kept.trans hk (fun k hk' ht => ?_)
    rcases ht with rfl | ht
    · exact Or.inl rfl
    · rcases h.fresh k ht with h' | h'
      · exact Or.inr h'
      · omega
  · intro k hk'
    rcases hf k hk' with h' | h'
    · exact h.fresh k h'
    · exact Or.inr (by omega)
  · refine hk.owns h.row (fun k hk' ht => ?_)
    have h1 := (h.row.lt k hk').1
    rcases ht with rfl | ht
    · omega
    · exact h.apart k hk' ht
  · intro k hk' hv2
    rcases hf k hv2 with h' | h'
    · exact h.apart k hk' h'
    · have := (h.row.lt k hk').2; omega

theorem Feeding.more {base D g cap m : Nat} {v mv v1 : Value} {w w' w2 : World} {r : Hm.St × List Hm.Ev} {evs : List Hm.Ev} (h : Feeding base D v w w' r mv v1) (hD : D < w.heap.size)
    (hg : w'.grownBy w2 mv.ownBlock) (hm : m = evs.length) (hne : 0 < m) (ho : w2.ownsRow w.heap.size 53 2 (.slice (some ⟨g, 0, none⟩) (r.2.length + m) cap) (r.2.length + m) (evCells r.2 ++ evCells evs)) (hw : mv.ownBlock = some g ∨ w'.heap.size ≤ g) :
    Feeding base D v w w2 (r.1, r.2 ++ evs) (.slice (some ⟨g, 0, none⟩) (r.2.length + m) cap) v1 := by
  subst hm
  have hk : Kept w' w2 (fun k => mv.ownBlock = some k) := Kept.of_grown hg (fun k e => e)
  refine ⟨h.dec.kept hk (fun hx => ?_) (fun k hk' hx => h.apart k hx hk'), ?_, h.fresh, ?_, ?_, fun hx => by simp at hx; rw [hx.2] at hne; exact absurd hne (by decide)⟩
  · have := (h.row.lt D hx).1; omega
  · refine h.kept.trans hk (fun k hk' ht => ?_)
    have := (h.row.lt k ht).1; omega
  · rw [evCells_append, List.length_append]; exact ho
  · intro k hk' hv
    simp [Value.ownBlock] at hk'
    subst hk'
    rcases hw with h' | h'
    · exact h.apart g h' hv
    · have := (h.dec.own.lt g hv).2; omega

theorem two_new {w : World} {base g n cap : Nat} {xs : List Value} (h : w.ownsRow base 53 2 (.slice (some ⟨g, 0, none⟩) n cap) n xs) : ∀ (j : Nat) (u : Value), xs[j]? = some u → w.cell? ((⟨g, 0, none⟩ : Addr).add j) = some u :=
  h.cells (g := g) rfl
theorem ev_one' (l : List Hm.Ev) : ∀ u ∈ evCells l, u.oneCell' = true := by
  intro u hu
  simp only [evCells, List.mem_flatMap, List.mem_cons, List.not_mem_nil, or_false] at hu
  obtain ⟨e, _, h | h⟩ := hu <;> subst h <;> rfl

theorem feed_take (s : ByteArray) (st : Hm.St) (i : Nat) (h : i < s.size) : Hm.feedS st ((Bm.nums s).take (i + 1)) =
    ((Hm.stepS (Hm.feedS st ((Bm.nums s).take i)).1 (s[i].toNat : Int)).1, (Hm.feedS st ((Bm.nums s).take i)).2 ++ (Hm.stepS (Hm.feedS st ((Bm.nums s).take i)).1 (s[i].toNat : Int)).2) := by
  rw [Bm.nums_take s i h, Hm.feed_snoc]

set_option maxHeartbeats 1000000 in
set_option maxRecDepth 100000 in
theorem feed_any (s : ByteArray) (st : Hm.St) (base D : Nat) (v : Value) (w : World) (h : Dec w base D v st) (hbase : base ≤ w.heap.size) (hs : s.size ≤ 1000000) (ho : st.ones + s.size ≤ 1000000000) :
    Calls Tryd.prog 16 #[.pointer (some ⟨D, 0, none⟩), .string s] w fun e w' => ∃ x v', e = .returned x ∧ Feeding base D v w w' (Hm.feedS st (Bm.nums s)) x v' := by
  obtain ⟨i0, hi, hz0, hz1, hz2⟩ := info_parts info_ev
  have hlt := h.lt
  go_enter Tryd.func16, Tryd.ntmps16
  go_wp2
  go_loopw [5, 11] (fun mv c wr => ∃ (i : Nat) (v1 : Value), i ≤ s.size ∧ c = .int .i64 i ∧ Feeding base D v w wr (Hm.feedS st ((Bm.nums s).take i)) mv v1)
    (fun _ c _ => s.size - (intOf c).toNat)
  case atStart => exact ⟨0, v, Nat.zero_le _, rfl, h, Kept.refl _ _, fun k hk => Or.inl hk, World.ownsRow_nil _ _ _ _, fun k hk => by simp [Value.ownBlock] at hk, fun _ => rfl⟩
  case round =>
    obtain ⟨i, v1, hik, rfl, hF⟩ := hrel
    by_cases hlt2 : i < s.size
    · have HT := feed_take s st i hlt2
      have HTT : Hid (Hm.feedS st ((Bm.nums s).take (i + 1)) = ((Hm.stepS (Hm.feedS st ((Bm.nums s).take i)).1 (s[i].toNat : Int)).1, (Hm.feedS st ((Bm.nums s).take i)).2 ++ (Hm.stepS (Hm.feedS st ((Bm.nums s).take i)).1 (s[i].toNat : Int)).2)) := HT
      clear HT
      have hon : (Hm.feedS st ((Bm.nums s).take i)).1.ones ≤ 1000000000000 := by
        have := Hm.feed_ones st ((Bm.nums s).take i)
        rw [List.length_take] at this
        omega
      have hlen : (Hm.feedS st ((Bm.nums s).take i)).2.length ≤ 1000000 := by
        have := Hm.feed_length st ((Bm.nums s).take i)
        rw [List.length_take] at this
        omega
      have hbr : base ≤ _ := Nat.le_trans hbase hF.kept.size
      obtain ⟨r, hr⟩ : ∃ r, r = Hm.feedS st ((Bm.nums s).take i) := ⟨_, rfl⟩
      rw [← hr] at hF hon hlen HTT
      clear hr
      by_cases h48 : (s[i].toNat : Int) = 48
      · have e48 : Hm.stepS r.1 (s[i].toNat : Int) = Hm.zeroS r.1 := by rw [h48]; simp [Hm.stepS]
        rw [e48] at HTT
        clear e48
        have t48 : ((s[i].toNat : Int) == 48) = true := by simp [h48]
        clear h48
        have hc := zero_any r.1 base D v1 _ hF.dec hbr hon
        go_wp2_with fail
        refine hc.mono ?_
        rintro e w' ⟨x, rfl, hM, hrow, hnil⟩
        clear hc
        obtain ⟨v2, hF2⟩ := hF.step hlt hM
        have hlen2 : (Hm.zeroS r.1).2.length ≤ 1 := by
          have := Hm.step_length r.1 48
          simpa [Hm.stepS] using this
        by_cases hev : (Hm.zeroS r.1).2 = []
        · obtain rfl := hnil hev
          rw [hev, List.append_nil] at HTT
          clear hrow hnil hev hlen2
          go_wp2_with (at_builtin; refine wpList_append_own_none rfl _ _ 47 rfl w.heap.size 53 i0 2 Tryd.underlying47 hi _ _ _ rfl hF2.row rfl ?_)
          go_wp2
          go_roundw
          case rel => exact ⟨i + 1, v2, by omega, by go_num, by rw [HTT.out]; exact hF2⟩
          case measure => simp [intOf]; omega
        · have h1 : (Hm.zeroS r.1).2.length = 1 := by
            have : (Hm.zeroS r.1).2.length ≠ 0 := fun e => hev (List.eq_nil_of_length_eq_zero e)
            omega
          obtain ⟨g, cap, rfl⟩ : ∃ g cap, x = .slice (some ⟨g, 0, none⟩) (Hm.zeroS r.1).2.length cap := by
            rcases hrow.2 with ⟨_, h0⟩ | ⟨g, cap, cur, h, _⟩
            · omega
            · exact ⟨g, cap, h⟩
          clear hnil hev hlen2
          obtain ⟨evs, hevs⟩ : ∃ evs, evs = (Hm.zeroS r.1).2 := ⟨_, rfl⟩
          rw [← hevs] at hrow h1 HTT
          rw [← hevs]
          clear hevs
          have h1a : 0 < evs.length := by omega
          have h1b : evs.length ≤ 1 := by omega
          clear h1
          have hsz2 : w.heap.size ≤ w'.heap.size := hF2.kept.size
          have hnews : Hid (∀ (j : Nat) (u : Value), (evCells evs)[j]? = some u → w'.cell? ((⟨g, 0, none⟩ : Addr).add j) = some u) := two_new hrow
          have hcl : Hid ((evCells evs).length = evs.length * 2) := evCells_length evs
          go_wp2_with (at_builtin; refine wpList_append_at _ rfl _ _ 47 rfl w.heap.size 53 i0 _ 2 24 Tryd.underlying47 hi hz0 hz1 hz2 rfl (by decide) _ _ _ rfl hF2.row ⟨g, 0, none⟩ evs.length _ (evCells evs) rfl hcl.out hnews.out (ev_one' _) ?c3 ?c4 hsz2 ?c6 ?_)
          case c3 => unfold maxLen; omega
          case c4 => omega
          case c6 => omega
          intro g2 cap2 w2 ho2 hg2 hw2
          have hF3 := hF2.more hlt hg2 rfl h1a ho2 hw2
          clear ho2 hg2 hw2 hnews hrow hcl
          go_wp2
          go_roundw
          case rel => exact ⟨i + 1, v2, by omega, by go_num, by rw [HTT.out]; exact hF3⟩
          case measure => simp [intOf]; omega
      · have t48 : ((s[i].toNat : Int) == 48) = false := by simpa using h48
        by_cases h49 : (s[i].toNat : Int) = 49
        · have e49 : Hm.stepS r.1 (s[i].toNat : Int) = Hm.oneS r.1 := by rw [h49]; simp [Hm.stepS]
          rw [e49] at HTT
          clear e49
          have t49 : ((s[i].toNat : Int) == 49) = true := by simp [h49]
          clear h49 h48
          have hc := one_any r.1 base D v1 _ hF.dec hbr hon
          go_wp2_with fail
          refine hc.mono ?_
          rintro e w' ⟨x, rfl, hM, hrow, hnil⟩
          clear hc
          obtain ⟨v2, hF2⟩ := hF.step hlt hM
          have hlen2 : (Hm.oneS r.1).2.length ≤ 1 := by
            have := Hm.step_length r.1 49
            simpa [Hm.stepS] using this
          by_cases hev : (Hm.oneS r.1).2 = []
          · obtain rfl := hnil hev
            rw [hev, List.append_nil] at HTT
            clear hrow hnil hev hlen2
            go_wp2_with (at_builtin; refine wpList_append_own_none rfl _ _ 47 rfl w.heap.size 53 i0 2 Tryd.underlying47 hi _ _ _ rfl hF2.row rfl ?_)
            go_wp2
            go_roundw
            case rel => exact ⟨i + 1, v2, by omega, by go_num, by rw [HTT.out]; exact hF2⟩
            case measure => simp [intOf]; omega
          · have h1 : (Hm.oneS r.1).2.length = 1 := by
              have : (Hm.oneS r.1).2.length ≠ 0 := fun e => hev (List.eq_nil_of_length_eq_zero e)
              omega
            obtain ⟨g, cap, rfl⟩ : ∃ g cap, x = .slice (some ⟨g, 0, none⟩) (Hm.oneS r.1).2.length cap := by
              rcases hrow.2 with ⟨_, h0⟩ | ⟨g, cap, cur, h, _⟩
              · omega
              · exact ⟨g, cap, h⟩
            clear hnil hev hlen2
            obtain ⟨evs, hevs⟩ : ∃ evs, evs = (Hm.oneS r.1).2 := ⟨_, rfl⟩
            rw [← hevs] at hrow h1 HTT
            rw [← hevs]
            clear hevs
            have h1a : 0 < evs.length := by omega
            have h1b : evs.length ≤ 1 := by omega
            clear h1
            have hsz2 : w.heap.size ≤ w'.heap.size := hF2.kept.size
            have hnews : Hid (∀ (j : Nat) (u : Value), (evCells evs)[j]? = some u → w'.cell? ((⟨g, 0, none⟩ : Addr).add j) = some u) := two_new hrow
            have hcl : Hid ((evCells evs).length = evs.length * 2) := evCells_length evs
            go_wp2_with (at_builtin; refine wpList_append_at _ rfl _ _ 47 rfl w.heap.size 53 i0 _ 2 24 Tryd.underlying47 hi hz0 hz1 hz2 rfl (by decide) _ _ _ rfl hF2.row ⟨g, 0, none⟩ evs.length _ (evCells evs) rfl hcl.out hnews.out (ev_one' _) ?c3 ?c4 hsz2 ?c6 ?_)
            case c3 => unfold maxLen; omega
            case c4 => omega
            case c6 => omega
            intro g2 cap2 w2 ho2 hg2 hw2
            have hF3 := hF2.more hlt hg2 rfl h1a ho2 hw2
            clear ho2 hg2 hw2 hnews hrow hcl
            go_wp2
            go_roundw
            case rel => exact ⟨i + 1, v2, by omega, by go_num, by rw [HTT.out]; exact hF3⟩
            case measure => simp [intOf]; omega
        · have eo : Hm.stepS r.1 (s[i].toNat : Int) = (r.1, []) := by simp [Hm.stepS, h48, h49]
          rw [eo, List.append_nil] at HTT
          have t49 : ((s[i].toNat : Int) == 49) = false := by simpa using h49
          clear h49 h48 eo
          go_wp2
          go_roundw
          case rel => exact ⟨i + 1, v1, by omega, by go_num, by rw [HTT.out]; exact hF⟩
          case measure => simp [intOf]; omega
    · have hi' : i = s.size := by omega
      subst hi'
      rw [List.take_of_length_le (by rw [Bm.nums_length]; exact Nat.le_refl _)] at hF
      go_wp2
      go_ret
      exact ⟨_, _, rfl, hF⟩
end Go.Proofs.YtdcohbdndkphnabDoor
