/-
  The walk of the law CtrlAll: it returns true.
-/
import Derived.Test.YtphconnepdbpcaaDoorCtrlAllMath
import Derived.Test.YtphconnepdbpcaaDoorCtrlWakes
import Derived.Test.YtphconnepdbpcaaDoorCtrlGetTwo
import Derived.Maps.RangeWalk
import Derived.Maps.OwnOps
import Derived.Maps.OwnSet
namespace Go.Proofs.YtphconnepdbpcaaDoor
open Go.RowKit Go.Maps Go.WideMaps
set_option linter.unusedVariables false
set_option linter.unusedSimpArgs false

theorem klaw : Keyed Tryd.prog 23 := int_keyed Tryd.underlying23
theorem zeroInt (w : World) : (zeroValue 3).run Tryd.prog w = .ok (.int .i64 0) w := by kernel_rfl
theorem kmap_later {w w' : World} {P : Program} {k : TypeId} {R : Value → Option (DataW Unit × List MemPlace)} {b n : Nat} {D : DataW Unit} (h : w.ownsMap P k R b n D) (hb : Below w.heap.size w w') : w'.ownsMap P k R b n D := by
  have hlt := h.lt
  obtain ⟨es, clock, h1, F, hs, hD⟩ := h
  exact ⟨es, clock, (hb.block b hlt).trans h1, F, hs, hD⟩
theorem key_wf (n : Nat) (h : n < 10) : (Lit.int .i64 (n : Int)).wf = true := by
  have : ∀ n : Nat, n < 10 → (Lit.int .i64 (n : Int)).wf = true := by decide
  exact this n h
theorem key_ofn (n : Nat) (h : n < 10) : keyOf Tryd.prog 23 (.int .i64 (n : Int)) = some (.int .i64 (n : Int)) := keyOf_int_mk Tryd.underlying23 (key_wf n h)
theorem ctl_grown {w w' : World} {B b : Nat} {k : Int} {pf : Bool} {ns nr : Int} (h : Ctl w B k pf ns nr) (hg : w.grownBy w' (some b)) (hne : B ≠ b) : Ctl w' B k pf ns nr := by
  have hb : w'.heap[B]? = w.heap[B]? := hg.block B h.lt (fun e => by injection e with e; exact hne e)
  have hc : ∀ j, w'.cell? ⟨B, j, none⟩ = w.cell? ⟨B, j, none⟩ := fun j => by simp only [World.cell?, hb]
  exact ⟨Nat.lt_of_lt_of_le h.lt hg.size, (hc 0).trans h.c0, (hc 1).trans h.c1, (hc 2).trans h.c2, (hc 3).trans h.c3⟩
theorem cnt_at {D : DataW Unit} {n : Nat} {c : Int} (h : D.atKey (.int .i64 (n : Int)) (.lit (.int .i64 0)) = .lit (.int .i64 c)) : c = Cm.cntOf D n := by rw [Cm.cntOf, h]

theorem wf_up {c : Int} {x : Nat} (h0 : 0 ≤ c) (h1 : c ≤ (x : Int)) (hx : x < 256) : (Lit.int .i64 (c + 1)).wf = true := by
  simp [Lit.wf, IntKind.min, IntKind.max, IntKind.signed, IntKind.bits]; omega

/-- the map of counts, behind so many first octets -/
structure Cnt (w wr : World) (x : Nat) : Prop where
  own : wr.ownsMap Tryd.prog 23 (plainElem Tryd.prog 3) w.heap.size x (Cm.dx x)
  bel : Below w.heap.size w wr

set_option maxHeartbeats 2000000 in
set_option maxRecDepth 100000 in
theorem walk_CtrlAll (sec : Int) (rest : ByteArray) (w : World) (hsec : 0 ≤ sec ∧ sec ≤ 255) (hs : rest.size ≤ 140737488351232) (hT : First w) (hN : Names w) :
    Calls Tryd.prog 6 #[.int .u8 sec, .string rest] w fun e w' => e = .returned (.bool true) ∧ Below w.heap.size w w' := by
  obtain ⟨s0, s1⟩ := hsec
  have hmm := @run_makeMap Tryd.prog
  go_enter Tryd.func6, Tryd.ntmps6
  go_wp2
  clear hmm
  go_loopw [17] (fun c wr => ∃ x : Nat, x ≤ 256 ∧ c = .int .i64 x ∧ Cnt w wr x) (fun c _ => 256 - (intOf c).toNat)
  case atStart => exact ⟨0, Nat.zero_le _, rfl, ⟨World.ownsMap_made _ _ _ _, (Below.refl _ _).alloc (Nat.le_refl _) _⟩⟩
  case round =>
    obtain ⟨x, hx256, rfl, hC⟩ := hrel
    by_cases hlt : x < 256
    · obtain ⟨hown, hbel⟩ := hC
      have hxi : (x : Int) < 256 := by omega
      have hcv := conv_pair wr (x : Int) sec
      have hq1 : Below wr.heap.size wr (wr.alloc (.cells #[.int .u8 (x : Int), .int .u8 sec] 5)) := (Below.refl _ _).alloc (Nat.le_refl _) _
      obtain ⟨S, hS⟩ : ∃ S, S = strOfNums [(x : Int), sec] ++ rest := ⟨_, rfl⟩
      have hz2 : (strOfNums [(x : Int), sec]).size ≤ 2 := by rw [strOfNums_size]; simp
      have hz : S.size ≤ 140737488355328 := by rw [hS, ByteArray.size_append]; omega
      have hSs : 2 ≤ S.size := by rw [hS, ByteArray.size_append, strOfNums_size]; simp
      have hG := cget_any S _ hz ((hT.later hbel).later hq1)
      rw [hS] at hG
      go_wp2_with fail
      refine hG.mono ?_
      rintro e w2 ⟨rfl, hb2⟩
      clear hG hcv
      rw [← hS]
      have HS : Hid (S = strOfNums [(x : Int), sec] ++ rest) := hS
      clear hS
      rcases Cm.all_ways (x : Int) sec rest (by omega) ⟨s0, s1⟩ with ⟨hk, hg⟩ | ⟨n, pf, hk, hn, hnum, hg, hp⟩ | ⟨n, pf, ns, nr, hk, hn, hnum, hg, hp⟩
      · rw [← HS.out] at hg
        rw [hg]
        simp only [getV]
        have hq2 : Below wr.heap.size wr w2 := hq1.trans (hb2.mono hq1.size)
        have hown2 := kmap_later hown hq2
        have hbel2 := hbel.trans (hq2.mono hbel.size)
        clear hq2 hq1 hb2 hbel hown hg
        go_wp2
        go_roundw
        case rel => exact ⟨x + 1, by omega, by go_num, ⟨by rw [Cm.dx_none hk]; exact (hown2.mono (Nat.le_succ _)).alloc _, hbel2.alloc hbel2.size _⟩⟩
        case measure => simp [intOf]; omega
      · rw [← HS.out] at hg hp
        rw [hg]
        simp only [getV]
        have hq2 : Below wr.heap.size wr w2 := hq1.trans (hb2.mono hq1.size)
        have hown2 := kmap_later hown hq2
        have hbel2 := hbel.trans (hq2.mono hbel.size)
        have hltB : w.heap.size < w2.heap.size := hown2.lt
        have hctl := ctl_new w2 (n : Int) pf 0 0 33
        clear hq2 hq1 hb2 hbel hown hg
        have hmax : x < maxLen := by unfold maxLen; omega
        have hbd := Cm.cnt_bd x n
        go_wp2_with (first | (at_lookup; refine wpList_lookup_own_int _ rfl _ _ 44 rfl 23 3 .i64 klaw Tryd.underlying44 Tryd.underlying3 (zeroInt _) w.heap.size x _ rfl (hown2.alloc _) _ _ rfl (key_ofn n hn) ?_; intro c hat hwc; have hcn : Hid (c = Cm.cntOf (Cm.dx x) n) := cnt_at hat; rw [← hcn.out] at hbd; have hc0 := hbd.1; have hc1 := hbd.2; clear hat) | (at_mapUpdate; refine wpList_mapUpdate_own _ rfl _ _ _ 44 rfl 23 3 klaw Tryd.underlying44 _ w.heap.size x _ rfl (hown2.alloc _) hmax _ _ _ rfl rfl (key_ofn n hn) _ [] (plainElem_int Tryd.underlying3 (wf_up hc0 hc1 hlt)) ?_; intro w4 hown4 hgrow; obtain ⟨hl4, k0, k1, k2, k3⟩ := ctl_grown hctl hgrow (Nat.ne_of_gt hltB)))
        have hown5 : w4.ownsMap Tryd.prog 23 (plainElem Tryd.prog 3) w.heap.size (x + 1) (Cm.dx (x + 1)) := by
          rw [Cm.dx_some hk, Cm.bump, ← hcn.out]; exact hown4
        have hb4 : Below w.heap.size w w4 := (hbel2.alloc hbel2.size _).grown hgrow (by simp; omega) (fun j hj => by cases hj; exact Nat.le_refl _)
        have hP := cput_any (n : Int) pf 0 0 w4 (hT.later hb4)
        rw [hp] at hP
        clear hown4 hgrow hctl hown2 hbel2 hbd hc0 hc1 hwc hcn hp hk
        refine hP.mono ?_
        rintro e w5 ⟨rfl, hb5⟩
        clear hP
        have hown6 := kmap_later hown5 hb5
        have hb6 := hb4.trans (hb5.mono hb4.size)
        have hl5 : w2.heap.size < w5.heap.size := Nat.lt_of_lt_of_le hl4 hb5.size
        have j0 := (hb5.cell (p := ⟨w2.heap.size, 0, none⟩) hl4).trans k0
        clear k0 k1 k2 k3 hb5 hb4 hown5 hl4
        have hTs : (S.extract 0 1).size = 1 := by rw [ByteArray.size_extract]; omega
        go_wp2_with fail
        refine (numbered_any (n : Int) _).mono ?_
        rintro e w' ⟨rfl, rfl⟩
        rw [hnum]
        go_wp2
        go_roundw
        case rel => exact ⟨x + 1, by omega, by go_num, ⟨hown6, hb6⟩⟩
        case measure => simp [intOf]; omega
      · rw [← HS.out] at hg hp
        rw [hg]
        simp only [getV]
        have hq2 : Below wr.heap.size wr w2 := hq1.trans (hb2.mono hq1.size)
        have hown2 := kmap_later hown hq2
        have hbel2 := hbel.trans (hq2.mono hbel.size)
        have hltB : w.heap.size < w2.heap.size := hown2.lt
        have hctl := ctl_new w2 (n : Int) pf ns nr 33
        clear hq2 hq1 hb2 hbel hown hg
        have hmax : x < maxLen := by unfold maxLen; omega
        have hbd := Cm.cnt_bd x n
        go_wp2_with (first | (at_lookup; refine wpList_lookup_own_int _ rfl _ _ 44 rfl 23 3 .i64 klaw Tryd.underlying44 Tryd.underlying3 (zeroInt _) w.heap.size x _ rfl (hown2.alloc _) _ _ rfl (key_ofn n hn) ?_; intro c hat hwc; have hcn : Hid (c = Cm.cntOf (Cm.dx x) n) := cnt_at hat; rw [← hcn.out] at hbd; have hc0 := hbd.1; have hc1 := hbd.2; clear hat) | (at_mapUpdate; refine wpList_mapUpdate_own _ rfl _ _ _ 44 rfl 23 3 klaw Tryd.underlying44 _ w.heap.size x _ rfl (hown2.alloc _) hmax _ _ _ rfl rfl (key_ofn n hn) _ [] (plainElem_int Tryd.underlying3 (wf_up hc0 hc1 hlt)) ?_; intro w4 hown4 hgrow; obtain ⟨hl4, k0, k1, k2, k3⟩ := ctl_grown hctl hgrow (Nat.ne_of_gt hltB)))
        have hown5 : w4.ownsMap Tryd.prog 23 (plainElem Tryd.prog 3) w.heap.size (x + 1) (Cm.dx (x + 1)) := by
          rw [Cm.dx_some hk, Cm.bump, ← hcn.out]; exact hown4
        have hb4 : Below w.heap.size w w4 := (hbel2.alloc hbel2.size _).grown hgrow (by simp; omega) (fun j hj => by cases hj; exact Nat.le_refl _)
        have hP := cput_any (n : Int) pf ns nr w4 (hT.later hb4)
        rw [hp] at hP
        clear hown4 hgrow hctl hown2 hbel2 hbd hc0 hc1 hwc hcn hp hk
        refine hP.mono ?_
        rintro e w5 ⟨rfl, hb5⟩
        clear hP
        have hown6 := kmap_later hown5 hb5
        have hb6 := hb4.trans (hb5.mono hb4.size)
        have hl5 : w2.heap.size < w5.heap.size := Nat.lt_of_lt_of_le hl4 hb5.size
        have j0 := (hb5.cell (p := ⟨w2.heap.size, 0, none⟩) hl4).trans k0
        clear k0 k1 k2 k3 hb5 hb4 hown5 hl4
        have hTs : (S.extract 0 2).size = 2 := by rw [ByteArray.size_extract]; omega
        go_wp2_with fail
        refine (numbered_any (n : Int) _).mono ?_
        rintro e w' ⟨rfl, rfl⟩
        rw [hnum]
        go_wp2
        go_roundw
        case rel => exact ⟨x + 1, by omega, by go_num, ⟨hown6, hb6⟩⟩
        case measure => simp [intOf]; omega
    · obtain rfl : x = 256 := by omega
      obtain ⟨hown, hbel⟩ := hC
      rw [Cm.dx_all] at hown
      go_wp2_with fail
      refine (cwakes_any _ (hT.later hbel) (hN.later hbel)).mono ?_
      rintro e w5 ⟨rfl, hb5⟩
      have hown5 := kmap_later hown hb5
      have hbel5 := hbel.trans (hb5.mono hbel.size)
      clear hown hbel hb5
      obtain ⟨c, hrun, hat, _⟩ := hown5.lookup_int klaw Tryd.underlying44 Tryd.underlying3 (zeroInt _) (key := .int .i64 0) (kl := .int .i64 0) (key_ofn 0 (by decide))
      rw [Cm.all_i] at hat
      injection hat with hat
      injection hat with _ hat
      subst hat
      have hlen := fun ty => hown5.len (t := 44) Tryd.underlying44 ty
      rw [Cm.all_size] at hlen
      go_wp2_with (at_range; refine wpList_range_own _ rfl _ 44 rfl 23 3 klaw Tryd.underlying44 _ w.heap.size 256 _ rfl hown5 ?_; intro w6 hrg0 hg0 hs0)
      go_frame
      clear hrun hlen
      have hbel6 : Below w.heap.size w w6 := hbel5.grown hg0 hbel5.size (fun j hj => by cases hj)
      have hw5 : w.heap.size ≤ w5.heap.size := hbel5.size
      clear hown5 hbel5 hg0
      go_loopw [13] (fun _ wq => ∃ (left : Lit → Bool) (cnt : Nat), wq.ranges Tryd.prog 23 (plainElem Tryd.prog 3) w.heap.size w5.heap.size 256 Cm.dAll left cnt ∧ Hid (∀ kl, left kl = true → has Cm.dAll kl = true) ∧ Below w.heap.size w wq) (fun _ wq => wq.rangeLeft w.heap.size w5.heap.size)
      case atStart => exact ⟨_, _, hrg0, fun _ h => h, hbel6⟩
      case round =>
        obtain ⟨left, cnt, hrg, HL, hbelq⟩ := hrel
        clear hrg0 hbel6
        go_wp2_with (at_next; refine wpList_next_ranges_ii _ rfl _ rfl 23 3 .i64 .i64 klaw Tryd.underlying23 Tryd.underlying3 w.heap.size w5.heap.size 256 _ _ _ rfl hrg ?_ ?_)
        · intro _ _
          go_wp2
          go_ret
          exact ⟨rfl, hbelq⟩
        · intro k c w7 cnt1 hwx hwc hlx hat hrg1 hltc hg1 hs1 hen
          have hways := Cm.all_at (HL.out _ hlx) hat
          have HL2 : Hid (∀ kl, (left kl && !kl.sameKey (.int .i64 k)) = true → has Cm.dAll kl = true) := fun kl h => HL.out kl (by simp at h; exact h.1)
          have hbel7 : Below w.heap.size w w7 := hbelq.grown hg1 hbelq.size (fun j hj => by cases hj; exact hw5)
          have hNu := numbered_any k
          clear hlx hat hwx hwc hg1 HL
          rcases hways with rfl | ⟨hn, h0, rfl⟩ | ⟨hn, h0, rfl⟩
          · go_wp2_with fail
            refine (hNu _).mono ?_
            rintro e w' ⟨rfl, rfl⟩
            rw [show Cm.numd 0 = true from rfl]
            go_wp2
            go_roundw
            case rel => exact ⟨_, cnt1, hrg1, HL2.out, hbel7⟩
            case measure => rw [hrg1.left_eq, hrg.left_eq]; exact hltc
          · have t0 : (k != 0) = true := by simpa using h0
            go_wp2_with fail
            refine (hNu _).mono ?_
            rintro e w' ⟨rfl, rfl⟩
            rw [hn]
            go_wp2
            go_roundw
            case rel => exact ⟨_, cnt1, hrg1, HL2.out, hbel7⟩
            case measure => rw [hrg1.left_eq, hrg.left_eq]; exact hltc
          · have t0 : (k != 0) = true := by simpa using h0
            go_wp2_with fail
            refine (hNu _).mono ?_
            rintro e w' ⟨rfl, rfl⟩
            rw [hn]
            go_wp2
            go_roundw
            case rel => exact ⟨_, cnt1, hrg1, HL2.out, hbel7⟩
            case measure => rw [hrg1.left_eq, hrg.left_eq]; exact hltc
end Go.Proofs.YtphconnepdbpcaaDoor
