/-
  The walk of the document's Get of layer 6: it answers 'getRes'. Nothing that was there is turned.
-/
import Derived.Test.YtdcohbdndkphnaaDoorFrameGetTwo
import Derived.Test.YtdcohbdndkphnaaDoorRefFrameSmall
import Derived.Test.YtdcohbdndkphnaaDoorRefSumWalks
import Derived.Test.YtdcohbdndkphnaaDoorRefGetWalks
import Derived.Test.YtdcohbdndkphnaaDoorRefMakeWalks
import Derived.Test.YtdcohbdndkphnaaDoorCtrlRefGet
namespace Go.Proofs.YtdcohbdndkphnaaDoor
open Go.RowKit
set_option linter.unusedVariables false
set_option linter.unusedSimpArgs false

theorem cut_cut (o : ByteArray) (n : Nat) : (o.extract 2 o.size).extract n (o.extract 2 o.size).size = o.extract (2 + n) o.size := by
  rw [ByteArray.extract_extract, ByteArray.size_extract]
  congr 1
  omega

set_option maxHeartbeats 1000000 in
set_option maxRecDepth 100000 in
theorem ref_fget_sum (s : ByteArray) (net : Bool) (w : World) (hs : s.size ≤ 1000000) (hk : (checkRes s).2 ≠ 0) :
    Calls Tryd.prog 19 #[.string s, .bool net] w fun e w' => e = .returned (fgetV (Xm.zero, 6)) ∧ Below w.heap.size w w' := by
  have hC := ref_check_any s (w.alloc (.cells #[.int .i64 0, .int .i64 0, .bool false, .int .i64 0, .bool false, .int .i64 0, .int .i64 0, .string ByteArray.empty] 34)) hs
  have hq0 : Below w.heap.size w (w.alloc (.cells #[.int .i64 0, .int .i64 0, .bool false, .int .i64 0, .bool false, .int .i64 0, .int .i64 0, .string ByteArray.empty] 34)) := (Below.refl _ _).alloc (Nat.le_refl _) _
  have hE0 := eight_new w (.int .i64 0) (.int .i64 0) (.bool false) (.int .i64 0) (.bool false) (.int .i64 0) (.int .i64 0) (.string ByteArray.empty) 34
  have tk : ((checkRes s).2 != 0) = true := by simpa using hk
  clear hk
  have he : ByteArray.empty = ⟨#[]⟩ := rfl
  have HEE : Hid (ByteArray.empty = ⟨#[]⟩) := he
  clear he
  go_enter Tryd.func19, Tryd.ntmps19
  go_wp2_with fail
  refine hC.mono ?_
  rintro e w1 ⟨rfl, hb1⟩
  clear hC
  have hq1 := hq0.trans (hb1.mono hq0.size)
  have hE := hE0.later hb1
  have HE : Hid (Eight w1 w.heap.size) := hE
  clear hb1 hq0 hE0
  have hlt := hE.lt
  obtain ⟨v0, v1, v2, v3, v4, v5, v6, v7, c0, c1, c2, c3, c4, c5, c6, c7, f0, f1, f2, f3, f4, f5, f6, f7⟩ := hE.parts
  clear hE
  go_wp2
  obtain ⟨z0, z1, z2, z3, z4, z5, z6, z7⟩ := set8_is HE.out (.int .i64 0) (.int .i64 0) (.bool false) (.int .i64 0) (.bool false) (.int .i64 0) (.int .i64 0) (.string ⟨#[]⟩)
  have hBB := set8_below hq1 (.int .i64 0) (.int .i64 0) (.bool false) (.int .i64 0) (.bool false) (.int .i64 0) (.int .i64 0) (.string ⟨#[]⟩)
  unfold set8 at z0 z1 z2 z3 z4 z5 z6 z7 hBB
  exact bodyPost_ret (v := fgetV (Xm.zero, 6)) (by simp [results, Tryd.results19, go_sem, fgetV, frV, Xm.zero, HEE.out, z0, z1, z2, z3, z4, z5, z6, z7]) rfl ⟨rfl, hBB⟩

set_option maxHeartbeats 4000000 in
set_option maxRecDepth 100000 in
theorem ref_fget_o (s o : ByteArray) (net : Bool) (w : World) (hs : s.size ≤ 1000000) (hk : checkRes s = (o, 0)) :
    Calls Tryd.prog 19 #[.string s, .bool net] w fun e w' => e = .returned (fgetV (Xm.getO o net)) ∧ Below w.heap.size w w' := by
  have hC := ref_check_any s (w.alloc (.cells #[.int .i64 0, .int .i64 0, .bool false, .int .i64 0, .bool false, .int .i64 0, .int .i64 0, .string ByteArray.empty] 34)) hs
  have hos : o.size ≤ 1000000 := by have := check_o hk; omega
  rw [hk] at hC
  clear hk hs
  have hq0 : Below w.heap.size w (w.alloc (.cells #[.int .i64 0, .int .i64 0, .bool false, .int .i64 0, .bool false, .int .i64 0, .int .i64 0, .string ByteArray.empty] 34)) := (Below.refl _ _).alloc (Nat.le_refl _) _
  have hE0 := eight_new w (.int .i64 0) (.int .i64 0) (.bool false) (.int .i64 0) (.bool false) (.int .i64 0) (.int .i64 0) (.string ByteArray.empty) 34
  have he : ByteArray.empty = ⟨#[]⟩ := rfl
  have HEE : Hid (ByteArray.empty = ⟨#[]⟩) := he
  clear he
  go_enter Tryd.func19, Tryd.ntmps19
  go_wp2_with fail
  refine hC.mono ?_
  rintro e w1 ⟨rfl, hb1⟩
  clear hC
  have hq1 := hq0.trans (hb1.mono hq0.size)
  have hE1 := hE0.later hb1
  clear hb1 hq0 hE0
  go_wp2_with fail
  refine (ref_get_any o _ (by omega)).mono ?_
  rintro e w2 ⟨rfl, hb2⟩
  have hq2 := hq1.trans (hb2.mono hq1.size)
  have hE2 := hE1.later hb2
  clear hb2 hq1 hE1
  generalize hAe : Am.getRes o = A
  obtain ⟨⟨a, b, c⟩, e1⟩ := A
  by_cases h1 : e1 = 0
  · subst h1
    have HG0 := getO_addr (net := net) hAe
    have h2 : 2 ≤ o.size := (Am.get_puts o (by rw [hAe])).2.1
    clear hAe
    obtain ⟨r, hr⟩ : ∃ r, r = Xm.rest o := ⟨_, rfl⟩
    rw [← hr] at HG0
    have hr' : o.extract 2 o.size = r := by rw [hr]; rfl
    have HCC : Hid (∀ n : Nat, r.extract n r.size = o.extract (2 + n) o.size) := by intro n; rw [← hr']; exact cut_cut o n
    have hrs : r.size + 2 = o.size := by rw [hr, Xm.rest, ByteArray.size_extract]; omega
    clear hr
    have HG : Hid _ := HG0
    clear HG0
    have hqa : Below w2.heap.size w2 (w2.alloc (.cells #[.int .i64 a, .int .i64 b, .bool c] 70)) := (Below.refl _ _).alloc (Nat.le_refl _) _
    have hA2 : Adr (w2.alloc (.cells #[.int .i64 a, .int .i64 b, .bool c] 70)) w2.heap.size a b c := ⟨by simp, by simp, by simp, by simp⟩
    have hE3 := hE2.later hqa
    have hq3 := hq2.trans (hqa.mono hq2.size)
    have hcg := ref_cget_any r (w2.alloc (.cells #[.int .i64 a, .int .i64 b, .bool c] 70)) (by omega)
    clear hqa hE2 hq2
    generalize hCe : Cm.getRes r = Cr at hcg HG
    obtain ⟨⟨k, pf, ns, nr⟩, m, e2⟩ := Cr
    have HCe : Hid (Cm.getRes r = ((k, pf, ns, nr), m, e2)) := hCe
    clear hCe
    simp only [getV] at hcg
    have HR' : Hid (o.extract 2 o.size = r) := hr'
    clear hr'
    go_wp2_with fail
    rw [HR'.out]
    refine hcg.mono ?_
    rintro e w4 ⟨rfl, hb4⟩
    clear hcg HR'
    have hq4 := hq3.trans (hb4.mono hq3.size)
    have hE4 := hE3.later hb4
    have hA4 := hA2.later hb4
    clear hb4 hq3 hE3 hA2
    by_cases h2 : e2 = 0
    · subst h2
      obtain ⟨n, rfl, hn1, hn2⟩ := ctl_read HCe.out
      have HG2 : Hid (Xm.getO o net = if Xm.mayB k (c == net) = false then (Xm.zero, 4) else if Xm.carB k ((r.extract n r.size).size : Int) = false then (Xm.zero, 5) else (⟨a, b, c == net, k, pf, ns, nr, r.extract n r.size⟩, 0)) := by
        show _ = _
        rw [HG.out, if_neg (by simp)]; rfl
      clear HG HCe
      have hn1' : (2 : Int) + (n : Int) ≤ (o.size : Int) := by omega
      obtain ⟨la, a0, a1, a2⟩ := hA4
      have HA4 : Hid (Adr w4 w2.heap.size a b c) := ⟨la, a0, a1, a2⟩
      go_wp2_with fail
      refine (ref_command_any a b c net _).mono ?_
      rintro e w5 ⟨rfl, hb5⟩
      have hC5 : Ctl w5 w4.heap.size k pf ns nr := (ctl_new w4 k pf ns nr 68).later hb5
      have hq4' : Below w4.heap.size w4 w5 := ((Below.refl _ _).alloc (Nat.le_refl _) _).trans (hb5.mono (by simp))
      have HA5 : Hid (Adr w5 w2.heap.size a b c) := HA4.out.later hq4'
      have hE5 := hE4.later hq4'
      have hq5 := hq4.trans (hq4'.mono hq4.size)
      clear hb5 hq4' HA4 hE4 hq4 la a0 a1 a2
      have HC5 : Hid (Ctl w5 w4.heap.size k pf ns nr) := hC5
      obtain ⟨ll, k0, k1, k2, k3⟩ := hC5
      go_wp2_with fail
      refine (ref_may_any k (c == net) _).mono ?_
      rintro e w6 ⟨rfl, hb6⟩
      have hq6 := hq5.trans (hb6.mono hq5.size)
      have hE6 := hE5.later hb6
      have HA6 : Hid (Adr w6 w2.heap.size a b c) := HA5.out.later hb6
      have hC6 := HC5.out.later hb6
      clear HC5 HA5 hE5 hq5 hb6 ll k0 k1 k2 k3
      obtain ⟨ll, k0, k1, k2, k3⟩ := hC6
      have HE : Hid (Eight w6 w.heap.size) := hE6
      have hlt := hE6.lt
      obtain ⟨v0, v1, v2, v3, v4, v5, v6, v7, c0, c1, c2, c3, c4, c5, c6, c7, f0, f1, f2, f3, f4, f5, f6, f7⟩ := hE6.parts
      clear hE6
      by_cases hm : Xm.mayB k (c == net) = false
      · have HG3 : Hid (Xm.getO o net = (Xm.zero, 4)) := by show _ = _; rw [HG2.out, if_pos hm]
        rw [hm]
        clear HG2 hm
        go_wp2
        obtain ⟨z0, z1, z2, z3, z4, z5, z6, z7⟩ := set8_is HE.out (.int .i64 0) (.int .i64 0) (.bool false) (.int .i64 0) (.bool false) (.int .i64 0) (.int .i64 0) (.string ⟨#[]⟩)
        have hBB := set8_below hq6 (.int .i64 0) (.int .i64 0) (.bool false) (.int .i64 0) (.bool false) (.int .i64 0) (.int .i64 0) (.string ⟨#[]⟩)
        unfold set8 at z0 z1 z2 z3 z4 z5 z6 z7 hBB
        exact bodyPost_ret (v := fgetV (Xm.zero, 4)) (by simp [results, Tryd.results19, go_sem, fgetV, frV, Xm.zero, HEE.out, z0, z1, z2, z3, z4, z5, z6, z7]) rfl ⟨by rw [HG3.out], hBB⟩
      · have hm' : Xm.mayB k (c == net) = true := by simpa using hm
        have HG3 : Hid (Xm.getO o net = if Xm.carB k ((r.extract n r.size).size : Int) = false then (Xm.zero, 5) else (⟨a, b, c == net, k, pf, ns, nr, r.extract n r.size⟩, 0)) := by show _ = _; rw [HG2.out, if_neg hm]
        rw [hm']
        clear HG2 hm hm'
        obtain ⟨info, hinfo⟩ : ∃ info, info = r.extract n r.size := ⟨_, rfl⟩
        have his : info.size ≤ 1000000 := by rw [hinfo, ByteArray.size_extract]; omega
        rw [← hinfo] at HG3
        have HIL : Hid (o.size - (2 + n) = info.size) := by show _ = _; rw [hinfo, ByteArray.size_extract]; omega
        have HI : Hid (o.extract (2 + n) o.size = info) := by show _ = _; rw [hinfo, HCC.out n]
        clear hinfo HCC
        have hto : ((2 : Int) + (n : Int)).toNat = 2 + n := by omega
        have hn2' : (n : Int) ≤ 2 := by omega
        go_wp2_with fail
        rw [HI.out, HIL.out]
        refine (ref_carries_any k (info.size : Int) _).mono ?_
        rintro e w' ⟨rfl, rfl⟩
        by_cases hc : Xm.carB k (info.size : Int) = false
        · have HG4 : Hid (Xm.getO o net = (Xm.zero, 5)) := by show _ = _; rw [HG3.out, if_pos hc]
          rw [hc]
          clear HG3 hc
          go_wp2
          obtain ⟨z0, z1, z2, z3, z4, z5, z6, z7⟩ := set8_is HE.out (.int .i64 0) (.int .i64 0) (.bool false) (.int .i64 0) (.bool false) (.int .i64 0) (.int .i64 0) (.string ⟨#[]⟩)
          have hBB := set8_below hq6 (.int .i64 0) (.int .i64 0) (.bool false) (.int .i64 0) (.bool false) (.int .i64 0) (.int .i64 0) (.string ⟨#[]⟩)
          unfold set8 at z0 z1 z2 z3 z4 z5 z6 z7 hBB
          exact bodyPost_ret (v := fgetV (Xm.zero, 5)) (by simp [results, Tryd.results19, go_sem, fgetV, frV, Xm.zero, HEE.out, z0, z1, z2, z3, z4, z5, z6, z7]) rfl ⟨by rw [HG4.out], hBB⟩
        · have hc' : Xm.carB k (info.size : Int) = true := by simpa using hc
          have HG4 : Hid (Xm.getO o net = (⟨a, b, c == net, k, pf, ns, nr, info⟩, 0)) := by show _ = _; rw [HG3.out, if_neg hc]
          rw [hc']
          clear HG3 hc hc'
          obtain ⟨la, a0, a1, a2⟩ := HA6.out
          go_wp2
          obtain ⟨z0, z1, z2, z3, z4, z5, z6, z7⟩ := set8_is HE.out (.int .i64 a) (.int .i64 b) (.bool (c == net)) (.int .i64 k) (.bool pf) (.int .i64 ns) (.int .i64 nr) (.string info)
          have hBB := set8_below hq6 (.int .i64 a) (.int .i64 b) (.bool (c == net)) (.int .i64 k) (.bool pf) (.int .i64 ns) (.int .i64 nr) (.string info)
          unfold set8 at z0 z1 z2 z3 z4 z5 z6 z7 hBB
          exact bodyPost_ret (v := fgetV (⟨a, b, c == net, k, pf, ns, nr, info⟩, 0)) (by simp [results, Tryd.results19, go_sem, fgetV, frV, z0, z1, z2, z3, z4, z5, z6, z7]) rfl ⟨by rw [HG4.out], hBB⟩
    · have tk : (e2 != 0) = true := by simpa using h2
      have HG2 : Hid (Xm.getO o net = (Xm.zero, e2)) := by show _ = _; rw [HG.out, if_pos h2]
      clear HG HCe h2 hA4
      have HE : Hid (Eight w4 w.heap.size) := hE4
      have hlt := hE4.lt
      obtain ⟨v0, v1, v2, v3, v4, v5, v6, v7, c0, c1, c2, c3, c4, c5, c6, c7, f0, f1, f2, f3, f4, f5, f6, f7⟩ := hE4.parts
      clear hE4
      go_wp2
      obtain ⟨z0, z1, z2, z3, z4, z5, z6, z7⟩ := (set8_is HE.out (.int .i64 0) (.int .i64 0) (.bool false) (.int .i64 0) (.bool false) (.int .i64 0) (.int .i64 0) (.string ⟨#[]⟩)).alloc (set8_lt HE.out _ _ _ _ _ _ _ _) (.cells #[.int .i64 k, .bool pf, .int .i64 ns, .int .i64 nr] 68)
      have hBB := (set8_below hq4 (.int .i64 0) (.int .i64 0) (.bool false) (.int .i64 0) (.bool false) (.int .i64 0) (.int .i64 0) (.string ⟨#[]⟩)).alloc (by rw [set8_size]; exact hq4.size) (.cells #[.int .i64 k, .bool pf, .int .i64 ns, .int .i64 nr] 68)
      unfold set8 at z0 z1 z2 z3 z4 z5 z6 z7 hBB
      exact bodyPost_ret (v := fgetV (Xm.zero, e2)) (by simp [results, Tryd.results19, go_sem, fgetV, frV, Xm.zero, HEE.out, z0, z1, z2, z3, z4, z5, z6, z7]) rfl ⟨by rw [HG2.out], hBB⟩
  · have tk : (e1 != 0) = true := by simpa using h1
    have HG : Hid (Xm.getO o net = (Xm.zero, e1)) := by show _ = _; rw [Xm.getO, if_pos (by rw [hAe]; exact h1), hAe]
    clear h1 hAe
    have HE : Hid (Eight w2 w.heap.size) := hE2
    have hlt := hE2.lt
    obtain ⟨v0, v1, v2, v3, v4, v5, v6, v7, c0, c1, c2, c3, c4, c5, c6, c7, f0, f1, f2, f3, f4, f5, f6, f7⟩ := hE2.parts
    clear hE2
    go_wp2
    obtain ⟨z0, z1, z2, z3, z4, z5, z6, z7⟩ := (set8_is HE.out (.int .i64 0) (.int .i64 0) (.bool false) (.int .i64 0) (.bool false) (.int .i64 0) (.int .i64 0) (.string ⟨#[]⟩)).alloc (set8_lt HE.out _ _ _ _ _ _ _ _) (.cells #[.int .i64 a, .int .i64 b, .bool c] 70)
    have hBB := (set8_below hq2 (.int .i64 0) (.int .i64 0) (.bool false) (.int .i64 0) (.bool false) (.int .i64 0) (.int .i64 0) (.string ⟨#[]⟩)).alloc (by rw [set8_size]; exact hq2.size) (.cells #[.int .i64 a, .int .i64 b, .bool c] 70)
    unfold set8 at z0 z1 z2 z3 z4 z5 z6 z7 hBB
    exact bodyPost_ret (v := fgetV (Xm.zero, e1)) (by simp [results, Tryd.results19, go_sem, fgetV, frV, Xm.zero, HEE.out, z0, z1, z2, z3, z4, z5, z6, z7]) rfl ⟨by rw [HG.out], hBB⟩

theorem ref_fget_any (s : ByteArray) (net : Bool) (w : World) (hs : s.size ≤ 1000000) :
    Calls Tryd.prog 19 #[.string s, .bool net] w fun e w' => e = .returned (fgetV (Xm.getRes s net)) ∧ Below w.heap.size w w' := by
  by_cases hk : (checkRes s).2 ≠ 0
  · rw [Xm.get_sum net hk]; exact ref_fget_sum s net w hs hk
  · have h0 : (checkRes s).2 = 0 := by simpa using hk
    rw [Xm.getRes, if_neg hk]
    exact ref_fget_o s (checkRes s).1 net w hs (by rw [← h0])
end Go.Proofs.YtdcohbdndkphnaaDoor
