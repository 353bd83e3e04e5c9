/-
  The walk of frame.Get where the check sequence is right, and wherever: it answers 'getRes'. Nothing that was there is turned.
-/
import Derived.Test.YtfpdkdaoomakgaaDoorFrameGetWalks
namespace Go.Proofs.YtfpdkdaoomakgaaDoor
open Go.RowKit
set_option linter.unusedVariables false
set_option linter.unusedSimpArgs false

theorem check_o {s o : ByteArray} (h : checkRes s = (o, 0)) : o.size ≤ s.size := by
  unfold checkRes at h
  split at h
  · simp at h
  · split at h
    · simp only [Prod.mk.injEq] at h; rw [← h.1, ahead_size]; omega
    · simp at h

/-- what lies ahead of the rest: the address read -/
theorem getO_addr {o : ByteArray} {net : Bool} {a b : Int} {c : Bool} (h : Am.getRes o = ((a, b, c), 0)) : Xm.getO o net =
    if (Cm.getRes (Xm.rest o)).2.2 ≠ 0 then (Xm.zero, (Cm.getRes (Xm.rest o)).2.2)
    else if Xm.mayB (Cm.getRes (Xm.rest o)).1.1 (c == net) = false then (Xm.zero, 4)
    else if Xm.carB (Cm.getRes (Xm.rest o)).1.1 (((Xm.rest o).extract (Cm.getRes (Xm.rest o)).2.1.toNat (Xm.rest o).size).size : Int) = false then (Xm.zero, 5)
    else (⟨a, b, c == net, (Cm.getRes (Xm.rest o)).1.1, (Cm.getRes (Xm.rest o)).1.2.1, (Cm.getRes (Xm.rest o)).1.2.2.1, (Cm.getRes (Xm.rest o)).1.2.2.2, (Xm.rest o).extract (Cm.getRes (Xm.rest o)).2.1.toNat (Xm.rest o).size⟩, 0) := by
  rw [Xm.getO, if_neg (by rw [h]; simp), Xm.frOf, h]
  rfl

/-- what is known of octets whose address and control field were read -/
theorem ctl_read {r : ByteArray} {k : Int} {pf : Bool} {ns nr m : Int} (h : Cm.getRes r = ((k, pf, ns, nr), m, 0)) : ∃ n : Nat, m = (n : Int) ∧ n ≤ r.size ∧ n ≤ 2 := by
  obtain ⟨k', pf', ns', nr', n, e, h1, _, h3, _⟩ := Xm.ctl_puts r (by rw [h])
  rw [h] at e
  simp only [Prod.mk.injEq] at e
  exact ⟨n, e.2.1, h1, h3⟩

set_option maxHeartbeats 4000000 in
theorem fget_o (s o : ByteArray) (net : Bool) (w : World) (hs : s.size ≤ 140737488351232) (hk : checkRes s = (o, 0)) (hL : Laws6 w) :
    Calls Tryd.prog 11 #[.string s, .bool net] w fun e w' => e = .returned (fgetV (Xm.getO o net)) ∧ Below w.heap.size w w' := by
  have hC := check_any s (w.alloc (.cells #[.int .i64 0, .int .i64 0, .bool false, .int .i64 0, .bool false, .int .i64 0, .int .i64 0, .string ByteArray.empty] 38)) hs
  have hos : o.size ≤ 140737488351232 := by have := check_o hk; omega
  rw [hk] at hC
  clear hk hs
  have hq0 : Below w.heap.size w (w.alloc (.cells #[.int .i64 0, .int .i64 0, .bool false, .int .i64 0, .bool false, .int .i64 0, .int .i64 0, .string ByteArray.empty] 38)) := (Below.refl _ _).alloc (Nat.le_refl _) _
  have hE0 := eight_new w (.int .i64 0) (.int .i64 0) (.bool false) (.int .i64 0) (.bool false) (.int .i64 0) (.int .i64 0) (.string ByteArray.empty) 38
  have he : ByteArray.empty = ⟨#[]⟩ := rfl
  have HEE : Hid (ByteArray.empty = ⟨#[]⟩) := he
  clear he
  go_enter Tryd.func11, Tryd.ntmps11
  go_wp2_with fail
  refine hC.mono ?_
  rintro e w1 ⟨rfl, hb1⟩
  clear hC
  have hq1 := hq0.trans (hb1.mono hq0.size)
  have hE1 := hE0.later hb1
  clear hb1 hq0 hE0
  go_wp2_with fail
  refine (get_any o _ (by omega)).mono ?_
  rintro e w2 ⟨rfl, hb2⟩
  have hq2 := hq1.trans (hb2.mono hq1.size)
  have hE2 := hE1.later hb2
  clear hb2 hq1 hE1
  generalize hAe : Am.getRes o = A
  obtain ⟨⟨a, b, c⟩, e1⟩ := A
  by_cases h1 : e1 = 0
  · subst h1
    have HG0 := getO_addr (net := net) hAe
    have h2 : 2 ≤ o.size := (Am.get_puts o (by rw [hAe])).2.1
    clear hAe
    obtain ⟨r, hr⟩ : ∃ r, r = Xm.rest o := ⟨_, rfl⟩
    rw [← hr] at HG0
    have hr' : o.extract 2 o.size = r := by rw [hr]; rfl
    have hrs : r.size ≤ 140737488351232 := by rw [hr, Xm.rest, ByteArray.size_extract]; omega
    clear hr
    have HG : Hid _ := HG0
    clear HG0
    have hqa : Below w2.heap.size w2 (w2.alloc (.cells #[.int .i64 a, .int .i64 b, .bool c] 59)) := (Below.refl _ _).alloc (Nat.le_refl _) _
    have hA2 : Adr (w2.alloc (.cells #[.int .i64 a, .int .i64 b, .bool c] 59)) w2.heap.size a b c := ⟨by simp, by simp, by simp, by simp⟩
    have hE3 := hE2.later hqa
    have hq3 := hq2.trans (hqa.mono hq2.size)
    have hcg := cget_any r _ (by omega) (hL.first.later hq3)
    clear hqa hE2 hq2
    generalize hCe : Cm.getRes r = Cr at hcg HG
    obtain ⟨⟨k, pf, ns, nr⟩, m, e2⟩ := Cr
    have HCe : Hid (Cm.getRes r = ((k, pf, ns, nr), m, e2)) := hCe
    clear hCe
    simp only [getV] at hcg
    have HR' : Hid (o.extract 2 o.size = r) := hr'
    clear hr'
    go_wp2_with fail
    rw [HR'.out]
    refine hcg.mono ?_
    rintro e w4 ⟨rfl, hb4⟩
    clear hcg HR' h2 hos
    have hq4 := hq3.trans (hb4.mono hq3.size)
    have hE4 := hE3.later hb4
    have hA4 := hA2.later hb4
    clear hb4 hq3 hE3 hA2
    by_cases h2 : e2 = 0
    · subst h2
      obtain ⟨n, rfl, hn1, hn2⟩ := ctl_read HCe.out
      have HG2 : Hid (Xm.getO o net = if Xm.mayB k (c == net) = false then (Xm.zero, 4) else if Xm.carB k ((r.extract n r.size).size : Int) = false then (Xm.zero, 5) else (⟨a, b, c == net, k, pf, ns, nr, r.extract n r.size⟩, 0)) := by
        show _ = _
        rw [HG.out, if_neg (by simp)]; rfl
      clear HG HCe
      have hn1' : (n : Int) ≤ (r.size : Int) := by omega
      obtain ⟨la, a0, a1, a2⟩ := hA4
      have HA4 : Hid (Adr w4 w2.heap.size a b c) := ⟨la, a0, a1, a2⟩
      go_wp2
      go_region_with (go_at_call 26; refine (command_any a b c net _).mono ?_; rintro e w5 ⟨rfl, hb5⟩)
      all_goals
        have hC5 : Ctl w5 w4.heap.size k pf ns nr := ((ctl_new w4 k pf ns nr 56).later (below_drewN (Below.refl _ _) _)).later hb5
        have hq4' : Below w4.heap.size w4 w5 := (below_drewN ((Below.refl _ _).alloc (Nat.le_refl _) _) _).trans (hb5.mono (by simp))
        have hA5 := HA4.out.later hq4'
        have hE5 := hE4.later hq4'
        have hq5 := hq4.trans (hq4'.mono hq4.size)
        clear hb5 hq4' HA4 hE4 hq4 la a0 a1 a2
        have hW5 := (hL.later hq5).ways
        have hM := may_any k (c == net) w5 hW5
        obtain ⟨ll, k0, k1, k2, k3⟩ := hC5
        go_wp2_with fail
        refine hM.mono ?_
        rintro e w' ⟨rfl, rfl⟩
        clear hM hW5
        by_cases hm : Xm.mayB k (c == net) = false
        · have HG3 : Hid (Xm.getO o net = (Xm.zero, 4)) := by show _ = _; rw [HG2.out, if_pos hm]
          rw [hm]
          clear HG2 hm hA5
          have HE : Hid (Eight w5 w.heap.size) := hE5
          have hlt := hE5.lt
          obtain ⟨v0, v1, v2, v3, v4, v5, v6, v7, c0, c1, c2, c3, c4, c5, c6, c7, f0, f1, f2, f3, f4, f5, f6, f7⟩ := hE5.parts
          clear hE5
          go_wp2
          obtain ⟨z0, z1, z2, z3, z4, z5, z6, z7⟩ := set8_is HE.out (.int .i64 0) (.int .i64 0) (.bool false) (.int .i64 0) (.bool false) (.int .i64 0) (.int .i64 0) (.string ⟨#[]⟩)
          have hBB := set8_below hq5 (.int .i64 0) (.int .i64 0) (.bool false) (.int .i64 0) (.bool false) (.int .i64 0) (.int .i64 0) (.string ⟨#[]⟩)
          unfold set8 at z0 z1 z2 z3 z4 z5 z6 z7 hBB
          exact bodyPost_ret (v := fgetV (Xm.zero, 4)) (by simp [results, Tryd.results11, go_sem, fgetV, frV, Xm.zero, HEE.out, z0, z1, z2, z3, z4, z5, z6, z7]) rfl ⟨by rw [HG3.out], hBB⟩
        · have hm' : Xm.mayB k (c == net) = true := by simpa using hm
          have HG3 : Hid (Xm.getO o net = if Xm.carB k ((r.extract n r.size).size : Int) = false then (Xm.zero, 5) else (⟨a, b, c == net, k, pf, ns, nr, r.extract n r.size⟩, 0)) := by show _ = _; rw [HG2.out, if_neg hm]
          rw [hm']
          clear HG2 hm hm'
          obtain ⟨info, hinfo⟩ : ∃ info, info = r.extract n r.size := ⟨_, rfl⟩
          have his : info.size ≤ 140737488351232 := by rw [hinfo, ByteArray.size_extract]; omega
          rw [← hinfo] at HG3 ⊢
          clear hinfo
          go_wp2_with fail
          refine (carries_any k (info.size : Int) _).mono ?_
          rintro e w' ⟨rfl, rfl⟩
          have HE : Hid (Eight w5 w.heap.size) := hE5
          have hlt := hE5.lt
          obtain ⟨v0, v1, v2, v3, v4, v5, v6, v7, c0, c1, c2, c3, c4, c5, c6, c7, f0, f1, f2, f3, f4, f5, f6, f7⟩ := hE5.parts
          clear hE5
          by_cases hc : Xm.carB k (info.size : Int) = false
          · have HG4 : Hid (Xm.getO o net = (Xm.zero, 5)) := by show _ = _; rw [HG3.out, if_pos hc]
            rw [hc]
            clear HG3 hc hA5
            go_wp2
            obtain ⟨z0, z1, z2, z3, z4, z5, z6, z7⟩ := set8_is HE.out (.int .i64 0) (.int .i64 0) (.bool false) (.int .i64 0) (.bool false) (.int .i64 0) (.int .i64 0) (.string ⟨#[]⟩)
            have hBB := set8_below hq5 (.int .i64 0) (.int .i64 0) (.bool false) (.int .i64 0) (.bool false) (.int .i64 0) (.int .i64 0) (.string ⟨#[]⟩)
            unfold set8 at z0 z1 z2 z3 z4 z5 z6 z7 hBB
            exact bodyPost_ret (v := fgetV (Xm.zero, 5)) (by simp [results, Tryd.results11, go_sem, fgetV, frV, Xm.zero, HEE.out, z0, z1, z2, z3, z4, z5, z6, z7]) rfl ⟨by rw [HG4.out], hBB⟩
          · have hc' : Xm.carB k (info.size : Int) = true := by simpa using hc
            have HG4 : Hid (Xm.getO o net = (⟨a, b, c == net, k, pf, ns, nr, info⟩, 0)) := by show _ = _; rw [HG3.out, if_neg hc]
            rw [hc']
            clear HG3 hc hc'
            obtain ⟨la, a0, a1, a2⟩ := hA5
            go_wp2
            obtain ⟨z0, z1, z2, z3, z4, z5, z6, z7⟩ := set8_is HE.out (.int .i64 a) (.int .i64 b) (.bool (c == net)) (.int .i64 k) (.bool pf) (.int .i64 ns) (.int .i64 nr) (.string info)
            have hBB := set8_below hq5 (.int .i64 a) (.int .i64 b) (.bool (c == net)) (.int .i64 k) (.bool pf) (.int .i64 ns) (.int .i64 nr) (.string info)
            unfold set8 at z0 z1 z2 z3 z4 z5 z6 z7 hBB
            exact bodyPost_ret (v := fgetV (⟨a, b, c == net, k, pf, ns, nr, info⟩, 0)) (by simp [results, Tryd.results11, go_sem, fgetV, frV, z0, z1, z2, z3, z4, z5, z6, z7]) rfl ⟨by rw [HG4.out], hBB⟩
    · have tk : (e2 != 0) = true := by simpa using h2
      have HG2 : Hid (Xm.getO o net = (Xm.zero, e2)) := by show _ = _; rw [HG.out, if_pos h2]
      clear HG HCe h2 hA4
      have HE : Hid (Eight w4 w.heap.size) := hE4
      have hlt := hE4.lt
      obtain ⟨v0, v1, v2, v3, v4, v5, v6, v7, c0, c1, c2, c3, c4, c5, c6, c7, f0, f1, f2, f3, f4, f5, f6, f7⟩ := hE4.parts
      clear hE4
      go_wp2
      obtain ⟨z0, z1, z2, z3, z4, z5, z6, z7⟩ := (set8_is HE.out (.int .i64 0) (.int .i64 0) (.bool false) (.int .i64 0) (.bool false) (.int .i64 0) (.int .i64 0) (.string ⟨#[]⟩)).alloc (set8_lt HE.out _ _ _ _ _ _ _ _) (.cells #[.int .i64 k, .bool pf, .int .i64 ns, .int .i64 nr] 56)
      have hBB := (set8_below hq4 (.int .i64 0) (.int .i64 0) (.bool false) (.int .i64 0) (.bool false) (.int .i64 0) (.int .i64 0) (.string ⟨#[]⟩)).alloc (by rw [set8_size]; exact hq4.size) (.cells #[.int .i64 k, .bool pf, .int .i64 ns, .int .i64 nr] 56)
      unfold set8 at z0 z1 z2 z3 z4 z5 z6 z7 hBB
      exact bodyPost_ret (v := fgetV (Xm.zero, e2)) (by simp [results, Tryd.results11, go_sem, fgetV, frV, Xm.zero, HEE.out, z0, z1, z2, z3, z4, z5, z6, z7]) rfl ⟨by rw [HG2.out], hBB⟩
  · have tk : (e1 != 0) = true := by simpa using h1
    have HG : Hid (Xm.getO o net = (Xm.zero, e1)) := by show _ = _; rw [Xm.getO, if_pos (by rw [hAe]; exact h1), hAe]
    clear h1 hAe
    have HE : Hid (Eight w2 w.heap.size) := hE2
    have hlt := hE2.lt
    obtain ⟨v0, v1, v2, v3, v4, v5, v6, v7, c0, c1, c2, c3, c4, c5, c6, c7, f0, f1, f2, f3, f4, f5, f6, f7⟩ := hE2.parts
    clear hE2
    go_wp2
    obtain ⟨z0, z1, z2, z3, z4, z5, z6, z7⟩ := (set8_is HE.out (.int .i64 0) (.int .i64 0) (.bool false) (.int .i64 0) (.bool false) (.int .i64 0) (.int .i64 0) (.string ⟨#[]⟩)).alloc (set8_lt HE.out _ _ _ _ _ _ _ _) (.cells #[.int .i64 a, .int .i64 b, .bool c] 59)
    have hBB := (set8_below hq2 (.int .i64 0) (.int .i64 0) (.bool false) (.int .i64 0) (.bool false) (.int .i64 0) (.int .i64 0) (.string ⟨#[]⟩)).alloc (by rw [set8_size]; exact hq2.size) (.cells #[.int .i64 a, .int .i64 b, .bool c] 59)
    unfold set8 at z0 z1 z2 z3 z4 z5 z6 z7 hBB
    exact bodyPost_ret (v := fgetV (Xm.zero, e1)) (by simp [results, Tryd.results11, go_sem, fgetV, frV, Xm.zero, HEE.out, z0, z1, z2, z3, z4, z5, z6, z7]) rfl ⟨by rw [HG.out], hBB⟩

theorem fget_any (s : ByteArray) (net : Bool) (w : World) (hs : s.size ≤ 140737488351232) (hL : Laws6 w) :
    Calls Tryd.prog 11 #[.string s, .bool net] w fun e w' => e = .returned (fgetV (Xm.getRes s net)) ∧ Below w.heap.size w w' := by
  by_cases hk : (checkRes s).2 ≠ 0
  · rw [Xm.get_sum net hk]; exact fget_sum s net w hs hk
  · have h0 : (checkRes s).2 = 0 := by simpa using hk
    rw [Xm.getRes, if_neg hk]
    exact fget_o s (checkRes s).1 net w hs (by rw [← h0]) hL
end Go.Proofs.YtfpdkdaoomakgaaDoor
