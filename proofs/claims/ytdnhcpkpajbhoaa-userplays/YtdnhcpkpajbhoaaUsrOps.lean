/-
  The walks of a user's lose, ask, View, New, Want, Verify, Drop, Timeout.
-/
import Derived.Test.YtdnhcpkpajbhoaaUsrSmall
namespace Go.Proofs.Ytdnhcpkpajbhoaa
open Go.RowKit
set_option linter.unusedVariables false
set_option linter.unusedSimpArgs false
set_option maxRecDepth 100000

section
variable {w : World} {C D : Nat} {G : Option Nat} {s : Um.St}
theorem ulose_any (h : Us w C D G s) :
    Calls Try.prog 36 #[.pointer (some ⟨C, 0, none⟩)] w fun r w' => ∃ v, r = .returned v ∧ UOut w.heap.size w' v (Um.loseE s) ∧ Mvu w w' C D G (Um.idle s) := by
  have c2 := h.c2
  have hlt := h.lt
  have hne : ¬ w.heap.size = C := by omega
  have hnd : ¬ w.heap.size = D := by have := h.dl; omega
  have HE : Hid (Um.loseE s = [Um.tell 2 s.tei]) := rfl
  generalize s.tei = t at c2 HE
  obtain ⟨W1, hW1⟩ : ∃ W1, W1 = w.alloc (.cells #[.int .i64 2, .int .i64 0, .int .i64 0, .int .i64 0, .int .i64 t] 55) := ⟨_, rfl⟩
  have hb1 : Below w.heap.size w W1 := by rw [hW1]; exact (Below.refl _ _).alloc (Nat.le_refl _) _
  have hl1 : w.heap.size < W1.heap.size := by rw [hW1]; simp
  have z0 : W1.cell? ⟨w.heap.size, 0, none⟩ = some (.int .i64 2) := by rw [hW1]; simp
  have z1 : W1.cell? ⟨w.heap.size, 1, none⟩ = some (.int .i64 0) := by rw [hW1]; simp
  have z2 : W1.cell? ⟨w.heap.size, 2, none⟩ = some (.int .i64 0) := by rw [hW1]; simp
  have z3 : W1.cell? ⟨w.heap.size, 3, none⟩ = some (.int .i64 0) := by rw [hW1]; simp
  have z4 : W1.cell? ⟨w.heap.size, 4, none⟩ = some (.int .i64 t) := by rw [hW1]; simp
  have HF := uforget_any (h.below hb1)
  have HB1 : Hid (Below w.heap.size w W1) := hb1
  clear h hb1
  go_enter Try.func36, Try.ntmps36
  go_wp2_with fail
  rw [← hW1]
  refine HF.mono ?_
  rintro r w2 ⟨rfl, hm⟩
  have HM : Hid (Mvu w w2 C D G (Um.idle s)) := Mvu.ahead HB1.out hm
  have hk := hm.2
  have hnn : ¬ (w.heap.size = C ∨ w.heap.size = D) := by omega
  have y0 := (hk.cell (p := ⟨w.heap.size, 0, none⟩) hl1 hnn).trans z0
  have y1 := (hk.cell (p := ⟨w.heap.size, 1, none⟩) hl1 hnn).trans z1
  have y2 := (hk.cell (p := ⟨w.heap.size, 2, none⟩) hl1 hnn).trans z2
  have y3 := (hk.cell (p := ⟨w.heap.size, 3, none⟩) hl1 hnn).trans z3
  have y4 := (hk.cell (p := ⟨w.heap.size, 4, none⟩) hl1 hnn).trans z4
  have hl2 : w.heap.size < w2.heap.size := Nat.lt_of_lt_of_le hl1 hk.size
  clear hm hk hW1 z0 z1 z2 z3 z4 hl1 hnn HF HB1 c2
  go_wp2
  go_ret
  refine ⟨_, rfl, ?_, HM.out.then ((Below.refl _ _).alloc (Nat.le_refl _) _)⟩
  rw [HE.out]
  exact uout_made w2 [Um.tell 2 t] (Nat.le_of_lt hl2) rfl (by simp)
theorem uask_any (t : Int) (h : Us w C D G s) (h0 : 1 ≤ t) (h1 : t ≤ s.most) :
    Calls Try.prog 33 #[.pointer (some ⟨C, 0, none⟩), .int .i64 t] w fun r w' => ∃ v, r = .returned v ∧ UOut w.heap.size w' v (Um.askE s) ∧ Mvu w w' C D G (Um.ask s t) := by
  have c1 := h.c1
  have hlt := h.lt
  have HN := unext_any h
  unfold nextV at c1
  have HK : Hid (Um.Ok (Um.has (Um.on s) (-1) true (Um.nx s) t)) := Um.ask_ok h.ok h0 h1
  have HE : Hid (Um.askE s = [Um.say 1 (Um.nx s) 127, Um.tell 4 0]) := rfl
  have HA : Hid (Um.ask s t = Um.has (Um.on s) (-1) true (Um.nx s) t) := rfl
  generalize dp s.nil D = p at c1 HN
  generalize Um.nx s = n at HN HK HE HA
  clear h h0 h1
  go_enter Try.func33, Try.ntmps33
  go_wp2_with fail
  refine HN.mono ?_
  rintro r w1 ⟨rfl, hm⟩
  have hu := hm.1
  have HM : Hid (Mvu w ((((w1.setCell ⟨C, 2, none⟩ (.int .i64 (-1))).setCell ⟨C, 3, none⟩ (.bool true)).setCell ⟨C, 4, none⟩ (.int .i64 n)).setCell ⟨C, 5, none⟩ (.int .i64 t)) C D G (Um.ask s t)) := by
    show Mvu _ _ _ _ _ _
    rw [HA.out]
    exact Mvu.on hm.2 (hu.set HK.out)
  have c2 := hu.c2
  have c3 := hu.c3
  have c4 := hu.c4
  have c5 := hu.c5
  have f2 := hu.fz 2 (by decide)
  have f3 := hu.fz 3 (by decide)
  have f4 := hu.fz 4 (by decide)
  have f5 := hu.fz 5 (by decide)
  have hlt1 := hu.lt
  clear hm hu HN HK HA c1
  obtain ⟨W2, hW2⟩ : ∃ W2, W2 = ((((w1.setCell ⟨C, 2, none⟩ (.int .i64 (-1))).setCell ⟨C, 3, none⟩ (.bool true)).setCell ⟨C, 4, none⟩ (.int .i64 n)).setCell ⟨C, 5, none⟩ (.int .i64 t)) := ⟨_, rfl⟩
  go_wp2_with fail
  rw [← hW2]
  rw [← hW2] at HM
  clear hW2 c2 c3 c4 c5 f2 f3 f4 f5
  refine (usend_any 1 n 127 W2).mono ?_
  rintro r w3 ⟨rfl, hb⟩
  have HM3 : Hid (Mvu w w3 C D G (Um.ask s t)) := HM.out.then hb
  have hz : w.heap.size ≤ w3.heap.size := HM3.out.2.size
  clear hb HM
  go_wp2
  go_ret
  refine ⟨_, rfl, ?_, HM3.out.then ((Below.refl _ _).alloc (Nat.le_refl _) _)⟩
  rw [HE.out]
  exact uout_made w3 [Um.say 1 n 127, Um.tell 4 0] hz rfl (by simp)
theorem uview_any (h : Us w C D G s) :
    Calls Try.prog 15 #[.pointer (some ⟨C, 0, none⟩)] w fun r w' => r = .returned (.agg #[.int .i64 s.tei, .bool s.asks, .int .i64 s.ri, .int .i64 s.tries]) ∧ Below w.heap.size w w' := by
  have c2 := h.c2
  have c3 := h.c3
  have c4 := h.c4
  have c5 := h.c5
  have hlt := h.lt
  obtain ⟨W1, hW1⟩ : ∃ W1, W1 = w.alloc (.cells #[.int .i64 0, .bool false, .int .i64 0, .int .i64 0] 37) := ⟨_, rfl⟩
  have hb1 : Below w.heap.size w W1 := by rw [hW1]; exact (Below.refl _ _).alloc (Nat.le_refl _) _
  have HM := umade_any (h.below hb1)
  generalize s.tei = x0 at c2 ⊢
  generalize s.asks = x1 at c3 ⊢
  generalize s.ri = x2 at c4 ⊢
  generalize s.tries = x3 at c5 ⊢
  clear h hb1
  go_enter Try.func15, Try.ntmps15
  go_wp2_with fail
  rw [← hW1]
  refine HM.mono ?_
  rintro r w1 ⟨rfl, rfl⟩
  clear HM
  subst hW1
  go_wp2
  refine bodyPost_ret (v := .agg #[.int .i64 x0, .bool x1, .int .i64 x2, .int .i64 x3]) (by simp [results, Try.results15, go_sem]) rfl ⟨rfl, ?_⟩
  first
    | exact (Below.refl _ _).alloc (Nat.le_refl _) _
    | exact (((((Below.refl _ _).alloc (Nat.le_refl _) _).setCell (Nat.le_refl _) _).setCell (Nat.le_refl _) _).setCell (Nat.le_refl _) _).setCell (Nat.le_refl _) _
theorem uview_nil (w : World) :
    Calls Try.prog 15 #[.pointer none] w fun r w' => r = .returned (.agg #[.int .i64 0, .bool false, .int .i64 0, .int .i64 0]) ∧ Below w.heap.size w w' := by
  obtain ⟨W1, hW1⟩ : ∃ W1, W1 = w.alloc (.cells #[.int .i64 0, .bool false, .int .i64 0, .int .i64 0] 37) := ⟨_, rfl⟩
  have HM := umade_nil W1
  go_enter Try.func15, Try.ntmps15
  go_wp2_with fail
  rw [← hW1]
  refine HM.mono ?_
  rintro r w1 ⟨rfl, rfl⟩
  clear HM
  subst hW1
  go_wp2
  refine bodyPost_ret (v := .agg #[.int .i64 0, .bool false, .int .i64 0, .int .i64 0]) (by simp [results, Try.results15, go_sem]) rfl ⟨rfl, ?_⟩
  first
    | exact (Below.refl _ _).alloc (Nat.le_refl _) _
    | exact (((((Below.refl _ _).alloc (Nat.le_refl _) _).setCell (Nat.le_refl _) _).setCell (Nat.le_refl _) _).setCell (Nat.le_refl _) _).setCell (Nat.le_refl _) _
theorem uwant_any (h : Us w C D G s) :
    Calls Try.prog 16 #[.pointer (some ⟨C, 0, none⟩)] w fun r w' => ∃ v, r = .returned (.tuple #[v, .int .i64 (Um.wantN s)]) ∧ UOut w.heap.size w' v (Um.want s).2 ∧ Mvu w w' C D G (Um.want s).1 := by
  have HM := umade_any h
  have HH := uholds_any h
  have c3 := h.c3
  have hlt := h.lt
  by_cases ht : s.tei = -1
  · rw [show decide (s.tei ≠ -1) = false from by simp [ht]] at HH
    cases ha : s.asks with
    | true =>
      have HN : Hid (Um.want s = (s, []) ∧ Um.wantN s = 12) := ⟨by unfold Um.want; rw [if_pos ht, ha, if_pos rfl], by unfold Um.wantN; rw [if_pos ht, ha, if_pos rfl]⟩
      have HS : Hid (Mvu w w C D G s) := ⟨h, Kept.refl _ _⟩
      rw [ha] at c3
      clear h ht ha
      go_enter Try.func16, Try.ntmps16
      go_wp2_with fail
      refine HM.mono ?_
      rintro r w1 ⟨rfl, rfl⟩
      go_wp2_with fail
      refine HH.mono ?_
      rintro r w1 ⟨rfl, rfl⟩
      clear HM HH
      go_wp2
      go_ret2
      rw [HN.out.1, HN.out.2]
      exact ⟨_, rfl, uout_nil _ _, HS.out⟩
    | false =>
      have HN : Hid (Um.want s = (Um.ask s 1, Um.askE s) ∧ Um.wantN s = 0) := ⟨by unfold Um.want; rw [if_pos ht, ha]; rfl, by unfold Um.wantN; rw [if_pos ht, ha]; rfl⟩
      have HA := uask_any 1 h (by decide) h.ok.m0
      rw [ha] at c3
      clear h ht ha
      go_enter Try.func16, Try.ntmps16
      go_wp2_with fail
      refine HM.mono ?_
      rintro r w1 ⟨rfl, rfl⟩
      go_wp2_with fail
      refine HH.mono ?_
      rintro r w1 ⟨rfl, rfl⟩
      go_wp2_with fail
      refine HA.mono ?_
      rintro r w1 ⟨v, rfl, ho, hm⟩
      have HO : Hid (UOut w.heap.size w1 v (Um.askE s)) := ho
      have HM1 : Hid (Mvu w w1 C D G (Um.ask s 1)) := hm
      clear HM HH HA ho hm c3
      go_wp2
      go_ret2
      rw [HN.out.1, HN.out.2]
      exact ⟨_, rfl, HO.out, HM1.out⟩
  · have HN : Hid (Um.want s = (s, []) ∧ Um.wantN s = 13) := ⟨by unfold Um.want; rw [if_neg ht], by unfold Um.wantN; rw [if_neg ht]⟩
    rw [show decide (s.tei ≠ -1) = true from by simp [ht]] at HH
    have HS : Hid (Mvu w w C D G s) := ⟨h, Kept.refl _ _⟩
    clear h ht c3
    go_enter Try.func16, Try.ntmps16
    go_wp2_with fail
    refine HM.mono ?_
    rintro r w1 ⟨rfl, rfl⟩
    go_wp2_with fail
    refine HH.mono ?_
    rintro r w1 ⟨rfl, rfl⟩
    clear HM HH
    go_wp2
    go_ret2
    rw [HN.out.1, HN.out.2]
    exact ⟨_, rfl, uout_nil _ _, HS.out⟩
theorem uverify_any (h : Us w C D G s) :
    Calls Try.prog 17 #[.pointer (some ⟨C, 0, none⟩)] w fun r w' => ∃ v, r = .returned (.tuple #[v, .int .i64 (Um.verifyN s)]) ∧ UOut w.heap.size w' v (Um.verifyE s) ∧ Mvu w w' C D G s := by
  have HM := umade_any h
  have HH := uholds_any h
  have c2 := h.c2
  have hlt := h.lt
  by_cases ht : s.tei = -1
  · rw [show decide (s.tei ≠ -1) = false from by simp [ht]] at HH
    have HN : Hid (Um.verifyE s = [] ∧ Um.verifyN s = 11) := ⟨by unfold Um.verifyE; rw [if_pos ht], by unfold Um.verifyN; rw [if_pos ht]⟩
    have HS : Hid (Mvu w w C D G s) := ⟨h, Kept.refl _ _⟩
    clear h ht c2
    go_enter Try.func17, Try.ntmps17
    go_wp2_with fail
    refine HM.mono ?_
    rintro r w1 ⟨rfl, rfl⟩
    go_wp2_with fail
    refine HH.mono ?_
    rintro r w1 ⟨rfl, rfl⟩
    clear HM HH
    go_wp2
    go_ret2
    rw [HN.out.1, HN.out.2]
    exact ⟨_, rfl, uout_nil _ _, HS.out⟩
  · rw [show decide (s.tei ≠ -1) = true from by simp [ht]] at HH
    have HN : Hid (Um.verifyE s = [Um.say 7 0 s.tei] ∧ Um.verifyN s = 0) := ⟨by unfold Um.verifyE; rw [if_neg ht], by unfold Um.verifyN; rw [if_neg ht]⟩
    have HS : Hid (∀ w', Below w.heap.size w w' → Mvu w w' C D G s) := fun w' hb => h.same hb
    generalize s.tei = t at c2 HN HH
    clear h ht
    go_enter Try.func17, Try.ntmps17
    go_wp2_with fail
    refine HM.mono ?_
    rintro r w1 ⟨rfl, rfl⟩
    go_wp2_with fail
    refine HH.mono ?_
    rintro r w1 ⟨rfl, rfl⟩
    go_wp2_with fail
    refine (usend_any 7 0 t w).mono ?_
    rintro r w1 ⟨rfl, hb⟩
    have HB : Hid (Below w.heap.size w w1) := hb
    have hz := hb.size
    clear HM HH hb c2
    go_wp2
    go_ret2
    rw [HN.out.1, HN.out.2]
    exact ⟨_, rfl, uout_made w1 [Um.say 7 0 t] hz rfl (by simp), HS.out _ (HB.out.alloc hz _)⟩
theorem utell_out {b : Nat} (w : World) (k : Int) (hb : b ≤ w.heap.size) : UOut b (w.alloc (.cells #[.int .i64 k, .int .i64 0, .int .i64 0, .int .i64 0, .int .i64 0] 55)) (.slice (some ⟨w.heap.size, 0, none⟩) 1 1) [Um.tell k 0] :=
  uout_made w [Um.tell k 0] hb rfl (by simp)
theorem udrop_any (h : Us w C D G s) :
    Calls Try.prog 18 #[.pointer (some ⟨C, 0, none⟩)] w fun r w' => ∃ v, r = .returned (.tuple #[v, .int .i64 (Um.dropN s)]) ∧ UOut w.heap.size w' v (Um.drop s).2 ∧ Mvu w w' C D G (Um.drop s).1 := by
  have HM := umade_any h
  have HH := uholds_any h
  have c3 := h.c3
  have hlt := h.lt
  cases ha : s.asks with
  | true =>
    have HN : Hid (Um.drop s = (Um.idle s, [Um.tell 5 0]) ∧ Um.dropN s = 0) := ⟨by unfold Um.drop; rw [ha]; rfl, by unfold Um.dropN; rw [ha]; rfl⟩
    have HF := uforget_any h
    rw [ha] at c3
    clear h ha HH
    go_enter Try.func18, Try.ntmps18
    go_wp2_with fail
    refine HM.mono ?_
    rintro r w1 ⟨rfl, rfl⟩
    go_wp2_with fail
    refine HF.mono ?_
    rintro r w1 ⟨rfl, hm⟩
    have HM1 : Hid (Mvu w w1 C D G (Um.idle s)) := hm
    have hz := hm.2.size
    clear HM HF hm c3
    go_wp2
    go_ret2
    rw [HN.out.1, HN.out.2]
    exact ⟨_, rfl, utell_out w1 5 hz, HM1.out.then ((Below.refl _ _).alloc (Nat.le_refl _) _)⟩
  | false =>
    rw [ha] at c3
    by_cases ht : s.tei = -1
    · rw [show decide (s.tei ≠ -1) = false from by simp [ht]] at HH
      have HN : Hid (Um.drop s = (s, []) ∧ Um.dropN s = 11) := ⟨by unfold Um.drop; rw [ha, if_neg (by decide), if_pos ht], by unfold Um.dropN; rw [ha, if_neg (by decide), if_pos ht]⟩
      have HS : Hid (Mvu w w C D G s) := ⟨h, Kept.refl _ _⟩
      clear h ht ha
      go_enter Try.func18, Try.ntmps18
      go_wp2_with fail
      refine HM.mono ?_
      rintro r w1 ⟨rfl, rfl⟩
      go_wp2_with fail
      refine HH.mono ?_
      rintro r w1 ⟨rfl, rfl⟩
      clear HM HH
      go_wp2
      go_ret2
      rw [HN.out.1, HN.out.2]
      exact ⟨_, rfl, uout_nil _ _, HS.out⟩
    · rw [show decide (s.tei ≠ -1) = true from by simp [ht]] at HH
      have HN : Hid (Um.drop s = (Um.idle s, Um.loseE s) ∧ Um.dropN s = 0) := ⟨by unfold Um.drop; rw [ha, if_neg (by decide), if_neg ht], by unfold Um.dropN; rw [ha, if_neg (by decide), if_neg ht]⟩
      have HL := ulose_any h
      clear h ht ha
      go_enter Try.func18, Try.ntmps18
      go_wp2_with fail
      refine HM.mono ?_
      rintro r w1 ⟨rfl, rfl⟩
      go_wp2_with fail
      refine HH.mono ?_
      rintro r w1 ⟨rfl, rfl⟩
      go_wp2_with fail
      refine HL.mono ?_
      rintro r w1 ⟨v, rfl, ho, hm⟩
      have HO : Hid (UOut w.heap.size w1 v (Um.loseE s)) := ho
      have HM1 : Hid (Mvu w w1 C D G (Um.idle s)) := hm
      clear HM HH HL ho hm c3
      go_wp2
      go_ret2
      rw [HN.out.1, HN.out.2]
      exact ⟨_, rfl, HO.out, HM1.out⟩
theorem utimeout_any (h : Us w C D G s) :
    Calls Try.prog 19 #[.pointer (some ⟨C, 0, none⟩)] w fun r w' => ∃ v, r = .returned v ∧ UOut w.heap.size w' v (Um.timeout s).2 ∧ Mvu w w' C D G (Um.timeout s).1 := by
  have HM := umade_any h
  have c0 := h.c0
  have c3 := h.c3
  have c5 := h.c5
  have hlt := h.lt
  cases ha : s.asks with
  | false =>
    have HN : Hid (Um.timeout s = (s, [])) := by show _ = _; unfold Um.timeout; rw [ha]; rfl
    have HS : Hid (Mvu w w C D G s) := ⟨h, Kept.refl _ _⟩
    rw [ha] at c3
    clear h ha c0 c5
    go_enter Try.func19, Try.ntmps19
    go_wp2_with fail
    refine HM.mono ?_
    rintro r w1 ⟨rfl, rfl⟩
    clear HM
    go_wp2
    go_ret
    rw [HN.out]
    exact ⟨_, rfl, uout_nil _ _, HS.out⟩
  | true =>
    obtain ⟨-, t1, t2⟩ := h.ok.ask ha
    have hm1 := h.ok.m1
    rw [ha] at c3
    by_cases he : s.tries = s.most
    · have HN : Hid (Um.timeout s = (Um.idle s, [Um.tell 3 0])) := by show _ = _; unfold Um.timeout; rw [ha, if_pos rfl, if_pos he]
      have HF : Hid (∀ w1, Below w.heap.size w w1 → Calls Try.prog 35 #[.pointer (some ⟨C, 0, none⟩)] w1 fun r w' => r = .returned (.tuple #[]) ∧ Mvu w w' C D G (Um.idle s)) := fun w1 hb => (uforget_any (h.below hb)).mono fun r w' h => ⟨h.1, Mvu.ahead hb h.2⟩
      have hb := (Below.refl w.heap.size w).drew
      rw [he] at c5
      have hee : (s.most == s.most) = true := by simp
      generalize s.most = m at c0 c5 hee
      clear h ha he t1 t2 hm1
      go_enter Try.func19, Try.ntmps19
      go_wp2_with fail
      refine HM.mono ?_
      rintro r w1 ⟨rfl, rfl⟩
      clear HM
      go_wp2_with fail
      go_quiet (fail)
      go_wp2_with fail
      refine (HF.out _ (udrewN_blw (Below.refl _ _) _)).mono ?_
      rintro r w1 ⟨rfl, hm⟩
      have HM1 : Hid (Mvu w w1 C D G (Um.idle s)) := hm
      have hz := hm.2.size
      clear HF hm c0 c3 c5 hb
      go_wp2
      go_ret
      rw [HN.out]
      exact ⟨_, rfl, utell_out w1 3 hz, HM1.out.then ((Below.refl _ _).alloc (Nat.le_refl _) _)⟩
    · have HN : Hid (Um.timeout s = (Um.ask s (s.tries + 1), Um.askE s)) := by show _ = _; unfold Um.timeout; rw [ha, if_pos rfl, if_neg he]
      have HA : Hid (∀ w1, Below w.heap.size w w1 → Calls Try.prog 33 #[.pointer (some ⟨C, 0, none⟩), .int .i64 (s.tries + 1)] w1 fun r w' => ∃ v, r = .returned v ∧ UOut w.heap.size w' v (Um.askE s) ∧ Mvu w w' C D G (Um.ask s (s.tries + 1))) := fun w1 hb =>
        (uask_any (s.tries + 1) (h.below hb) (by omega) (by omega)).mono fun r w' ⟨v, h1, h2, h3⟩ => ⟨v, h1, h2.up hb.size, Mvu.ahead hb h3⟩
      have hee : (s.tries == s.most) = false := by simp; exact he
      generalize Um.ask s (s.tries + 1) = s2 at HA HN
      generalize s.most = m at c0 hee hm1 t2
      generalize s.tries = q at c5 hee t1 t2 HA
      clear h ha he
      go_enter Try.func19, Try.ntmps19
      go_wp2_with fail
      refine HM.mono ?_
      rintro r w1 ⟨rfl, rfl⟩
      clear HM
      go_wp2_with fail
      go_quiet (fail)
      go_wp2_with fail
      refine (HA.out _ (udrewN_blw (Below.refl _ _) _)).mono ?_
      rintro r w1 ⟨v, rfl, ho, hm⟩
      have HO : Hid (UOut w.heap.size w1 v (Um.askE s)) := ho
      have HM1 : Hid (Mvu w w1 C D G s2) := hm
      clear HA ho hm c0 c3 c5
      go_wp2
      go_ret
      rw [HN.out]
      exact ⟨_, rfl, HO.out, HM1.out⟩
end
theorem unew_any (n : Int) (nil : Bool) (D : Nat) (G : Option Nat) (L : List Int) (x : Int) (w : World) (hs : nil = false → Src w D G L x) (hG : ∀ B, G = some B → B < w.heap.size) (hD : nil = false → D < w.heap.size) (hd : nil = true → D = w.heap.size) :
    Calls Try.prog 9 #[.int .i64 n, .pointer (dp nil D)] w fun r w' => ∃ C, r = .returned (.pointer (some ⟨C, 0, none⟩)) ∧ Us w' C D G (Um.new n nil L x) ∧ Below w.heap.size w w' ∧ C = w.heap.size := by
  have HM : Hid (∀ T, Us (w.alloc (.cells #[.int .i64 (Um.most n), nextV nil D, .int .i64 (-1), .bool false, .int .i64 0, .int .i64 0] T)) w.heap.size D G (Um.new n nil L x)) := by
    intro T
    have hb : Below w.heap.size w (w.alloc (.cells #[.int .i64 (Um.most n), nextV nil D, .int .i64 (-1), .bool false, .int .i64 0, .int .i64 0] T)) := (Below.refl _ _).alloc (Nat.le_refl _) _
    refine ⟨by simp, by simp [Um.new], by simp [Um.new], by simp [Um.new], by simp [Um.new], by simp [Um.new], by simp [Um.new], fun j hj => ?_, fun hn => (hs hn).below hb, ?_, fun hn => ?_, fun e => ?_, fun B hB => by have := hG B hB; simp; omega, Um.new_ok n nil L x⟩
    · have : j = 0 ∨ j = 1 ∨ j = 2 ∨ j = 3 ∨ j = 4 ∨ j = 5 := by omega
      rcases this with rfl | rfl | rfl | rfl | rfl | rfl <;> simp
    · cases nil with
      | true => rw [hd rfl]; simp
      | false => have := hD rfl; simp; omega
    · have := hD hn; omega
    · have := hG _ e; omega
  have hmm : (if (32 : Int) < (if n < (1 : Int) then (1 : Int) else n) then (32 : Int) else (if n < (1 : Int) then (1 : Int) else n)) = Um.most n := by
    unfold Um.most
    by_cases h1 : n < 1
    · rw [if_pos h1, if_pos h1]; rfl
    · rw [if_neg h1, if_neg h1]
  unfold nextV at HM
  generalize Um.most n = m at HM hmm
  generalize dp nil D = p at HM ⊢
  clear hs hG hD hd
  go_enter Try.func9, Try.ntmps9
  go_wp2
  all_goals
    go_ret
    exact ⟨_, rfl, HM.out _, (Below.refl _ _).alloc (Nat.le_refl _) _, rfl⟩
/-! ### a nil user -/
theorem uwant_nil (w : World) : Calls Try.prog 16 #[.pointer none] w fun r w' => r = .returned (.tuple #[.slice none 0 0, .int .i64 1]) ∧ w = w' := by
  have HM := umade_nil w
  go_enter Try.func16, Try.ntmps16
  go_wp2_with fail
  refine HM.mono ?_
  rintro r w1 ⟨rfl, rfl⟩
  clear HM
  go_wp2
  go_ret2
  exact ⟨rfl, rfl⟩
theorem uverify_nil (w : World) : Calls Try.prog 17 #[.pointer none] w fun r w' => r = .returned (.tuple #[.slice none 0 0, .int .i64 1]) ∧ w = w' := by
  have HM := umade_nil w
  go_enter Try.func17, Try.ntmps17
  go_wp2_with fail
  refine HM.mono ?_
  rintro r w1 ⟨rfl, rfl⟩
  clear HM
  go_wp2
  go_ret2
  exact ⟨rfl, rfl⟩
theorem udrop_nil (w : World) : Calls Try.prog 18 #[.pointer none] w fun r w' => r = .returned (.tuple #[.slice none 0 0, .int .i64 1]) ∧ w = w' := by
  have HM := umade_nil w
  go_enter Try.func18, Try.ntmps18
  go_wp2_with fail
  refine HM.mono ?_
  rintro r w1 ⟨rfl, rfl⟩
  clear HM
  go_wp2
  go_ret2
  exact ⟨rfl, rfl⟩
theorem utimeout_nil (w : World) : Calls Try.prog 19 #[.pointer none] w fun r w' => r = .returned (.slice none 0 0) ∧ w = w' := by
  have HM := umade_nil w
  go_enter Try.func19, Try.ntmps19
  go_wp2_with fail
  refine HM.mono ?_
  rintro r w1 ⟨rfl, rfl⟩
  clear HM
  go_wp2
  go_ret
  exact ⟨rfl, rfl⟩
theorem umessage_nil (ty ri ai : Int) (w : World) : Calls Try.prog 20 #[.pointer none, .agg #[.int .i64 ty, .int .i64 ri, .int .i64 ai]] w fun r w' => r = .returned (.slice none 0 0) ∧ Below w.heap.size w w' := by
  obtain ⟨W, hW⟩ : ∃ W, W = w.alloc (.cells #[.int .i64 ty, .int .i64 ri, .int .i64 ai] 51) := ⟨_, rfl⟩
  have HB : Hid (Below w.heap.size w W) := by rw [hW]; exact (Below.refl _ _).alloc (Nat.le_refl _) _
  have HM := umade_nil W
  go_enter Try.func20, Try.ntmps20
  go_wp2_with fail
  rw [← hW]
  refine HM.mono ?_
  rintro r w1 ⟨rfl, rfl⟩
  clear HM hW
  go_wp2
  go_ret
  exact ⟨rfl, HB.out⟩
end Go.Proofs.Ytdnhcpkpajbhoaa
