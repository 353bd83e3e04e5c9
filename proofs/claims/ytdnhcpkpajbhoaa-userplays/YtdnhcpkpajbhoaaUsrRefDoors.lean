/-
  The walks of the document's user: ask, New, Want, Verify, Drop, Timeout.
-/
import Derived.Test.YtdnhcpkpajbhoaaUsrRefOps
import Derived.BigQuiet
import Derived.Deep.DeepCutAuto
namespace Go.Proofs.Ytdnhcpkpajbhoaa
open Go.RowKit
set_option linter.unusedVariables false
set_option linter.unusedSimpArgs false
set_option maxRecDepth 100000

theorem Um.ask_up1 (s : Um.St) : Um.has (Um.on { s with asks := true }) (-1) true (Um.nx s) s.tries = Um.ask s s.tries := by
  obtain ⟨m, t, a, r, q, n, L, x⟩ := s
  cases n <;> rfl
theorem Um.ask_up2 (s : Um.St) (k : Int) : Um.ask { s with tries := k } k = Um.ask s k ∧ Um.nx { s with tries := k } = Um.nx s := by
  obtain ⟨m, t, a, r, q, n, L, x⟩ := s
  cases n <;> exact ⟨rfl, rfl⟩
section
variable {w : World} {R S bb : Nat} {s : Um.St} {l : List Um.Ef}
theorem rnext_any (h : Ur w R S bb s l) : Calls Try.prog 48 #[.pointer (some ⟨S, 0, none⟩)] w fun r w' => r = .returned (.int .i64 (Um.nx s)) ∧ MvR w w' R S bb (Um.on s) l := by
  refine (rsnext_any S 0 none [] s.x w h.src (by simp)).mono ?_
  rintro r w' ⟨rfl, h1, hk⟩
  have e1 : Um.nx s = Dm.ot (Dm.st s.x) := by unfold Um.nx; rw [h.nil, h.ls]; rfl
  have e2 : (Um.on s).x = Dm.nX [] s.x := by unfold Um.on; rw [h.nil, h.ls]; rfl
  have e3 : (Um.on s).L = [] := by unfold Um.on; rw [h.nil, h.ls]; rfl
  refine ⟨by rw [e1]; rfl, ?_, hk.mono (fun k _ x => Or.inr (Or.inl x))⟩
  have hne := h.ne
  obtain ⟨v, hv, ho⟩ := h.out
  refine ⟨Nat.lt_of_lt_of_le h.lt hk.size, fun j hj => ?_, ⟨v, (hk.cell (p := ⟨R, 6, none⟩) h.lt hne).trans hv, ?_⟩, fun j hj => (hk.frozen (p := ⟨R, j, none⟩) h.lt hne).trans (h.fz j hj), ?_, (Um.on_nil s).trans h.nil, e3, h.ne, h.rb, h.sb, Nat.le_trans h.bw hk.size⟩
  · refine ((hk.cell (p := ⟨R, j, none⟩) h.lt hne).trans (h.c j hj)).trans ?_
    congr 1
    match j, hj with
    | 0, _ => show Value.int .i64 s.most = .int .i64 (Um.on s).most; rw [Um.on_most]
    | 1, _ => show Value.int .i64 s.tei = .int .i64 (Um.on s).tei; rw [Um.on_tei]
    | 2, _ => show Value.bool s.asks = .bool (Um.on s).asks; rw [Um.on_asks]
    | 3, _ => show Value.int .i64 s.ri = .int .i64 (Um.on s).ri; rw [Um.on_ri]
    | 4, _ => show Value.int .i64 s.tries = .int .i64 (Um.on s).tries; rw [Um.on_tries]
    | 5, _ => rfl
  · exact hk.owns ho (fun B hB e => by
      have := rrow_base ho hB
      have := h.sb
      omega)
  · rw [e2]
    exact h1
set_option maxHeartbeats 1000000 in
theorem rask_any (h : Ur w R S bb s l) (ht : s.tei = -1) (hl : l.length ≤ 900) :
    Calls Try.prog 42 #[.pointer (some ⟨R, 0, none⟩)] w fun r w' => r = .returned (.tuple #[]) ∧ MvR w w' R S bb (Um.ask s s.tries) (l ++ [Um.say 1 (Um.nx s) 127, Um.tell 4 0]) := by
  have m2 := h.set 2 (by decide) { s with asks := true } (fun i hi hne => by match i, hi, hne with | 0, _, _ => rfl | 1, _, _ => rfl | 2, _, h => exact absurd rfl h | 3, _, _ => rfl | 4, _, _ => rfl | 5, _, _ => rfl) rfl rfl rfl
  obtain ⟨W1, hW1⟩ : ∃ W1, W1 = w.setCell ⟨R, 2, none⟩ (.bool true) := ⟨_, rfl⟩
  have m2' : MvR w W1 R S bb { s with asks := true } l := by rw [hW1]; exact m2
  have HN := rnext_any m2'.1
  rw [show Um.nx { s with asks := true } = Um.nx s from rfl] at HN
  have HM1 : Hid (MvR w W1 R S bb { s with asks := true } l) := m2'
  have c2 := h.c 2 (by decide)
  have f2 := h.fz 2 (by decide)
  have hlt := h.lt
  have c5 := m2'.1.c 5 (by decide)
  have hlt1 := m2'.1.lt
  simp only [urV] at c2 c5
  have HE : Hid (Um.has (Um.on { s with asks := true }) (-1) true (Um.nx s) s.tries = Um.ask s s.tries ∧ (Um.on { s with asks := true }).tei = -1 ∧ (Um.on { s with asks := true }).asks = true ∧ (Um.on { s with asks := true }).tries = s.tries) := by
    exact ⟨Um.ask_up1 s, by rw [Um.on_tei]; exact ht, by rw [Um.on_asks], by rw [Um.on_tries]⟩
  clear m2 m2' h ht
  generalize Um.on { s with asks := true } = s2 at HN HE
  generalize Um.nx s = n at HN HE ⊢
  go_enter Try.func42, Try.ntmps42
  go_upto_region 1 with fail
  rw [← hW1]
  clear hW1
  go_wp2_with fail
  refine HN.mono ?_
  rintro r w2 ⟨rfl, hm⟩
  have m3 := hm.1.set 3 (by decide) (Um.has s2 (-1) true n s.tries) (fun i hi hne => by match i, hi, hne with | 0, _, _ => rfl | 1, _, _ => (show Value.int .i64 (-1) = .int .i64 s2.tei; rw [HE.out.2.1]) | 2, _, _ => (show Value.bool true = .bool s2.asks; rw [HE.out.2.2.1]) | 3, _, h => exact absurd rfl h | 4, _, _ => (show Value.int .i64 s.tries = .int .i64 s2.tries; rw [HE.out.2.2.2]) | 5, _, _ => rfl) rfl rfl rfl
  replace m3 : MvR w2 (w2.setCell ⟨R, 3, none⟩ (.int .i64 n)) R S bb (Um.has s2 (-1) true n s.tries) l := m3
  rw [HE.out.1] at m3
  obtain ⟨W3, hW3⟩ : ∃ W3, W3 = w2.setCell ⟨R, 3, none⟩ (.int .i64 n) := ⟨_, rfl⟩
  have m3' : MvR w W3 R S bb (Um.ask s s.tries) l := by rw [hW3]; exact MvR.on HM1.out.2 (MvR.on hm.2 m3)
  have d3 := hm.1.c 3 (by decide)
  have g3 := hm.1.fz 3 (by decide)
  have hlt2 := hm.1.lt
  simp only [urV] at d3
  have HM3 : Hid (MvR w W3 R S bb (Um.ask s s.tries) l) := m3'
  have HS := rsay_any 1 n 127 m3'.1 (by omega)
  have e3 : W3.cell? ⟨R, 3, none⟩ = some (.int .i64 n) := by
    rw [hW3]
    exact World.cell?_setCell_same' _ ⟨R, 3, none⟩ _ (by rw [d3]; rfl)
  have hlt3 := m3'.1.lt
  clear m3 m3' hm HN c2 f2 c5 HM1 HE
  go_upto_region 2 with fail
  rw [← hW3]
  clear hW3
  go_wp2_with fail
  refine HS.mono ?_
  rintro r w4 ⟨rfl, hm⟩
  have HM4 : Hid (MvR w w4 R S bb (Um.ask s s.tries) (l ++ [Um.say 1 n 127])) := MvR.on HM3.out.2 hm
  have HT := rtell_any 4 0 hm.1 (by simp; omega)
  clear hm HS HM3 d3 g3 e3
  go_wp2_with fail
  refine HT.mono ?_
  rintro r w5 ⟨rfl, hm⟩
  have HM5 : Hid (MvR w w5 R S bb (Um.ask s s.tries) (l ++ [Um.say 1 n 127, Um.tell 4 0])) := by
    have := MvR.on HM4.out.2 hm
    rw [List.append_assoc] at this
    exact this
  clear hm HT HM4
  go_wp2
  go_end0
  exact ⟨rfl, HM5.out⟩
set_option maxHeartbeats 1000000 in
theorem rwant_any (h : UrC w R S bb s) (hok : Um.Ok s) :
    Calls Try.prog 25 #[.pointer (some ⟨R, 0, none⟩)] w fun r w' => r = .returned (.int .i64 (Um.wantN s)) ∧ MvR w w' R S bb (Um.want s).1 (Um.want s).2 := by
  have m6 := h.clear
  obtain ⟨W1, hW1⟩ : ∃ W1, W1 = w.setCell ⟨R, 6, none⟩ (.slice none 0 0) := ⟨_, rfl⟩
  rw [← hW1] at m6
  obtain ⟨v6, c6⟩ := h.out
  have f6 := h.fz 6 (by decide)
  have hlt := h.lt
  have c1 := m6.1.c 1 (by decide)
  have c2 := m6.1.c 2 (by decide)
  have c4 := m6.1.c 4 (by decide)
  have f4 := m6.1.fz 4 (by decide)
  have hlt1 := m6.1.lt
  simp only [urV] at c1 c2 c4
  have HM1 : Hid (MvR w W1 R S bb s []) := m6
  rcases hok.tei with ht | ht
  · cases ha : s.asks with
    | true =>
      have HN : Hid (Um.want s = (s, []) ∧ Um.wantN s = 12) := ⟨by unfold Um.want; rw [if_pos ht, ha, if_pos rfl], by unfold Um.wantN; rw [if_pos ht, ha, if_pos rfl]⟩
      rw [ht] at c1
      rw [ha] at c2
      clear h hok m6 ht ha
      go_enter Try.func25, Try.ntmps25
      go_upto_region 2 with fail
      rw [← hW1]
      clear hW1
      go_wp2
      go_ret
      rw [HN.out.1, HN.out.2]
      exact ⟨rfl, HM1.out⟩
    | false =>
      have HN : Hid (Um.want s = (Um.ask s 1, [Um.say 1 (Um.nx s) 127, Um.tell 4 0]) ∧ Um.wantN s = 0) := ⟨by unfold Um.want; rw [if_pos ht, ha]; rfl, by unfold Um.wantN; rw [if_pos ht, ha]; rfl⟩
      have m4 := m6.1.set 4 (by decide) { s with tries := 1 } (fun i hi hne => by match i, hi, hne with | 0, _, _ => rfl | 1, _, _ => rfl | 2, _, _ => rfl | 3, _, _ => rfl | 4, _, h => exact absurd rfl h | 5, _, _ => rfl) rfl rfl rfl
      have HA := rask_any m4.1 ht (by simp)
      have HM4 : Hid (Kept w (W1.setCell ⟨R, 4, none⟩ (.int .i64 1)) (TchR R S bb)) := m6.2.trans m4.2 (fun k _ x => x)
      have HE : Hid (Um.ask { s with tries := 1 } 1 = Um.ask s 1 ∧ Um.nx { s with tries := 1 } = Um.nx s) := Um.ask_up2 s 1
      rw [ht] at c1
      rw [ha] at c2
      clear h hok m6 ht ha m4 HM1
      go_enter Try.func25, Try.ntmps25
      go_upto_region 2 with fail
      rw [← hW1]
      clear hW1
      go_wp2_with fail
      refine HA.mono ?_
      rintro r w2 ⟨rfl, hm⟩
      have HM5 : Hid (MvR w w2 R S bb (Um.ask s 1) [Um.say 1 (Um.nx s) 127, Um.tell 4 0]) := by
        have := MvR.on HM4.out hm
        rw [HE.out.1, HE.out.2] at this
        exact this
      clear hm HA HM4 HE
      go_wp2
      go_ret
      rw [HN.out.1, HN.out.2]
      exact ⟨rfl, HM5.out⟩
  · have HN : Hid (Um.want s = (s, []) ∧ Um.wantN s = 13) := ⟨by unfold Um.want; rw [if_neg (by omega)], by unfold Um.wantN; rw [if_neg (by omega)]⟩
    have hd : decide (0 ≤ s.tei) = true := decide_eq_true (by omega)
    have h0 : 0 ≤ s.tei := by omega
    clear h hok m6 ht
    generalize s.tei = t at *
    go_enter Try.func25, Try.ntmps25
    go_upto_region 2 with fail
    rw [← hW1]
    clear hW1
    go_wp2
    go_ret
    rw [HN.out.1, HN.out.2]
    exact ⟨rfl, HM1.out⟩
set_option maxHeartbeats 1000000 in
theorem rverify_any (h : UrC w R S bb s) (hok : Um.Ok s) :
    Calls Try.prog 26 #[.pointer (some ⟨R, 0, none⟩)] w fun r w' => r = .returned (.int .i64 (Um.verifyN s)) ∧ MvR w w' R S bb s (Um.verifyE s) := by
  have m6 := h.clear
  obtain ⟨W1, hW1⟩ : ∃ W1, W1 = w.setCell ⟨R, 6, none⟩ (.slice none 0 0) := ⟨_, rfl⟩
  rw [← hW1] at m6
  obtain ⟨v6, c6⟩ := h.out
  have f6 := h.fz 6 (by decide)
  have hlt := h.lt
  have c1 := m6.1.c 1 (by decide)
  have c2 := m6.1.c 2 (by decide)
  have hlt1 := m6.1.lt
  simp only [urV] at c1 c2
  have HM1 : Hid (MvR w W1 R S bb s []) := m6
  rcases hok.tei with ht | ht
  · have HN : Hid (Um.verifyE s = [] ∧ Um.verifyN s = 11) := ⟨by unfold Um.verifyE; rw [if_pos ht], by unfold Um.verifyN; rw [if_pos ht]⟩
    rw [ht] at c1
    clear h hok m6 ht c2
    go_enter Try.func26, Try.ntmps26
    go_upto_region 2 with fail
    rw [← hW1]
    clear hW1
    go_wp2
    go_ret
    rw [HN.out.1, HN.out.2]
    exact ⟨rfl, HM1.out⟩
  · have HN : Hid (Um.verifyE s = [Um.say 7 0 s.tei] ∧ Um.verifyN s = 0) := ⟨by unfold Um.verifyE; rw [if_neg (by omega)], by unfold Um.verifyN; rw [if_neg (by omega)]⟩
    have hd : decide (s.tei < 0) = false := decide_eq_false (by omega)
    have HS := rsay_any 7 0 s.tei m6.1 (by simp)
    clear h hok m6 ht c2
    generalize s.tei = t at c1 hd HS HN
    go_enter Try.func26, Try.ntmps26
    go_upto_region 2 with fail
    rw [← hW1]
    clear hW1
    go_wp2_with fail
    refine HS.mono ?_
    rintro r w2 ⟨rfl, hm⟩
    have HM2 : Hid (MvR w w2 R S bb s [Um.say 7 0 t]) := MvR.on HM1.out.2 hm
    clear hm HS HM1 c1
    go_wp2
    go_ret
    rw [HN.out.1, HN.out.2]
    exact ⟨rfl, HM2.out⟩
set_option maxHeartbeats 1000000 in
theorem rdrop_any (h : UrC w R S bb s) (hok : Um.Ok s) :
    Calls Try.prog 27 #[.pointer (some ⟨R, 0, none⟩)] w fun r w' => r = .returned (.int .i64 (Um.dropN s)) ∧ MvR w w' R S bb (Um.drop s).1 (Um.drop s).2 := by
  have m6 := h.clear
  obtain ⟨W1, hW1⟩ : ∃ W1, W1 = w.setCell ⟨R, 6, none⟩ (.slice none 0 0) := ⟨_, rfl⟩
  rw [← hW1] at m6
  obtain ⟨v6, c6⟩ := h.out
  have f6 := h.fz 6 (by decide)
  have hlt := h.lt
  have c1 := m6.1.c 1 (by decide)
  have c2 := m6.1.c 2 (by decide)
  have hlt1 := m6.1.lt
  simp only [urV] at c1 c2
  have HM1 : Hid (MvR w W1 R S bb s []) := m6
  cases ha : s.asks with
  | true =>
    have ht := (hok.ask ha).1
    have HN : Hid (Um.drop s = (Um.idle s, [Um.tell 5 0]) ∧ Um.dropN s = 0) := ⟨by unfold Um.drop; rw [ha]; rfl, by unfold Um.dropN; rw [ha]; rfl⟩
    have HT := rtell_any 5 0 m6.1 (by simp)
    have HI : Hid (∀ w2, Ur w2 R S bb s [Um.tell 5 0] → Calls Try.prog 45 #[.pointer (some ⟨R, 0, none⟩)] w2 fun r w' => r = .returned (.tuple #[]) ∧ MvR w2 w' R S bb (Um.idle s) [Um.tell 5 0]) := fun w2 h2 => ridle_any h2 ht
    rw [ha] at c2
    clear h hok m6 ha ht c1
    go_enter Try.func27, Try.ntmps27
    go_upto_region 2 with fail
    rw [← hW1]
    clear hW1
    go_wp2_with fail
    refine HT.mono ?_
    rintro r w2 ⟨rfl, hm⟩
    have HM2 : Hid (MvR w w2 R S bb s [Um.tell 5 0]) := MvR.on HM1.out.2 hm
    have HI2 := HI.out w2 hm.1
    clear hm HT HM1 c2 HI
    go_wp2_with fail
    refine HI2.mono ?_
    rintro r w3 ⟨rfl, hm⟩
    have HM3 : Hid (MvR w w3 R S bb (Um.idle s) [Um.tell 5 0]) := MvR.on HM2.out.2 hm
    clear hm HI2 HM2
    go_wp2
    go_ret
    rw [HN.out.1, HN.out.2]
    exact ⟨rfl, HM3.out⟩
  | false =>
    rw [ha] at c2
    rcases hok.tei with ht | ht
    · have HN : Hid (Um.drop s = (s, []) ∧ Um.dropN s = 11) := ⟨by unfold Um.drop; rw [ha, if_neg (by decide), if_pos ht], by unfold Um.dropN; rw [ha, if_neg (by decide), if_pos ht]⟩
      rw [ht] at c1
      clear h hok m6 ha ht
      go_enter Try.func27, Try.ntmps27
      go_upto_region 2 with fail
      rw [← hW1]
      clear hW1
      go_wp2
      go_ret
      rw [HN.out.1, HN.out.2]
      exact ⟨rfl, HM1.out⟩
    · have HN : Hid (Um.drop s = (Um.idle s, [Um.tell 2 s.tei]) ∧ Um.dropN s = 0) := ⟨by unfold Um.drop; rw [ha, if_neg (by decide), if_neg (by omega)]; rfl, by unfold Um.dropN; rw [ha, if_neg (by decide), if_neg (by omega)]⟩
      have hd : decide (s.tei < 0) = false := decide_eq_false (by omega)
      have HL := rlose_any m6.1 (by simp) ha (hok.no ha)
      clear h hok m6 ht ha
      generalize s.tei = t at c1 hd HL HN
      go_enter Try.func27, Try.ntmps27
      go_upto_region 2 with fail
      rw [← hW1]
      clear hW1
      go_wp2_with fail
      refine HL.mono ?_
      rintro r w2 ⟨rfl, hm⟩
      have HM2 : Hid (MvR w w2 R S bb (Um.idle s) [Um.tell 2 t]) := MvR.on HM1.out.2 hm
      clear hm HL HM1 c1 c2
      go_wp2
      go_ret
      rw [HN.out.1, HN.out.2]
      exact ⟨rfl, HM2.out⟩
set_option maxHeartbeats 1000000 in
theorem rtimeout_any (h : UrC w R S bb s) (hok : Um.Ok s) :
    Calls Try.prog 28 #[.pointer (some ⟨R, 0, none⟩)] w fun r w' => r = .returned (.tuple #[]) ∧ MvR w w' R S bb (Um.timeout s).1 (Um.timeout s).2 := by
  have m6 := h.clear
  obtain ⟨W1, hW1⟩ : ∃ W1, W1 = w.setCell ⟨R, 6, none⟩ (.slice none 0 0) := ⟨_, rfl⟩
  rw [← hW1] at m6
  obtain ⟨v6, c6⟩ := h.out
  have f6 := h.fz 6 (by decide)
  have hlt := h.lt
  have c1 := m6.1.c 1 (by decide)
  have c2 := m6.1.c 2 (by decide)
  have hlt1 := m6.1.lt
  simp only [urV] at c1 c2
  have HM1 : Hid (MvR w W1 R S bb s []) := m6
  cases ha : s.asks with
  | false =>
    have HN : Hid (Um.timeout s = (s, [])) := by show _ = _; unfold Um.timeout; rw [ha]; rfl
    rw [ha] at c2
    clear h hok m6 ha c1
    go_enter Try.func28, Try.ntmps28
    go_upto_region 1 with fail
    rw [← hW1]
    clear hW1
    go_wp2
    refine bodyPost_ret (v := .tuple #[]) (results_none rfl _ _ _) rfl ?_
    rw [HN.out]
    exact ⟨rfl, HM1.out⟩
  | true =>
    obtain ⟨ht, t1, t2⟩ := hok.ask ha
    have hm1 := hok.m1
    have c0 := m6.1.c 0 (by decide)
    have c4 := m6.1.c 4 (by decide)
    have f4 := m6.1.fz 4 (by decide)
    simp only [urV] at c0 c4
    rw [ha] at c2
    have hbD : ∀ n, Below W1.heap.size W1 (W1.drewN n) := fun n => udrewN_blw (Below.refl _ _) n
    by_cases he : s.tries = s.most
    · have HN : Hid (Um.timeout s = (Um.idle s, [Um.tell 3 0])) := by show _ = _; unfold Um.timeout; rw [ha, if_pos rfl, if_pos he]
      have HI : Hid (∀ n, Calls Try.prog 45 #[.pointer (some ⟨R, 0, none⟩)] (W1.drewN n) fun r w' => r = .returned (.tuple #[]) ∧ MvR w w' R S bb (Um.idle s) []) := fun n =>
        (ridle_any (m6.1.below (hbD n)) ht).mono fun r w' hh => ⟨hh.1, MvR.on m6.2 (MvR.ahead (hbD n) hh.2)⟩
      rw [he] at c4
      have hee : (s.most == s.most) = true := by simp
      clear h hok m6 ha ht c1 t1 t2 hm1 he hbD HM1
      generalize s.most = m at c0 c4 hee
      go_enter Try.func28, Try.ntmps28
      go_upto_region 1 with fail
      rw [← hW1]
      clear hW1
      go_wp2_with fail
      go_quiet (fail)
      go_wp2_with fail
      refine (HI.out _).mono ?_
      rintro r w2 ⟨rfl, hm⟩
      have HM2 : Hid (MvR w w2 R S bb (Um.idle s) []) := hm
      have HT := rtell_any 3 0 hm.1 (by simp)
      clear hm HI c0 c2 c4 f4
      go_wp2_with fail
      refine HT.mono ?_
      rintro r w3 ⟨rfl, hm⟩
      have HM3 : Hid (MvR w w3 R S bb (Um.idle s) [Um.tell 3 0]) := MvR.on HM2.out.2 hm
      clear hm HT HM2
      go_wp2
      refine bodyPost_ret (v := .tuple #[]) (results_none rfl _ _ _) rfl ?_
      rw [HN.out]
      exact ⟨rfl, HM3.out⟩
    · have HN : Hid (Um.timeout s = (Um.ask s (s.tries + 1), [Um.say 1 (Um.nx s) 127, Um.tell 4 0])) := by show _ = _; unfold Um.timeout; rw [ha, if_pos rfl, if_neg he]; rfl
      have HA : Hid (∀ n, Calls Try.prog 42 #[.pointer (some ⟨R, 0, none⟩)] ((W1.drewN n).setCell ⟨R, 4, none⟩ (.int .i64 (s.tries + 1))) fun r w' => r = .returned (.tuple #[]) ∧ MvR w w' R S bb (Um.ask s (s.tries + 1)) [Um.say 1 (Um.nx s) 127, Um.tell 4 0]) := fun n => by
        have m4 := (m6.1.below (hbD n)).set 4 (by decide) { s with tries := s.tries + 1 } (fun i hi hne => by match i, hi, hne with | 0, _, _ => rfl | 1, _, _ => rfl | 2, _, _ => rfl | 3, _, _ => rfl | 4, _, h => exact absurd rfl h | 5, _, _ => rfl) rfl rfl rfl
        refine (rask_any m4.1 ht (by simp)).mono fun r w' hh => ⟨hh.1, ?_⟩
        have := MvR.on m6.2 (MvR.ahead (hbD n) (MvR.on m4.2 hh.2))
        rw [(Um.ask_up2 s (s.tries + 1)).1, (Um.ask_up2 s (s.tries + 1)).2] at this
        exact this
      have hee : (s.tries == s.most) = false := by simp; exact he
      clear h hok m6 ha ht c1 he hbD HM1
      generalize Um.ask s (s.tries + 1) = s2 at HA HN
      generalize s.most = m at c0 hee hm1 t2
      generalize s.tries = q at c4 hee t1 t2 HA
      go_enter Try.func28, Try.ntmps28
      go_upto_region 1 with fail
      rw [← hW1]
      clear hW1
      go_wp2_with fail
      go_quiet (fail)
      go_wp2_with fail
      refine (HA.out _).mono ?_
      rintro r w2 ⟨rfl, hm⟩
      have HM2 : Hid (MvR w w2 R S bb s2 [Um.say 1 (Um.nx s) 127, Um.tell 4 0]) := hm
      clear hm HA c0 c2 c4 f4
      go_wp2
      go_end0
      rw [HN.out]
      exact ⟨rfl, HM2.out⟩
end
theorem rnewu_any (n : Int) (S : Nat) (x : Int) (w : World) (hs : Rs w S none [] 0 x) :
    Calls Try.prog 11 #[.int .i64 n, .pointer (some ⟨S, 0, none⟩)] w fun r w' => ∃ R, r = .returned (.pointer (some ⟨R, 0, none⟩)) ∧ Ur w' R S w'.heap.size (Um.new n false [] x) [] ∧ Below w.heap.size w w' ∧ R = w.heap.size := by
  have HM : Hid (∀ T, Ur (w.alloc (.cells #[.int .i64 (Um.most n), .int .i64 (-1), .bool false, .int .i64 0, .int .i64 0, .pointer (some ⟨S, 0, none⟩), .slice none 0 0] T)) w.heap.size S (w.alloc (.cells #[.int .i64 (Um.most n), .int .i64 (-1), .bool false, .int .i64 0, .int .i64 0, .pointer (some ⟨S, 0, none⟩), .slice none 0 0] T)).heap.size (Um.new n false [] x) []) := by
    intro T
    have hb : Below w.heap.size w (w.alloc (.cells #[.int .i64 (Um.most n), .int .i64 (-1), .bool false, .int .i64 0, .int .i64 0, .pointer (some ⟨S, 0, none⟩), .slice none 0 0] T)) := (Below.refl _ _).alloc (Nat.le_refl _) _
    have hS := hs.lt
    refine ⟨by simp, fun j hj => ?_, ⟨.slice none 0 0, by simp, World.ownsRow_nil _ _ _ _⟩, fun j hj => ?_, hs.below hb, rfl, rfl, by omega, by simp, by simp; omega, Nat.le_refl _⟩
    · match j, hj with
      | 0, _ => simp [urV, Um.new]
      | 1, _ => simp [urV, Um.new]
      | 2, _ => simp [urV, Um.new]
      | 3, _ => simp [urV, Um.new]
      | 4, _ => simp [urV, Um.new]
      | 5, _ => simp [urV, Um.new]
    · have : j = 0 ∨ j = 1 ∨ j = 2 ∨ j = 3 ∨ j = 4 ∨ j = 5 ∨ j = 6 := by omega
      rcases this with rfl | rfl | rfl | rfl | rfl | rfl | rfl <;> simp
  clear hs
  by_cases h1 : n < 1
  · have hm : Um.most n = 1 := by unfold Um.most; rw [if_pos h1]
    rw [hm] at HM
    clear hm
    go_enter Try.func11, Try.ntmps11
    go_wp2
    go_ret
    exact ⟨_, rfl, HM.out _, (Below.refl _ _).alloc (Nat.le_refl _) _, rfl⟩
  · by_cases h2 : 32 < n
    · have hm : Um.most n = 32 := by unfold Um.most; rw [if_neg h1, if_pos h2]
      rw [hm] at HM
      have hd1 : decide (n < 1) = false := decide_eq_false h1
      clear hm
      go_enter Try.func11, Try.ntmps11
      go_wp2
      go_ret
      exact ⟨_, rfl, HM.out _, (Below.refl _ _).alloc (Nat.le_refl _) _, rfl⟩
    · have hm : Um.most n = n := by unfold Um.most; rw [if_neg h1, if_neg h2]
      rw [hm] at HM
      have hd1 : decide (n < 1) = false := decide_eq_false h1
      have hd2 : decide (32 < n) = false := decide_eq_false h2
      clear hm
      go_enter Try.func11, Try.ntmps11
      go_wp2
      go_ret
      exact ⟨_, rfl, HM.out _, (Below.refl _ _).alloc (Nat.le_refl _) _, rfl⟩
end Go.Proofs.Ytdnhcpkpajbhoaa
