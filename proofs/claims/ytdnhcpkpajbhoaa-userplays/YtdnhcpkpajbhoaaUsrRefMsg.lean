/-
  The walk of the document's user: Message.
-/
import Derived.Test.YtdnhcpkpajbhoaaUsrRefDoors
import Derived.Test.YtdnhcpkpajbhoaaRefTput
namespace Go.Proofs.Ytdnhcpkpajbhoaa
open Go.RowKit
set_option linter.unusedVariables false
set_option linter.unusedSimpArgs false
set_option maxRecDepth 100000

section
variable {w : World} {R S bb : Nat} {s : Um.St} {l : List Um.Ef}
set_option maxHeartbeats 4000000 in
theorem rmessage_any (ty ri ai : Int) (h : UrC w R S bb s) (hok : Um.Ok s) :
    Calls Try.prog 29 #[.pointer (some ⟨R, 0, none⟩), .agg #[.int .i64 ty, .int .i64 ri, .int .i64 ai]] w fun r w' => r = .returned (.tuple #[]) ∧ MvR w w' R S bb (Um.message s ty ri ai).1 (Um.message s ty ri ai).2 := by
  obtain ⟨W, hW⟩ : ∃ W, W = w.alloc (.cells #[.int .i64 ty, .int .i64 ri, .int .i64 ai] 75) := ⟨_, rfl⟩
  have hbW : Below w.heap.size w W := by rw [hW]; exact (Below.refl _ _).alloc (Nat.le_refl _) _
  have hlW : w.heap.size < W.heap.size := by rw [hW]; simp
  have m0 : W.cell? ⟨w.heap.size, 0, none⟩ = some (.int .i64 ty) := by rw [hW]; simp
  have m1 : W.cell? ⟨w.heap.size, 1, none⟩ = some (.int .i64 ri) := by rw [hW]; simp
  have m2 : W.cell? ⟨w.heap.size, 2, none⟩ = some (.int .i64 ai) := by rw [hW]; simp
  have hu := h.below hbW
  obtain ⟨v6, c6⟩ := hu.out
  have f6 := hu.fz 6 (by decide)
  have hlt := hu.lt
  have m6 := hu.clear
  obtain ⟨W1, hW1⟩ : ∃ W1, W1 = W.setCell ⟨R, 6, none⟩ (.slice none 0 0) := ⟨_, rfl⟩
  rw [← hW1] at m6
  have hRM : w.heap.size ≠ R := by have := h.lt; omega
  have k0 : W1.cell? ⟨w.heap.size, 0, none⟩ = some (.int .i64 ty) := by rw [hW1, World.cell?_setCell_other _ _ _ _ (fun e => by injection e with e1 e2; omega)]; exact m0
  have k1 : W1.cell? ⟨w.heap.size, 1, none⟩ = some (.int .i64 ri) := by rw [hW1, World.cell?_setCell_other _ _ _ _ (fun e => by injection e with e1 e2; omega)]; exact m1
  have k2 : W1.cell? ⟨w.heap.size, 2, none⟩ = some (.int .i64 ai) := by rw [hW1, World.cell?_setCell_other _ _ _ _ (fun e => by injection e with e1 e2; omega)]; exact m2
  have k6 : W1.cell? ⟨R, 6, none⟩ = some (.slice none 0 0) := by rw [hW1]; exact World.cell?_setCell_same' _ ⟨R, 6, none⟩ _ (by rw [c6]; rfl)
  have hRl1 : R < W1.heap.size := m6.1.lt
  have hl1 : w.heap.size < W1.heap.size := Nat.lt_of_lt_of_le hlW m6.2.size
  have HM1 : Hid (MvR w W1 R S bb s []) := MvR.ahead hbW m6
  have HP := ref_tput_any ty ri ai W1
  have HG : Hid (Um.good ty ri ai = decide ((Tm.putRes ty ri ai).2 = 0)) := rfl
  generalize (Tm.putRes ty ri ai).2 = e at HP HG
  generalize (Tm.putRes ty ri ai).1 = z at HP
  clear hu h hbW hlW m0 m1 m2 m6
  by_cases he : e = 0
  · subst he
    have HN : Hid (Um.message s ty ri ai = if ty = 2 then Um.assigned s ri ai else if ty = 4 then Um.check s ai else if ty = 6 then Um.remove s ai else (s, [])) := by
      show _ = _
      unfold Um.message
      rw [HG.out]
      exact if_pos (by decide)
    clear HG
    go_enter Try.func29, Try.ntmps29
    go_upto_region 1 with fail
    rw [← hW]
    clear hW
    go_upto_region 2 with fail
    rw [← hW1]
    clear hW1 c6 f6 hlt
    go_wp2_with fail
    refine HP.mono ?_
    rintro r w2 ⟨rfl, hb⟩
    have HM2 : Hid (∀ w', Below w2.heap.size w2 w' → MvR w w' R S bb s []) := fun w' hb2 => by
      have hb3 := hb.trans (hb2.mono hb.size)
      exact MvR.on HM1.out.2 (MvR.ahead hb3 (HM1.out.1.below hb3).refl)
    have n0 := (hb.cell (p := ⟨w.heap.size, 0, none⟩) hl1).trans k0
    have n1 := (hb.cell (p := ⟨w.heap.size, 1, none⟩) hl1).trans k1
    have n2 := (hb.cell (p := ⟨w.heap.size, 2, none⟩) hl1).trans k2
    have n6 := (hb.cell (p := ⟨R, 6, none⟩) hRl1).trans k6
    have hl2 : w.heap.size < w2.heap.size := Nat.lt_of_lt_of_le hl1 hb.size
    have hu2 := (HM2.out w2 (Below.refl _ _)).1
    have d1 := hu2.c 1 (by decide)
    have d2 := hu2.c 2 (by decide)
    have d3 := hu2.c 3 (by decide)
    have d5 := hu2.c 5 (by decide)
    have hlt2 := hu2.lt
    simp only [urV] at d1 d2 d3 d5
    have hbD : Hid (∀ n, Below w2.heap.size w2 (w2.drewN n)) := fun n => udrewN_blw (Below.refl _ _) n
    have hbE : Hid (∀ n k, Below w2.heap.size w2 ((w2.drewN n).drewN k)) := fun n k => udrewN_blw (udrewN_blw (Below.refl _ _) n) k
    have HN6 : Hid (w2.cell? ⟨R, 6, none⟩ = some (.slice none 0 0)) := n6
    have HRM : Hid (w.heap.size ≠ R) := hRM
    clear hb HP HM1 k0 k1 k2 hl1 hu2 n6 k6 hRl1 hRM
    by_cases t2 : ty = 2
    · subst t2
      replace HN : Hid (Um.message s 2 ri ai = Um.assigned s ri ai) := HN.out
      have HAs : Hid (Um.assigned s ri ai = if Um.mine s ri ai then (Um.has s ai false 0 0, [Um.tell 5 0, Um.tell 1 ai]) else if Um.gone s ai then (Um.idle s, Um.loseE s) else (s, [])) := rfl
      have HMi : Hid (Um.mine s ri ai = (s.asks && (decide (ri = s.ri) && decide (64 ≤ ai ∧ ai ≤ 126)))) := rfl
      have HGo : Hid (Um.gone s ai = (decide (s.tei ≠ -1) && decide (ai = s.tei))) := rfl
      cases ha : s.asks with
      | false =>
        have hmi : Um.mine s ri ai = false := by rw [HMi.out, ha]; rfl
        rw [ha] at d2
        rcases hok.tei with ht | ht
        · have HN2 : Hid (Um.message s 2 ri ai = (s, [])) := by
            show _ = _
            rw [HN.out, HAs.out, hmi, if_neg (by decide), HGo.out, ht]
            rfl
          rw [ht] at d1
          clear hok ha ht hmi HMi HGo HAs HN
          go_wp2_with fail
          go_quiet (fail)
          go_wp2_with fail
          go_quiet (fail)
          go_wp2
          go_end0
          rw [HN2.out]
          exact ⟨rfl, HM2.out _ (hbE.out _ _)⟩
        · have HL : Hid (∀ w', Below w2.heap.size w2 w' → Calls Try.prog 46 #[.pointer (some ⟨R, 0, none⟩)] w' fun r w'' => r = .returned (.tuple #[]) ∧ MvR w w'' R S bb (Um.idle s) [Um.tell 2 s.tei]) := fun w' hb => (rlose_any (HM2.out w' hb).1 (by simp) ha (hok.no ha)).mono fun r w'' hh => ⟨hh.1, MvR.on (HM2.out w' hb).2 hh.2⟩
          have h0 : 0 ≤ s.tei := by omega
          have hd : decide (0 ≤ s.tei) = true := decide_eq_true h0
          by_cases hai : ai = s.tei
          · have HN2 : Hid (Um.message s 2 ri ai = (Um.idle s, [Um.tell 2 s.tei])) := by
              show _ = _
              rw [HN.out, HAs.out, hmi, if_neg (by decide), HGo.out, decide_eq_true hai, decide_eq_true (show s.tei ≠ -1 by omega)]
              rfl
            have e1 : (ai == s.tei) = true := by simp; exact hai
            clear hok ha ht hmi HMi HGo HAs HN hai
            generalize s.tei = st at *
            go_wp2_with fail
            go_quiet (fail)
            go_wp2_with fail
            go_quiet (fail)
            go_wp2_with fail
            refine (HL.out _ (hbD.out _)).mono ?_
            rintro r w5 ⟨rfl, hm⟩
            have HM5 : Hid (MvR w w5 R S bb (Um.idle s) [Um.tell 2 st]) := hm
            clear hm HL d1 d2 d3 d5 n0 n1 n2
            go_wp2
            go_end0
            rw [HN2.out]
            exact ⟨rfl, HM5.out⟩
          · have HN2 : Hid (Um.message s 2 ri ai = (s, [])) := by
              show _ = _
              rw [HN.out, HAs.out, hmi, if_neg (by decide), HGo.out, decide_eq_false hai, Bool.and_false]
              rfl
            have e1 : (ai == s.tei) = false := by simp; exact hai
            clear hok ha ht hmi HMi HGo HAs HN hai HL
            generalize s.tei = st at *
            go_wp2_with fail
            go_quiet (fail)
            go_wp2_with fail
            go_quiet (fail)
            go_wp2
            go_end0
            rw [HN2.out]
            exact ⟨rfl, HM2.out _ (hbE.out _ _)⟩
      | true =>
        have ht := (hok.ask ha).1
        rw [ha] at d2
        by_cases hr : ri = s.ri
        · have e0 : (ri == s.ri) = true := by simp; exact hr
          by_cases h64 : 64 ≤ ai
          · have g64 : decide (64 ≤ ai) = true := decide_eq_true h64
            by_cases h126 : ai ≤ 126
            · have g126 : decide (ai ≤ 126) = true := decide_eq_true h126
              have HN2 : Hid (Um.message s 2 ri ai = (Um.has s ai false 0 0, [Um.tell 5 0, Um.tell 1 ai])) := by
                show _ = _
                rw [HN.out, HAs.out, HMi.out, ha, decide_eq_true hr, decide_eq_true (show 64 ≤ ai ∧ ai ≤ 126 from ⟨h64, h126⟩)]
                rfl
              have HT : Hid (∀ w', Below w2.heap.size w2 w' → Calls Try.prog 44 #[.pointer (some ⟨R, 0, none⟩), .int .i64 5, .int .i64 0] w' fun r w'' => r = .returned (.tuple #[]) ∧ MvR w w'' R S bb s [Um.tell 5 0] ∧ Kept w' w'' (fun k => k = R)) := fun w' hb => (rtell_more 5 0 (HM2.out w' hb).1 (by simp)).mono fun r w'' hh => ⟨hh.1, MvR.on (HM2.out w' hb).2 hh.2.1, (hh.2.2 _ ((hb.cell (p := ⟨R, 6, none⟩) hlt2).trans HN6.out)).mono (fun k _ x => by rcases x with x | x; exact x; cases x)⟩
              have HI : Hid (∀ w', Ur w' R S bb s [Um.tell 5 0] → Calls Try.prog 45 #[.pointer (some ⟨R, 0, none⟩)] w' fun r w'' => r = .returned (.tuple #[]) ∧ MvR w' w'' R S bb (Um.idle s) [Um.tell 5 0] ∧ Kept w' w'' (fun k => k = R)) := fun w' hu => ridle_more hu ht
              have hRM := HRM.out
              clear hok ha ht HMi HGo HAs HN hr h64 h126
              generalize s.ri = sr at *
              skip
              go_wp2_with fail
              go_quiet (fail)
              go_wp2_with fail
              refine (HT.out _ (hbD.out _)).mono ?_
              rintro r w5 ⟨rfl, hm, hk⟩
              have HM5 : Hid (MvR w w5 R S bb s [Um.tell 5 0]) := hm
              have HI5 := HI.out w5 hm.1
              have p2 : w5.cell? ⟨w.heap.size, 2, none⟩ = some (.int .i64 ai) := (hk.cell (p := ⟨w.heap.size, 2, none⟩) (by simpa using hl2) hRM).trans (((hbD.out _).cell (p := ⟨w.heap.size, 2, none⟩) hl2).trans n2)
              have hl5 : w.heap.size < w5.heap.size := Nat.lt_of_lt_of_le (Nat.lt_of_lt_of_le hl2 (hbD.out _).size) hk.size
              clear hm hk HT HI d1 d2 d3 d5 n0 n1 n2 HM2
              go_wp2_with fail
              refine HI5.mono ?_
              rintro r w6 ⟨rfl, hm, hk6⟩
              have HM6 : Hid (MvR w w6 R S bb (Um.idle s) [Um.tell 5 0]) := MvR.on HM5.out.2 hm
              have m1 := hm.1.set 1 (by decide) (Um.has s ai false 0 0) (fun i hi hne => by match i, hi, hne with | 0, _, _ => rfl | 1, _, h => exact absurd rfl h | 2, _, _ => rfl | 3, _, _ => rfl | 4, _, _ => rfl | 5, _, _ => rfl) rfl rfl rfl
              have p6 : w6.cell? ⟨w.heap.size, 2, none⟩ = some (.int .i64 ai) := (hk6.cell (p := ⟨w.heap.size, 2, none⟩) hl5 hRM).trans p2
              have hl6 : w.heap.size < w6.heap.size := Nat.lt_of_lt_of_le hl5 hm.2.size
              obtain ⟨W7, hW7⟩ : ∃ W7, W7 = w6.setCell ⟨R, 1, none⟩ (.int .i64 ai) := ⟨_, rfl⟩
              have m7 : MvR w W7 R S bb (Um.has s ai false 0 0) [Um.tell 5 0] := by rw [hW7]; exact MvR.on HM6.out.2 m1
              have p7 : W7.cell? ⟨w.heap.size, 2, none⟩ = some (.int .i64 ai) := by rw [hW7, World.cell?_setCell_other _ _ _ _ (fun e => by injection e with e1 e2; omega)]; exact p6
              have hl7 : w.heap.size < W7.heap.size := by rw [hW7]; simpa using hl6
              have q1 := hm.1.c 1 (by decide)
              have g1 := hm.1.fz 1 (by decide)
              have hlt6 := hm.1.lt
              simp only [urV] at q1
              have HT7 := rtell_any 1 ai m7.1 (by simp)
              have HM7 : Hid (MvR w W7 R S bb (Um.has s ai false 0 0) [Um.tell 5 0]) := m7
              clear hm m1 m7 HI5 HM5 HM6 p2 hl5 hk6
              go_upto_region 10 with fail
              rw [← hW7]
              clear hW7 q1 g1 hlt6 p6 hl6
              go_wp2_with fail
              refine HT7.mono ?_
              rintro r w8 ⟨rfl, hm⟩
              have HM8 : Hid (MvR w w8 R S bb (Um.has s ai false 0 0) [Um.tell 5 0, Um.tell 1 ai]) := MvR.on HM7.out.2 hm
              clear hm HT7 HM7 p7
              go_wp2
              refine bodyPost_ret (v := .tuple #[]) (results_none rfl _ _ _) rfl ?_
              rw [HN2.out]
              exact ⟨rfl, HM8.out⟩
            · have g126 : decide (ai ≤ 126) = false := decide_eq_false h126
              have hmi : Um.mine s ri ai = false := by rw [HMi.out, ha, decide_eq_true hr, decide_eq_false (fun h : 64 ≤ ai ∧ ai ≤ 126 => h126 h.2)]; rfl
              have HN2 : Hid (Um.message s 2 ri ai = (s, [])) := by
                show _ = _
                rw [HN.out, HAs.out, hmi, if_neg (by decide), HGo.out, ht]
                rfl
              rw [ht] at d1
              clear hok ha ht hmi HMi HGo HAs HN hr h64 h126
              skip
              go_wp2_with fail
              go_quiet (fail)
              go_wp2_with fail
              go_quiet (fail)
              go_wp2
              go_end0
              rw [HN2.out]
              exact ⟨rfl, HM2.out _ (hbE.out _ _)⟩
          · have g64 : decide (64 ≤ ai) = false := decide_eq_false h64
            have hmi : Um.mine s ri ai = false := by rw [HMi.out, ha, decide_eq_true hr, decide_eq_false (fun h : 64 ≤ ai ∧ ai ≤ 126 => h64 h.1)]; rfl
            have HN2 : Hid (Um.message s 2 ri ai = (s, [])) := by
              show _ = _
              rw [HN.out, HAs.out, hmi, if_neg (by decide), HGo.out, ht]
              rfl
            rw [ht] at d1
            clear hok ha ht hmi HMi HGo HAs HN hr h64
            skip
            go_wp2_with fail
            go_quiet (fail)
            go_wp2_with fail
            go_quiet (fail)
            go_wp2
            go_end0
            rw [HN2.out]
            exact ⟨rfl, HM2.out _ (hbE.out _ _)⟩
        · have e0 : (ri == s.ri) = false := by simp; exact hr
          have hmi : Um.mine s ri ai = false := by rw [HMi.out, ha, decide_eq_false hr]; rfl
          have HN2 : Hid (Um.message s 2 ri ai = (s, [])) := by
            show _ = _
            rw [HN.out, HAs.out, hmi, if_neg (by decide), HGo.out, ht]
            rfl
          rw [ht] at d1
          clear hok ha ht hmi HMi HGo HAs HN hr
          generalize s.ri = sr at *
          go_wp2_with fail
          go_quiet (fail)
          go_wp2_with fail
          go_quiet (fail)
          go_wp2
          go_end0
          rw [HN2.out]
          exact ⟨rfl, HM2.out _ (hbE.out _ _)⟩
    · by_cases t4 : ty = 4
      · subst t4
        replace HN : Hid (Um.message s 4 ri ai = if Um.meant s ai then (Um.on s, [Um.say 5 (Um.nx s) s.tei]) else (s, [])) := HN.out
        have HMe : Hid (Um.meant s ai = (decide (s.tei ≠ -1) && (decide (ai = s.tei) || decide (ai = 127)))) := rfl
        rcases hok.tei with ht | ht
        · have HN2 : Hid (Um.message s 4 ri ai = (s, [])) := by
            show _ = _
            rw [HN.out, HMe.out, ht]
            rfl
          rw [ht] at d1
          clear hok ht HMe HN
          go_wp2_with fail
          go_quiet (fail)
          go_wp2
          go_end0
          rw [HN2.out]
          exact ⟨rfl, HM2.out _ (hbD.out _)⟩
        · have h0 : 0 ≤ s.tei := by omega
          have hd : decide (0 ≤ s.tei) = true := decide_eq_true h0
          have hne : decide (s.tei ≠ -1) = true := decide_eq_true (by omega)
          have ha : s.asks = false := by
            cases hh : s.asks with
            | false => rfl
            | true => have := (hok.ask hh).1; omega
          have HX : Hid (∀ w', Below w2.heap.size w2 w' → Calls Try.prog 48 #[.pointer (some ⟨S, 0, none⟩)] w' fun r w'' => r = .returned (.int .i64 (Um.nx s)) ∧ MvR w w'' R S bb (Um.on s) []) := fun w' hb => (rnext_any (HM2.out w' hb).1).mono fun r w'' hh => ⟨hh.1, MvR.on (HM2.out w' hb).2 hh.2⟩
          have hTE : Hid ((Um.on s).tei = s.tei) := Um.on_tei s
          by_cases hai : ai = s.tei
          · have HN2 : Hid (Um.message s 4 ri ai = (Um.on s, [Um.say 5 (Um.nx s) s.tei])) := by
              show _ = _
              rw [HN.out, HMe.out, hne, decide_eq_true hai]
              rfl
            have e1 : (ai == s.tei) = true := by simp; exact hai
            clear hok ha ht HMe HN hai hne
            generalize s.tei = st at *
            go_wp2_with fail
            go_quiet (fail)
            go_wp2_with fail
            refine (HX.out _ (hbD.out _)).mono ?_
            rintro r w5 ⟨rfl, hm⟩
            have HM5 : Hid (MvR w w5 R S bb (Um.on s) []) := hm
            have q1 := hm.1.c 1 (by decide)
            have hlt5 := hm.1.lt
            have HS5 := rsay_any 5 (Um.nx s) st hm.1 (by simp)
            simp only [urV] at q1
            rw [hTE.out] at q1
            clear hm HX d1 d2 d3 d5 n0 n1 n2 HM2
            generalize Um.nx s = n at HS5 HN2 ⊢
            go_wp2_with fail
            refine HS5.mono ?_
            rintro r w6 ⟨rfl, hm⟩
            have HM6 : Hid (MvR w w6 R S bb (Um.on s) [Um.say 5 n st]) := MvR.on HM5.out.2 hm
            clear hm HS5 HM5 q1
            go_wp2
            go_end0
            rw [HN2.out]
            exact ⟨rfl, HM6.out⟩
          · have e1 : (ai == s.tei) = false := by simp; exact hai
            by_cases h127 : ai = 127
            · have HN2 : Hid (Um.message s 4 ri ai = (Um.on s, [Um.say 5 (Um.nx s) s.tei])) := by
                show _ = _
                rw [HN.out, HMe.out, hne, decide_eq_false hai, decide_eq_true h127]
                rfl
              have e2 : (ai == 127) = true := by simp; exact h127
              clear hok ha ht HMe HN hai hne h127
              generalize s.tei = st at *
              go_wp2_with fail
              go_quiet (fail)
              go_wp2_with fail
              refine (HX.out _ (hbD.out _)).mono ?_
              rintro r w5 ⟨rfl, hm⟩
              have HM5 : Hid (MvR w w5 R S bb (Um.on s) []) := hm
              have q1 := hm.1.c 1 (by decide)
              have hlt5 := hm.1.lt
              have HS5 := rsay_any 5 (Um.nx s) st hm.1 (by simp)
              simp only [urV] at q1
              rw [hTE.out] at q1
              clear hm HX d1 d2 d3 d5 n0 n1 n2 HM2
              generalize Um.nx s = n at HS5 HN2 ⊢
              go_wp2_with fail
              refine HS5.mono ?_
              rintro r w6 ⟨rfl, hm⟩
              have HM6 : Hid (MvR w w6 R S bb (Um.on s) [Um.say 5 n st]) := MvR.on HM5.out.2 hm
              clear hm HS5 HM5 q1
              go_wp2
              go_end0
              rw [HN2.out]
              exact ⟨rfl, HM6.out⟩
            · have HN2 : Hid (Um.message s 4 ri ai = (s, [])) := by
                show _ = _
                rw [HN.out, HMe.out, hne, decide_eq_false hai, decide_eq_false h127]
                rfl
              have e2 : (ai == 127) = false := by simp; exact h127
              clear hok ha ht HMe HN hai hne h127 HX
              generalize s.tei = st at *
              go_wp2_with fail
              go_quiet (fail)
              go_wp2
              go_end0
              rw [HN2.out]
              exact ⟨rfl, HM2.out _ (hbD.out _)⟩
      · by_cases t6 : ty = 6
        · subst t6
          replace HN : Hid (Um.message s 6 ri ai = if Um.meant s ai then (Um.idle s, [Um.tell 2 s.tei]) else (s, [])) := HN.out
          have HMe : Hid (Um.meant s ai = (decide (s.tei ≠ -1) && (decide (ai = s.tei) || decide (ai = 127)))) := rfl
          rcases hok.tei with ht | ht
          · have HN2 : Hid (Um.message s 6 ri ai = (s, [])) := by
              show _ = _
              rw [HN.out, HMe.out, ht]
              rfl
            rw [ht] at d1
            clear hok ht HMe HN
            go_wp2_with fail
            go_quiet (fail)
            go_wp2
            go_end0
            rw [HN2.out]
            exact ⟨rfl, HM2.out _ (hbD.out _)⟩
          · have h0 : 0 ≤ s.tei := by omega
            have hd : decide (0 ≤ s.tei) = true := decide_eq_true h0
            have hne : decide (s.tei ≠ -1) = true := decide_eq_true (by omega)
            have ha : s.asks = false := by
              cases hh : s.asks with
              | false => rfl
              | true => have := (hok.ask hh).1; omega
            have HL : Hid (∀ w', Below w2.heap.size w2 w' → Calls Try.prog 46 #[.pointer (some ⟨R, 0, none⟩)] w' fun r w'' => r = .returned (.tuple #[]) ∧ MvR w w'' R S bb (Um.idle s) [Um.tell 2 s.tei]) := fun w' hb => (rlose_any (HM2.out w' hb).1 (by simp) ha (hok.no ha)).mono fun r w'' hh => ⟨hh.1, MvR.on (HM2.out w' hb).2 hh.2⟩
            by_cases hai : ai = s.tei
            · have HN2 : Hid (Um.message s 6 ri ai = (Um.idle s, [Um.tell 2 s.tei])) := by
                show _ = _
                rw [HN.out, HMe.out, hne, decide_eq_true hai]
                rfl
              have e1 : (ai == s.tei) = true := by simp; exact hai
              clear hok ha ht HMe HN hai hne
              generalize s.tei = st at *
              go_wp2_with fail
              go_quiet (fail)
              go_wp2_with fail
              refine (HL.out _ (hbD.out _)).mono ?_
              rintro r w5 ⟨rfl, hm⟩
              have HM5 : Hid (MvR w w5 R S bb (Um.idle s) [Um.tell 2 st]) := hm
              clear hm HL d1 d2 d3 d5 n0 n1 n2
              go_wp2
              go_end0
              rw [HN2.out]
              exact ⟨rfl, HM5.out⟩
            · have e1 : (ai == s.tei) = false := by simp; exact hai
              by_cases h127 : ai = 127
              · have HN2 : Hid (Um.message s 6 ri ai = (Um.idle s, [Um.tell 2 s.tei])) := by
                  show _ = _
                  rw [HN.out, HMe.out, hne, decide_eq_false hai, decide_eq_true h127]
                  rfl
                have e2 : (ai == 127) = true := by simp; exact h127
                clear hok ha ht HMe HN hai hne h127
                generalize s.tei = st at *
                go_wp2_with fail
                go_quiet (fail)
                go_wp2_with fail
                refine (HL.out _ (hbD.out _)).mono ?_
                rintro r w5 ⟨rfl, hm⟩
                have HM5 : Hid (MvR w w5 R S bb (Um.idle s) [Um.tell 2 st]) := hm
                clear hm HL d1 d2 d3 d5 n0 n1 n2
                go_wp2
                go_end0
                rw [HN2.out]
                exact ⟨rfl, HM5.out⟩
              · have HN2 : Hid (Um.message s 6 ri ai = (s, [])) := by
                  show _ = _
                  rw [HN.out, HMe.out, hne, decide_eq_false hai, decide_eq_false h127]
                  rfl
                have e2 : (ai == 127) = false := by simp; exact h127
                clear hok ha ht HMe HN hai hne h127 HL
                generalize s.tei = st at *
                go_wp2_with fail
                go_quiet (fail)
                go_wp2
                go_end0
                rw [HN2.out]
                exact ⟨rfl, HM2.out _ (hbD.out _)⟩
        · have HN2 : Hid (Um.message s ty ri ai = (s, [])) := by show _ = _; rw [HN.out, if_neg t2, if_neg t4, if_neg t6]
          have e2 : (ty == 2) = false := by simp; exact t2
          have e4 : (ty == 4) = false := by simp; exact t4
          have e6 : (ty == 6) = false := by simp; exact t6
          clear hok t2 t4 t6 HN
          go_wp2
          go_end0
          rw [HN2.out]
          exact ⟨rfl, HM2.out _ (Below.refl _ _)⟩
  · have HN : Hid (Um.message s ty ri ai = (s, [])) := by
      show _ = _
      unfold Um.message
      rw [HG.out, decide_eq_false he, if_neg (by decide)]
    have e1 : (e != 0) = true := by simp; exact he
    clear HG he
    go_enter Try.func29, Try.ntmps29
    go_upto_region 1 with fail
    rw [← hW]
    clear hW
    go_upto_region 2 with fail
    rw [← hW1]
    clear hW1 c6 f6 hlt hRM k6 hRl1
    go_wp2_with fail
    refine HP.mono ?_
    rintro r w2 ⟨rfl, hb⟩
    have HM2 : Hid (MvR w w2 R S bb s []) := MvR.on HM1.out.2 (MvR.ahead hb (HM1.out.1.below hb).refl)
    clear hb HP HM1
    go_wp2
    refine bodyPost_ret (v := .tuple #[]) (results_none rfl _ _ _) rfl ?_
    rw [HN.out]
    exact ⟨rfl, HM2.out⟩
end
end Go.Proofs.Ytdnhcpkpajbhoaa
