/-
  The law PoolLists' walk: just those are listed that are assigned, rising.
-/
import Derived.Test.YtdojkaliohcckaaPoolWakes
import Derived.Test.YtdojkaliohcckaaPActRows
import Derived.Deep.CutBlock
import Derived.BigQuiet
namespace Go.Proofs.Ytdojkaliohcckaa
open Go.RowKit
set_option linter.unusedVariables false
set_option linter.unusedSimpArgs false

/-- how many places lie below the number T - 1 -/
def pc (T : Nat) : Nat := min (T - 65) 63
theorem has_yes {f : Nat → Bool} {T : Nat} (h : Pm.has f ((T : Int) - 1) = true) : Pm.ct f (pc (T + 1)) = Pm.ct f (pc T) + 1 ∧ Pm.ct f (pc T) < Pm.ct f 63 ∧ (Pm.ls f 63).getD (Pm.ct f (pc T)) 0 = (T : Int) - 1 := by
  obtain ⟨ha, hf, -⟩ := Pm.fr_ok h
  obtain ⟨p, hp, hpe, hat⟩ := Pm.au_place ha
  rw [hat] at hf
  have h1 : pc T = p := by unfold pc; omega
  have h2 : pc (T + 1) = p + 1 := by unfold pc; omega
  rw [h1, h2]
  obtain ⟨g1, g2⟩ := Pm.ls_nth f hp hf
  exact ⟨Pm.ct_on hf, g1, by rw [g2, hpe]⟩
theorem has_not {f : Nat → Bool} {T : Nat} (h : Pm.has f ((T : Int) - 1) = false) : Pm.ct f (pc (T + 1)) = Pm.ct f (pc T) := by
  cases ha : Pm.au ((T : Int) - 1) with
  | false =>
    have := Pm.not_au ha
    have e : pc (T + 1) = pc T := by unfold pc; omega
    rw [e]
  | true =>
    obtain ⟨p, hp, hpe, hat⟩ := Pm.au_place ha
    have h1 : pc T = p := by unfold pc; omega
    have h2 : pc (T + 1) = p + 1 := by unfold pc; omega
    rw [hpe, Pm.has_of f p hp] at h
    rw [h1, h2]
    exact Pm.ct_off h

set_option maxHeartbeats 4000000 in
set_option maxRecDepth 100000 in
theorem walk_PoolLists (a : Option Addr) (len cap : Nat) (ps : List ActV) (w : World) (hr : RowA w a len cap ps) :
    Calls Try.prog 7 #[.slice a len cap] w fun e w' => e = .returned (.bool true) ∧ Below w.heap.size w w' := by
  have hlc : len ≤ cap := hr.2.1
  have hcm : cap ≤ 9223372036854775807 := by have := hr.2.2.1; unfold maxLen at this; exact this
  have HR : Hid (RowA w a len cap ps) := hr
  clear hr
  obtain ⟨m, hmin, hm60, hml⟩ : ∃ m : Nat, min (len : Int) 60 = (m : Int) ∧ m ≤ 60 ∧ m ≤ len := ⟨(min (len : Int) 60).toNat, by omega, by omega, by omega⟩
  have hfr : a.map (·.add 0) = a := by
    cases a with
    | none => rfl
    | some x => simp [Addr.add]
  have hmm : (if (60 : Int) < (len : Int) then (60 : Int) else (len : Int)) = (m : Int) := by split <;> omega
  go_enter Try.func7, Try.ntmps7
  go_wp2_with fail
  refine (pnew_any _).mono ?_
  rintro e w1 ⟨rfl, h1, h2⟩
  have O1 := own_new h1 h2
  clear h1 h2
  obtain ⟨C, hC⟩ : ∃ C, C = w.heap.size := ⟨_, rfl⟩
  rw [← hC] at O1
  rw [← hC]
  have HC : Hid (C = w.heap.size) := hC
  have HO1 : Hid (Own C w w1 C (fun _ => false) 0) := O1
  clear hC O1
  go_wp2
  clear hmin hfr hmm
  go_loopw [16] (fun c wr => ∃ (j : Nat) (f : Nat → Bool) (nx : Nat), j ≤ m ∧ c = .int .i64 j ∧ Hid (Own C w wr C f nx)) (fun c _ => m - (intOf c).toNat)
  case atStart => exact ⟨0, _, _, Nat.zero_le _, rfl, HO1⟩
  case round =>
    obtain ⟨j, f, nx, hjm, rfl, HP⟩ := hrel
    clear HO1
    by_cases hlt : j < m
    · obtain ⟨bb, off, q, rfl, hbb, hqe, hat, hok⟩ := HR.out.at j (by omega)
      have hat' := hat.below HP.out.bel (by rw [HC.out]; exact hbb)
      have hbr : bb < wr.heap.size := by have := HP.out.bs; have := HC.out; omega
      obtain ⟨d0, d1, d2⟩ := hat'
      clear hat hqe hbb hok
      obtain ⟨Wq, hWq⟩ : ∃ Wq, Wq = wr.alloc (.cells #[.int .i64 q.d, .int .i64 q.n, .int .i64 q.o] 31) := ⟨_, rfl⟩
      have HOq : Hid (Own C w Wq C f nx) := HP.out.below (by rw [hWq]; exact (Below.refl _ _).alloc (Nat.le_refl _) _)
      have y0 : Wq.cell? ⟨wr.heap.size, 0, none⟩ = some (.int .i64 q.d) := by rw [hWq]; simp
      have y1 : Wq.cell? ⟨wr.heap.size, 1, none⟩ = some (.int .i64 q.n) := by rw [hWq]; simp
      have ys : wr.heap.size < Wq.heap.size := by rw [hWq]; simp
      go_upto_block 2 with fail
      rw [← hWq]
      clear hWq HP d0 d1 d2 hbr
      generalize q.d.tmod 4 = r
      generalize wr.heap.size = s at y0 y1 ys ⊢
      go_cut [25] from 23 to 36 (fun s25 wx => ∃ (g : Nat → Bool) (ny : Nat), Hid (Own C w wx C g ny))
      case first =>
        by_cases e1 : r = 1
        · subst e1
          have H1 := own_claim q.n HOq.out
          clear HOq
          go_wp2_with fail
          refine H1.mono ?_
          rintro e w3 ⟨rfl, hO3⟩
          have HO3 : Hid (Own C w w3 C (Pm.clF f q.n) nx) := hO3
          clear hO3 H1 y0 y1 ys
          go_wp2_with fail
          go_meet
          exact ⟨_, _, HO3⟩
        by_cases e2 : r = 2
        · subst e2
          have H1 := own_free q.n HOq.out
          clear HOq
          go_wp2_with fail
          refine H1.mono ?_
          rintro e w3 ⟨rfl, hO3⟩
          have HO3 : Hid (Own C w w3 C (Pm.frF f q.n) nx) := hO3
          clear hO3 H1 y0 y1 ys
          go_wp2_with fail
          go_meet
          exact ⟨_, _, HO3⟩
        have n1 : (r == 1) = false := by simpa using e1
        have n2 : (r == 2) = false := by simpa using e2
        clear e1 e2
        have H1 := own_assign HOq.out
        clear HOq
        go_wp2_with fail
        refine H1.mono ?_
        rintro e w3 ⟨rfl, hO3⟩
        have HO3 : Hid (Own C w w3 C (Pm.asF f nx) (Pm.asX f nx)) := hO3
        clear hO3 H1 y0 y1 ys n1 n2
        go_wp2_with fail
        go_meet
        exact ⟨_, _, HO3⟩
      case rest =>
      obtain ⟨g, ny, HO3⟩ := hcut
      clear HOq y0 y1 ys
      have H1 := own_list HO3.out
      clear HO3
      have hct := Pm.ct_le g 63
      go_wp2_with fail
      refine H1.mono ?_
      rintro e w4 ⟨la, lc, rfl, hL, hO4⟩
      have HO4 : Hid (Own C w w4 C g ny) := hO4
      obtain ⟨G, hrow, -⟩ := hL.row
      have HRow : Hid (IRow w4 la lc G (Pm.ls g 63)) := hrow
      obtain ⟨N, hN⟩ : ∃ N, N = Pm.ct g 63 := ⟨_, rfl⟩
      rw [← hN] at hct ⊢
      have HN : Hid (N = Pm.ct g 63) := hN
      clear H1 hL hO4 hrow hN
      go_wp2
      go_loop [7, 8] (fun v c => ∃ T n : Nat, T ≤ 131 ∧ c = .int .i64 ((T : Int) - 1) ∧ v = .int .i64 n ∧ Hid (n = Pm.ct g (pc T))) (fun _ c => (200 - intOf c).toNat)
      case atStart => exact ⟨0, 0, by omega, rfl, rfl, rfl⟩
      case round =>
        obtain ⟨T, n, hT, rfl, rfl, HE⟩ := hrel
        by_cases hlt2 : T < 131
        · have hlt3 : (T : Int) - 1 < 130 := by omega
          have H1 := own_has ((T : Int) - 1) HO4.out
          cases hh : Pm.has g ((T : Int) - 1) with
          | false =>
            rw [hh] at H1
            have HE2 : Hid (n = Pm.ct g (pc (T + 1))) := by show n = _; rw [has_not hh]; exact HE.out
            clear hh HE
            go_wp2_with fail
            refine H1.mono ?_
            rintro e w5 ⟨rfl, rfl⟩
            clear H1
            go_wp2
            go_round
            case rel => exact ⟨T + 1, n, by omega, by go_num, rfl, HE2⟩
            case measure => simp [intOf]; omega
          | true =>
            rw [hh] at H1
            obtain ⟨g1, g2, g3⟩ := has_yes hh
            rw [← HE.out] at g1 g2 g3
            rw [← HN.out] at g2
            obtain ⟨gb, rfl, -, hgl, hcell, -⟩ := HRow.out.nth n (by have := HN.out; unfold Pm.ct at this; omega)
            rw [g3] at hcell
            have HE2 : Hid (n + 1 = Pm.ct g (pc (T + 1))) := g1.symm
            clear hh HE g1 g3
            go_wp2_with fail
            refine H1.mono ?_
            rintro e w5 ⟨rfl, rfl⟩
            clear H1
            go_wp2
            go_round
            case rel => exact ⟨T + 1, n + 1, by omega, by go_num, by go_num, HE2⟩
            case measure => simp [intOf]; omega
        · have hT1 : T = 131 := by omega
          subst hT1
          have hNn : n = N := by rw [HE.out, HN.out]; rfl
          subst hNn
          clear HE HN hlt2 HRow
          go_wp2
          go_roundw
          case rel => exact ⟨j + 1, g, ny, by omega, by go_num, HO4⟩
          case measure => simp [intOf]; omega
    · have HB : Hid (Below C w wr) := HP.out.bel
      clear HP
      go_wp2_with fail
      refine (pwakes_any _).mono ?_
      rintro e w3 ⟨rfl, hb3⟩
      have HB3 : Hid (Below w.heap.size w w3) := by
        have h1 := HB.out
        rw [HC.out] at h1
        exact h1.trans (hb3.mono h1.size)
      clear HB hb3
      go_wp2
      go_ret
      exact ⟨rfl, HB3.out⟩
end Go.Proofs.Ytdojkaliohcckaa
