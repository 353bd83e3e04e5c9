/-
  The walk of the document's Assign: by counting it comes to the same.
-/
import Derived.Test.YtdojkaliohcckaaPoolRef
namespace Go.Proofs.Ytdojkaliohcckaa
open Go.RowKit
set_option linter.unusedVariables false
set_option linter.unusedSimpArgs false

/-- one round: what is told behind t -/
theorem told_next {t p : Nat} (h : Told t p) : p < 63 ∧ Told (64 + p) ((p + 1) % 63) ∧ ((t = 0 ∧ p = 0) ∨ (t = 126 ∧ p = 0) ∨ (64 ≤ t ∧ t < 126 ∧ t + 1 = 64 + p)) := by
  unfold Told at *
  rcases h with ⟨h1, h2⟩ | ⟨h1, h2, h3⟩
  · subst h1 h2
    exact ⟨by decide, Or.inr ⟨by decide, by decide, by decide⟩, Or.inl ⟨rfl, rfl⟩⟩
  · refine ⟨by omega, Or.inr ⟨by omega, by omega, by omega⟩, ?_⟩
    by_cases h4 : t = 126
    · exact Or.inr (Or.inl ⟨h4, by omega⟩)
    · exact Or.inr (Or.inr ⟨h1, by omega, by omega⟩)

set_option maxHeartbeats 2000000 in
theorem rassign_any (C nx : Nat) (f : Nat → Bool) (w : World) (h : Rp w C f nx) : Calls Try.prog 15 #[.pointer (some ⟨C, 0, none⟩)] w fun e w' => e = .returned (.tuple #[.int .i64 (Pm.asT f nx), .int .i64 (Pm.asE f nx)]) ∧ Rp w' C (Pm.asF f nx) (Pm.asX f nx) ∧ Kept w w' (fun k => k = C) := by
  have hlt := h.lt
  obtain ⟨t0, hc, ht0⟩ := h.told
  have HT0 : Hid (Told t0 nx) := ht0
  have hz := h.bs.fz 128
  have HP : Hid (Rp w C f nx) := h
  have hnx : Hid (nx < 63) := (told_next ht0).1
  clear h ht0
  go_enter Try.func15, Try.ntmps15
  go_wp2
  go_loop [4, 5] (fun v c => ∃ i k t : Nat, i ≤ 63 ∧ c = .int .i64 k ∧ Hid (k = 64 + i) ∧ v = .int .i64 t ∧ Hid (Told t ((nx + i) % 63)) ∧ Hid (∀ j, j < i → f ((nx + j) % 63) = true)) (fun _ c => 200 - (intOf c).toNat)
  case atStart => exact ⟨0, 64, t0, Nat.zero_le _, rfl, rfl, rfl, (show Told t0 ((nx + 0) % 63) by rw [Nat.add_zero, Nat.mod_eq_of_lt hnx.out]; exact HT0.out), fun j hj => by omega⟩
  case round =>
    obtain ⟨i, k, t, hi, rfl, HK, rfl, HT, HI⟩ := hrel
    clear HT0
    by_cases hlt2 : i < 63
    · obtain ⟨p, hp⟩ : ∃ p : Nat, p = (nx + i) % 63 := ⟨_, rfl⟩
      have HT1 := HT.out
      rw [← hp] at HT1
      obtain ⟨hp63, HT2, hways⟩ := told_next HT1
      have hcp := HP.out.bs.on p hp63
      have hzp := HP.out.bs.fz (64 + p)
      have hk : k ≤ 126 := by have := HK.out; omega
      cases hf : f p with
      | true =>
        rw [hf] at hcp
        have HI2 : Hid (∀ j, j < i + 1 → f ((nx + j) % 63) = true) := by
          intro j hj
          by_cases e : j = i
          · rw [e, ← hp]; exact hf
          · exact HI.out j (by omega)
        have HT3 : Hid (Told (64 + p) ((nx + (i + 1)) % 63)) := by
          rw [show (nx + (i + 1)) % 63 = (p + 1) % 63 by omega]; exact HT2
        clear hf hp HT1 HT2 HT HI
        rcases hways with ⟨rfl, rfl⟩ | ⟨rfl, rfl⟩ | ⟨h1, h2, h3⟩
        · go_wp2
          go_round
          case rel => exact ⟨i + 1, k + 1, 64, by omega, by go_num, (show k + 1 = 64 + (i + 1) by have := HK.out; omega), rfl, HT3, HI2⟩
          case measure => simp [intOf]; omega
        · go_wp2
          go_round
          case rel => exact ⟨i + 1, k + 1, 64, by omega, by go_num, (show k + 1 = 64 + (i + 1) by have := HK.out; omega), rfl, HT3, HI2⟩
          case measure => simp [intOf]; omega
        · rw [← h3] at hcp HT3
          have h4 : (t : Int) + 1 = ((t + 1 : Nat) : Int) := by omega
          have h5 : t + 1 ≤ 126 := by omega
          have h6 : 64 ≤ t + 1 := by omega
          generalize t + 1 = q at hcp HT3 h4 h5 h6
          clear h3 h1 h2
          have h7 : t < 1000 := by omega
          go_wp2
          go_round
          case rel => exact ⟨i + 1, k + 1, q, by omega, by go_num, (show k + 1 = 64 + (i + 1) by have := HK.out; omega), rfl, HT3, HI2⟩
          case measure => simp [intOf]; omega
      | false =>
        rw [hf] at hcp
        have hfd : Pm.fd f nx = some i := by
          cases hx : Pm.fd f nx with
          | none =>
            have := Pm.fd_none hx i hlt2
            rw [← hp, hf] at this; cases this
          | some k =>
            obtain ⟨h1, h2, h3⟩ := Pm.fd_some hx
            rcases Nat.lt_trichotomy k i with h | h | h
            · rw [HI.out k h] at h2; cases h2
            · rw [h]
            · have := h3 i h
              rw [← hp, hf] at this; cases this
        have HA : Hid (Pm.asT f nx = 64 + (p : Int) ∧ Pm.asE f nx = 0 ∧ Pm.asF f nx = Pm.upd f p true ∧ Pm.asX f nx = (p + 1) % 63) := by
          have := Pm.as_some hfd
          rw [← hp] at this
          exact this
        have HQ : Hid (Rp ((w.setCell ⟨C, 64 + p, none⟩ (.bool true)).setCell ⟨C, 128, none⟩ (.int .i64 ((64 + p : Nat) : Int))) C (Pm.upd f p true) ((p + 1) % 63) ∧ Kept w ((w.setCell ⟨C, 64 + p, none⟩ (.bool true)).setCell ⟨C, 128, none⟩ (.int .i64 ((64 + p : Nat) : Int))) (fun k => k = C)) :=
          ⟨(HP.out.set p hp63 true).setT (64 + p) _ HT2, (own_set w C _ _).setCell (p := ⟨C, 128, none⟩) (fun _ => rfl) _⟩
        clear hf hp hfd HI HP HT1 HT2 HT
        rcases hways with ⟨rfl, rfl⟩ | ⟨rfl, rfl⟩ | ⟨h1, h2, h3⟩
        · go_wp2
          go_ret2
          exact ⟨by rw [HA.out.1, HA.out.2.1]; rfl, by rw [HA.out.2.2.1, HA.out.2.2.2]; exact HQ.out.1, HQ.out.2⟩
        · go_wp2
          go_ret2
          exact ⟨by rw [HA.out.1, HA.out.2.1]; rfl, by rw [HA.out.2.2.1, HA.out.2.2.2]; exact HQ.out.1, HQ.out.2⟩
        · rw [show (64 : Int) + (p : Int) = ((64 + p : Nat) : Int) by omega] at HA
          rw [← h3] at hcp HQ HA hzp
          have h4 : (t : Int) + 1 = ((t + 1 : Nat) : Int) := by omega
          have h5 : t + 1 ≤ 126 := by omega
          have h6 : 64 ≤ t + 1 := by omega
          generalize t + 1 = q at hcp HQ HA hzp h4 h5 h6
          clear h3 h1 h2
          have h7 : t < 1000 := by omega
          have hne : q ≠ 128 := by omega
          go_wp2
          go_ret2
          exact ⟨by rw [HA.out.1, HA.out.2.1]; rfl, by rw [HA.out.2.2.1, HA.out.2.2.2]; exact HQ.out.1, HQ.out.2⟩
    · have hfd : Pm.fd f nx = none := by
        cases hx : Pm.fd f nx with
        | none => rfl
        | some k =>
          obtain ⟨h1, h2, h3⟩ := Pm.fd_some hx
          rw [HI.out k (by omega)] at h2; cases h2
      have HA : Hid (Pm.asT f nx = 0 ∧ Pm.asE f nx = 10 ∧ Pm.asF f nx = f ∧ Pm.asX f nx = nx) := Pm.as_none hfd
      have hk : k = 127 := by have := HK.out; omega
      subst hk
      clear hfd HI hlt2 HK HT
      go_wp2
      go_ret2
      exact ⟨by rw [HA.out.1, HA.out.2.1]; rfl, by rw [HA.out.2.2.1, HA.out.2.2.2]; exact HP.out, Kept.refl _ _⟩
end Go.Proofs.Ytdojkaliohcckaa
