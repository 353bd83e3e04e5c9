/-
  The walk of a pool's Assign.
-/
import Derived.Test.YtdnhcpkpajbhoabPoolWalks
namespace Go.Proofs.Ytdnhcpkpajbhoab
open Go.RowKit
set_option linter.unusedVariables false
set_option linter.unusedSimpArgs false

set_option maxHeartbeats 1000000 in
theorem passign_any (C nx : Nat) (f : Nat → Bool) (w : World) (h : Pl w C f nx) : Calls Try.prog 60 #[.pointer (some ⟨C, 0, none⟩)] w fun e w' => e = .returned (.tuple #[.int .i64 (Pm.asT f nx), .int .i64 (Pm.asE f nx)]) ∧ Pl w' C (Pm.asF f nx) (Pm.asX f nx) ∧ Kept w w' (fun k => k = C) := by
  have hlt := h.lt
  have hc := h.cn
  have hnx := h.hi
  have HP : Hid (Pl w C f nx) := h
  have hz := h.bs.fz 63
  clear h
  go_enter Try.func60, Try.ntmps60
  go_wp2
  go_loop [8] (fun c => ∃ i : Nat, i ≤ 63 ∧ c = .int .i64 i ∧ Hid (∀ j, j < i → f ((nx + j) % 63) = true)) (fun c => 63 - (intOf c).toNat)
  case atStart => exact ⟨0, Nat.zero_le _, rfl, fun j hj => by omega⟩
  case round =>
    obtain ⟨i, hi, rfl, HI⟩ := hrel
    by_cases hlt2 : i < 63
    · obtain ⟨p, hp⟩ : ∃ p : Nat, p = (nx + i) % 63 := ⟨_, rfl⟩
      have hp63 : p < 63 := by omega
      have he : ((nx : Int) + (i : Int)) % 63 = (p : Int) := by omega
      have hcp := HP.out.at p hp63
      cases hf : f p with
      | true =>
        rw [hf] at hcp
        have HI2 : Hid (∀ j, j < i + 1 → f ((nx + j) % 63) = true) := by
          intro j hj
          by_cases e : j = i
          · rw [e, ← hp]; exact hf
          · exact HI.out j (by omega)
        clear hf hp
        go_wp2
        go_round
        case rel => exact ⟨i + 1, by omega, by go_num, HI2⟩
        case measure => simp [intOf]; omega
      | false =>
        rw [hf] at hcp
        have hfd : Pm.fd f nx = some i := by
          cases hx : Pm.fd f nx with
          | none =>
            have := Pm.fd_none hx i hlt2
            rw [← hp, hf] at this; cases this
          | some k =>
            obtain ⟨h1, h2, h3⟩ := Pm.fd_some hx
            rcases Nat.lt_trichotomy k i with h | h | h
            · rw [HI.out k h] at h2; cases h2
            · rw [h]
            · have := h3 i h
              rw [← hp, hf] at this; cases this
        have HA : Hid (Pm.asT f nx = 64 + (p : Int) ∧ Pm.asE f nx = 0 ∧ Pm.asF f nx = Pm.upd f p true ∧ Pm.asX f nx = (p + 1) % 63) := by
          have := Pm.as_some hfd
          rw [← hp] at this
          exact this
        obtain ⟨y, hy⟩ : ∃ y : Nat, y = (p + 1) % 63 := ⟨_, rfl⟩
        have hy63 : y < 63 := by omega
        have he2 : ((p : Int) + 1) % 63 = (y : Int) := by omega
        rw [← hy] at HA
        have HQ : Hid (Pl ((w.setCell ⟨C, p, none⟩ (.bool true)).setCell ⟨C, 63, none⟩ (.int .i64 y)) C (Pm.upd f p true) y ∧ Kept w ((w.setCell ⟨C, p, none⟩ (.bool true)).setCell ⟨C, 63, none⟩ (.int .i64 y)) (fun k => k = C)) :=
          ⟨(HP.out.set p hp63 true).setN y hy63, (own_set w C p _).setCell (p := ⟨C, 63, none⟩) (fun _ => rfl) _⟩
        have hzp := HP.out.bs.fz p
        have hne : p ≠ 63 := by omega
        clear hf hp hfd HI HP hy
        go_wp2
        go_ret2
        exact ⟨by rw [HA.out.1, HA.out.2.1]; rfl, by rw [HA.out.2.2.1, HA.out.2.2.2]; exact HQ.out.1, HQ.out.2⟩
    · have hfd : Pm.fd f nx = none := by
        cases hx : Pm.fd f nx with
        | none => rfl
        | some k =>
          obtain ⟨h1, h2, h3⟩ := Pm.fd_some hx
          rw [HI.out k (by omega)] at h2; cases h2
      have HA : Hid (Pm.asT f nx = 0 ∧ Pm.asE f nx = 10 ∧ Pm.asF f nx = f ∧ Pm.asX f nx = nx) := Pm.as_none hfd
      have hi63 : i = 63 := by omega
      subst hi63
      clear hfd HI hlt2
      go_wp2
      go_ret2
      exact ⟨by rw [HA.out.1, HA.out.2.1]; rfl, by rw [HA.out.2.2.1, HA.out.2.2.2]; exact HP.out, Kept.refl _ _⟩
end Go.Proofs.Ytdnhcpkpajbhoab
