/-
  The walks of package pool: New, automatic, Has, Claim, Free, Assign, and those of a nil pool.
-/
import Derived.Test.YtdnhcpkpajbhoabPoolRow
import Derived.BigQuiet
namespace Go.Proofs.Ytdnhcpkpajbhoab
open Go.RowKit
set_option linter.unusedVariables false
set_option linter.unusedSimpArgs false

theorem new_pl (w : World) (T : TypeId) : Pl (w.alloc (.cells ((Array.replicate 63 (Value.bool false)).push (.int .i64 0)) T)) w.heap.size (fun _ => false) 0 := by
  refine ⟨⟨by simp, fun i hi => ?_, fun i => by simp⟩, ?_, by decide⟩
  · simp [Array.getElem?_push, hi]
    omega
  · simp [Array.getElem_push]

set_option maxHeartbeats 400000 in
theorem pnew_any (w : World) : Calls Try.prog 21 #[] w fun e w' => e = .returned (.pointer (some ⟨w.heap.size, 0, none⟩)) ∧ Pl w' w.heap.size (fun _ => false) 0 ∧ Below w.heap.size w w' := by
  have HP : Hid (∀ T, Pl (w.alloc (.cells ((Array.replicate 63 (Value.bool false)).push (.int .i64 0)) T)) w.heap.size (fun _ => false) 0) := new_pl w
  go_enter Try.func21, Try.ntmps21
  go_wp2
  go_ret
  exact ⟨rfl, HP.out _, (Below.refl _ _).alloc (Nat.le_refl _) _⟩

set_option maxHeartbeats 400000 in
theorem pauto_any (t : Int) (w : World) : Calls Try.prog 57 #[.int .i64 t] w fun e w' => e = .returned (.bool (Pm.au t)) ∧ w = w' := by
  cases ha : Pm.au t with
  | false =>
    have h := Pm.not_au ha
    clear ha
    by_cases h1 : t < 64
    · clear h
      go_enter Try.func57, Try.ntmps57
      go_wp2
      go_ret
      exact ⟨rfl, rfl⟩
    · have h2 : 64 ≤ t := by omega
      have h3 : decide (t ≤ 126) = false := decide_eq_false (by omega)
      clear h h1
      go_enter Try.func57, Try.ntmps57
      go_wp2
      go_ret
      exact ⟨rfl, rfl⟩
  | true =>
    obtain ⟨p, hp, rfl, -⟩ := Pm.au_place ha
    have h3 : decide (64 + (p : Int) ≤ 126) = true := decide_eq_true (by omega)
    clear ha
    go_enter Try.func57, Try.ntmps57
    go_wp2
    go_ret
    exact ⟨rfl, rfl⟩

set_option maxHeartbeats 1000000 in
theorem phas_any (C nx : Nat) (f : Nat → Bool) (t : Int) (w : World) (h : Pl w C f nx) : Calls Try.prog 32 #[.pointer (some ⟨C, 0, none⟩), .int .i64 t] w fun e w' => e = .returned (.bool (Pm.has f t)) ∧ w = w' := by
  have HA := pauto_any t w
  have hlt := h.lt
  cases ha : Pm.au t with
  | false =>
    rw [ha] at HA
    have HN : Hid (Pm.has f t = false) := Pm.has_no f ha
    clear ha h
    go_enter Try.func32, Try.ntmps32
    go_wp2_with fail
    refine HA.mono ?_
    rintro e w' ⟨rfl, rfl⟩
    clear HA
    go_wp2
    go_ret
    exact ⟨by rw [HN.out]; rfl, rfl⟩
  | true =>
    rw [ha] at HA
    obtain ⟨p, hp, rfl, -⟩ := Pm.au_place ha
    have HN : Hid (Pm.has f (64 + (p : Int)) = f p) := Pm.has_of f p hp
    have hc := h.at p hp
    have hs : (64 : Int) + (p : Int) - 64 = (p : Int) := by omega
    clear ha h
    generalize f p = b at hc HN
    go_enter Try.func32, Try.ntmps32
    go_wp2_with fail
    refine HA.mono ?_
    rintro e w' ⟨rfl, rfl⟩
    clear HA
    go_wp2
    go_ret
    exact ⟨by rw [HN.out]; rfl, rfl⟩

set_option maxHeartbeats 400000 in
theorem phas_nil (t : Int) (w : World) : Calls Try.prog 32 #[.pointer none, .int .i64 t] w fun e w' => e = .returned (.bool false) ∧ w = w' := by
  go_enter Try.func32, Try.ntmps32
  go_wp2
  go_ret
  exact ⟨rfl, rfl⟩
set_option maxHeartbeats 400000 in
theorem passign_nil (w : World) : Calls Try.prog 60 #[.pointer none] w fun e w' => e = .returned (.tuple #[.int .i64 0, .int .i64 1]) ∧ w = w' := by
  go_enter Try.func60, Try.ntmps60
  go_wp2
  go_ret2
  exact ⟨rfl, rfl⟩
set_option maxHeartbeats 400000 in
theorem pfree_nil (t : Int) (w : World) : Calls Try.prog 58 #[.pointer none, .int .i64 t] w fun e w' => e = .returned (.bool false) ∧ w = w' := by
  go_enter Try.func58, Try.ntmps58
  go_wp2_with fail
  refine (phas_nil t w).mono ?_
  rintro e w' ⟨rfl, rfl⟩
  go_wp2
  go_ret
  exact ⟨rfl, rfl⟩
set_option maxHeartbeats 400000 in
theorem plist_nil (w : World) : Calls Try.prog 29 #[.pointer none] w fun e w' => e = .returned (.slice none 0 0) ∧ w = w' := by
  go_enter Try.func29, Try.ntmps29
  go_wp2
  go_ret
  exact ⟨rfl, rfl⟩

set_option maxHeartbeats 1000000 in
theorem pfree_any (C nx : Nat) (f : Nat → Bool) (t : Int) (w : World) (h : Pl w C f nx) : Calls Try.prog 58 #[.pointer (some ⟨C, 0, none⟩), .int .i64 t] w fun e w' => e = .returned (.bool (Pm.has f t)) ∧ Pl w' C (Pm.frF f t) nx ∧ Kept w w' (fun k => k = C) := by
  have HH := phas_any C nx f t w h
  have hlt := h.lt
  cases hh : Pm.has f t with
  | false =>
    rw [hh] at HH
    have HN : Hid (Pm.frF f t = f) := Pm.fr_no hh
    have HP : Hid (Pl w C f nx) := h
    clear hh h
    go_enter Try.func58, Try.ntmps58
    go_wp2_with fail
    refine HH.mono ?_
    rintro e w' ⟨rfl, rfl⟩
    clear HH
    go_wp2
    go_ret
    exact ⟨rfl, by rw [HN.out]; exact HP.out, Kept.refl _ _⟩
  | true =>
    rw [hh] at HH
    obtain ⟨ha, hf, he⟩ := Pm.fr_ok hh
    obtain ⟨p, hp, rfl, hat⟩ := Pm.au_place ha
    rw [hat] at hf he
    have HN : Hid (Pm.frF f (64 + (p : Int)) = Pm.upd f p false) := he
    have HP : Hid (Pl (w.setCell ⟨C, p, none⟩ (.bool false)) C (Pm.upd f p false) nx ∧ Kept w (w.setCell ⟨C, p, none⟩ (.bool false)) (fun k => k = C)) := ⟨h.set p hp false, own_set w C p _⟩
    have hc := h.at p hp
    have hz := h.bs.fz p
    have hs : (64 : Int) + (p : Int) - 64 = (p : Int) := by omega
    rw [hf] at hc
    clear hh h hf he hat ha
    go_enter Try.func58, Try.ntmps58
    go_wp2_with fail
    refine HH.mono ?_
    rintro e w' ⟨rfl, rfl⟩
    clear HH
    go_wp2
    go_ret
    exact ⟨rfl, by rw [HN.out]; exact HP.out.1, HP.out.2⟩
end Go.Proofs.Ytdnhcpkpajbhoab
