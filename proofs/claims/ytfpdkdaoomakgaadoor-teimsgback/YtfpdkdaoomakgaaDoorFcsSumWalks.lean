/-
  The walks of fcs.Sum and fcs.Seal: the check sequence of octets, and the octets with it behind; nothing that was there is turned.
-/
import Derived.Test.YtfpdkdaoomakgaaDoorFcsStepWalks
namespace Go.Proofs.YtfpdkdaoomakgaaDoor
open Go.RowKit
set_option linter.unusedVariables false
set_option linter.unusedSimpArgs false

set_option maxHeartbeats 400000 in
theorem sum_any (s : ByteArray) (w : World) (hs : s.size ≤ 140737488351232) :
    Calls Tryd.prog 35 #[.string s] w fun e w' => e = .returned (.int .u16 ((Fm.sum s : Nat) : Int)) ∧ w = w' := by
  go_enter Tryd.func35, Tryd.ntmps35
  go_wp2
  go_loop [3, 7] (fun x c => ∃ i : Nat, i ≤ s.size ∧ c = .int .i64 i ∧ x = .int .u16 ((Fm.regK 65535 s i : Nat) : Int)) (fun _ c => s.size - (intOf c).toNat)
  case atStart => exact ⟨0, Nat.zero_le _, rfl, rfl⟩
  case round =>
    obtain ⟨i, hi, rfl, rfl⟩ := hrel
    have hr : Fm.regK 65535 s i < 65536 := Fm.regK_lt _ s i (by decide)
    by_cases hlt : i < s.size
    · have hb := s[i].toNat_lt
      have HS : Hid (Fm.regK 65535 s (i + 1) = Fm.step (Fm.regK 65535 s i) s[i].toNat) := Fm.regK_succ _ s i hlt
      go_wp2_with (go_at_call 38; refine (step_any _ _ _ hr (by omega)).mono ?_; rintro e w' ⟨rfl, rfl⟩)
      go_round
      case rel => exact ⟨i + 1, by omega, by go_num, by rw [HS.out]⟩
      case measure => simp [intOf]; omega
    · have : i = s.size := by omega
      subst this
      go_wp2
      go_ret
      exact ⟨ret_int (by rw [Fm.compl_u16 _ hr, Fm.regK_all]; rfl), rfl⟩

theorem fconv_two (w : World) (x y : Int) : (convert 50 9 (.slice (some ⟨w.heap.size, 0, none⟩) 2 2)).run Tryd.prog (w.alloc (.cells #[.int .u8 x, .int .u8 y] 5)) = .ok (.string (strOfNums [x, y])) (w.alloc (.cells #[.int .u8 x, .int .u8 y] 5)) := by
  refine run_convert_bytes_arg _ 50 5 Tryd.underlying50 Tryd.underlying5 w.heap.size 0 2 2 [x, y] rfl (fun i hi => ?_) 9 Tryd.underlying9
  have : i = 0 ∨ i = 1 := by omega
  rcases this with rfl | rfl <;> simp

set_option maxHeartbeats 400000 in
theorem seal_any (s : ByteArray) (w : World) (hs : s.size ≤ 140737488351230) :
    Calls Tryd.prog 22 #[.string s] w fun e w' => e = .returned (.string (Fm.sealB s)) ∧ Below w.heap.size w w' := by
  have hcv := fconv_two w ((Fm.sum s : Int) % 256) ((Fm.sum s : Int) / 256 % 256)
  have hz : (strOfNums [(Fm.sum s : Int) % 256, (Fm.sum s : Int) / 256 % 256]).size ≤ 2 := by rw [strOfNums_size]; exact Nat.le_refl _
  go_enter Tryd.func22, Tryd.ntmps22
  go_wp2_with (go_at_call 35; refine (sum_any _ _ (by omega)).mono ?_; rintro e w' ⟨rfl, rfl⟩)
  go_ret
  exact ⟨rfl, (Below.refl _ _).alloc (Nat.le_refl _) _⟩
end Go.Proofs.YtfpdkdaoomakgaaDoor
