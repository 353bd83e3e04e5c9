/-
  The walk of teimsg.Put: it answers 'putRes'. Nothing that was there is turned.
-/
import Derived.Test.YtdnhcpkpajbhoabTeimsgFew
import Derived.Test.YtdnhcpkpajbhoabPackWalks
namespace Go.Proofs.Ytdnhcpkpajbhoab
open Go.RowKit
set_option linter.unusedVariables false
set_option linter.unusedSimpArgs false

theorem tei_row (w : World) (y : Int) : ∀ i, i < 2 → (w.alloc (.cells #[.int .i64 1, .int .i64 1, .int .i64 7, .int .i64 y] 116)).cell? ⟨w.heap.size, 0 + i * 2, none⟩ = some (.int .i64 ([(1, 1), (7, y)].getD i (0, 0) : Int × Int).1) ∧
    (w.alloc (.cells #[.int .i64 1, .int .i64 1, .int .i64 7, .int .i64 y] 116)).cell? ⟨w.heap.size, 0 + i * 2 + 1, none⟩ = some (.int .i64 ([(1, 1), (7, y)].getD i (0, 0) : Int × Int).2) := by
  intro i hi
  have : i = 0 ∨ i = 1 := by omega
  rcases this with rfl | rfl <;> simp

set_option maxHeartbeats 1000000 in
set_option maxRecDepth 100000 in
theorem tput_any (t ri ai : Int) (w : World) :
    Calls Try.prog 59 #[.agg #[.int .i64 t, .int .i64 ri, .int .i64 ai]] w fun e w' => e = .returned (.tuple #[.string (Tm.putRes t ri ai).1, .int .i64 (Tm.putRes t ri ai).2]) ∧ Below w.heap.size w w' := by
  have hq0 : Below w.heap.size w (w.alloc (.cells #[.int .i64 t, .int .i64 ri, .int .i64 ai] 51)) := (Below.refl _ _).alloc (Nat.le_refl _) _
  by_cases hk : Tm.known t
  · by_cases hr : 0 ≤ ri ∧ ri ≤ 65535
    · have hM0 := msg3_new w t ri ai 51
      have HP := pack_some (w.heap.size + 1) 0 2 2 [(1, 1), (7, ai)] ((w.alloc (.cells #[.int .i64 t, .int .i64 ri, .int .i64 ai] 51)).alloc (.cells #[.int .i64 1, .int .i64 1, .int .i64 7, .int .i64 ai] 116)) (by simp) rfl (by decide) (by
        have := tei_row (w.alloc (.cells #[.int .i64 t, .int .i64 ri, .int .i64 ai] 51)) ai
        rw [show (w.alloc (.cells #[.int .i64 t, .int .i64 ri, .int .i64 ai] 51)).heap.size = w.heap.size + 1 from by simp] at this
        exact this)
      rw [Am.pack_second] at HP
      have hM1 := hM0.later ((Below.refl _ _).alloc (Nat.le_refl _) (.cells #[.int .i64 1, .int .i64 1, .int .i64 7, .int .i64 ai] 116))
      have hq1 := hq0.alloc hq0.size (.cells #[.int .i64 1, .int .i64 1, .int .i64 7, .int .i64 ai] 116)
      by_cases ha : 0 ≤ ai ∧ ai ≤ 127
      · have HR : Hid (Tm.putRes t ri ai = (strOfNums [15, ri / 256, ri % 256, t, 2 * ai + 1], 0)) := Tm.put_good hk ⟨hr, ha⟩
        rw [if_pos ha] at HP
        obtain ⟨r0, r1⟩ := hr
        obtain ⟨a0, a1⟩ := ha
        obtain ⟨k0, k1⟩ := hk
        go_enter Try.func59, Try.ntmps59
        go_wp2_with fail
        refine (tknown_any t _).mono ?_
        rintro e w' ⟨rfl, rfl⟩
        rw [Tm.kn_in ⟨k0, k1⟩]
        go_wp2_with fail
        refine HP.mono ?_
        rintro e w1 ⟨rfl, hb1⟩
        have hq2 := hq1.trans (hb1.mono hq1.size)
        obtain ⟨hlt, c0, c1, c2⟩ := hM1.later hb1
        have hcv := conv_five w1 15 (ri / 256) (ri % 256) t (2 * ai + 1)
        clear HP hM0 hM1 hb1 hq1 hq0
        go_wp2
        go_ret2
        rw [HR.out]
        exact ⟨rfl, hq2.alloc hq2.size _⟩
      · have HR : Hid (Tm.putRes t ri ai = (ByteArray.empty, 2)) := Tm.put_bad hk (fun h => ha h.2)
        rw [if_neg ha] at HP
        obtain ⟨r0, r1⟩ := hr
        clear ha
        go_enter Try.func59, Try.ntmps59
        go_wp2_with fail
        refine (tknown_any t _).mono ?_
        rintro e w' ⟨rfl, rfl⟩
        rw [Tm.kn_in hk]
        go_wp2_with fail
        refine HP.mono ?_
        rintro e w1 ⟨rfl, hb1⟩
        have hq2 := hq1.trans (hb1.mono hq1.size)
        clear HP hM0 hM1 hb1 hq1 hq0
        go_wp2
        go_ret2
        rw [HR.out]
        exact ⟨rfl, hq2⟩
    · have HR : Hid (Tm.putRes t ri ai = (ByteArray.empty, 2)) := Tm.put_bad hk (fun h => hr h.1)
      go_enter Try.func59, Try.ntmps59
      go_wp2_with fail
      refine (tknown_any t _).mono ?_
      rintro e w' ⟨rfl, rfl⟩
      rw [Tm.kn_in hk]
      clear hk
      go_wp2
      all_goals first | (exfalso; omega) | skip
      all_goals go_ret2
      all_goals rw [HR.out]
      all_goals exact ⟨rfl, hq0⟩
  · have HR : Hid (Tm.putRes t ri ai = (ByteArray.empty, 4)) := Tm.put_none ri ai hk
    go_enter Try.func59, Try.ntmps59
    go_wp2_with fail
    refine (tknown_any t _).mono ?_
    rintro e w' ⟨rfl, rfl⟩
    rw [Tm.kn_out hk]
    clear hk
    go_wp2
    go_ret2
    rw [HR.out]
    exact ⟨rfl, hq0⟩
end Go.Proofs.Ytdnhcpkpajbhoab
