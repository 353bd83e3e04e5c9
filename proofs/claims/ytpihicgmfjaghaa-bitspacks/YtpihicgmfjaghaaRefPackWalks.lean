/-
  The walk of the document's Pack: it returns the octet, or the error; nothing that was there is turned.
-/
import Derived.Test.YtpihicgmfjaghaaPackWalks
import Derived.Test.YtpihicgmfjaghaaFieldsWalks
namespace Go.Proofs.Ytpihicgmfjaghaa
open Go.RowKit
set_option linter.unusedVariables false
set_option linter.unusedSimpArgs false

theorem sum_bd (N nn : Int) (k : Int) (h0 : 0 ≤ k) (h1 : k ≤ 8) (hn0 : 0 ≤ nn) (hn1 : nn ≤ 255) : 0 ≤ nn * 2 ^ k.toNat ∧ nn * 2 ^ k.toNat ≤ 65280 := by
  have hb := Bm.pow_bd k h0 h1
  refine ⟨Int.mul_nonneg hn0 (by omega), ?_⟩
  have a := Int.mul_le_mul_of_nonneg_left hb.2 hn0
  omega

set_option maxHeartbeats 1000000 in
theorem ref_pack_some (b off len cap : Nat) (ps : List (Int × Int)) (w : World) (hb : b < w.heap.size) (hpl : ps.length = len) (hl1 : 16 * len ≤ 140737488351232)
    (hc : ∀ i, i < len → w.cell? ⟨b, off + i * 2, none⟩ = some (.int .i64 (ps.getD i (0, 0)).1) ∧ w.cell? ⟨b, off + i * 2 + 1, none⟩ = some (.int .i64 (ps.getD i (0, 0)).2)) :
    Calls Try.prog 20 #[.slice (some ⟨b, off, none⟩) len cap] w fun e w' => e = .returned (.tuple #[.int .u8 (Bm.packRes ps).1, .int .i64 (Bm.packRes ps).2]) ∧ w = w' := by
  have HC : Hid (∀ i, i < len → w.cell? ⟨b, off + i * 2, none⟩ = some (.int .i64 (ps.getD i (0, 0)).1) ∧ w.cell? ⟨b, off + i * 2 + 1, none⟩ = some (.int .i64 (ps.getD i (0, 0)).2)) := hc
  have HX : Hid (ps.length = len) := hpl
  clear hc hpl
  go_enter Try.func20, Try.ntmps20
  go_wp2
  go_loop [4, 5, 6] (fun n l c => ∃ (j : Nat) (N L : Int), j ≤ len ∧ c = .int .i64 j ∧ n = .int .i64 N ∧ l = .int .i64 L ∧ 0 ≤ L ∧ L ≤ 16 ∧ 0 ≤ N ∧ (L ≤ 8 → N ≤ 255) ∧ Hid (∀ q ∈ ps.take j, Bm.fitsQ q = true) ∧ Hid ((L ≤ 8 ∧ N = (Bm.st (ps.take j)).1 ∧ L = (Bm.st (ps.take j)).2) ∨ (8 < L ∧ 8 < (Bm.st (ps.take j)).2)))
    (fun _ _ c => len - (intOf c).toNat)
  case atStart => exact ⟨0, 0, 0, Nat.zero_le _, rfl, rfl, rfl, by decide, by decide, by decide, fun _ => by decide, fun q h => by simp at h, Or.inl ⟨by decide, rfl, rfl⟩⟩
  case round =>
    obtain ⟨j, N, L, hj, rfl, rfl, rfl, hL0, hL16, hN0, hN1, HF, HI⟩ := hrel
    by_cases hlt : j < len
    · obtain ⟨wd, hwd⟩ : ∃ x, x = (ps.getD j (0, 0)).1 := ⟨_, rfl⟩
      obtain ⟨nn, hnn⟩ : ∃ x, x = (ps.getD j (0, 0)).2 := ⟨_, rfl⟩
      have hc1 : w.cell? ⟨b, off + j * 2, none⟩ = some (.int .i64 wd) := by rw [hwd]; exact (HC.out j hlt).1
      have hc2 : w.cell? ⟨b, off + j * 2 + 1, none⟩ = some (.int .i64 nn) := by rw [hnn]; exact (HC.out j hlt).2
      have HW : Hid (Bm.fitsQ (ps.getD j (0, 0)) = Bm.fitsB wd nn) := by show Bm.fitsQ (ps.getD j (0, 0)) = Bm.fitsB wd nn; rw [hwd, hnn]; rfl
      have HS : Hid (Bm.st (ps.take (j + 1)) = Bm.step (Bm.st (ps.take j)) (wd, nn)) := by
        show Bm.st (ps.take (j + 1)) = _
        rw [Bm.st_take ps j (by rw [HX.out]; exact hlt), hwd, hnn]
      clear hwd hnn
      by_cases hw : wd < 1 ∨ 8 < wd
      · have HR : Hid (Bm.packRes ps = (0, 2)) := by
          show Bm.packRes ps = (0, 2)
          rw [Bm.packRes, if_pos (Bm.bad_at ps j (by rw [HX.out]; exact hlt) (by rw [HW.out, Bm.fitsB, decide_eq_false_iff_not]; omega))]
        by_cases hw1 : wd < 1
        · clear hw
          go_wp2_with (go_at_call 22; refine (power_any _ _ (by omega) (by omega)).mono ?_; rintro e w' ⟨rfl, rfl⟩)
          go_ret2
          rw [HR.out]
          exact ⟨rfl, rfl⟩
        · have hw2 : 8 < wd := by omega
          clear hw
          go_wp2_with (go_at_call 22; refine (power_any _ _ (by omega) (by omega)).mono ?_; rintro e w' ⟨rfl, rfl⟩)
          go_ret2
          rw [HR.out]
          exact ⟨rfl, rfl⟩
      · have hw1 : 1 ≤ wd := by omega
        have hw2 : wd ≤ 8 := by omega
        clear hw
        have hpb := Bm.pow_bd wd (by omega) hw2
        by_cases hneg : nn < 0
        · have HR : Hid (Bm.packRes ps = (0, 2)) := by
            show Bm.packRes ps = (0, 2)
            rw [Bm.packRes, if_pos (Bm.bad_at ps j (by rw [HX.out]; exact hlt) (by rw [HW.out, Bm.fitsB, decide_eq_false_iff_not]; omega))]
          go_wp2_with (go_at_call 22; refine (power_any _ _ (by omega) (by omega)).mono ?_; rintro e w' ⟨rfl, rfl⟩)
          go_ret2
          rw [HR.out]
          exact ⟨rfl, rfl⟩
        · by_cases hbig : 2 ^ wd.toNat ≤ nn
          · have HR : Hid (Bm.packRes ps = (0, 2)) := by
              show Bm.packRes ps = (0, 2)
              rw [Bm.packRes, if_pos (Bm.bad_at ps j (by rw [HX.out]; exact hlt) (by rw [HW.out, Bm.fitsB, decide_eq_false_iff_not]; omega))]
            go_wp2_with (go_at_call 22; refine (power_any _ _ (by omega) (by omega)).mono ?_; rintro e w' ⟨rfl, rfl⟩)
            go_ret2
            rw [HR.out]
            exact ⟨rfl, rfl⟩
          · have hfit : Bm.fitsB wd nn = true := (Bm.fitsB_iff wd nn).2 ⟨hw1, hw2, by omega, by omega⟩
            have HF2 : Hid (∀ q ∈ ps.take (j + 1), Bm.fitsQ q = true) := Bm.take_all ps j (by rw [HX.out]; exact hlt) HF.out (by rw [HW.out]; exact hfit)
            have hbig' : nn < 2 ^ wd.toNat := by omega
            have hneg' : 0 ≤ nn := by omega
            have hn255 : nn ≤ 255 := by omega
            have hst := Bm.st_prefix ps j HF.out
            by_cases hL : L ≤ 8
            · have hN := hN1 hL
              have hs := sum_bd N nn L hL0 hL hneg' hn255
              have hpL := Bm.pow_bd L hL0 hL
              have hnew : Hid (Bm.st (ps.take (j + 1)) = (N + nn * 2 ^ L.toNat, L + wd)) := by
                show Bm.st (ps.take (j + 1)) = _
                rcases HI.out with ⟨_, e1, e2⟩ | ⟨h, _⟩
                · rw [HS.out, Bm.step, ← e1, ← e2]
                · omega
              have hbd := Bm.st_prefix ps (j + 1) HF2.out
              rw [hnew.out] at hbd
              simp only at hbd
              have hle : L + wd ≤ 8 → N + nn * 2 ^ L.toNat ≤ 255 := fun h => by have := (Bm.pow_bd (L + wd) (by omega) h).2; omega
              have HLE : Hid (L + wd ≤ 8 → N + nn * 2 ^ L.toNat ≤ 255) := hle
              clear hle hbd hst hN1 hbig hneg hfit
              go_wp2_with (go_at_call 22; refine (power_any _ _ (by omega) (by omega)).mono ?_; rintro e w' ⟨rfl, rfl⟩)
              go_round
              case rel => exact ⟨j + 1, N + nn * 2 ^ L.toNat, L + wd, by omega, by go_num, rfl, rfl, by omega, by omega, by omega, HLE.out, HF2, by
                show (_ ∨ _)
                rw [hnew.out]
                by_cases h : L + wd ≤ 8
                · exact Or.inl ⟨h, rfl, rfl⟩
                · exact Or.inr ⟨by omega, by show 8 < L + wd; omega⟩⟩
              case measure => simp [intOf]; omega
            · have hI2 : Hid (8 < (Bm.st (ps.take (j + 1))).2) := by
                show 8 < (Bm.st (ps.take (j + 1))).2
                rw [HS.out]
                rcases HI.out with ⟨h, _, _⟩ | ⟨_, h⟩
                · omega
                · have := (Bm.step_bd _ (wd, nn) hst.1 hst.2.1 hst.2.2 hfit).2.2.1; omega
              clear hst hN1 hbig hneg hfit
              go_wp2_with (go_at_call 22; refine (power_any _ _ (by omega) (by omega)).mono ?_; rintro e w' ⟨rfl, rfl⟩)
              go_round
              case rel => exact ⟨j + 1, N, L, by omega, by go_num, rfl, rfl, hL0, hL16, hN0, fun h => by omega, HF2, Or.inr ⟨by omega, hI2.out⟩⟩
              case measure => simp [intOf]; omega
    · have e : ps.take j = ps := List.take_of_length_le (by rw [HX.out]; omega)
      have hall : ∀ q ∈ ps, Bm.fitsQ q = true := fun q hq => HF.out q (by rw [e]; exact hq)
      have hI := HI.out
      rw [e] at hI
      by_cases hL : L ≤ 8
      · have hN := hN1 hL
        have HR : Hid (Bm.packRes ps = (N, 0)) := by
          show Bm.packRes ps = (N, 0)
          rcases hI with ⟨h, e1, e2⟩ | ⟨h, _⟩
          · rw [Bm.packRes, if_neg (by rw [Bm.all_of ps hall]; decide), if_neg (by rw [← e2]; omega), ← e1]
          · omega
        clear hI hall e hN1
        go_wp2
        go_ret2
        rw [HR.out]
        exact ⟨rfl, rfl⟩
      · have HR : Hid (Bm.packRes ps = (0, 5)) := by
          show Bm.packRes ps = (0, 5)
          rcases hI with ⟨h, e1, e2⟩ | ⟨_, h⟩
          · omega
          · rw [Bm.packRes, if_neg (by rw [Bm.all_of ps hall]; decide), if_pos h]
        clear hI hall e hN1
        go_wp2
        go_ret2
        rw [HR.out]
        exact ⟨rfl, rfl⟩

set_option maxHeartbeats 400000 in
theorem ref_pack_none (a : Option Addr) (cap : Nat) (w : World) :
    Calls Try.prog 20 #[.slice a 0 cap] w fun e w' => e = .returned (.tuple #[.int .u8 (Bm.packRes []).1, .int .i64 (Bm.packRes []).2]) ∧ w = w' := by
  have HR : Hid (Bm.packRes [] = (0, 0)) := by show Bm.packRes [] = (0, 0); decide
  go_enter Try.func20, Try.ntmps20
  go_wp2
  go_loop [4, 5, 6] (fun n l c => n = .int .i64 0 ∧ l = .int .i64 0 ∧ c = .int .i64 0) (fun _ _ c => 0)
  case atStart => exact ⟨rfl, rfl, rfl⟩
  case round =>
    obtain ⟨rfl, rfl, rfl⟩ := hrel
    go_wp2
    go_ret2
    rw [HR.out]
    exact ⟨rfl, rfl⟩

theorem ref_pack_any (a : Option Addr) (len cap : Nat) (ps : List (Int × Int)) (w : World) (hl1 : 16 * len ≤ 140737488351232) (hr : Row2 w a len cap ps) :
    Calls Try.prog 20 #[.slice a len cap] w fun e w' => e = .returned (.tuple #[.int .u8 (Bm.packRes ps).1, .int .i64 (Bm.packRes ps).2]) ∧ w = w' := by
  obtain ⟨h1, h2, h3, h4, h5⟩ := hr
  rcases h5 with ⟨rfl, rfl, rfl⟩ | ⟨⟨x, rfl⟩, rfl⟩ | ⟨b, off, rfl, h0, hlt, hc⟩
  · have : ps = [] := List.eq_nil_of_length_eq_zero h1
    subst this
    exact ref_pack_none none 0 w
  · have : ps = [] := List.eq_nil_of_length_eq_zero h1
    subst this
    exact ref_pack_none _ cap w
  · exact ref_pack_some b off len cap ps w hlt h1 hl1 hc
end Go.Proofs.Ytpihicgmfjaghaa
