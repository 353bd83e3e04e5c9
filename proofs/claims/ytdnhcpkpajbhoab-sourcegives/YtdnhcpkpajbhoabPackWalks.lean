/-
  The walks of bits.fits and bits.Pack: Pack returns the octet, or the error; nothing that was there is turned.
-/
import Derived.Test.YtdnhcpkpajbhoabCommon
import Derived.Test.YtdnhcpkpajbhoabPackMath
namespace Go.Proofs.Ytdnhcpkpajbhoab
open Go.RowKit
set_option linter.unusedVariables false
set_option linter.unusedSimpArgs false

/-- A slice of pairs of integers that came in: its elements ps, one behind the other. -/
def Row2 (w : World) (a : Option Addr) (len cap : Nat) (ps : List (Int × Int)) : Prop :=
  ps.length = len ∧ len ≤ cap ∧ cap ≤ maxLen ∧ (∀ q ∈ ps, (-9223372036854775808 ≤ q.1 ∧ q.1 ≤ 9223372036854775807) ∧ (-9223372036854775808 ≤ q.2 ∧ q.2 ≤ 9223372036854775807)) ∧
  ((a = none ∧ len = 0 ∧ cap = 0) ∨ ((∃ x, a = some x) ∧ len = 0) ∨
    ∃ b off, a = some ⟨b, off, none⟩ ∧ 0 < len ∧ b < w.heap.size ∧ ∀ i, i < len → w.cell? ⟨b, off + i * 2, none⟩ = some (.int .i64 (ps.getD i (0, 0)).1) ∧ w.cell? ⟨b, off + i * 2 + 1, none⟩ = some (.int .i64 (ps.getD i (0, 0)).2))

set_option maxHeartbeats 400000 in
theorem fits_any (wd n : Int) (w : World) :
    Calls Try.prog 78 #[.int .i64 wd, .int .i64 n] w fun e w' => e = .returned (.bool (Bm.fitsB wd n)) ∧ w = w' := by
  by_cases h : 1 ≤ wd ∧ wd ≤ 8 ∧ 0 ≤ n
  · obtain ⟨h1, h2, h3⟩ := h
    have hb := Bm.pow_bd wd (by omega) h2
    have hf : Hid (Bm.fitsB wd n = decide (n < 2 ^ wd.toNat)) := by
      show Bm.fitsB wd n = decide (n < 2 ^ wd.toNat)
      rw [Bm.fitsB, Bool.eq_iff_iff]; simp [h1, h2, h3]
    go_enter Try.func78, Try.ntmps78
    go_wp2
    go_ret
    exact ⟨ret_bool hf.out.symm, rfl⟩
  · have hf : Hid (Bm.fitsB wd n = false) := by
      show Bm.fitsB wd n = false
      rw [Bm.fitsB, decide_eq_false_iff_not]; omega
    go_enter Try.func78, Try.ntmps78
    go_wp2
    all_goals go_ret
    all_goals exact ⟨ret_bool hf.out.symm, rfl⟩

set_option maxHeartbeats 1000000 in
theorem pack_some (b off len cap : Nat) (ps : List (Int × Int)) (w : World) (hb : b < w.heap.size) (hpl : ps.length = len) (hl1 : 16 * len ≤ 140737488351232)
    (hc : ∀ i, i < len → w.cell? ⟨b, off + i * 2, none⟩ = some (.int .i64 (ps.getD i (0, 0)).1) ∧ w.cell? ⟨b, off + i * 2 + 1, none⟩ = some (.int .i64 (ps.getD i (0, 0)).2)) :
    Calls Try.prog 66 #[.slice (some ⟨b, off, none⟩) len cap] w fun e w' => e = .returned (.tuple #[.int .u8 (Bm.packRes ps).1, .int .i64 (Bm.packRes ps).2]) ∧ Below w.heap.size w w' := by
  have HC : Hid (∀ i, i < len → w.cell? ⟨b, off + i * 2, none⟩ = some (.int .i64 (ps.getD i (0, 0)).1) ∧ w.cell? ⟨b, off + i * 2 + 1, none⟩ = some (.int .i64 (ps.getD i (0, 0)).2)) := hc
  have HX : Hid (ps.length = len) := hpl
  clear hc hpl
  go_enter Try.func66, Try.ntmps66
  go_wp2
  go_loopw [14] (fun c wr => ∃ i : Nat, i ≤ len ∧ c = .int .i64 i ∧ Hid (∀ q ∈ ps.take i, Bm.fitsQ q = true) ∧ Below w.heap.size w wr)
    (fun c _ => len - (intOf c).toNat)
  case atStart => exact ⟨0, Nat.zero_le _, rfl, fun q h => by simp at h, Below.refl _ _⟩
  case round =>
    obtain ⟨i, hik, rfl, HF, hbel⟩ := hrel
    by_cases hlt : i < len
    · obtain ⟨wd, hwd⟩ : ∃ x, x = (ps.getD i (0, 0)).1 := ⟨_, rfl⟩
      obtain ⟨nn, hnn⟩ : ∃ x, x = (ps.getD i (0, 0)).2 := ⟨_, rfl⟩
      have hc1 : wr.cell? ⟨b, off + i * 2, none⟩ = some (.int .i64 wd) := by rw [hwd]; exact (hbel.cell (by exact hb)).trans (HC.out i hlt).1
      have hc2 : wr.cell? ⟨b, off + i * 2 + 1, none⟩ = some (.int .i64 nn) := by rw [hnn]; exact (hbel.cell (by exact hb)).trans (HC.out i hlt).2
      have HW : Hid (Bm.fitsQ (ps.getD i (0, 0)) = Bm.fitsB wd nn) := by show Bm.fitsQ (ps.getD i (0, 0)) = Bm.fitsB wd nn; rw [hwd, hnn]; rfl
      clear hwd hnn
      cases hfb : Bm.fitsB wd nn with
      | false =>
        have HR : Hid (Bm.packRes ps = (0, 2)) := by
          show Bm.packRes ps = (0, 2)
          rw [Bm.packRes, if_pos (Bm.bad_at ps i (by rw [HX.out]; exact hlt) (by rw [HW.out]; exact hfb))]
        go_wp2_with (go_at_call 78; refine (fits_any _ _ _).mono ?_; rintro e w' ⟨rfl, rfl⟩)
        go_ret2
        rw [HR.out]
        exact ⟨rfl, hbel.alloc hbel.size _⟩
      | true =>
        have HF2 : Hid (∀ q ∈ ps.take (i + 1), Bm.fitsQ q = true) := Bm.take_all ps i (by rw [HX.out]; exact hlt) HF.out (by rw [HW.out]; exact hfb)
        go_wp2_with (go_at_call 78; refine (fits_any _ _ _).mono ?_; rintro e w' ⟨rfl, rfl⟩)
        go_roundw
        case rel => exact ⟨i + 1, by omega, by go_num, HF2, hbel.alloc hbel.size _⟩
        case measure => simp [intOf]; omega
    · have hall : ∀ q ∈ ps, Bm.fitsQ q = true := fun q hq => HF.out q (by rw [List.take_of_length_le (by rw [HX.out]; omega)]; exact hq)
      have HA : Hid (∀ q ∈ ps, Bm.fitsQ q = true) := hall
      clear hall
      go_wp2
      go_loopw [6, 7, 27] (fun v l c wq => ∃ j : Nat, j ≤ len ∧ c = .int .i64 j ∧ v = .int .i64 (Bm.st (ps.take j)).1 ∧ l = .int .i64 (Bm.st (ps.take j)).2 ∧ (Bm.st (ps.take j)).2 ≤ 8 ∧ Below w.heap.size w wq)
        (fun _ _ c _ => len - (intOf c).toNat)
      case atStart => exact ⟨0, Nat.zero_le _, rfl, rfl, rfl, by show (0 : Int) ≤ 8; decide, hbel⟩
      case round =>
        obtain ⟨j, hj, rfl, rfl, rfl, hw8, hbel2⟩ := hrel
        have hst := Bm.st_prefix ps j (fun q hq => HA.out q (List.mem_of_mem_take hq))
        obtain ⟨V, hV⟩ : ∃ V, V = (Bm.st (ps.take j)).1 := ⟨_, rfl⟩
        obtain ⟨L, hL⟩ : ∃ L, L = (Bm.st (ps.take j)).2 := ⟨_, rfl⟩
        rw [← hV, ← hL] at hst
        rw [← hL] at hw8
        rw [← hV, ← hL]
        obtain ⟨hV0, hV1, hL0⟩ := hst
        have hV2 : V ≤ 255 := by have := (Bm.pow_bd L hL0 hw8).2; omega
        have HV : Hid (V = (Bm.st (ps.take j)).1 ∧ L = (Bm.st (ps.take j)).2) := ⟨hV, hL⟩
        have HV1 : Hid (V < 2 ^ L.toNat) := hV1
        clear hV hL hV1
        by_cases hlt2 : j < len
        · obtain ⟨wd, hwd⟩ : ∃ x, x = (ps.getD j (0, 0)).1 := ⟨_, rfl⟩
          obtain ⟨nn, hnn⟩ : ∃ x, x = (ps.getD j (0, 0)).2 := ⟨_, rfl⟩
          have hc1 : wr.cell? ⟨b, off + j * 2, none⟩ = some (.int .i64 wd) := by rw [hwd]; exact (hbel2.cell (by exact hb)).trans (HC.out j hlt2).1
          have hc2 : wr.cell? ⟨b, off + j * 2 + 1, none⟩ = some (.int .i64 nn) := by rw [hnn]; exact (hbel2.cell (by exact hb)).trans (HC.out j hlt2).2
          have hfit : Bm.fitsB wd nn = true := by
            have := HA.out (ps.getD j (0, 0)) (by rw [List.getD, List.getElem?_eq_getElem (by rw [HX.out]; exact hlt2)]; exact List.getElem_mem _)
            rw [hwd, hnn]; exact this
          obtain ⟨f1, f2, f3, f4⟩ := (Bm.fitsB_iff wd nn).1 hfit
          have f5 : nn ≤ 255 := by have := (Bm.pow_bd wd (by omega) f2).2; omega
          have HS : Hid (Bm.st (ps.take (j + 1)) = (V + nn * 2 ^ L.toNat, L + wd)) := by
            show Bm.st (ps.take (j + 1)) = _
            rw [Bm.st_take ps j (by rw [HX.out]; exact hlt2), Bm.step, HV.out.1, HV.out.2, hwd, hnn]
          clear hwd hnn f4 hfit
          go_wp2
          go_quiet (fail)
          go_wp2
          · have h9 : 8 - L < wd := by assumption
            have HR : Hid (Bm.packRes ps = (0, 5)) := by
              show Bm.packRes ps = (0, 5)
              have hm := Bm.st_mono ps (j + 1) HA.out
              rw [HS.out] at hm
              simp only at hm
              rw [Bm.packRes, if_neg (by rw [Bm.all_of ps HA.out]; decide), if_pos (by omega)]
            go_ret2
            rw [HR.out]
            exact ⟨rfl, below_drewN (hbel2.alloc hbel2.size _) _⟩
          · have h9 : wd ≤ 8 - L := by assumption
            go_roundw
            case rel => exact ⟨j + 1, by omega, by go_num, by rw [HS.out, Bm.or_above V nn L.toNat (by omega) hV0 HV1.out f3 f5], by rw [HS.out], by rw [HS.out]; show L + wd ≤ 8; omega, below_drewN (hbel2.alloc hbel2.size _) _⟩
            case measure => simp [intOf]; omega
        · have HR : Hid (Bm.packRes ps = (V, 0)) := by
            show Bm.packRes ps = (V, 0)
            have e : ps.take j = ps := List.take_of_length_le (by rw [HX.out]; omega)
            have h1 := HV.out.1
            have h2 := HV.out.2
            rw [e] at h1 h2
            rw [Bm.packRes, if_neg (by rw [Bm.all_of ps HA.out]; decide), if_neg (by rw [← h2]; omega), ← h1]
          go_wp2
          go_ret2
          rw [HR.out]
          exact ⟨rfl, hbel2⟩

set_option maxHeartbeats 400000 in
theorem pack_none (a : Option Addr) (cap : Nat) (w : World) :
    Calls Try.prog 66 #[.slice a 0 cap] w fun e w' => e = .returned (.tuple #[.int .u8 (Bm.packRes []).1, .int .i64 (Bm.packRes []).2]) ∧ Below w.heap.size w w' := by
  have HR : Hid (Bm.packRes [] = (0, 0)) := by show Bm.packRes [] = (0, 0); decide
  go_enter Try.func66, Try.ntmps66
  go_wp2
  go_loop [14] (fun c => c = .int .i64 0) (fun c => 0)
  case atStart => rfl
  case round =>
    obtain rfl := hrel
    go_wp2
    go_loop [6, 7, 27] (fun v l c => v = .int .i64 0 ∧ c = .int .i64 0) (fun _ _ c => 0)
    case atStart => exact ⟨rfl, rfl⟩
    case round =>
      obtain ⟨rfl, rfl⟩ := hrel
      go_wp2
      go_ret2
      rw [HR.out]
      exact ⟨rfl, Below.refl _ _⟩

theorem pack_any (a : Option Addr) (len cap : Nat) (ps : List (Int × Int)) (w : World) (hl1 : 16 * len ≤ 140737488351232) (hr : Row2 w a len cap ps) :
    Calls Try.prog 66 #[.slice a len cap] w fun e w' => e = .returned (.tuple #[.int .u8 (Bm.packRes ps).1, .int .i64 (Bm.packRes ps).2]) ∧ Below w.heap.size w w' := by
  obtain ⟨h1, h2, h3, h4, h5⟩ := hr
  rcases h5 with ⟨rfl, rfl, rfl⟩ | ⟨⟨x, rfl⟩, rfl⟩ | ⟨b, off, rfl, h0, hlt, hc⟩
  · have : ps = [] := List.eq_nil_of_length_eq_zero h1
    subst this
    exact pack_none none 0 w
  · have : ps = [] := List.eq_nil_of_length_eq_zero h1
    subst this
    exact pack_none _ cap w
  · exact pack_some b off len cap ps w hlt h1 hl1 hc

/-- what came in reads so in every later world -/
theorem Row2.later {w w' : World} {a : Option Addr} {len cap : Nat} {ps : List (Int × Int)} (h : Row2 w a len cap ps) (hb : Below w.heap.size w w') : Row2 w' a len cap ps := by
  obtain ⟨h1, h2, h3, h4, h5⟩ := h
  refine ⟨h1, h2, h3, h4, ?_⟩
  rcases h5 with h5 | h5 | ⟨b, off, e, h0, hlt, hc⟩
  · exact Or.inl h5
  · exact Or.inr (Or.inl h5)
  · exact Or.inr (Or.inr ⟨b, off, e, h0, Nat.lt_of_lt_of_le hlt hb.size, fun i hi => ⟨(hb.cell (by exact hlt)).trans (hc i hi).1, (hb.cell (by exact hlt)).trans (hc i hi).2⟩⟩)

theorem Row2.cut {w : World} {a : Option Addr} {len cap : Nat} {ps : List (Int × Int)} (h : Row2 w a len cap ps) (m : Nat) (hm : m ≤ len) : Row2 w a m cap (ps.take m) := by
  obtain ⟨h1, h2, h3, h4, h5⟩ := h
  refine ⟨by simp; omega, by omega, h3, fun n hn => h4 n (List.mem_of_mem_take hn), ?_⟩
  rcases h5 with ⟨e, h0, hc⟩ | ⟨e, h0⟩ | ⟨b, off, e, h0, hlt, hc⟩
  · exact Or.inl ⟨e, by omega, hc⟩
  · exact Or.inr (Or.inl ⟨e, by omega⟩)
  · by_cases hz : m = 0
    · exact Or.inr (Or.inl ⟨⟨_, e⟩, hz⟩)
    · refine Or.inr (Or.inr ⟨b, off, e, by omega, hlt, fun i hi => ?_⟩)
      have := hc i (by omega)
      rw [this.1, this.2]
      simp [List.getD, List.getElem?_take, hi]
end Go.Proofs.Ytdnhcpkpajbhoab
