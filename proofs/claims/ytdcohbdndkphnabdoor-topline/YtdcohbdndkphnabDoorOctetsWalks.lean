/-
  The walk of bits.Octets: it returns the octets whose bits they are, or the error; nothing that was there is turned.
-/
import Derived.Test.YtdcohbdndkphnabDoorGoodWalks
namespace Go.Proofs.YtdcohbdndkphnabDoor
open Go.RowKit
set_option linter.unusedVariables false
set_option linter.unusedSimpArgs false

theorem made_bytes (n : Nat) : (madeCells #[Value.int .u8 0] n).toList = (List.replicate n (0 : Int)).map (Value.int .u8) := by
  rw [toList_madeCells_one, List.map_replicate]

set_option maxHeartbeats 400000 in
theorem octets_form (s : ByteArray) (w : World) (hs : s.size ≤ 140737488351232) (hg : Bm.goodN (Bm.nums s) = false) :
    Calls Tryd.prog 51 #[.string s] w fun e w' => e = .returned (.tuple #[.string ByteArray.empty, .int .i64 4]) ∧ Below w.heap.size w w' := by
  go_enter Tryd.func51, Tryd.ntmps51
  go_wp2_with (go_at_call 58; refine (good_any _ _ hs).mono ?_; rintro e w' ⟨rfl, rfl⟩)
  go_ret2
  exact ⟨rfl, Below.refl _ _⟩

set_option maxHeartbeats 400000 in
theorem octets_short (s : ByteArray) (w : World) (hs : s.size ≤ 140737488351232) (hg : Bm.goodN (Bm.nums s) = true) (h8 : s.size % 8 ≠ 0) :
    Calls Tryd.prog 51 #[.string s] w fun e w' => e = .returned (.tuple #[.string ByteArray.empty, .int .i64 3]) ∧ Below w.heap.size w w' := by
  have ht : ((s.size : Int) % 8 != 0) = true := by simp; omega
  go_enter Tryd.func51, Tryd.ntmps51
  go_wp2_with (go_at_call 58; refine (good_any _ _ hs).mono ?_; rintro e w' ⟨rfl, rfl⟩)
  go_ret2
  exact ⟨rfl, Below.refl _ _⟩

/-- what a round does to the row of octets -/
theorem oct_step (s : ByteArray) (n i k : Nat) (hk : k < 8) (hlt : i < n) (hix : i * 8 + k < s.size) (HL : n = (Bm.nums s).length / 8) (HG : Bm.goodN (Bm.nums s) = true) {wr : World} {B : Nat}
    (hown2 : wr.ownsRow B 5 1 (.slice (some ⟨B, 0, none⟩) n n) n ((Bm.rowAt (Bm.nums s) n i (Bm.part (Bm.nums s) i k)).map (Value.int .u8))) :
    (wr.setCell ⟨B, i, none⟩ (.int .u8 (bits .or .u8 (Bm.part (Bm.nums s) i k) (((s[i * 8 + k].toNat : Int) - 48) * 2 ^ k % 256)))).ownsRow B 5 1 (.slice (some ⟨B, 0, none⟩) n n) n ((Bm.rowAt (Bm.nums s) n i (Bm.part (Bm.nums s) i (k + 1))).map (Value.int .u8)) := by
  have hb : ∀ j, j < 8 → 0 ≤ Bm.bitAt (Bm.nums s) i j ∧ Bm.bitAt (Bm.nums s) i j ≤ 1 := by
    intro j hj
    have hlt' : i * 8 + j < s.size := by rw [Bm.nums_length] at HL; omega
    rw [Bm.bitAt_s s i j hlt']
    have := Bm.good_get s HG (i * 8 + j) hlt'
    omega
  have hp := Bm.part_bd (Bm.nums s) i k (fun j hj => hb j (by omega))
  have hx := hb k hk
  rw [← Bm.bitAt_s s i k hix, Bm.or_bit _ _ k hk hp.1 hp.2 (by omega)]
  have h := (hown2.stored i (.int .u8 (Bm.part (Bm.nums s) i (k + 1)))).1
  rw [← List.map_set, Bm.rowAt_set _ n i _ _ hlt HL] at h
  exact h

set_option maxHeartbeats 1000000 in
set_option maxRecDepth 100000 in
theorem octets_good (s : ByteArray) (w : World) (hs : s.size ≤ 140737488351232) (hg : Bm.goodN (Bm.nums s) = true) (h8 : s.size % 8 = 0) :
    Calls Tryd.prog 51 #[.string s] w fun e w' => e = .returned (.tuple #[.string (strOfNums (Bm.octs (Bm.nums s))), .int .i64 0]) ∧ Below w.heap.size w w' := by
  obtain ⟨i0, hi, hz0, hz1, hz2⟩ := info_parts byte5
  obtain ⟨n, hn⟩ : ∃ n, s.size = 8 * n := ⟨s.size / 8, by omega⟩
  have HN : Hid (s.size = 8 * n) := hn
  have hq : (s.size : Int) / 8 = n := by omega
  have ht : ((s.size : Int) % 8 != 0) = false := by simp; omega
  have hlen : n = (Bm.nums s).length / 8 := by rw [Bm.nums_length]; omega
  have HL : Hid (n = (Bm.nums s).length / 8) := hlen
  have HG : Hid (Bm.goodN (Bm.nums s) = true) := hg
  have hnb : 8 * n ≤ 140737488351232 := by omega
  have hn1 : 8 * n ≤ s.size := by omega
  have hn2 : s.size ≤ 8 * n := by omega
  clear hn h8 hlen
  go_enter Tryd.func51, Tryd.ntmps51
  go_wp2_with (first | (go_at_call 58; refine (good_any _ _ hs).mono ?_; rintro e w' ⟨rfl, rfl⟩) | (at_make; refine wpList_make_full _ rfl _ _ 26 rfl w.heap.size 5 i0 (.int .u8 0) 1 Tryd.underlying26 hi hz0 hz1 _ _ _ _ n rfl rfl ?l1 ?l2 ?b2 ?b3 (Nat.le_refl _) ?_))
  case l1 => omega
  case l2 => omega
  case b2 => rw [hz2]; omega
  case b3 => unfold maxLen; omega
  intro w0 hown0 hgrow0
  simp only [Value.cells, Nat.mul_one, made_bytes] at hown0
  have hbel0 : Below w.heap.size w w0 := (Below.refl _ _).grown hgrow0 (Nat.le_refl _) (fun k h => by cases h)
  clear hgrow0
  go_wp2
  go_loopw [20] (fun c wr => ∃ i : Nat, i ≤ n ∧ c = .int .i64 i ∧ wr.ownsRow w.heap.size 5 1 (.slice (some ⟨w.heap.size, 0, none⟩) n n) n ((if i < n then Bm.rowAt (Bm.nums s) n i 0 else Bm.octs (Bm.nums s)).map (Value.int .u8)) ∧ Below w.heap.size w wr)
    (fun c _ => n - (intOf c).toNat)
  case atStart =>
    refine ⟨0, Nat.zero_le _, rfl, ?_, hbel0⟩
    by_cases h0 : 0 < n
    · rw [if_pos h0, Bm.rowAt_first _ _ h0]; exact hown0
    · have : n = 0 := by omega
      subst this
      rw [if_neg (by omega), show Bm.octs (Bm.nums s) = [] from List.eq_nil_of_length_eq_zero (by rw [Bm.octs_length, ← HL.out])]; exact hown0
  case round =>
    obtain ⟨i, hik, rfl, hown, hbel⟩ := hrel
    by_cases hlt : i < n
    · rw [if_pos hlt] at hown
      go_wp2
      go_loopw [23] (fun c wq => ∃ k : Nat, k ≤ 8 ∧ c = .int .i64 k ∧ wq.ownsRow w.heap.size 5 1 (.slice (some ⟨w.heap.size, 0, none⟩) n n) n ((Bm.rowAt (Bm.nums s) n i (Bm.part (Bm.nums s) i k)).map (Value.int .u8)) ∧ Below w.heap.size w wq)
        (fun c _ => 8 - (intOf c).toNat)
      case atStart => exact ⟨0, Nat.zero_le _, rfl, by simpa [Bm.part] using hown, hbel⟩
      case round =>
        obtain ⟨k, hk8, rfl, hown2, hbel2⟩ := hrel
        by_cases hk : k < 8
        · have hix : i * 8 + k < s.size := by omega
          have hix0 : (0 : Int) ≤ (i : Int) * 8 + (k : Int) := by omega
          have hix2 : (i : Int) * 8 + (k : Int) < (s.size : Int) := by omega
          have hixt : ((i : Int) * 8 + (k : Int)).toNat = i * 8 + k := by omega
          have hcell : wr.cell? ⟨w.heap.size, i, none⟩ = some (.int .u8 (Bm.part (Bm.nums s) i k)) := by
            rw [hown2.cellAt i (by omega), List.getElem?_map, Bm.rowAt_get _ _ _ _ hlt HL.out]; rfl
          have hfr : wr.frozen? ⟨w.heap.size, i, none⟩ = false := hown2.frozenAt i
          have hb01 := Bm.good_get s HG.out (i * 8 + k) hix
          have hlo : (48 : Int) ≤ (s[i * 8 + k].toNat : Int) := by omega
          have hhi : (s[i * 8 + k].toNat : Int) ≤ 49 := by omega
          clear hb01
          go_wp2
          go_region
          go_wp2
          have R := oct_step s n i k hk hlt hix HL.out HG.out hown2
          go_roundw
          case rel => exact ⟨k + 1, by omega, by go_num, R.drew, (hbel2.setCell (Nat.le_refl _) _).drew⟩
          case measure => simp [intOf]; omega
        · go_wp2
          go_roundw
          case rel => exact ⟨i + 1, by omega, by go_num, by
            have : k = 8 := by omega
            subst this
            by_cases hl : i + 1 < n
            · rw [if_pos hl, ← Bm.rowAt_next _ _ _ hl HL.out]; exact hown2
            · rw [if_neg hl, ← Bm.rowAt_last _ n i (by omega) HL.out]; exact hown2, hbel2⟩
          case measure => simp [intOf]; omega
    · rw [if_neg hlt] at hown
      have hcv := conv_own hown
      go_wp2
      go_ret2
      exact ⟨rfl, hbel⟩
/-- P1.1: the octets whose bits they are, or the error -/
def octRes (s : ByteArray) : ByteArray × Int := if Bm.goodN (Bm.nums s) = false then (ByteArray.empty, 4) else if s.size % 8 ≠ 0 then (ByteArray.empty, 3) else (strOfNums (Bm.octs (Bm.nums s)), 0)

theorem octets_any (s : ByteArray) (w : World) (hs : s.size ≤ 140737488351232) :
    Calls Tryd.prog 51 #[.string s] w fun e w' => e = .returned (.tuple #[.string (octRes s).1, .int .i64 (octRes s).2]) ∧ Below w.heap.size w w' := by
  by_cases hg : Bm.goodN (Bm.nums s) = false
  · rw [octRes, if_pos hg]; exact octets_form s w hs hg
  · have hg' : Bm.goodN (Bm.nums s) = true := by simpa using hg
    by_cases h8 : s.size % 8 = 0
    · rw [octRes, if_neg hg, if_neg (by omega)]; exact octets_good s w hs hg' h8
    · rw [octRes, if_neg hg, if_pos h8]; exact octets_short s w hs hg' h8
end Go.Proofs.YtdcohbdndkphnabDoor
