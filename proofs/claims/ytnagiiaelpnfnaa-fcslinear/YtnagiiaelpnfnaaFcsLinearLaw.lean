/-
  The walk of the law FcsLinear: it returns true.
-/
import Derived.Test.YtnagiiaelpnfnaaFcsSumWalks
namespace Go.Proofs.Ytnagiiaelpnfnaa
open Go.RowKit
set_option linter.unusedVariables false
set_option linter.unusedSimpArgs false

/-- make([]byte, n): a new row of n noughts -/
theorem make_bytes (n : Nat) (hn : n ≤ 1000000) : ∃ M : Array Value, M.size = n ∧ (∀ j, j < n → M[j]? = some (.int .u8 0)) ∧
    ∀ W : World, (Instr.makeSlice 38 (.int .i64 (n : Int)) (.int .i64 (n : Int))).run Try.prog W = .ok (.slice (some ⟨W.heap.size, 0, none⟩) n n) (W.alloc (.cells M 5)) := by
  obtain ⟨i0, hi, hz0, hz1, hz2⟩ := info_parts byte5
  refine ⟨madeCells (Value.int .u8 0).cells ((n : Int).toNat * i0.size), ?_, ?_, fun W => ?_⟩
  · rw [size_madeCells, hz1]; simp
  · intro j hj
    have e : (madeCells (Value.int .u8 0).cells ((n : Int).toNat * i0.size)).toList = List.replicate n (Value.int .u8 0) := by
      rw [hz1]
      simp only [Value.cells, Int.toNat_natCast, Nat.mul_one]
      rw [toList_madeCells_one]
    rw [← Array.getElem?_toList, e, List.getElem?_replicate, if_pos hj]
  · have h := run_make (P := Try.prog) W 38 5 i0 (.int .u8 0) Try.underlying38 hi hz0 .i64 .i64 (n : Int) (n : Int) (by omega) (by omega) (by rw [hz2]; omega) (by omega)
    simpa using h

/-- two such rows, one behind the other -/
theorem two_made (w : World) (M : Array Value) (n : Nat) (hM1 : M.size = n) (hM2 : ∀ j, j < n → M[j]? = some (.int .u8 0)) :
    BytesAt ((w.alloc (.cells M 5)).alloc (.cells M 5)).drew w.heap.size ((List.replicate n 0).map fun x : Nat => (x : Int)) ∧
    BytesAt ((w.alloc (.cells M 5)).alloc (.cells M 5)).drew (w.heap.size + 1) ((List.replicate n 0).map fun x : Nat => (x : Int)) := by
  have h1 : ((w.alloc (.cells M 5)).alloc (.cells M 5)).drew.heap[w.heap.size]? = some (.cells M 5 (0, 0)) := by
    show ((w.heap.push _).push _)[w.heap.size]? = _
    simp [Array.getElem?_push]
  have h2 : ((w.alloc (.cells M 5)).alloc (.cells M 5)).drew.heap[w.heap.size + 1]? = some (.cells M 5 (0, 0)) := by
    show ((w.heap.push _).push _)[w.heap.size + 1]? = _
    rw [Array.getElem?_push, if_pos (by simp)]
  have key : ∀ (V : World) (B : Nat), V.heap[B]? = some (.cells M 5 (0, 0)) → BytesAt V B ((List.replicate n 0).map fun x : Nat => (x : Int)) := by
    intro V B h
    have hB : B < V.heap.size := by
      rcases Nat.lt_or_ge B V.heap.size with h' | h'
      · exact h'
      · rw [Array.getElem?_eq_none h'] at h; cases h
    refine ⟨hB, fun j hj => ?_, fun j hj => ?_⟩
    · have hj' : j < n := by simpa using hj
      simp only [World.cell?, h]
      simpa [hj'] using hM2 j hj'
    · simp only [World.frozen?, h]
      simp
  exact ⟨key _ _ h1, key _ _ h2⟩

theorem BytesAt.other {w : World} {X Z : Nat} {xs : List Int} (h : BytesAt w Z xs) (hne : X ≠ Z) (i : Nat) (v : Value) : BytesAt (w.setCell ⟨X, i, none⟩ v) Z xs := by
  obtain ⟨h1, h2, h3⟩ := h
  refine ⟨by simpa [World.setCell] using h1, fun j hj => ?_, fun j hj => ?_⟩
  · have ho : (w.setCell ⟨X, i, none⟩ v).cell? ⟨Z, j, none⟩ = w.cell? ⟨Z, j, none⟩ := World.cell?_setCell_other w _ _ _ (fun h => hne (by injection h))
    rw [ho]; exact h2 j hj
  · have := h3 j hj
    simpa using this
theorem BytesAt.drewN {w : World} {B : Nat} {xs : List Int} (h : BytesAt w B xs) (n : Nat) : BytesAt (w.drewN n) B xs := by
  obtain ⟨h1, h2, h3⟩ := h
  exact ⟨by simpa using h1, fun j hj => by simpa using h2 j hj, fun j hj => by simpa using h3 j hj⟩

theorem sum_q (s : ByteArray) (w : World) (hs : s.size ≤ 600) : Calls Try.prog 9 #[.string s] w fun e w' => e = .returned (.int .u16 ((Fm.sum s : Nat) : Int)) ∧ w' = w :=
  (sum_any s w (by omega)).mono fun _ _ ⟨h1, h2⟩ => ⟨h1, h2.symm⟩

set_option maxHeartbeats 1000000 in
theorem walk_FcsLinear (s t : ByteArray) (w : World) (hs : s.size ≤ 140737488351232) (ht : t.size ≤ 140737488351232) :
    Calls Try.prog 8 #[.string s, .string t] w fun e w' => e = .returned (.bool true) ∧ Below w.heap.size w w' := by
  obtain ⟨i0, hi, hz0, hz1, hz2⟩ := info_parts byte5
  have key : (600 < s.size ∧ 600 < t.size) ∨ (t.size ≤ 600 ∧ t.size < s.size) ∨ (s.size ≤ 600 ∧ s.size ≤ t.size) := by omega
  rcases key with ⟨k1, k2⟩ | ⟨k1, k2⟩ | ⟨k1, k2⟩
  all_goals go_enter Try.func8, Try.ntmps8
  all_goals go_wp2
  all_goals try (exfalso; omega)
  all_goals first
    | (have hk : t.size ≤ 600 := k1
       obtain ⟨n, hn⟩ : ∃ n : Nat, (t.size : Int) = (n : Int) := ⟨t.size, rfl⟩)
    | (have hk : s.size ≤ 600 := k1
       obtain ⟨n, hn⟩ : ∃ n : Nat, (s.size : Int) = (n : Int) := ⟨s.size, rfl⟩)
    | (have hk : 600 < s.size := k1
       obtain ⟨n, hn⟩ : ∃ n : Nat, (600 : Int) = (n : Int) := ⟨600, rfl⟩)
  all_goals
    have hn1 : n ≤ 600 := by omega
    have hns : n ≤ s.size := by omega
    have hnt : n ≤ t.size := by omega
    clear k1 k2 hk
    rw [hn]
    clear hn
    obtain ⟨M, hM1, hM2, hmk⟩ := make_bytes n (by omega)
    go_region
  all_goals
    obtain ⟨fX, fZ⟩ := two_made w M n hM1 hM2
    have fB : Below w.heap.size w ((w.alloc (.cells M 5)).alloc (.cells M 5)).drew := (((Below.refl _ _).alloc (Nat.le_refl _) _).alloc (by simp) _).drew
    generalize ((w.alloc (.cells M 5)).alloc (.cells M 5)).drew = W0 at fX fZ fB ⊢
    clear hmk hM1 hM2
    first
      | (obtain ⟨X, Z, hA, hne, hXb, gX, gZ⟩ : ∃ X Z : Nat, (∀ r : List Value, (Value.slice (some ⟨w.heap.size, 0, none⟩) n n :: Value.slice (some ⟨w.heap.size + 1, 0, none⟩) n n :: r) = (Value.slice (some ⟨X, 0, none⟩) n n :: Value.slice (some ⟨Z, 0, none⟩) n n :: r)) ∧ X ≠ Z ∧ w.heap.size ≤ X ∧ BytesAt W0 X ((List.replicate n 0).map fun x : Nat => (x : Int)) ∧ BytesAt W0 Z ((List.replicate n 0).map fun x : Nat => (x : Int)) := ⟨w.heap.size, w.heap.size + 1, fun _ => rfl, by omega, by omega, fX, fZ⟩
         rw [hA])
      | (obtain ⟨X, Z, hA, hne, hXb, gX, gZ⟩ : ∃ X Z : Nat, (∀ r : List Value, (Value.slice (some ⟨w.heap.size + 1, 0, none⟩) n n :: Value.slice (some ⟨w.heap.size, 0, none⟩) n n :: r) = (Value.slice (some ⟨X, 0, none⟩) n n :: Value.slice (some ⟨Z, 0, none⟩) n n :: r)) ∧ X ≠ Z ∧ w.heap.size ≤ X ∧ BytesAt W0 X ((List.replicate n 0).map fun x : Nat => (x : Int)) ∧ BytesAt W0 Z ((List.replicate n 0).map fun x : Nat => (x : Int)) := ⟨w.heap.size + 1, w.heap.size, fun _ => rfl, by omega, by omega, fZ, fX⟩
         rw [hA])
    clear hA fX fZ
    go_wp2
    go_loopw [19] (fun c wr => ∃ i : Nat, i ≤ n ∧ c = .int .i64 i ∧ BytesAt wr X ((Fm.diffK s t n i).map fun x : Nat => (x : Int)) ∧ BytesAt wr Z ((List.replicate n 0).map fun x : Nat => (x : Int)) ∧ Below w.heap.size w wr)
      (fun c _ => n - (intOf c).toNat)
    case atStart => exact ⟨0, Nat.zero_le _, rfl, by rw [Fm.diffK_zero]; exact gX, gZ, fB⟩
    case round =>
      obtain ⟨i, hi, rfl, hx, hz, hbel⟩ := hrel
      have hlen := Fm.diffK_length s t n i hns hnt hi
      by_cases hlt : i < n
      · have his : i < s.size := by omega
        have hit : i < t.size := by omega
        have hcell : wr.cell? ⟨X, i, none⟩ = some (.int .u8 (((Fm.diffK s t n i).map fun x : Nat => (x : Int)).getD i 0)) := hx.2.1 i (by simp [hlen]; omega)
        have hfr : wr.frozen? ⟨X, i, none⟩ = false := hx.2.2 i (by simp [hlen]; omega)
        have HR : Hid (BytesAt (wr.setCell ⟨X, i, none⟩ (.int .u8 (bits .xor .u8 (s[i].toNat : Int) (t[i].toNat : Int)))) X ((Fm.diffK s t n (i + 1)).map fun x : Nat => (x : Int))) := by
          show BytesAt (wr.setCell ⟨X, i, none⟩ (.int .u8 (bits .xor .u8 (s[i].toNat : Int) (t[i].toNat : Int)))) X ((Fm.diffK s t n (i + 1)).map fun x : Nat => (x : Int))
          rw [u8_xor_nat _ _ s[i].toNat_lt t[i].toNat_lt, ← Fm.diffK_set s t n i hns hnt hlt, List.map_set]
          exact hx.set i (by simp [hlen]; omega) _
        have HZ : Hid (BytesAt (wr.setCell ⟨X, i, none⟩ (.int .u8 (bits .xor .u8 (s[i].toNat : Int) (t[i].toNat : Int)))) Z ((List.replicate n 0).map fun x : Nat => (x : Int))) := hz.other hne i _
        clear hlen hx hz
        go_wp2
        go_region
        go_wp2
        go_roundw
        case rel => exact ⟨i + 1, by omega, by go_num, HR.out, HZ.out, (hbel.setCell hXb _).drew⟩
        case measure => simp [intOf]; omega
      · have e : i = n := by omega
        rw [e, Fm.diffK_all s t n hns hnt] at hx
        clear e hlen
        obtain ⟨XS, hXS⟩ : ∃ XS, XS = strOfNums ((Fm.diff s t n).map fun x : Nat => (x : Int)) := ⟨_, rfl⟩
        obtain ⟨ZS, hZS⟩ : ∃ ZS, ZS = strOfNums ((List.replicate n 0).map fun x : Nat => (x : Int)) := ⟨_, rfl⟩
        have hcx : ∀ k, (convert 38 9 (.slice (some ⟨X, 0, none⟩) n n)).run Try.prog (wr.drewN k) = .ok (.string XS) (wr.drewN k) := fun k => by
          rw [hXS]; exact (hx.drewN k).conv n n (by rw [List.length_map, Fm.diff_length s t n hns hnt])
        have hcz : ∀ k, (convert 38 9 (.slice (some ⟨Z, 0, none⟩) n n)).run Try.prog (wr.drewN k) = .ok (.string ZS) (wr.drewN k) := fun k => by
          rw [hZS]; exact (hz.drewN k).conv n n (by rw [List.length_map, List.length_replicate])
        have HF : Hid (bits .xor .u16 ((Fm.sum (s.extract 0 n) : Nat) : Int) ((Fm.sum (t.extract 0 n) : Nat) : Int) = bits .xor .u16 ((Fm.sum XS : Nat) : Int) ((Fm.sum ZS : Nat) : Int)) := by
          show bits .xor .u16 ((Fm.sum (s.extract 0 n) : Nat) : Int) ((Fm.sum (t.extract 0 n) : Nat) : Int) = bits .xor .u16 ((Fm.sum XS : Nat) : Int) ((Fm.sum ZS : Nat) : Int)
          rw [u16_xor_nat _ _ (Fm.sum_lt _) (Fm.sum_lt _), u16_xor_nat _ _ (Fm.sum_lt _) (Fm.sum_lt _),
            Fm.linear s t n hns hnt XS ZS (by rw [hXS]; exact Fm.octN_nat _ (Fm.diff_lt s t n)) (by rw [hZS]; exact Fm.octN_nat _ (fun x hx => by rw [List.eq_of_mem_replicate hx]; decide))]
        have hXl : XS.size ≤ 600 := by rw [hXS, strOfNums_size, List.length_map, Fm.diff_length s t n hns hnt]; exact hn1
        have hZl : ZS.size ≤ 600 := by rw [hZS, strOfNums_size, List.length_map, List.length_replicate]; exact hn1
        clear hXS hZS hx hz
        have hs1 : (s.extract 0 n).size ≤ 600 := by simp; omega
        have ht1 : (t.extract 0 n).size ≤ 600 := by simp; omega
        go_wp2
        have hnine : ((Fm.sum ⟨#[49, 50, 51, 52, 53, 54, 55, 56, 57]⟩ : Nat) : Int) = 36974 := by decide +kernel
        go_quiet ((go_at_call 9; exact Calls.quiet_of_same (sum_q _ _ (by first | omega | decide))))
        go_wp2
        go_ret
        exact ⟨ret_bool (by rw [HF.out]; simp), below_drewN hbel _⟩
end Go.Proofs.Ytnagiiaelpnfnaa
