/-
  The walks of bits.Flip and of the document's Flip: each returns the bits turned at the places; nothing that was there is turned.
-/
import Derived.Test.YtdcohbdndkphnabDoorGoodWalks
import Derived.Laws.IdiomStrings
namespace Go.Proofs.YtdcohbdndkphnabDoor
open Go.RowKit
set_option linter.unusedVariables false
set_option linter.unusedSimpArgs false

/-- behind []byte(s): the bytes lie in the new block -/
theorem bytes_made (w : World) (s : ByteArray) (c m : Nat) (hm : (bytesRow s c).size ≤ m) : BytesAt (w.alloc (.cells (bytesRow s c) 5 (m, m + 1))).drew w.heap.size (Bm.nums s) := by
  have hsz : s.size ≤ (bytesRow s c).size := by simp only [bytesRow, Array.size_append, Array.size_map]; show s.data.size ≤ _; omega
  have hh : (w.alloc (.cells (bytesRow s c) 5 (m, m + 1))).drew.heap[w.heap.size]? = some (.cells (bytesRow s c) 5 (m, m + 1)) := by
    show (w.heap.push _)[w.heap.size]? = _
    simp
  refine ⟨by simp, fun j hj => ?_, fun j hj => ?_⟩
  · rw [Bm.nums_length] at hj
    have hd : j < s.data.size := hj
    have e : (bytesRow s c)[j]? = some (.int .u8 ((Bm.nums s).getD j 0)) := by
      rw [bytesRow, Array.getElem?_append_left (by simpa using hd), Array.getElem?_map, Array.getElem?_eq_getElem hd, List.getD, List.getElem?_eq_getElem (by rw [Bm.nums_length]; exact hj), Bm.nums_get s j hj]
      rfl
    simp only [World.cell?, hh]
    simpa using e
  · rw [Bm.nums_length] at hj
    simp only [World.frozen?, hh]
    simp
    omega

set_option maxHeartbeats 1000000 in
set_option maxRecDepth 100000 in
theorem flip_some (s : ByteArray) (b off len cap : Nat) (xs : List Int) (w : World) (hs : s.size ≤ 140737488351232) (hb : b < w.heap.size) (hxl : xs.length = len) (hl1 : 8 * len ≤ 140737488351232)
    (hc : ∀ i, i < len → w.cell? ⟨b, off + i, none⟩ = some (.int .i64 (xs.getD i 0))) :
    Calls Tryd.prog 14 #[.string s, .slice (some ⟨b, off, none⟩) len cap] w fun e w' => e = .returned (.string (strOfNums (Bm.flips (Bm.nums s) xs))) ∧ Below w.heap.size w w' := by
  have hcv := fun w => run_bytes_of_string (P := Tryd.prog) w 9 26 5 s Tryd.underlying9 Tryd.underlying26 Tryd.underlying5
  have HC : Hid (∀ i, i < len → w.cell? ⟨b, off + i, none⟩ = some (.int .i64 (xs.getD i 0))) := hc
  have HX : Hid (xs.length = len) := hxl
  clear hc hxl
  go_enter Tryd.func14, Tryd.ntmps14
  go_wp2
  clear hcv
  go_loopw [12] (fun c wr => ∃ i : Nat, i ≤ len ∧ c = .int .i64 i ∧ BytesAt wr w.heap.size (Bm.flips (Bm.nums s) (xs.take i)) ∧ Below w.heap.size w wr)
    (fun c _ => len - (intOf c).toNat)
  case atStart => exact ⟨0, Nat.zero_le _, rfl, bytes_made w s _ _ (Nat.le_refl _), ((Below.refl _ _).alloc (Nat.le_refl _) _).drew⟩
  case round =>
    obtain ⟨i, hik, rfl, hrow, hbel⟩ := hrel
    have hL : (Bm.flips (Bm.nums s) (xs.take i)).length = s.size := by rw [Bm.flips_length, Bm.nums_length]
    have HL : Hid ((Bm.flips (Bm.nums s) (xs.take i)).length = s.size) := hL
    clear hL
    by_cases hlt : i < len
    · obtain ⟨p, hp⟩ : ∃ p, p = xs.getD i 0 := ⟨_, rfl⟩
      have hci : wr.cell? ⟨b, off + i, none⟩ = some (.int .i64 p) := by rw [hp]; exact (hbel.cell (by exact hb)).trans (HC.out i hlt)
      have HS : Hid (Bm.flips (Bm.nums s) (xs.take (i + 1)) = Bm.flip1 (Bm.flips (Bm.nums s) (xs.take i)) p) := by
        show Bm.flips (Bm.nums s) (xs.take (i + 1)) = _
        rw [Bm.flips_take _ _ i (by rw [HX.out]; exact hlt), hp]
      clear hp
      by_cases hout : p < 0 ∨ (s.size : Int) ≤ p
      · have R : BytesAt wr w.heap.size (Bm.flips (Bm.nums s) (xs.take (i + 1))) := by rw [HS.out, Bm.flip1_out _ _ (by rw [HL.out]; exact hout)]; exact hrow
        have HR : Hid (BytesAt wr w.heap.size (Bm.flips (Bm.nums s) (xs.take (i + 1)))) := R
        clear R hrow
        by_cases hneg : p < 0
        · clear hout
          go_wp2
          go_roundw
          case rel => exact ⟨i + 1, by omega, by go_num, HR.out, hbel⟩
          case measure => simp [intOf]; omega
        · have hge : (s.size : Int) ≤ p := by omega
          clear hout
          go_wp2
          go_roundw
          case rel => exact ⟨i + 1, by omega, by go_num, HR.out, hbel⟩
          case measure => simp [intOf]; omega
      · obtain ⟨n, rfl⟩ := Int.eq_ofNat_of_zero_le (show 0 ≤ p by omega)
        have hn : n < s.size := by omega
        clear hout
        obtain ⟨x, hx⟩ : ∃ x, x = (Bm.flips (Bm.nums s) (xs.take i)).getD n 0 := ⟨_, rfl⟩
        have hcell : wr.cell? ⟨w.heap.size, n, none⟩ = some (.int .u8 x) := by rw [hx]; exact hrow.2.1 n (by rw [HL.out]; exact hn)
        have hfr : wr.frozen? ⟨w.heap.size, n, none⟩ = false := hrow.2.2 n (by rw [HL.out]; exact hn)
        have HXX : Hid (x = (Bm.flips (Bm.nums s) (xs.take i)).getD n 0) := hx
        clear hx
        have HRW : Hid (BytesAt wr w.heap.size (Bm.flips (Bm.nums s) (xs.take i))) := hrow
        clear hrow
        cases hbx : Bm.isB x with
        | false =>
          have HR : Hid (BytesAt wr w.heap.size (Bm.flips (Bm.nums s) (xs.take (i + 1)))) := by
            show BytesAt wr w.heap.size (Bm.flips (Bm.nums s) (xs.take (i + 1)))
            rw [HS.out, Bm.flip1_not _ _ (by rw [Int.toNat_natCast, ← HXX.out]; exact hbx)]; exact HRW.out
          go_wp2_with (go_at_call 30; refine (isBit_any _ _).mono ?_; rintro e w' ⟨rfl, rfl⟩)
          go_roundw
          case rel => exact ⟨i + 1, by omega, by go_num, HR.out, hbel⟩
          case measure => simp [intOf]; omega
        | true =>
          have HR : Hid (BytesAt (wr.setCell ⟨w.heap.size, n, none⟩ (.int .u8 (bits .xor .u8 x 1))) w.heap.size (Bm.flips (Bm.nums s) (xs.take (i + 1)))) := by
            show BytesAt (wr.setCell ⟨w.heap.size, n, none⟩ (.int .u8 (bits .xor .u8 x 1))) w.heap.size (Bm.flips (Bm.nums s) (xs.take (i + 1)))
            rw [HS.out, Bm.xor_one x hbx, Bm.flip1_in _ n (by rw [HL.out]; exact hn) (by rw [← HXX.out]; exact hbx), ← HXX.out]
            exact HRW.out.set n (by rw [HL.out]; exact hn) _
          go_wp2_with (go_at_call 30; refine (isBit_any _ _).mono ?_; rintro e w' ⟨rfl, rfl⟩)
          go_roundw
          case rel => exact ⟨i + 1, by omega, by go_num, HR.out, hbel.setCell (Nat.le_refl _) _⟩
          case measure => simp [intOf]; omega
    · have hback := hrow.conv (grownCap w s.size 0 5) s.size HL.out.symm
      have : i = len := by omega
      subst this
      go_wp2
      go_ret
      exact ⟨ret_str (by rw [List.take_of_length_le (by rw [HX.out]; exact Nat.le_refl _)]), hbel⟩
set_option maxHeartbeats 400000 in
set_option maxRecDepth 100000 in
theorem flip_none (s : ByteArray) (a : Option Addr) (cap : Nat) (w : World) (hs : s.size ≤ 140737488351232) :
    Calls Tryd.prog 14 #[.string s, .slice a 0 cap] w fun e w' => e = .returned (.string (strOfNums (Bm.flips (Bm.nums s) []))) ∧ Below w.heap.size w w' := by
  have hcv := fun w => run_bytes_of_string (P := Tryd.prog) w 9 26 5 s Tryd.underlying9 Tryd.underlying26 Tryd.underlying5
  go_enter Tryd.func14, Tryd.ntmps14
  go_wp2
  clear hcv
  go_loopw [12] (fun c wr => c = .int .i64 0 ∧ BytesAt wr w.heap.size (Bm.nums s) ∧ Below w.heap.size w wr)
    (fun c _ => 0)
  case atStart => exact ⟨rfl, bytes_made w s _ _ (Nat.le_refl _), ((Below.refl _ _).alloc (Nat.le_refl _) _).drew⟩
  case round =>
    obtain ⟨rfl, hrow, hbel⟩ := hrel
    have hback := hrow.conv (grownCap w s.size 0 5) s.size (Bm.nums_length s).symm
    go_wp2
    go_ret
    exact ⟨rfl, hbel⟩

theorem flip_any (s : ByteArray) (a : Option Addr) (len cap : Nat) (xs : List Int) (w : World) (hs : s.size ≤ 140737488351232) (hl1 : 8 * len ≤ 140737488351232) (hr : Row .i64 w a len cap xs) :
    Calls Tryd.prog 14 #[.string s, .slice a len cap] w fun e w' => e = .returned (.string (strOfNums (Bm.flips (Bm.nums s) xs))) ∧ Below w.heap.size w w' := by
  obtain ⟨h1, h2, h3, h4, h5⟩ := hr
  rcases h5 with ⟨rfl, rfl, rfl⟩ | ⟨⟨x, rfl⟩, rfl⟩ | ⟨b, off, rfl, h0, hlt, hc⟩
  · have : xs = [] := List.eq_nil_of_length_eq_zero h1
    subst this
    exact flip_none s none 0 w hs
  · have : xs = [] := List.eq_nil_of_length_eq_zero h1
    subst this
    exact flip_none s _ cap w hs
  · exact flip_some s b off len cap xs w hs hlt h1 hl1 hc

end Go.Proofs.YtdcohbdndkphnabDoor
