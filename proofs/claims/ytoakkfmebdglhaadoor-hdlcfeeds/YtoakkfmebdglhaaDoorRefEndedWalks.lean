/-
  The walk of the document's ended: what a frame's bits are. Nothing that was there is turned.
-/
import Derived.Test.YtoakkfmebdglhaaDoorRefContWalks
namespace Go.Proofs.YtoakkfmebdglhaaDoor
open Go.RowKit
set_option linter.unusedVariables false
set_option linter.unusedSimpArgs false

def refEv (l : List Int) : Int × ByteArray × Bool :=
  if Hm.refCont l = [] then (0, ByteArray.empty, false) else if 2128 < (Hm.refCont l).length ∨ (Hm.refCont l).length % 8 ≠ 0 then (2, ByteArray.empty, true) else (0, strOfNums (Bm.octs (Hm.refCont l)), true)
theorem refEv_ended (l : List Int) : Hm.endedE ((Hm.raw 0 l).take 2135) = if (refEv l).2.2 = true then [((refEv l).1, (refEv l).2.1)] else [] := by
  unfold refEv
  by_cases h0 : Hm.refCont l = []
  · rw [if_pos h0, Hm.ended_ref_none l h0]; rfl
  · rw [if_neg h0]
    by_cases hb : 2128 < (Hm.refCont l).length ∨ (Hm.refCont l).length % 8 ≠ 0
    · rw [if_pos hb, Hm.ended_ref_bad l hb]; rfl
    · rw [if_neg hb, Hm.ended_ref l h0 hb]; rfl

theorem two_set {w w1 : World} (hq : Below w.heap.size w w1) (k : Int) (s : ByteArray) : Below w.heap.size w ((w1.setCell ⟨w.heap.size, 0, none⟩ (.int .i64 k)).setCell ⟨w.heap.size, 1, none⟩ (.string s)) :=
  (hq.setCell (p := ⟨w.heap.size, 0, none⟩) (Nat.le_refl _) _).setCell (p := ⟨w.heap.size, 1, none⟩) (Nat.le_refl _) _

set_option maxHeartbeats 1000000 in
theorem ref_ended_any (xs : List Int) (base : Nat) (v : Value) (w : World) (hl : xs.length ≤ 1000000) (h : w.ownsRow base 5 1 v xs.length (xs.map (Value.int .u8))) :
    Calls Tryd.prog 31 #[v] w fun e w' => e = .returned (.tuple #[.agg #[.int .i64 (refEv xs).1, .string (refEv xs).2.1], .bool (refEv xs).2.2]) ∧ Below w.heap.size w w' := by
  have hcl : (Hm.refCont xs).length ≤ 1000000 := by have := Hm.refCont_length xs; have := Hm.raw_length 0 xs; omega
  have hbit : Hm.bit (Hm.refCont xs) := by
    unfold Hm.refCont
    split
    · exact Hm.bit_nil
    · exact fun x hx => Hm.raw_bit 0 xs x (List.mem_of_mem_take hx)
  have HE : Hid (refEv xs = if Hm.refCont xs = [] then (0, ByteArray.empty, false) else if 2128 < (Hm.refCont xs).length ∨ (Hm.refCont xs).length % 8 ≠ 0 then (2, ByteArray.empty, true) else (0, strOfNums (Bm.octs (Hm.refCont xs)), true)) := rfl
  go_enter Tryd.func31, Tryd.ntmps31
  go_wp2_with fail
  refine (ref_content_any xs base v _ hl (h.alloc _)).mono ?_
  rintro e w1 ⟨x, rfl, hown, hb⟩
  obtain ⟨c, hc⟩ : ∃ c, c = Hm.refCont xs := ⟨_, rfl⟩
  rw [← hc] at hown hcl hbit HE
  clear hc
  obtain ⟨a, cap, hv⟩ : ∃ a cap, x = .slice a c.length cap := by
    rcases hown.2 with ⟨rfl, h0⟩ | ⟨g, cap, cur, rfl, _⟩
    · exact ⟨none, 0, by rw [h0]⟩
    · exact ⟨_, cap, rfl⟩
  subst hv
  have hq : Below w.heap.size w w1 := ((Below.refl w.heap.size w).alloc (Nat.le_refl _) _).trans (hb.mono (by simp))
  have k0 : w1.cell? ⟨w.heap.size, 0, none⟩ = some (.int .i64 0) := (hb.cell (p := ⟨w.heap.size, 0, none⟩) (by simp)).trans (by simp)
  have k1 : w1.cell? ⟨w.heap.size, 1, none⟩ = some (.string ⟨#[]⟩) := (hb.cell (p := ⟨w.heap.size, 1, none⟩) (by simp)).trans (by simp)
  have f0 : w1.frozen? ⟨w.heap.size, 0, none⟩ = false := (hb.frozen (p := ⟨w.heap.size, 0, none⟩) (by simp)).trans (by simp)
  have f1 : w1.frozen? ⟨w.heap.size, 1, none⟩ = false := (hb.frozen (p := ⟨w.heap.size, 1, none⟩) (by simp)).trans (by simp)
  have hsz : w.heap.size < w1.heap.size := by have := hb.size; simp at this; omega
  by_cases h0 : c = []
  · have HV : Hid (refEv xs = (0, ByteArray.empty, false)) := by show _ = _; rw [HE.out, if_pos h0]
    have t0 : c.length = 0 := by rw [h0]; rfl
    have R := two_set hq 0 ⟨#[]⟩
    clear h0
    go_wp2
    exact bodyPost_ret (v := .tuple #[.agg #[.int .i64 0, .string ⟨#[]⟩], .bool false]) (by simp [results, Tryd.results31, go_sem, k0, k1]) rfl ⟨by rw [HV.out]; rfl, R⟩
  · have hp : 0 < c.length := List.length_pos_iff.2 h0
    have t0 : ((c.length : Int) == 0) = false := by simp; omega
    obtain ⟨g, cap', hv2⟩ : ∃ g cap', Value.slice a c.length cap = .slice (some ⟨g, 0, none⟩) c.length cap' := by
      rcases hown.2 with ⟨_, h0'⟩ | ⟨g, cap', cur, h', _⟩
      · omega
      · exact ⟨g, cap', h'⟩
    rw [hv2] at hown
    rw [hv2]
    clear hv2
    by_cases hbad : 2128 < c.length ∨ c.length % 8 ≠ 0
    · have HV : Hid (refEv xs = (2, ByteArray.empty, true)) := by show _ = _; rw [HE.out, if_neg h0, if_pos hbad]
      have R := two_set hq 2 ⟨#[]⟩
      by_cases hbig : 2128 < c.length
      · have tb : (2128 : Int) < (c.length : Int) := by omega
        clear h0 hbad hbig
        go_wp2
        exact bodyPost_ret (v := .tuple #[.agg #[.int .i64 2, .string ⟨#[]⟩], .bool true]) (by simp [results, Tryd.results31, go_sem, k0, k1]) rfl ⟨by rw [HV.out]; rfl, R⟩
      · have tb : ¬ (2128 : Int) < (c.length : Int) := by omega
        have t8 : ((c.length : Int) % 8 != 0) = true := by simp; omega
        clear h0 hbad hbig
        go_wp2
        exact bodyPost_ret (v := .tuple #[.agg #[.int .i64 2, .string ⟨#[]⟩], .bool true]) (by simp [results, Tryd.results31, go_sem, k0, k1]) rfl ⟨by rw [HV.out]; rfl, R⟩
    · have HV : Hid (refEv xs = (0, strOfNums (Bm.octs c), true)) := by show _ = _; rw [HE.out, if_neg h0, if_neg hbad]
      have tb : ¬ (2128 : Int) < (c.length : Int) := by omega
      have t8 : ((c.length : Int) % 8 != 0) = false := by simp; omega
      have hcv := conv_own hown
      have hz : (strOfNums c).size = c.length := strOfNums_size c
      have hnums : Bm.nums (strOfNums c) = c := Bm.nums_str _ (fun x hx => by rcases hbit x hx with h | h <;> omega)
      have hgood : Bm.goodN (Bm.nums (strOfNums c)) = true := by
        rw [hnums, Bm.goodN, List.all_eq_true]
        intro x hx
        exact (Bm.isB_iff x).2 (hbit x hx)
      have HO : octRes (strOfNums c) = (strOfNums (Bm.octs c), 0) := by
        rw [octRes, if_neg (by rw [hgood]; decide), hz, if_neg (by omega), hnums]
      have hoc := ref_octets_any (strOfNums c) w1 (by rw [hz]; omega)
      rw [HO] at hoc
      clear h0 hbad HO hgood hnums hz hbit
      go_wp2_with fail
      refine hoc.mono ?_
      rintro e w2 ⟨rfl, hb2⟩
      have hq2 : Below w.heap.size w w2 := hq.trans (hb2.mono (by omega))
      have R := two_set hq2 0 (strOfNums (Bm.octs c))
      have j0 := (hb2.cell (p := ⟨w.heap.size, 0, none⟩) hsz).trans k0
      have j1 := (hb2.cell (p := ⟨w.heap.size, 1, none⟩) hsz).trans k1
      have e0 := (hb2.frozen (p := ⟨w.heap.size, 0, none⟩) hsz).trans f0
      have e1 := (hb2.frozen (p := ⟨w.heap.size, 1, none⟩) hsz).trans f1
      have hsz2 : w.heap.size < w2.heap.size := by have := hb2.size; omega
      clear hoc hcv hown
      go_wp2
      exact bodyPost_ret (v := .tuple #[.agg #[.int .i64 0, .string (strOfNums (Bm.octs c))], .bool true]) (by simp [results, Tryd.results31, go_sem, j0, j1]) rfl ⟨by rw [HV.out], R⟩
end Go.Proofs.YtoakkfmebdglhaaDoor
