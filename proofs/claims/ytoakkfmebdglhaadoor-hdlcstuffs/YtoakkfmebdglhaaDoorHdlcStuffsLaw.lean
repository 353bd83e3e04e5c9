/-
  The walk of the law HdlcStuffs: it returns true.
-/
import Derived.Test.YtoakkfmebdglhaaDoorRefStuffWalks
import Derived.Test.YtoakkfmebdglhaaDoorWakesWalks
namespace Go.Proofs.YtoakkfmebdglhaaDoor
open Go.RowKit
set_option linter.unusedVariables false
set_option linter.unusedSimpArgs false

set_option maxHeartbeats 1000000 in
theorem walk_HdlcStuffs (b s : ByteArray) (w : World) (hb : b.size ≤ 140737488351232) (hs : s.size ≤ 140737488351232) (hm : MaxOk w) :
    Calls Tryd.prog 3 #[.string b, .string s] w fun e w' => e = .returned (.bool true) ∧ Below w.heap.size w w' := by
  go_enter Tryd.func3, Tryd.ntmps3
  go_wp2_with fail
  go_region
  go_wp2_with fail
  obtain ⟨a, hA⟩ : ∃ a, a = b.extract 0 (min (b.size : Int) 5000).toNat := ⟨_, rfl⟩
  have ha : a.size ≤ 5000 := by rw [hA]; simp; omega
  rw [← hA]
  clear hA
  obtain ⟨c, hC⟩ : ∃ c, c = s.extract 0 (min (s.size : Int) 500).toNat := ⟨_, rfl⟩
  have hc : c.size ≤ 500 := by rw [hC]; simp; omega
  rw [← hC]
  clear hC
  have hmd : MaxOk w.drew := hm
  refine (unstuff_any a _ (by omega) hmd).mono ?_
  rintro e w1 ⟨rfl, hb1⟩
  have hq1 : Below w.heap.size w w1 := (Below.refl w.heap.size w).drew.trans hb1
  have hm1 := hm.later hq1 hm.lt
  clear hb1 hmd
  obtain ⟨U, hU⟩ : ∃ U, U = unstRes (Bm.nums a) := ⟨_, rfl⟩
  have hru := ref_unstuff_any a w1 (by omega)
  rw [← hU] at hru ⊢
  clear hU
  go_wp2_with fail
  refine hru.mono ?_
  rintro e w2 ⟨rfl, hb2⟩
  have hq2 := hq1.trans (hb2.mono hq1.size)
  have hm2 := hm.later hq2 hm.lt
  clear hru hb2 hq1 hm1
  go_wp2_with fail
  refine (wakes_any _ hm2).mono ?_
  rintro e w3 ⟨rfl, hb3⟩
  have hq3 := hq2.trans (hb3.mono hq2.size)
  have hm3 := hm.later hq3 hm.lt
  clear hb3 hq2 hm2
  go_wp2_with fail
  refine (stuff_any a _ (by omega) hm3).mono ?_
  rintro e w4 ⟨rfl, hb4⟩
  have hq4 := hq3.trans (hb4.mono hq3.size)
  have hm4 := hm.later hq4 hm.lt
  clear hb4 hq3 hm3
  go_wp2_with fail
  refine (ref_stuff_any a _ (by omega)).mono ?_
  rintro e w5 ⟨rfl, hb5⟩
  have hq5 := hq4.trans (hb5.mono hq4.size)
  have hm5 := hm.later hq5 hm.lt
  clear hb5 hq4 hm4
  go_wp2_with fail
  refine (encode_any c _ (by omega) hm5).mono ?_
  rintro e w6 ⟨rfl, hb6⟩
  have hq6 := hq5.trans (hb6.mono hq5.size)
  clear hb6 hq5 hm5
  go_wp2_with fail
  refine (ref_encode_any c _ (by omega)).mono ?_
  rintro e w7 ⟨rfl, hb7⟩
  have hq7 := hq6.trans (hb7.mono hq6.size)
  go_wp2
  go_ret
  exact ⟨by simp, hq7⟩
end Go.Proofs.YtoakkfmebdglhaaDoor
