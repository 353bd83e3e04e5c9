/-
  The walks of made and reads of TopLine. Nothing that was there is turned.
-/
import Derived.Test.YtdcohbdndkphnabDoorFrameGetTwo
import Derived.Test.YtdcohbdndkphnabDoorTopMath
import Derived.Test.YtdcohbdndkphnabDoorRowLaws
import Derived.Test.YtdcohbdndkphnabDoorMaxOf
import Derived.Laws.Bits128
namespace Go.Proofs.YtdcohbdndkphnabDoor
open Go.RowKit
set_option linter.unusedVariables false
set_option linter.unusedSimpArgs false

theorem below_allocs4 (w : World) (o1 o2 o3 o4 : Obj) : Below w.heap.size w ((((w.alloc o1).alloc o2).alloc o3).alloc o4) :=
  ((((Below.refl _ _).alloc (Nat.le_refl _) _).alloc (by simp) _).alloc (by simp; omega) _).alloc (by simp; omega) _

set_option maxHeartbeats 1000000 in
set_option maxRecDepth 100000 in
theorem made_top (kind ns nr : Int) (pf : Bool) (info : ByteArray) (i : Nat) (w : World) (hk : -9223372036854775808 ≤ kind ∧ kind ≤ 9223372036854775807) (hi : info.size ≤ 9223372036854775807) (hm : max 0 kind % 4 = (i : Int)) :
    Calls Tryd.prog 12 #[.agg #[.int .i64 kind, .int .i64 ns, .int .i64 nr, .bool pf, .string info]] w fun e w' => e = .returned (frV (Tm.madeF i ns nr pf info)) ∧ Below w.heap.size w w' := by
  have hmax0 : (0 : Int) ≤ max 0 kind := by omega
  have hmax1 : max 0 kind ≤ 9223372036854775807 := by omega
  have h4 : i = 0 ∨ i = 1 ∨ i = 2 ∨ i = 3 := by omega
  have hns := i64_and127 ns
  have hnr := i64_and127 nr
  clear hk
  have HEE : Hid (ByteArray.empty = ⟨#[]⟩) := rfl
  rcases h4 with rfl | rfl | rfl | rfl
  · have hm' : max 0 kind % 4 = 0 := hm
    clear hm
    go_enter Tryd.func12, Tryd.ntmps12
    go_wp2_with fail
    refine (numbered_any 0 _).mono ?_
    rintro e w' ⟨rfl, rfl⟩
    rw [show Cm.numd 0 = true from rfl]
    go_wp2
    exact bodyPost_ret (v := frV ⟨0, 64, true, 0, pf, ns % 128, nr % 128, info.extract 0 (min (info.size : Int) 100).toNat⟩) (by simp [results, Tryd.results12, go_sem, frV]) rfl ⟨rfl, below_allocs4 _ _ _ _ _⟩
  · have hm' : max 0 kind % 4 = 1 := hm
    clear hm
    go_enter Tryd.func12, Tryd.ntmps12
    go_wp2_with fail
    refine (numbered_any 6 _).mono ?_
    rintro e w' ⟨rfl, rfl⟩
    rw [show Cm.numd 6 = false from rfl]
    go_wp2
    exact bodyPost_ret (v := frV ⟨0, 64, true, 6, pf, 0, 0, info.extract 0 (min (info.size : Int) 100).toNat⟩) (by simp [results, Tryd.results12, go_sem, frV]) rfl ⟨rfl, below_allocs4 _ _ _ _ _⟩
  · have hm' : max 0 kind % 4 = 2 := hm
    clear hm
    go_enter Tryd.func12, Tryd.ntmps12
    go_wp2_with fail
    refine (numbered_any 1 _).mono ?_
    rintro e w' ⟨rfl, rfl⟩
    rw [show Cm.numd 1 = true from rfl]
    go_wp2
    exact bodyPost_ret (v := frV ⟨0, 64, true, 1, pf, 0, nr % 128, ByteArray.empty⟩) (by simp [results, Tryd.results12, go_sem, frV, HEE.out]) rfl ⟨rfl, below_allocs4 _ _ _ _ _⟩
  · have hm' : max 0 kind % 4 = 3 := hm
    clear hm
    go_enter Tryd.func12, Tryd.ntmps12
    go_wp2_with fail
    refine (numbered_any 4 _).mono ?_
    rintro e w' ⟨rfl, rfl⟩
    rw [show Cm.numd 4 = false from rfl]
    go_wp2
    exact bodyPost_ret (v := frV ⟨0, 64, true, 4, pf, 0, 0, ByteArray.empty⟩) (by simp [results, Tryd.results12, go_sem, frV, HEE.out]) rfl ⟨rfl, below_allocs4 _ _ _ _ _⟩

set_option maxHeartbeats 1000000 in
set_option maxRecDepth 100000 in
theorem reads_any (w : World) (hL : Laws6 w) (hm : MaxOk w) : Calls Tryd.prog 11 #[] w fun e w' => e = .returned (.bool true) ∧ Below w.heap.size w w' := by
  obtain ⟨T, hT, hT1, hT2, hT3⟩ := Tm.made_ok 0 (by decide) 0 0 false ⟨#[97]⟩
  have hMd := made_top 0 0 0 false ⟨#[97]⟩ 0 w (by decide) (by decide) (by decide)
  have hI : Tm.madeF 0 0 0 false ⟨#[97]⟩ = ⟨0, 64, true, 0, false, 0, 0, ⟨#[97]⟩⟩ := by
    have : Tm.cut100 ⟨#[97]⟩ = ⟨#[97]⟩ := by decide
    show (⟨0, 64, true, 0, false, 0 % 128, 0 % 128, Tm.cut100 ⟨#[97]⟩⟩ : Xm.Fr) = _
    rw [this]; rfl
  rw [hI] at hT hT3 hMd
  clear hI
  have HT3 : Hid (Xm.getRes T false = (⟨0, 64, true, 0, false, 0, 0, ⟨#[97]⟩⟩, 0)) := hT3
  clear hT3
  simp only [frV] at hMd
  go_enter Tryd.func11, Tryd.ntmps11
  go_wp2_with fail
  refine hMd.mono ?_
  rintro e w1 ⟨rfl, hb1⟩
  clear hMd
  have hP := fput_any 0 64 true 0 false 0 0 ⟨#[97]⟩ false w1 (by decide) (hL.later hb1)
  rw [hT] at hP
  clear hT
  go_wp2_with fail
  refine hP.mono ?_
  rintro e w2 ⟨rfl, hb2⟩
  clear hP
  have hq2 := hb1.trans (hb2.mono hb1.size)
  clear hb1 hb2
  go_wp2_with fail
  refine (new_any _).mono ?_
  rintro e w3 ⟨rfl, hd, hb3⟩
  have hd3 := hd w2.heap.size (Nat.le_refl _)
  have hq3 := hq2.trans (hb3.mono hq2.size)
  clear hd
  go_wp2_with fail
  refine (encode_any T _ (by omega) (hm.later hq3 hm.lt)).mono ?_
  rintro e w4 ⟨rfl, hb4⟩
  have hd4 := hd3.below hb4 (Nat.le_refl _)
  have hs3 := hb3.size
  have hs4 := hb4.size
  have hq4 := hq3.trans (hb4.mono hq3.size)
  have hz := (enc_size T).2
  clear hd3 hb4 hb3 hq3
  go_wp2_with fail
  refine (feed_any _ _ w2.heap.size w2.heap.size _ _ hd4 (by omega) (by omega) (by simp [Hm.init]; omega)).mono ?_
  rintro e w5 ⟨x, v5, rfl, hF⟩
  rw [feed_enc Hm.ready_init, show metB T = [(0, T)] from by rw [metB, if_neg (by omega), if_neg (by omega)]] at hF
  obtain ⟨g, cap, rfl, hc0, hc1, hg1, hg2⟩ := row_one hF.row
  have hq5 := hq4.trans ((hF.below' hd4 (by omega)).mono hq2.size)
  clear hF hd4 hq4 hz
  have hG := fget_any T false w5 (by omega) (hL.later hq5)
  rw [HT3.out] at hG
  simp only [fgetV, frV] at hG
  have tA : ((⟨#[97]⟩ : ByteArray).toList == (⟨#[97]⟩ : ByteArray).toList) = true := str_eq rfl
  go_wp2_with fail
  refine hG.mono ?_
  rintro e w6 ⟨rfl, hb6⟩
  clear hG
  have hq6 := hq5.trans (hb6.mono hq5.size)
  go_wp2
  go_ret
  exact ⟨by simp, hq6.alloc hq6.size _⟩
end Go.Proofs.YtdcohbdndkphnabDoor
