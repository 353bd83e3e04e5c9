/-
  The walk of the law UserNil: it returns true.
-/
import Derived.Test.YtdnhcpkpajbhoaaUsrWakes
namespace Go.Proofs.Ytdnhcpkpajbhoaa
open Go.RowKit
set_option linter.unusedVariables false
set_option linter.unusedSimpArgs false
set_option maxRecDepth 100000

/-- the call's data in block L -/
structure At6 (w : World) (L : Nat) (d ty ri ai : Int) (own mine : Bool) : Prop where
  lt : L < w.heap.size
  c0 : w.cell? ⟨L, 0, none⟩ = some (.int .i64 d)
  c1 : w.cell? ⟨L, 1, none⟩ = some (.int .i64 ty)
  c2 : w.cell? ⟨L, 2, none⟩ = some (.int .i64 ri)
  c3 : w.cell? ⟨L, 3, none⟩ = some (.int .i64 ai)
  c4 : w.cell? ⟨L, 4, none⟩ = some (.bool own)
  c5 : w.cell? ⟨L, 5, none⟩ = some (.bool mine)
theorem At6.on {w w' : World} {L : Nat} {d ty ri ai : Int} {own mine : Bool} (h : At6 w L d ty ri ai own mine) (hb : Below w.heap.size w w') : At6 w' L d ty ri ai own mine :=
  ⟨Nat.lt_of_lt_of_le h.lt hb.size, (hb.cell (p := ⟨L, 0, none⟩) h.lt).trans h.c0, (hb.cell (p := ⟨L, 1, none⟩) h.lt).trans h.c1, (hb.cell (p := ⟨L, 2, none⟩) h.lt).trans h.c2, (hb.cell (p := ⟨L, 3, none⟩) h.lt).trans h.c3, (hb.cell (p := ⟨L, 4, none⟩) h.lt).trans h.c4, (hb.cell (p := ⟨L, 5, none⟩) h.lt).trans h.c5⟩
def Um.nl : Um.St := Um.new 1 true [] 0
theorem unl_a : (Um.want Um.nl).2 = [Um.say 1 0 127, Um.tell 4 0] := by first | rfl | kernel_rfl
theorem unl_n : Um.wantN Um.nl = 0 := by first | rfl | kernel_rfl
set_option maxHeartbeats 4000000 in
theorem walk_UserNil (d ty ri ai : Int) (own mine : Bool) (w : World) (i1 : -9223372036854775808 ≤ d ∧ d ≤ 9223372036854775807) (i2 : -9223372036854775808 ≤ ty ∧ ty ≤ 9223372036854775807) (i3 : -9223372036854775808 ≤ ri ∧ ri ≤ 9223372036854775807) (i4 : -9223372036854775808 ≤ ai ∧ ai ≤ 9223372036854775807) :
    Calls Try.prog 6 #[.agg #[.int .i64 d, .int .i64 ty, .int .i64 ri, .int .i64 ai, .bool own, .bool mine]] w fun r w' => r = .returned (.bool true) ∧ Below w.heap.size w w' := by
  clear i1 i2 i3 i4
  obtain ⟨W, hW⟩ : ∃ W, W = w.alloc (.cells #[.int .i64 d, .int .i64 ty, .int .i64 ri, .int .i64 ai, .bool own, .bool mine] 34) := ⟨_, rfl⟩
  have HB0 : Hid (Below w.heap.size w W) := by rw [hW]; exact (Below.refl _ _).alloc (Nat.le_refl _) _
  have hA : At6 W w.heap.size d ty ri ai own mine := by
    rw [hW]
    exact ⟨by simp, by simp, by simp, by simp, by simp, by simp, by simp⟩
  have HA0 : Hid (At6 W w.heap.size d ty ri ai own mine) := hA
  clear hA
  go_enter Try.func6, Try.ntmps6
  go_wp2_with fail
  rw [← hW]
  refine (uwant_nil W).mono ?_
  rintro r w1 ⟨rfl, rfl⟩
  clear hW
  go_wp2_with fail
  refine (uverify_nil W).mono ?_
  rintro r w1 ⟨rfl, rfl⟩
  go_wp2_with fail
  refine (udrop_nil W).mono ?_
  rintro r w1 ⟨rfl, rfl⟩
  go_wp2_with fail
  refine (unew_any 1 true W.heap.size none [] 0 W (fun h => by cases h) (fun B h => by cases h) (fun h => by cases h) (fun _ => rfl)).mono ?_
  rintro r w2 ⟨C, rfl, hU, hb, hC⟩
  have HB2 : Hid (Below w.heap.size w w2) := HB0.out.trans (hb.mono HB0.out.size)
  have HA2 : Hid (At6 w2 w.heap.size d ty ri ai own mine) := HA0.out.on hb
  have HWn := uwant_any hU
  rw [show Um.new 1 true [] 0 = Um.nl from rfl, unl_a, unl_n] at HWn
  have HC : Hid (w.heap.size < C ∧ C = W.heap.size ∧ W.heap.size ≤ w2.heap.size) := ⟨by have := HA0.out.lt; omega, hC, hb.size⟩
  clear hU hb hC HB0 HA0
  go_wp2_with fail
  refine HWn.mono ?_
  rintro r w3 ⟨v, rfl, ho, hm⟩
  have hsz : w.heap.size ≤ w2.heap.size := HB2.out.size
  obtain ⟨hc1, hc2, hc3⟩ := HC.out
  have HB3 : Hid (Below w.heap.size w w3) := HB2.out.trans (hm.2.below hsz (fun k hk => by rcases hk with rfl | rfl <;> omega))
  have hA2 := HA2.out
  have hnk : ¬ (w.heap.size = C ∨ w.heap.size = W.heap.size) := by omega
  have hk := hm.2
  have HA3 : Hid (At6 w3 w.heap.size d ty ri ai own mine) := ⟨Nat.lt_of_lt_of_le hA2.lt hk.size, (hk.cell (p := ⟨w.heap.size, 0, none⟩) hA2.lt hnk).trans hA2.c0, (hk.cell (p := ⟨w.heap.size, 1, none⟩) hA2.lt hnk).trans hA2.c1, (hk.cell (p := ⟨w.heap.size, 2, none⟩) hA2.lt hnk).trans hA2.c2, (hk.cell (p := ⟨w.heap.size, 3, none⟩) hA2.lt hnk).trans hA2.c3, (hk.cell (p := ⟨w.heap.size, 4, none⟩) hA2.lt hnk).trans hA2.c4, (hk.cell (p := ⟨w.heap.size, 5, none⟩) hA2.lt hnk).trans hA2.c5⟩
  obtain ⟨a, cap, rfl⟩ := ho.form
  obtain ⟨g, rfl, _, hg, hcap, hx⟩ := ho.own (by simp)
  have HG3 : Hid (w3.cell? ⟨g, 2, none⟩ = some (.int .i64 0)) := hx 2 _ rfl
  have HGl : Hid (g < w3.heap.size) := hg
  rw [show ([Um.say 1 0 127, Um.tell 4 0] : List Um.Ef).length = 2 from rfl] at hcap ⊢
  clear ho hm hk hx hA2 hnk hc1 hc2 hc3 HWn HC HA2 HB2 hg hsz
  go_wp2_with fail
  refine (uwakes_any w3).mono ?_
  rintro r w4 ⟨rfl, hb⟩
  have HB4 : Hid (Below w.heap.size w w4) := HB3.out.trans (hb.mono HB3.out.size)
  have HA4 := HA3.out.on hb
  have HG4 : Hid (w4.cell? ⟨g, 2, none⟩ = some (.int .i64 0) ∧ g < w4.heap.size) := ⟨(hb.cell (p := ⟨g, 2, none⟩) HGl.out).trans HG3.out, Nat.lt_of_lt_of_le HGl.out hb.size⟩
  have a0 := HA4.c0
  have a1 := HA4.c1
  have a2 := HA4.c2
  have a3 := HA4.c3
  have a4 := HA4.c4
  have a5 := HA4.c5
  have al := HA4.lt
  clear hb HB3 HA3 HG3 HGl HA4
  go_wp2_with fail
  refine (umk_any none 0 0 0 false d ty ri ai own mine w4 (fun w5 _ => uview_nil w5)).mono ?_
  rintro r w5 ⟨rfl, hb⟩
  have HB5 : Hid (Below w.heap.size w w5) := HB4.out.trans (hb.mono HB4.out.size)
  have HG5 : Hid (w5.cell? ⟨g, 2, none⟩ = some (.int .i64 0) ∧ g < w5.heap.size) := ⟨(hb.cell (p := ⟨g, 2, none⟩) HG4.out.2).trans HG4.out.1, Nat.lt_of_lt_of_le HG4.out.2 hb.size⟩
  clear hb HB4 HG4 a0 a1 a2 a3 a4 a5 al
  go_wp2_with fail
  refine (umessage_nil _ _ _ w5).mono ?_
  rintro r w6 ⟨rfl, hb⟩
  have HB6 : Hid (Below w.heap.size w w6) := HB5.out.trans (hb.mono HB5.out.size)
  have HG6 : Hid (w6.cell? ⟨g, 2, none⟩ = some (.int .i64 0) ∧ g < w6.heap.size) := ⟨(hb.cell (p := ⟨g, 2, none⟩) HG5.out.2).trans HG5.out.1, Nat.lt_of_lt_of_le HG5.out.2 hb.size⟩
  clear hb HB5 HG5
  go_wp2_with fail
  refine (utimeout_nil w6).mono ?_
  rintro r w7 ⟨rfl, rfl⟩
  go_wp2_with fail
  refine (uview_nil w6).mono ?_
  rintro r w7 ⟨rfl, hb⟩
  have HB7 : Hid (Below w.heap.size w w7) := HB6.out.trans (hb.mono HB6.out.size)
  have hg7 := (hb.cell (p := ⟨g, 2, none⟩) HG6.out.2).trans HG6.out.1
  have hgl : g < w7.heap.size := Nat.lt_of_lt_of_le HG6.out.2 hb.size
  clear hb HB6 HG6
  go_wp2
  go_ret
  exact ⟨rfl, HB7.out⟩
end Go.Proofs.Ytdnhcpkpajbhoaa
