/-
  The walk of the law SourceDenies: it returns true.
-/
import Derived.Test.YtidemohpngkedaaSrcWakes
import Derived.Laws.Bits128
namespace Go.Proofs.Ytidemohpngkedaa
open Go.RowKit
set_option linter.unusedVariables false
set_option linter.unusedSimpArgs false
set_option maxRecDepth 100000

theorem and65535 (n : Int) : bits .and .i64 n 65535 = n % 65536 := by
  have h : (BitVec.ofInt 64 65535).toNat = 2 ^ 16 - 1 := by decide
  have key : (BitVec.ofInt 64 n &&& BitVec.ofInt 64 65535).toNat = (n % ((2 ^ 64 : Nat) : Int)).toNat % 2 ^ 16 := by
    rw [BitVec.toNat_and, BitVec.toNat_ofInt, h, Nat.and_two_pow_sub_one_eq_mod]
  show IntKind.i64.wrap ((BitVec.ofInt 64 n &&& BitVec.ofInt 64 65535).toNat : Nat) = n % 65536
  rw [key, IntKind.wrap_i64]
  omega
/-- behind i requests -/
structure Dn (s : Zm.St) (i : Nat) : Prop where
  ct : Pm.ct s.f 63 = min i 63
  nx : s.nx < 63
  fr : i < 63 → s.nx = i ∧ ∀ p, i ≤ p → p < 63 → s.f p = false
theorem dn_new : Dn Zm.new 0 := by
  refine ⟨?_, by decide, fun _ => ⟨rfl, fun _ _ _ => rfl⟩⟩
  show Pm.ct (fun _ => false) 63 = 0
  first | rfl | decide | kernel_rfl
theorem dn_good {r : Int} (h0 : 0 ≤ r) (h1 : r ≤ 65535) : Zm.good 1 r 127 = true := by
  unfold Zm.good
  rw [Tm.put_good (by unfold Tm.known; omega) (by unfold Tm.fits; omega)]
  rfl
theorem dn_low {s : Zm.St} {i : Nat} {r : Int} (h : Dn s i) (hi : i < 63) (h0 : 0 ≤ r) (h1 : r ≤ 65535) : Zm.message s 1 r 127 = (Zm.grant s, [Zm.say 2 r (64 + (i : Int)), Zm.tell 1 (64 + (i : Int))]) ∧ Dn (Zm.grant s) (i + 1) := by
  obtain ⟨hx, hf⟩ := h.fr hi
  have hfx : s.f s.nx = false := by rw [hx]; exact hf i (Nat.le_refl _) hi
  obtain ⟨a1, a2, a3, a4⟩ := Pm.as_here h.nx hfx
  refine ⟨?_, ?_⟩
  · unfold Zm.message
    rw [dn_good h0 h1, if_pos rfl, if_pos rfl]
    unfold Zm.assign
    rw [if_neg (by decide), if_pos a2, a1, hx]
  · refine ⟨?_, ?_, fun hi1 => ⟨?_, fun p hp hp1 => ?_⟩⟩
    · show Pm.ct (Pm.asF s.f s.nx) 63 = _
      rw [a3, Pm.ct_set s.f h.nx hfx, h.ct]
      omega
    · show Pm.asX s.f s.nx < 63
      rw [a4]; omega
    · show Pm.asX s.f s.nx = i + 1
      rw [a4, hx]; omega
    · show Pm.asF s.f s.nx p = false
      rw [a3, hx, Pm.upd_other _ _ _ (by omega)]
      exact hf p (by omega) hp1
theorem dn_high {s : Zm.St} {i : Nat} {r : Int} (h : Dn s i) (hi : 63 ≤ i) (h0 : 0 ≤ r) (h1 : r ≤ 65535) : Zm.message s 1 r 127 = (Zm.audit s, Zm.say 3 r 127 :: Zm.auditE s) ∧ Dn (Zm.audit s) (i + 1) := by
  have hall : ∀ p, p < 63 → s.f p = true := Pm.full_ct (by rw [h.ct]; omega)
  refine ⟨?_, ⟨?_, h.nx, fun hx => by omega⟩⟩
  · have ha : Pm.asE s.f s.nx = 10 := by
      rcases Pm.as_ways s.f s.nx h.nx with ⟨_, _, e, _⟩ | ⟨p, hp, hfp, _⟩
      · exact e
      · rw [hall p hp] at hfp; cases hfp
    unfold Zm.message
    rw [dn_good h0 h1, if_pos rfl, if_pos rfl]
    unfold Zm.assign
    rw [if_neg (by decide), if_neg (by rw [ha]; decide)]
  · show Pm.ct s.f 63 = _
    rw [h.ct]; omega
set_option maxHeartbeats 4000000 in
theorem walk_SourceDenies (a : Option Addr) (len cap : Nat) (zs : List Int) (w : World) (hr : Row .i64 w a len cap zs) :
    Calls Try.prog 8 #[.slice a len cap] w fun r w' => r = .returned (.bool true) ∧ Below w.heap.size w w' := by
  have hlc : len ≤ cap := hr.2.1
  have hcm : cap ≤ 9223372036854775807 := by have := hr.2.2.1; unfold maxLen at this; exact this
  have HR : Hid (∀ j, j < len → ∃ bb off, a = some ⟨bb, off, none⟩ ∧ bb < w.heap.size ∧ w.cell? ⟨bb, off + j, none⟩ = some (.int .i64 (zs.getD j 0))) := by
    intro j hj
    rcases hr.2.2.2.2 with ⟨_, h0, _⟩ | ⟨_, h0⟩ | ⟨bb, off, e, _, hlt, hc⟩
    · omega
    · omega
    · exact ⟨bb, off, e, hlt, hc j hj⟩
  clear hr
  obtain ⟨m, hm70, hml, hmin⟩ : ∃ m : Nat, m ≤ 70 ∧ m ≤ len ∧ m = min len 70 := ⟨min len 70, by omega, by omega, rfl⟩
  have hmm : (if (70 : Int) < (len : Int) then (70 : Int) else (len : Int)) = (m : Int) := by split <;> omega
  have HMN : Hid (m = min len 70) := hmin
  clear hmin
  have hfr : a.map (·.add 0) = a := by
    cases a with
    | none => rfl
    | some x => simp [Addr.add]
  go_enter Try.func8, Try.ntmps8
  go_wp2_with fail
  refine (owns_new w).mono ?_
  rintro r w1 ⟨C, P, M, rfl, hO⟩
  have HO1 : Hid (∃ s, Dn s 0 ∧ OwnS w.heap.size w w1 C P M s) := ⟨_, dn_new, hO⟩
  clear hO
  obtain ⟨b, hb⟩ : ∃ b, b = w.heap.size := ⟨_, rfl⟩
  rw [← hb] at HO1
  have HC : Hid (b = w.heap.size) := hb
  clear hb
  go_wp2
  clear hfr hmm
  go_loopw [16] (fun c wr => ∃ j : Nat, j ≤ m ∧ c = .int .i64 j ∧ Hid (∃ s, Dn s j ∧ OwnS b w wr C P M s)) (fun c _ => m - (intOf c).toNat)
  case atStart => exact ⟨0, Nat.zero_le _, rfl, HO1⟩
  case round =>
    obtain ⟨j, hjm, rfl, HS⟩ := hrel
    clear HO1
    obtain ⟨s, hd, hO⟩ := HS.out
    have HO := (show Hid (OwnS b w wr C P M s) from hO)
    have HD := (show Hid (Dn s j) from hd)
    clear hd hO HS
    by_cases hin : j < m
    · obtain ⟨bb, off, rfl, hbb, hc⟩ := HR.out j (by omega)
      have hx : wr.cell? ⟨bb, off + j, none⟩ = some (.int .i64 (zs.getD j 0)) := (HO.out.bel.cell (p := ⟨bb, off + j, none⟩) (by rw [HC.out]; exact hbb)).trans hc
      have hbr : bb < wr.heap.size := by have := HO.out.bs; have := HC.out; omega
      generalize zs.getD j 0 = x at hx
      have hand := and65535 x
      obtain ⟨ri, hri⟩ : ∃ ri, x % 65536 = ri := ⟨_, rfl⟩
      have h0 : 0 ≤ ri := by omega
      have h1 : ri ≤ 65535 := by omega
      rw [hri] at hand
      have HM := owns_message 1 ri 127 HO.out
      clear hc hri
      by_cases hj : j < 63
      · obtain ⟨e1, e2⟩ := dn_low HD.out hj h0 h1
        rw [e1] at HM
        have HD2 : Hid (Dn (Zm.grant s) (j + 1)) := e2
        generalize Zm.grant s = s2 at HM HD2
        clear e1 e2 HD HO
        go_wp2_with fail
        refine HM.mono ?_
        rintro r w2 ⟨x2, c2, rfl, ho, -, hO⟩
        have HO2 := (show Hid (OwnS b w w2 C P M s2) from hO)
        obtain ⟨g, rfl, _, hg, hc2, hx2⟩ := ho.own (by simp)
        have z1 : w2.cell? ⟨g, 1, none⟩ = some (.int .i64 2) := hx2 1 _ rfl
        have z2 : w2.cell? ⟨g, 2, none⟩ = some (.int .i64 ri) := hx2 2 _ rfl
        have z3 : w2.cell? ⟨g, 3, none⟩ = some (.int .i64 (64 + (j : Int))) := hx2 3 _ rfl
        have hc3 : 2 ≤ c2 := hc2
        simp only [List.length_cons, List.length_nil] at hc3 ⊢
        have HOb : Hid (∀ o, OwnS b w (w2.alloc o) C P M s2) := fun o => HO2.out.below ((Below.refl _ _).alloc (Nat.le_refl _) _)
        clear HM ho hO hx2 HO2 hc2 hx hbr hand
        go_wp2
        go_roundw
        case rel => exact ⟨j + 1, by omega, by go_num, ⟨s2, HD2.out, HOb.out _⟩⟩
        case measure => simp [intOf]; omega
      · obtain ⟨e1, e2⟩ := dn_high HD.out (by omega) h0 h1
        rw [e1] at HM
        have HD2 : Hid (Dn (Zm.audit s) (j + 1)) := e2
        have HN0 : (Zm.say 3 ri 127 :: Zm.auditE s).length = (Zm.auditE s).length + 1 := rfl
        generalize Zm.audit s = s2 at HM HD2
        generalize Zm.auditE s = le at HM HN0
        clear e1 e2 HD HO
        go_wp2_with fail
        refine HM.mono ?_
        rintro r w2 ⟨x2, c2, rfl, ho, -, hO⟩
        have HO2 := (show Hid (OwnS b w w2 C P M s2) from hO)
        obtain ⟨g, rfl, _, hg, hc2, hx2⟩ := ho.own (by simp)
        have z1 : w2.cell? ⟨g, 1, none⟩ = some (.int .i64 3) := hx2 1 _ rfl
        have z2 : w2.cell? ⟨g, 2, none⟩ = some (.int .i64 ri) := hx2 2 _ rfl
        have z3 : w2.cell? ⟨g, 3, none⟩ = some (.int .i64 127) := hx2 3 _ rfl
        obtain ⟨N, hN⟩ : ∃ N, (Zm.say 3 ri 127 :: le).length = N := ⟨_, rfl⟩
        rw [hN] at hc2 HN0 ⊢
        have n0 : ((N : Int) == 0) = false := by simp; omega
        have n1 : 0 < N := by omega
        have HOb : Hid (∀ o, OwnS b w (w2.alloc o) C P M s2) := fun o => HO2.out.below ((Below.refl _ _).alloc (Nat.le_refl _) _)
        clear HM ho hO hx2 HO2 hx hbr hand HN0 hN
        go_wp2
        go_roundw
        case rel => exact ⟨j + 1, by omega, by go_num, ⟨s2, HD2.out, HOb.out _⟩⟩
        case measure => simp [intOf]; omega
    · have hje : j = m := by omega
      subst hje
      obtain ⟨q, hq, HQ⟩ : ∃ q : Nat, (if (63 : Int) < (len : Int) then (63 : Int) else (len : Int)) = (q : Int) ∧ Hid (Pm.ct s.f 63 = q) := by
        refine ⟨min len 63, by split <;> omega, ?_⟩
        show Pm.ct s.f 63 = min len 63
        rw [HD.out.ct, HMN.out]
        omega
      clear HD hin HMN
      go_wp2_with fail
      refine (swakes_any wr).mono ?_
      rintro r w2 ⟨rfl, hb2⟩
      have HO2 := (show Hid (OwnS b w w2 C P M s) from HO.out.below hb2)
      clear hb2 HO
      have HL := owns_list HO2.out
      rw [HQ.out] at HL
      go_wp2_with fail
      refine HL.mono ?_
      rintro r w3 ⟨x3, c3, rfl, -, hO⟩
      have HB3 : Hid (Below w.heap.size w w3) := by
        have := hO.bel
        rw [HC.out] at this
        exact this
      clear HL hO HO2
      go_wp2
      go_ret
      exact ⟨rfl, HB3.out⟩
end Go.Proofs.Ytidemohpngkedaa
