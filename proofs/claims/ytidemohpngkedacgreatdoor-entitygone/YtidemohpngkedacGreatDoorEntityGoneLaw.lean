/-
  The law EntityGone's walk: behind Remove an entity is as a new one.
-/
import Derived.Test.YtidemohpngkedacGreatDoorEntAfter
namespace Go.Proofs.YtidemohpngkedacGreatDoor
open Go.RowKit
set_option linter.unusedVariables false
set_option maxRecDepth 100000
set_option linter.unusedSimpArgs false

theorem open_EntityGone1 {H : Type} {enc : TypeId × Value → H} {w : World} {a : Option Addr} {len cap : Nat} {d : DataW H} {p : List MemPlace}
    (h : DataW.Trod enc Tryz.prog w 0 (fun _ => true) true 22 (.slice a len cap) d p) : ∃ ps, RowE w a len cap ps := open_actse h
/-- all that Remove leaves -/
structure Em.Gone (s cd : Int) (l : List Em.Eff) (e : Em.St) : Prop where
  s0 : 1 ≤ s
  s1 : s ≤ 8
  c1 : s = 1 → cd = 11
  c0 : s ≠ 1 → cd = 0
  ks : ∀ i, i < l.length → (l.getD i eff0).kind ≠ 0 ∧ (l.getD i eff0).kind ≠ 9
  dn : Em.downs l = if s = 3 ∨ 5 ≤ s then 1 else 0
  st : e.state = 1
  tei : e.tei = -1
  t2 : e.t200 = false
  t3 : e.t203 = false
  us : e.units.length = 0
  sn : e.fl.sn = 0
  fl : e.fl.L.length = 0
theorem Em.gone_all {e : Em.St} (ho : Em.Ok e) (ht : Em.Tm e) (hu : Em.U1 e) : Em.Gone e.state (Em.remove e).2 (Em.remove e).1.out (Em.rest (Em.remove e).1) := by
  obtain ⟨g1, g2, g3, g4, g5⟩ := Em.gone ho
  have hks : ∀ i, i < (Em.remove e).1.out.length → ((Em.remove e).1.out.getD i eff0).kind ≠ 0 ∧ ((Em.remove e).1.out.getD i eff0).kind ≠ 9 := by
    intro i hi
    refine g3 _ ?_
    simp [List.getD, List.getElem?_eq_getElem hi]
  by_cases h1 : e.state = 1
  · have hr : Em.remove e = ({ e with out := [] }, 11) := by
      unfold Em.remove
      simp only []
      rw [if_pos h1]
    have hl := ho.ql (Or.inl (by omega))
    have hsn := ho.fl.sl
    refine ⟨ho.s0, ho.s1, fun h => (g1 h).1, g2, hks, g4, ?_, ?_, ?_, ?_, ?_, ?_, ?_⟩
    all_goals rw [hr]
    · exact h1
    · exact ho.lo (by omega)
    · exact (ht.a (by omega)).1
    · exact (ht.a (by omega)).2
    · show e.units.length = 0
      rw [hu h1]; rfl
    · show e.fl.sn = 0
      rw [hl] at hsn
      simp at hsn
      omega
    · show e.fl.L.length = 0
      rw [hl]; rfl
  · obtain ⟨q1, q2, q3, q4, q5⟩ := g5 h1
    have htm := Em.remove_tm ht
    refine ⟨ho.s0, ho.s1, fun h => (g1 h).1, g2, hks, g4, q1, q2, (htm.a (by omega)).1, (htm.a (by omega)).2, ?_, q4, ?_⟩
    · show (Em.remove e).1.units.length = 0
      rw [q3]; rfl
    · show (Em.remove e).1.fl.L.length = 0
      rw [q5]; rfl
theorem Em.downs_take (l : List Em.Eff) (i : Nat) (hi : i < l.length) : Em.downs (l.take (i + 1)) = Em.downs (l.take i) + if (l.getD i eff0).kind = 3 ∨ (l.getD i eff0).kind = 4 then 1 else 0 := by
  rw [List.take_add_one, List.getElem?_eq_getElem hi, Em.downs_append]
  congr 1
  have : l.getD i eff0 = l[i] := by simp [List.getD, List.getElem?_eq_getElem hi]
  rw [this]
  unfold Em.downs
  simp only [Option.toList, List.filter_cons, List.filter_nil]
  by_cases h3 : l[i].kind = 3
  · simp [h3]
  · by_cases h4 : l[i].kind = 4
    · simp [h4]
    · simp [h3, h4]
theorem Em.downs_le (l : List Em.Eff) (i : Nat) : Em.downs (l.take i) ≤ Em.downs l := by
  have h := Em.downs_append (l.take i) (l.drop i)
  rw [List.take_append_drop] at h
  omega
theorem efield0 (W : World) (a b c d e f g h i j k l m n o : Value) : (Instr.field 31 (.agg #[a, b, c, d, e, f, g, h, i, j, k, l, m, n, o]) 0).run Tryz.prog W = .ok a W := by kernel_rfl
set_option maxHeartbeats 8000000 in
theorem walk_EntityGone (k : Int) (a : Option Addr) (len cap : Nat) (ps : List ActE) (w : World) (hk : -9223372036854775808 ≤ k ∧ k ≤ 9223372036854775807) (hr : RowE w a len cap ps) (hWy : Ways w) :
    Calls Tryz.prog 3 #[.int .i64 k, .slice a len cap] w fun r w' => r = .returned (.bool true) ∧ Below w.heap.size w w' := by
  have HWy : Hid (Ways w) := hWy
  have HAF := after_any k 3 a len cap ps w hk hr hWy
  have hU1 : Em.U1 (Em.run (Em.new k 3) (ps.take (capN len 60))) := Em.run_u1 _ (fun q hq => hr.oks q (List.mem_of_mem_take hq)) (Em.new_ok k 3 hk.1 hk.2) (Em.new_tm k 3) (fun _ => rfl)
  have HU1 : Hid (Em.U1 (Em.run (Em.new k 3) (ps.take (capN len 60)))) := hU1
  generalize Em.run (Em.new k 3) (ps.take (capN len 60)) = e at HAF HU1
  clear hr hWy hk hU1
  go_enter Tryz.func3, Tryz.ntmps3
  go_wp2_with fail
  refine HAF.mono ?_
  rintro r w1 ⟨C, R, o, rfl, hP⟩
  have HE1 : Hid (EH w.heap.size w w1 (fun _ => False) C e) := eh_pr hP
  clear hP HAF
  obtain ⟨b, hb⟩ : ∃ b, b = w.heap.size := ⟨_, rfl⟩
  rw [← hb] at HE1
  have HC : Hid (b = w.heap.size) := hb
  clear hb
  have HV := eh_view HE1.out
  unfold evV at HV
  go_wp2_with fail
  refine HV.mono ?_
  rintro r w2 ⟨rfl, hb2⟩
  have hfv := efield0 w2
  have HE2 : Hid (EH b w w2 (fun _ => False) C e) := HE1.out.same hb2
  clear hb2 HE1 HV
  have HR := eh_remove HE2.out
  have HG : Hid (Em.Gone e.state (Em.remove e).2 (Em.remove e).1.out (Em.rest (Em.remove e).1)) := Em.gone_all (EH.ok HE2.out) (EH.tm HE2.out) HU1.out
  generalize (Em.remove e).2 = cd at HR HG
  generalize (Em.rest (Em.remove e).1) = e1 at HR HG
  generalize (Em.remove e).1.out = l at HR HG
  generalize e.state = s at HG ⊢
  go_wp2_with fail
  refine HR.mono ?_
  rintro r w3 ⟨x, cp, rfl, ho, hE, -⟩
  have HE3 : Hid (EH b w w3 (fun _ => False) C e1) := hE.weak (fun _ hk => hk.elim)
  have HO3 : Hid (w3.ownsRow b 44 11 (.slice x l.length cp) l.length (effsL l)) := owns_low ho HE2.out.bs
  have hle : l.length ≤ cp := owns_le ho
  have hmx : cp ≤ 9223372036854775807 := owns_cap ho
  clear ho hE HR HE2 hfv HU1
  obtain ⟨N, hN⟩ : ∃ N, N = l.length := ⟨_, rfl⟩
  rw [← hN] at HO3 hle ⊢
  have HN : Hid (N = l.length) := hN
  clear hN
  go_wp2
  go_loopw [10, 31] (fun d c wr => ∃ j : Nat, j ≤ N ∧ d = .int .i64 ((Em.downs (l.take j) : Nat) : Int) ∧ c = .int .i64 j ∧ Hid (EH b w wr (fun _ => False) C e1) ∧ Hid (wr.ownsRow b 44 11 (.slice x N cp) N (effsL l))) (fun _ c _ => N - (intOf c).toNat)
  case atStart => exact ⟨0, Nat.zero_le _, rfl, rfl, HE3, HO3⟩
  case round =>
    obtain ⟨j, hjN, rfl, rfl, HE, HO⟩ := hrel
    clear HE3 HO3
    by_cases hin : j < N
    · obtain ⟨g, rfl, hg, hat⟩ := eff_row (w := wr) (b := b) (x := x) (cap := cp) (l := l) (by have := HO.out; rw [HN.out] at this; exact this) j (by rw [← HN.out]; exact hin)
      have hdt := Em.downs_take l j (by rw [← HN.out]; exact hin)
      have hdl := Em.downs_le l j
      have hd1 : Em.downs l ≤ 1 := by rw [(HG.out).dn]; split <;> omega
      obtain ⟨k0, k9⟩ := (HG.out).ks j (by rw [← HN.out]; exact hin)
      generalize l.getD j eff0 = q at hat hdt k0 k9
      have z0 : wr.cell? ⟨g, j * 11 + 0, none⟩ = some (.int .i64 q.kind) := hat 0 _ rfl
      have z1 : wr.cell? ⟨g, j * 11 + 1, none⟩ = some (.int .i64 q.f.sapi) := hat 1 _ rfl
      have z2 : wr.cell? ⟨g, j * 11 + 2, none⟩ = some (.int .i64 q.f.tei) := hat 2 _ rfl
      have z3 : wr.cell? ⟨g, j * 11 + 3, none⟩ = some (.bool q.f.c) := hat 3 _ rfl
      have z4 : wr.cell? ⟨g, j * 11 + 4, none⟩ = some (.int .i64 q.f.k) := hat 4 _ rfl
      have z5 : wr.cell? ⟨g, j * 11 + 5, none⟩ = some (.bool q.f.pf) := hat 5 _ rfl
      have z6 : wr.cell? ⟨g, j * 11 + 6, none⟩ = some (.int .i64 q.f.ns) := hat 6 _ rfl
      have z7 : wr.cell? ⟨g, j * 11 + 7, none⟩ = some (.int .i64 q.f.nr) := hat 7 _ rfl
      have z8 : wr.cell? ⟨g, j * 11 + 8, none⟩ = some (.string q.f.info) := hat 8 _ rfl
      have z9 : wr.cell? ⟨g, j * 11 + 9, none⟩ = some (.string q.data) := hat 9 _ rfl
      have z10 : wr.cell? ⟨g, j * 11 + 10, none⟩ = some (.int .i64 q.timer) := hat 10 _ rfl
      simp only [Nat.add_zero] at z0
      have HEb : Hid (∀ o, EH b w (wr.alloc o) (fun _ => False) C e1) := fun o => HE.out.same ((Below.refl _ _).alloc (Nat.le_refl _) _)
      have HOb : Hid (∀ o, (wr.alloc o).ownsRow b 44 11 (.slice (some ⟨g, 0, none⟩) N cp) N (effsL l)) := fun o => owns_bel HO.out ((Below.refl _ _).alloc (Nat.le_refl _) _)
      have hd1' : Em.downs (l.take j) ≤ 1 := by omega
      clear hat HE HO hdl hd1
      have n0 : (q.kind == 0) = false := by simpa using k0
      have n9 : (q.kind == 9) = false := by simpa using k9
      generalize hde : Em.downs (l.take (j + 1)) = d1 at hdt
      have HDE := (show Hid _ from hde)
      clear hde
      generalize Em.downs (l.take j) = d at hdt hd1' ⊢
      generalize q.kind = kd at z0 n0 n9 k0 k9 hdt
      by_cases h3 : kd = 3
      · subst h3
        rw [if_pos (Or.inl rfl)] at hdt
        clear n0 n9 k0 k9
        go_wp2
        go_roundw
        case rel => exact ⟨j + 1, by omega, by rw [HDE.out, hdt]; go_num, by go_num, HEb.out _, HOb.out _⟩
        case measure => simp [intOf]; omega
      · by_cases h4 : kd = 4
        · subst h4
          rw [if_pos (Or.inr rfl)] at hdt
          clear n0 n9 k0 k9 h3
          go_wp2
          go_roundw
          case rel => exact ⟨j + 1, by omega, by rw [HDE.out, hdt]; go_num, by go_num, HEb.out _, HOb.out _⟩
          case measure => simp [intOf]; omega
        · have n3 : (kd == 3) = false := by simpa using h3
          have n4 : (kd == 4) = false := by simpa using h4
          rw [if_neg (by omega)] at hdt
          clear h3 h4 k0 k9
          go_wp2
          go_roundw
          case rel => exact ⟨j + 1, by omega, by rw [HDE.out, hdt]; rfl, by go_num, HEb.out _, HOb.out _⟩
          case measure => simp [intOf]; omega
    · have hje : j = N := by omega
      subst hje
      have htk : l.take j = l := by rw [HN.out]; exact List.take_length
      rw [htk]
      have HV := eh_view HE.out
      unfold evV at HV
      rw [(HG.out).st, (HG.out).tei, (HG.out).t2, (HG.out).t3, (HG.out).us, (HG.out).sn, (HG.out).fl] at HV
      have hdn := (HG.out).dn
      have hc1 := (HG.out).c1
      have hc0 := (HG.out).c0
      have hs0 := (HG.out).s0
      have hs1 := (HG.out).s1
      clear htk hin HG HO
      generalize Em.downs l = dn at hdn ⊢
      generalize e1.tries = v2 at HV
      generalize e1.asked = v3 at HV
      generalize e1.fl.vs = v7 at HV
      generalize e1.fl.va = v8 at HV
      generalize e1.fl.vr = v9 at HV
      generalize e1.fl.pe = v10 at HV
      generalize e1.fl.ow = v11 at HV
      generalize e1.fl.re = v12 at HV
      have hsc : (s = 1 ∧ dn = 0 ∧ cd = 11) ∨ (s = 2 ∧ dn = 0 ∧ cd = 0) ∨ (s = 3 ∧ dn = 1 ∧ cd = 0) ∨ (s = 4 ∧ dn = 0 ∧ cd = 0) ∨ (s = 5 ∧ dn = 1 ∧ cd = 0) ∨ (s = 6 ∧ dn = 1 ∧ cd = 0) ∨ (s = 7 ∧ dn = 1 ∧ cd = 0) ∨ (s = 8 ∧ dn = 1 ∧ cd = 0) := by
        by_cases h1 : s = 1
        · have := hc1 h1
          rw [if_neg (by omega)] at hdn
          omega
        · have := hc0 h1
          split at hdn <;> omega
      have HSC := (show Hid _ from hsc)
      clear hdn hc1 hc0 hs0 hs1 hsc
      go_wp2_with fail
      refine HV.mono ?_
      rintro r w5 ⟨rfl, hb5⟩
      have HE5 : Hid (EH b w w5 (fun _ => False) C e1) := HE.out.same hb5
      have HB5 : Hid (Below w.heap.size w w5) := by
        have := HE5.out.bel
        rw [HC.out] at this
        exact this
      have HBA : Hid (∀ o, Below w.heap.size w (w5.alloc o)) := fun o => HB5.out.alloc HB5.out.size o
      have HWA : Hid (∀ o, Ways (w5.alloc o)) := fun o => HWy.out.later (HBA.out o)
      clear hb5 HE HV HE5 HB5
      rcases HSC.out with ⟨rfl, rfl, rfl⟩ | ⟨rfl, rfl, rfl⟩ | ⟨rfl, rfl, rfl⟩ | ⟨rfl, rfl, rfl⟩ | ⟨rfl, rfl, rfl⟩ | ⟨rfl, rfl, rfl⟩ | ⟨rfl, rfl, rfl⟩ | ⟨rfl, rfl, rfl⟩
      all_goals
        clear HSC
        go_wp2_with fail
        refine (ewakes_any _ (HWA.out _)).mono ?_
        rintro r w7 ⟨rfl, hb7⟩
        have HB7 : Hid (Below w.heap.size w w7) := (HBA.out _).trans (hb7.mono (HBA.out _).size)
        have y0 : w7.cell? ⟨w5.heap.size, 0, none⟩ = some (.int .i64 1) := (hb7.cell (p := ⟨w5.heap.size, 0, none⟩) (by simp)).trans (by simp)
        have y1 : w7.cell? ⟨w5.heap.size, 1, none⟩ = some (.int .i64 (-1)) := (hb7.cell (p := ⟨w5.heap.size, 1, none⟩) (by simp)).trans (by simp)
        have y4 : w7.cell? ⟨w5.heap.size, 4, none⟩ = some (.bool false) := (hb7.cell (p := ⟨w5.heap.size, 4, none⟩) (by simp)).trans (by simp)
        have y5 : w7.cell? ⟨w5.heap.size, 5, none⟩ = some (.bool false) := (hb7.cell (p := ⟨w5.heap.size, 5, none⟩) (by simp)).trans (by simp)
        have y6 : w7.cell? ⟨w5.heap.size, 6, none⟩ = some (.int .i64 0) := (hb7.cell (p := ⟨w5.heap.size, 6, none⟩) (by simp)).trans (by simp)
        have y13 : w7.cell? ⟨w5.heap.size, 13, none⟩ = some (.int .i64 0) := (hb7.cell (p := ⟨w5.heap.size, 13, none⟩) (by simp)).trans (by simp)
        have y14 : w7.cell? ⟨w5.heap.size, 14, none⟩ = some (.int .i64 0) := (hb7.cell (p := ⟨w5.heap.size, 14, none⟩) (by simp)).trans (by simp)
        have yl : w5.heap.size < w7.heap.size := Nat.lt_of_lt_of_le (by simp) hb7.size
        clear hb7 HBA HWA
        go_wp2
        go_ret
        exact ⟨rfl, HB7.out⟩
end Go.Proofs.YtidemohpngkedacGreatDoor
