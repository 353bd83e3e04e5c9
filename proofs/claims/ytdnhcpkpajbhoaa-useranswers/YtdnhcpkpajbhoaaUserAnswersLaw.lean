/-
  The walk of the law UserAnswers: it returns true.
-/
import Derived.Test.YtdnhcpkpajbhoaaUsrWakes
import Derived.Test.YtdnhcpkpajbhoaaUActRows
import Derived.Test.YtdnhcpkpajbhoaaRegionFlag
import Derived.Deep.DeepCutAuto
namespace Go.Proofs.Ytdnhcpkpajbhoaa
open Go.RowKit
set_option linter.unusedVariables false
set_option linter.unusedSimpArgs false
set_option maxRecDepth 100000

/-- a user that has a TEI -/
def Um.hs (tei x : Int) : Um.St := ⟨3, tei, false, 0, 0, false, [], x⟩
theorem Um.good_msg {ty ri ai : Int} (ht : 1 ≤ ty ∧ ty ≤ 7) (hr : 0 ≤ ri ∧ ri ≤ 65535) (ha : 0 ≤ ai ∧ ai ≤ 127) : Um.good ty ri ai = true := by
  unfold Um.good
  rw [Tm.put_good (by unfold Tm.known; omega) (by unfold Tm.fits; omega)]
  rfl
theorem Um.hs_check {tei x ai : Int} (h : 64 ≤ tei ∧ tei ≤ 126) (ha : ai = tei ∨ ai = 127) : Um.message (Um.hs tei x) 4 0 ai = (Um.hs tei (Dm.nX [] x), [Um.say 5 (Dm.nx [] x) tei]) := by
  unfold Um.message
  rw [Um.good_msg (by decide) (by decide) (by omega), if_pos rfl, if_neg (by decide), if_pos rfl]
  unfold Um.check
  have hm : Um.meant (Um.hs tei x) ai = true := by
    unfold Um.meant Um.hs
    simp
    constructor
    · omega
    · exact ha
  rw [hm, if_pos rfl]
  rfl
theorem Um.hs_want (x : Int) : (Um.want (Um.new 3 false [] x)).1 = ⟨3, -1, true, Dm.nx [] x, 1, false, [], Dm.nX [] x⟩ := rfl
theorem Um.hs_got {tei x : Int} (h : 64 ≤ tei ∧ tei ≤ 126) : (Um.message ⟨3, -1, true, Dm.nx [] x, 1, false, [], Dm.nX [] x⟩ 2 (Dm.nx [] x) tei).1 = Um.hs tei (Dm.nX [] x) := by
  unfold Um.message
  rw [Um.good_msg (by decide) ⟨Dm.nx_lo _ _, Dm.nx_hi _ _⟩ (by omega), if_pos rfl, if_pos rfl]
  unfold Um.assigned
  have hm : Um.mine ⟨3, -1, true, Dm.nx [] x, 1, false, [], Dm.nX [] x⟩ (Dm.nx [] x) tei = true := by
    unfold Um.mine
    simp
    exact h
  rw [hm, if_pos rfl]
  rfl

/-- the user and another source of the call's own -/
structure AnsP (b : Nat) (W0 w : World) (C D E : Nat) (G H : Option Nat) (s : Um.St) (xd : Int) : Prop where
  u : OwnU b W0 w C D G s
  d : Src w E H [] xd
  bE : b ≤ E
  ec : E ≠ C
  ed : E ≠ D
  hc : H ≠ some C
  hd : H ≠ some D
  ge : G ≠ some E
section
variable {b : Nat} {W0 w w' : World} {C D E : Nat} {G H : Option Nat} {s : Um.St} {xd : Int}
theorem AnsP.below (h : AnsP b W0 w C D E G H s xd) (hb : Below w.heap.size w w') : AnsP b W0 w' C D E G H s xd :=
  ⟨h.u.below hb, h.d.below hb, h.bE, h.ec, h.ed, h.hc, h.hd, h.ge⟩
theorem AnsP.user {s' : Um.St} (h : AnsP b W0 w C D E G H s xd) (hm : Mvu w w' C D G s') : AnsP b W0 w' C D E G H s' xd :=
  ⟨h.u.then hm, h.d.kept hm.2 (fun k => by rcases k with k | k; exact h.ec k; exact h.ed k) (fun B hB k => by rcases k with rfl | rfl; exact h.hc hB; exact h.hd hB), h.bE, h.ec, h.ed, h.hc, h.hd, h.ge⟩
theorem AnsP.next (h : AnsP b W0 w C D E G H s xd) : Calls Try.prog 23 #[.pointer (some ⟨E, 0, none⟩)] w fun e w' => e = .returned (.int .i64 (Dm.nx [] xd)) ∧ AnsP b W0 w' C D E G H s (Dm.nX [] xd) ∧ Kept w w' (fun k => k = E) := by
  refine (dnext_any E H [] xd w h.d).mono ?_
  rintro e w' ⟨rfl, h1, h2⟩
  refine ⟨rfl, ⟨⟨h.u.us.kept h2 (fun k => h.ec k.symm) (fun k => h.ed k.symm) (fun B hB k => h.ge (by rw [hB, k])), h.u.bC, h.u.bD, h.u.bel.trans (h2.below h.u.bs (fun k hk => by rw [hk]; exact h.bE))⟩, h1, h.bE, h.ec, h.ed, h.hc, h.hd, h.ge⟩, h2⟩
end

/-! ### the drawing region, known values -/
def ansD : Nat → Option Nat | 0 => some 46 | 1 => some 47 | 2 => some 48 | 3 => some 49 | 4 => some 50 | 5 => some 51 | 6 => some 52 | 7 => some 53 | 8 => some 54 | 9 => some 55 | 10 => some 56 | 11 => some 57 | 12 => some 58 | 13 => some 59 | 14 => some 60 | 15 => some 61 | 16 => some 62 | 17 => some 63 | 18 => some 64 | 19 => some 65 | 20 => some 66 | _ => none
def ansV (g C E cap : Nat) (n ti : Int) : Nat → Value | 0 => .slice (some ⟨g, 0, none⟩) 1 cap | 1 => .int .i64 1 | 2 => .bool false | 3 => .bool false | 4 => .slice (some ⟨g, 0, none⟩) 1 cap | 5 => .pointer (some ⟨g, 0, none⟩) | 6 => .pointer (some ⟨g, 1, none⟩) | 7 => .agg #[.int .i64 5, .int .i64 n, .int .i64 ti] | 8 => .pointer (some ⟨E, 0, none⟩) | 9 => .int .i64 n | 10 => .int .i64 ti | 11 => .agg #[.int .i64 5, .int .i64 n, .int .i64 ti] | 12 => .bool false | 13 => .bool false | 14 => .bool false | 15 => .pointer (some ⟨C, 0, none⟩) | 16 => .agg #[.int .i64 ti, .bool false, .int .i64 0, .int .i64 0] | 17 => .int .i64 ti | 18 => .int .i64 ti | 19 => .bool false | 20 => .bool false | _ => undef
theorem ansD_inj : ∀ i j d, i < 21 → j < 21 → ansD i = some d → ansD j = some d → i = j := by
  have h : ∀ i < 21, ∀ j < 21, ansD i = ansD j → i = j := by decide
  intro i j d hi hj h1 h2
  exact h i hi j hj (h1.trans h2.symm)
theorem ansD_lt : ∀ i d, i < 21 → ansD i = some d → d < 76 := by
  have h : ∀ i < 21, (ansD i).all (· < 76) = true := by decide
  intro i d hi hd
  have := h i hi
  rw [hd] at this
  simpa using this
structure AnsR (g : Nat) (n ti : Int) (w : World) : Prop where
  lt : g < w.heap.size
  c1 : w.cell? ⟨g, 1, none⟩ = some (.int .i64 5)
  c2 : w.cell? ⟨g, 2, none⟩ = some (.int .i64 n)
  c3 : w.cell? ⟨g, 3, none⟩ = some (.int .i64 ti)
theorem AnsR.on {g : Nat} {n ti : Int} {w w' : World} (h : AnsR g n ti w) (hb : Below w.heap.size w w') : AnsR g n ti w' :=
  ⟨Nat.lt_of_lt_of_le h.lt hb.size, (hb.cell (p := ⟨g, 1, none⟩) h.lt).trans h.c1, (hb.cell (p := ⟨g, 2, none⟩) h.lt).trans h.c2, (hb.cell (p := ⟨g, 3, none⟩) h.lt).trans h.c3⟩
set_option maxHeartbeats 4000000 in
theorem walk_UserAnswers (x0 tei : Int) (a : Option Addr) (len cap : Nat) (zs : List Bool) (w : World) (hx : 0 ≤ x0 ∧ x0 ≤ 18446744073709551615) (ht : -9223372036854775808 ≤ tei ∧ tei ≤ 9223372036854775807) (hr : RowB w a len cap zs) :
    Calls Try.prog 8 #[.int .u64 x0, .int .i64 tei, .slice a len cap] w fun r w' => r = .returned (.bool true) ∧ Below w.heap.size w w' := by
  have hlc : len ≤ cap := hr.2.1
  have hcm : cap ≤ 9223372036854775807 := by have := hr.2.2.1; unfold maxLen at this; exact this
  have HR : Hid (∀ j, j < len → ∃ bb off z, a = some ⟨bb, off, none⟩ ∧ bb < w.heap.size ∧ w.cell? ⟨bb, off + j, none⟩ = some (.bool z)) := fun j hj => hr.at j hj
  clear hr
  obtain ⟨m, hm50, hml, hmin⟩ : ∃ m : Nat, m ≤ 50 ∧ m ≤ len ∧ m = min len 50 := ⟨min len 50, by omega, by omega, rfl⟩
  have hmm : (if (50 : Int) < (len : Int) then (50 : Int) else (len : Int)) = (m : Int) := by split <;> omega
  clear hmin
  have hfr : a.map (·.add 0) = a := by
    cases a with
    | none => rfl
    | some x => simp [Addr.add]
  obtain ⟨q, hq, hq0⟩ : ∃ q : Int, (if 0 < tei then tei else 0) = q ∧ 0 ≤ q := ⟨_, rfl, by split <;> omega⟩
  obtain ⟨t6, ht6, h60, h61⟩ : ∃ t6 : Int, q.tmod 63 = t6 ∧ 0 ≤ t6 ∧ t6 < 63 := ⟨_, rfl, by rw [Int.tmod_eq_emod_of_nonneg hq0]; omega, by rw [Int.tmod_eq_emod_of_nonneg hq0]; omega⟩
  obtain ⟨ti, hti, ht0, ht1⟩ : ∃ ti : Int, 64 + t6 = ti ∧ 64 ≤ ti ∧ ti ≤ 126 := ⟨_, rfl, by omega, by omega⟩
  have HDn := dnew_none x0 w hx.1 (by omega)
  clear hx
  go_enter Try.func8, Try.ntmps8
  go_wp2_with fail
  refine HDn.mono ?_
  rintro r w1 ⟨D, G, rfl, h1, h2, h3, h4⟩
  have HUn := ownu_new (b := w.heap.size) (W0 := w) 3 h1 (fun B hB => (h4 B hB).2) h3 h2 h2.size
  have HS1 : Hid (w.heap.size ≤ w1.heap.size ∧ (∀ B, G = some B → B < w1.heap.size) ∧ Src w1 D G [] x0) := ⟨h2.size, fun B hB => (h4 B hB).2, h1⟩
  clear h1 h2 h3 h4 HDn
  go_wp2_with fail
  refine HUn.mono ?_
  rintro r w2 ⟨C, rfl, O2, hb2⟩
  have HDn := dnew_none x0 w2 HS1.out.2.2.lo HS1.out.2.2.hi
  have HO2 : Hid (OwnU w.heap.size w w2 C D G (Um.new 3 false [] x0) ∧ w1.heap.size ≤ w2.heap.size) := ⟨O2, hb2.size⟩
  clear O2 hb2 HUn
  go_wp2_with fail
  refine HDn.mono ?_
  rintro r w3 ⟨E, H, rfl, h1, h2, h3, h4⟩
  have hP : AnsP w.heap.size w w3 C D E G H (Um.new 3 false [] x0) x0 := by
    have hO := HO2.out.1
    have hl := hO.us.lt
    have hdl := hO.us.dl
    refine ⟨hO.below h2, h1, by have := hO.bs; omega, by omega, by omega, fun e => by have := (h4 _ e).1; omega, fun e => by have := (h4 _ e).1; omega, fun e => by have := HS1.out.2.1 _ e; have := HO2.out.2; omega⟩
  have HP3 : Hid (AnsP w.heap.size w w3 C D E G H (Um.new 3 false [] x0) x0) := hP
  have HW := ownu_want hP.u
  rw [show (Um.want (Um.new 3 false [] x0)).1 = ⟨3, -1, true, Dm.nx [] x0, 1, false, [], Dm.nX [] x0⟩ from rfl, show (Um.want (Um.new 3 false [] x0)).2.length = 2 from rfl] at HW
  clear h1 h2 h3 h4 HDn HO2 HS1 hP
  go_wp2_with fail
  refine HW.mono ?_
  rintro r w4 ⟨a4, cap4, rfl, -, hm, -⟩
  have HP4 : Hid (AnsP w.heap.size w w4 C D E G H ⟨3, -1, true, Dm.nx [] x0, 1, false, [], Dm.nX [] x0⟩ x0) := HP3.out.user hm
  have HN4 := HP4.out.next
  clear hm HW HP3
  generalize Um.wantN (Um.new 3 false [] x0) = e4
  go_wp2_with fail
  refine HN4.mono ?_
  rintro r w5 ⟨rfl, hP, -⟩
  have HM5 := ownu_message 2 (Dm.nx [] x0) ti hP.u
  rw [Um.hs_got ⟨ht0, ht1⟩] at HM5
  have HP5 : Hid (AnsP w.heap.size w w5 C D E G H ⟨3, -1, true, Dm.nx [] x0, 1, false, [], Dm.nX [] x0⟩ (Dm.nX [] x0)) := hP
  clear hP HN4 HP4 hq ht6 hti hq0 h60 h61
  generalize (Um.message ⟨3, -1, true, Dm.nx [] x0, 1, false, [], Dm.nX [] x0⟩ 2 (Dm.nx [] x0) ti).2 = l5 at HM5
  generalize Dm.nx [] x0 = n5 at HM5
  go_wp2_with fail
  refine HM5.mono ?_
  rintro r w6 ⟨a6, cap6, rfl, -, hm, -⟩
  have HP6 : Hid (∃ x, AnsP w.heap.size w w6 C D E G H (Um.hs ti x) x) := ⟨_, HP5.out.user hm⟩
  clear hm HM5 HP5
  generalize l5.length = n6
  obtain ⟨b, hb⟩ : ∃ b, b = w.heap.size := ⟨_, rfl⟩
  rw [← hb] at HP6
  have HC : Hid (b = w.heap.size) := hb
  clear hb
  go_wp2
  clear hfr hmm
  go_loopw [36] (fun c wr => ∃ j : Nat, j ≤ m ∧ c = .int .i64 j ∧ Hid (∃ x, AnsP b w wr C D E G H (Um.hs ti x) x)) (fun c _ => m - (intOf c).toNat)
  case atStart => exact ⟨0, Nat.zero_le _, rfl, HP6⟩
  case round =>
    obtain ⟨j, hjm, rfl, HS⟩ := hrel
    clear HP6
    obtain ⟨x, hP⟩ := HS.out
    have HP := (show Hid (AnsP b w wr C D E G H (Um.hs ti x) x) from hP)
    clear hP HS
    by_cases hin : j < m
    · obtain ⟨bb, off, z, rfl, hbb, hc⟩ := HR.out j (by omega)
      have hx : wr.cell? ⟨bb, off + j, none⟩ = some (.bool z) := (HP.out.u.bel.cell (p := ⟨bb, off + j, none⟩) (by rw [HC.out]; exact hbb)).trans hc
      have hbr : bb < wr.heap.size := by have := HP.out.u.bs; have := HC.out; omega
      clear hc
      have HM : ∀ ai, ai = ti ∨ ai = 127 → _ := fun ai hai => by
        have h1 := ownu_message 4 0 ai HP.out.u
        rw [Um.hs_check ⟨ht0, ht1⟩ hai] at h1
        exact h1
      have HMM : Hid (∀ ai, ai = ti ∨ ai = 127 → Calls Try.prog 20 #[.pointer (some ⟨C, 0, none⟩), .agg #[.int .i64 4, .int .i64 0, .int .i64 ai]] wr fun r w' => ∃ g cap, r = .returned (.slice (some ⟨g, 0, none⟩) 1 cap) ∧ 1 ≤ cap ∧ g < w'.heap.size ∧ ¬ g = E ∧ w'.cell? ⟨g, 1, none⟩ = some (.int .i64 5) ∧ w'.cell? ⟨g, 2, none⟩ = some (.int .i64 (Dm.nx [] x)) ∧ w'.cell? ⟨g, 3, none⟩ = some (.int .i64 ti) ∧ Hid (AnsP b w w' C D E G H (Um.hs ti (Dm.nX [] x)) x)) := fun ai hai => by
        refine (HM ai hai).mono ?_
        rintro r w' ⟨a2, c2, rfl, ho, hm, -⟩
        obtain ⟨g, rfl, hgb, hg, hc2, hx2⟩ := ho.own (by simp)
        have hE := HP.out.d.lt
        exact ⟨g, c2, rfl, hc2, hg, by omega, hx2 1 _ rfl, hx2 2 _ rfl, hx2 3 _ rfl, HP.out.user hm⟩
      clear HM HP
      obtain ⟨y, hy⟩ : ∃ y, y = Dm.nX [] x := ⟨_, rfl⟩
      obtain ⟨n, hn⟩ : ∃ n, n = Dm.nx [] x := ⟨_, rfl⟩
      rw [← hy, ← hn] at HMM
      have HNx0 : Hid (∀ (g : Nat), ¬ g = E → ∀ w', AnsP b w w' C D E G H (Um.hs ti y) x ∧ AnsR g n ti w' → Calls Try.prog 23 #[.pointer (some ⟨E, 0, none⟩)] w' fun e w'' => e = .returned (.int .i64 n) ∧ AnsP b w w'' C D E G H (Um.hs ti y) y ∧ AnsR g n ti w'') := fun g hg w' h => by
        refine h.1.next.mono ?_
        rintro e w'' ⟨h1, h2, h3⟩
        rw [← hy] at h2
        rw [← hn] at h1
        have hl := h.2.lt
        exact ⟨h1, h2, ⟨Nat.lt_of_lt_of_le hl h3.size, (h3.cell (p := ⟨g, 1, none⟩) hl hg).trans h.2.c1, (h3.cell (p := ⟨g, 2, none⟩) hl hg).trans h.2.c2, (h3.cell (p := ⟨g, 3, none⟩) hl hg).trans h.2.c3⟩⟩
      clear hy hn
      cases z
      case' false => have HM := HMM.out ti (Or.inl rfl)
      case' true => have HM := HMM.out 127 (Or.inr rfl)
      all_goals
        clear HMM HR
        go_wp2_with fail
        refine HM.mono ?_
        rintro r w7 ⟨g, cap7, rfl, hc7, hg7, hgE, k1, k2, k3, HP7⟩
        have HR7 : Hid (AnsR g n ti w7) := ⟨hg7, k1, k2, k3⟩
        have HNx : Hid (∀ w', AnsP b w w' C D E G H (Um.hs ti y) x ∧ AnsR g n ti w' → Calls Try.prog 23 #[.pointer (some ⟨E, 0, none⟩)] w' fun e w'' => e = .returned (.int .i64 n) ∧ AnsP b w w'' C D E G H (Um.hs ti y) y ∧ AnsR g n ti w'') := fun w' h => HNx0.out g hgE w' h
        clear HM HNx0 hx hgE k1 k2 k3 hg7
        go_upto_region 12 with fail
        refine region_vals (by kernel_rfl) 21 rfl ansD (ansV g C E cap7 n ti) ansD_inj ?hd ?hlow (Flg 9 (fun wy => AnsP b w wy C D E G H (Um.hs ti y) x ∧ AnsR g n ti wy) (fun wy => AnsP b w wy C D E G H (Um.hs ti y) y ∧ AnsR g n ti wy)) ?h0 ?hstep ?hdone
        case hd => exact ansD_lt
        case hlow => kernel_rfl
        case h0 => exact Flg.start ⟨HP7.out.below (Below.refl _ _).drew, HR7.out.on (Below.refl _ _).drew⟩
        case hstep =>
          intro l fa w1 i hi hJ hr hK
          have r12 : fa.eval (.tmp 12) = .slice (some ⟨g, 0, none⟩) 1 cap7 := hK.rest 12 (by decide)
          have r8 : fa.eval (.tmp 8) = .pointer (some ⟨E, 0, none⟩) := hK.rest 8 (by decide)
          have r1 : fa.eval (.tmp 1) = .int .i64 ti := hK.rest 1 (by decide)
          have r7 : fa.eval (.tmp 7) = .pointer (some ⟨C, 0, none⟩) := hK.rest 7 (by decide)
          have got : ∀ j, j ∈ depsOf .any _ i → ∀ d', ansD j = some d' → j < 21 → fa.eval (.tmp d') = ansV g C E cap7 n ti j := fun j hj d' hd hj' => hK.got j d' hj' (ready_deps hr j hj) hd
          match i, hi, hr, got with
          | 0, _, hr, got => exact stepw_val rfl (wanted_none rfl) (runw_move rfl r12 w1) rfl (hJ.same (by decide))
          | 1, _, hr, got => exact stepw_val rfl (wanted_none rfl) (by have qc : ∀ v, fa.eval (.const v) = v := fun _ => rfl; have q46 : fa.eval (.tmp 46) = .slice (some ⟨g, 0, none⟩) 1 cap7 := (got 0 (by decide) 46 rfl (by decide)); show (execOp fa.eval _).run Try.prog w1 = .ok (.value (.int .i64 1)) w1; generalize fa.eval = ρ at qc q46 ⊢; unfold execOp; simp only [resolve, invoke, builtin, Sem.run_bind, Sem.run_pure, Result.andThen_ok, List.map_toArray, List.map_cons, List.map_nil, qc, q46]; go_simp) rfl (hJ.same (by decide))
          | 2, _, hr, got => exact stepw_val rfl (wanted_none rfl) (by have qc : ∀ v, fa.eval (.const v) = v := fun _ => rfl; have q47 : fa.eval (.tmp 47) = .int .i64 1 := (got 1 (by decide) 47 rfl (by decide)); show (execOp fa.eval _).run Try.prog w1 = .ok (.value (.bool false)) w1; generalize fa.eval = ρ at qc q47 ⊢; unfold execOp; simp only [qc, q47]; go_simp) rfl (hJ.same (by decide))
          | 3, _, hr, got => exact stepw_val rfl (wanted_none rfl) (runw_move rfl (got 2 (by decide) 48 rfl (by decide)) w1) rfl (hJ.same (by decide))
          | 4, _, hr, got => exact stepw_val rfl (wanted_some (j := 3) rfl rfl rfl (got 3 (by decide) 49 rfl (by decide))) (runw_move rfl r12 w1) rfl (hJ.same (by decide))
          | 5, _, hr, got => exact stepw_val rfl (wanted_some (j := 3) rfl rfl rfl (got 3 (by decide) 49 rfl (by decide))) (by have qc : ∀ v, fa.eval (.const v) = v := fun _ => rfl; have q50 : fa.eval (.tmp 50) = .slice (some ⟨g, 0, none⟩) 1 cap7 := (got 4 (by decide) 50 rfl (by decide)); have zc := hc7; show (execOp fa.eval _).run Try.prog w1 = .ok (.value (.pointer (some ⟨g, 0, none⟩))) w1; generalize fa.eval = ρ at qc q50 ⊢; unfold execOp; simp only [qc, q50]; go_simp) rfl (hJ.same (by decide))
          | 6, _, hr, got => exact stepw_val rfl (wanted_some (j := 3) rfl rfl rfl (got 3 (by decide) 49 rfl (by decide))) (by have qc : ∀ v, fa.eval (.const v) = v := fun _ => rfl; have q51 : fa.eval (.tmp 51) = .pointer (some ⟨g, 0, none⟩) := (got 5 (by decide) 51 rfl (by decide)); show (execOp fa.eval _).run Try.prog w1 = .ok (.value (.pointer (some ⟨g, 1, none⟩))) w1; generalize fa.eval = ρ at qc q51 ⊢; unfold execOp; simp only [qc, q51]; go_simp) rfl (hJ.same (by decide))
          | 7, _, hr, got => exact stepw_val rfl (wanted_some (j := 3) rfl rfl rfl (got 3 (by decide) 49 rfl (by decide))) (by have qc : ∀ v, fa.eval (.const v) = v := fun _ => rfl; have q52 : fa.eval (.tmp 52) = .pointer (some ⟨g, 1, none⟩) := (got 6 (by decide) 52 rfl (by decide)); have z := (hJ.any (fun h => h.2) (fun h => h.2) : AnsR g n ti w1); have z0 := z.lt; have z1 := z.c1; have z2 := z.c2; have z3 := z.c3; show (execOp fa.eval _).run Try.prog w1 = .ok (.value (.agg #[.int .i64 5, .int .i64 n, .int .i64 ti])) w1; generalize fa.eval = ρ at qc q52 ⊢; unfold execOp; simp only [qc, q52]; go_simp) rfl (hJ.same (by decide))
          | 8, _, hr, got => exact stepw_val rfl (wanted_some (j := 3) rfl rfl rfl (got 3 (by decide) 49 rfl (by decide))) (runw_move rfl r8 w1) rfl (hJ.same (by decide))
          | 9, _, hr, got => exact stepw_call rfl (wanted_some (j := 3) rfl rfl rfl (got 3 (by decide) 49 rfl (by decide))) (by have qc : ∀ v, fa.eval (.const v) = v := fun _ => rfl; have q54 : fa.eval (.tmp 54) = .pointer (some ⟨E, 0, none⟩) := (got 8 (by decide) 54 rfl (by decide)); have qf : fa.eval (.func 23) = .func (.func 23) #[] #[] := rfl; show (execOp fa.eval _).run Try.prog w1 = .ok (.enter 23 #[.pointer (some ⟨E, 0, none⟩)]) w1; generalize fa.eval = ρ at qf qc q54 ⊢; unfold execOp; simp only [resolve, qf, qc, q54, List.map_toArray, List.map_cons, List.map_nil]; go_simp) rfl ((HNx.out w1 (hJ.call hr).1).mono fun e w' h => ⟨h.1, (hJ.call hr).2 w' h.2⟩)
          | 10, _, hr, got => exact stepw_val rfl (wanted_some (j := 3) rfl rfl rfl (got 3 (by decide) 49 rfl (by decide))) (runw_move rfl r1 w1) rfl (hJ.same (by decide))
          | 11, _, hr, got => exact stepw_val rfl (wanted_some (j := 3) rfl rfl rfl (got 3 (by decide) 49 rfl (by decide))) (by have qc : ∀ v, fa.eval (.const v) = v := fun _ => rfl; have q55 : fa.eval (.tmp 55) = .int .i64 n := (got 9 (by decide) 55 rfl (by decide)); have q56 : fa.eval (.tmp 56) = .int .i64 ti := (got 10 (by decide) 56 rfl (by decide)); show (execOp fa.eval _).run Try.prog w1 = .ok (.value (.agg #[.int .i64 5, .int .i64 n, .int .i64 ti])) w1; generalize fa.eval = ρ at qc q55 q56 ⊢; unfold execOp; simp only [qc, q55, q56]; go_simp) rfl (hJ.same (by decide))
          | 12, _, hr, got => exact stepw_val rfl (wanted_some (j := 3) rfl rfl rfl (got 3 (by decide) 49 rfl (by decide))) (by have qc : ∀ v, fa.eval (.const v) = v := fun _ => rfl; have q53 : fa.eval (.tmp 53) = .agg #[.int .i64 5, .int .i64 n, .int .i64 ti] := (got 7 (by decide) 53 rfl (by decide)); have q57 : fa.eval (.tmp 57) = .agg #[.int .i64 5, .int .i64 n, .int .i64 ti] := (got 11 (by decide) 57 rfl (by decide)); show (execOp fa.eval _).run Try.prog w1 = .ok (.value (.bool false)) w1; generalize fa.eval = ρ at qc q53 q57 ⊢; unfold execOp; simp only [qc, q53, q57]; go_simp) rfl (hJ.same (by decide))
          | 13, _, hr, got => exact stepw_val rfl (wanted_none rfl) (runw_pickf rfl (got 3 (by decide) 49 rfl (by decide)) (got 12 (by decide) 58 rfl (by decide)) w1) rfl (hJ.same (by decide))
          | 14, _, hr, got => exact stepw_val rfl (wanted_none rfl) (runw_move rfl (got 13 (by decide) 59 rfl (by decide)) w1) rfl (hJ.same (by decide))
          | 15, _, hr, got => exact stepw_val rfl (wanted_some (j := 14) rfl rfl rfl (got 14 (by decide) 60 rfl (by decide))) (runw_move rfl r7 w1) rfl (hJ.same (by decide))
          | 16, _, hr, got => exact stepw_call rfl (wanted_some (j := 14) rfl rfl rfl (got 14 (by decide) 60 rfl (by decide))) (by have qc : ∀ v, fa.eval (.const v) = v := fun _ => rfl; have q61 : fa.eval (.tmp 61) = .pointer (some ⟨C, 0, none⟩) := (got 15 (by decide) 61 rfl (by decide)); have qf : fa.eval (.func 15) = .func (.func 15) #[] #[] := rfl; show (execOp fa.eval _).run Try.prog w1 = .ok (.enter 15 #[.pointer (some ⟨C, 0, none⟩)]) w1; generalize fa.eval = ρ at qf qc q61 ⊢; unfold execOp; simp only [resolve, qf, qc, q61, List.map_toArray, List.map_cons, List.map_nil]; go_simp) rfl ((ownu_view (hJ.any (fun h => h.1.u) (fun h => h.1.u))).mono fun e w' h => ⟨h.1, hJ.on (by decide) (fun q => ⟨q.1.below h.2.1, q.2.on h.2.1⟩) (fun q => ⟨q.1.below h.2.1, q.2.on h.2.1⟩)⟩)
          | 17, _, hr, got => exact stepw_val rfl (wanted_some (j := 14) rfl rfl rfl (got 14 (by decide) 60 rfl (by decide))) (by have qc : ∀ v, fa.eval (.const v) = v := fun _ => rfl; have q62 : fa.eval (.tmp 62) = .agg #[.int .i64 ti, .bool false, .int .i64 0, .int .i64 0] := (got 16 (by decide) 62 rfl (by decide)); have zf := field_tei; show (execOp fa.eval _).run Try.prog w1 = .ok (.value (.int .i64 ti)) w1; generalize fa.eval = ρ at qc q62 ⊢; unfold execOp; simp only [qc, q62]; go_simp) rfl (hJ.same (by decide))
          | 18, _, hr, got => exact stepw_val rfl (wanted_some (j := 14) rfl rfl rfl (got 14 (by decide) 60 rfl (by decide))) (runw_move rfl r1 w1) rfl (hJ.same (by decide))
          | 19, _, hr, got => exact stepw_val rfl (wanted_some (j := 14) rfl rfl rfl (got 14 (by decide) 60 rfl (by decide))) (by have qc : ∀ v, fa.eval (.const v) = v := fun _ => rfl; have q63 : fa.eval (.tmp 63) = .int .i64 ti := (got 17 (by decide) 63 rfl (by decide)); have q64 : fa.eval (.tmp 64) = .int .i64 ti := (got 18 (by decide) 64 rfl (by decide)); show (execOp fa.eval _).run Try.prog w1 = .ok (.value (.bool false)) w1; generalize fa.eval = ρ at qc q63 q64 ⊢; unfold execOp; simp only [qc, q63, q64]; go_simp) rfl (hJ.same (by decide))
          | 20, _, hr, got => exact stepw_val rfl (wanted_none rfl) (runw_pickf rfl (got 14 (by decide) 60 rfl (by decide)) (got 19 (by decide) 65 rfl (by decide)) w1) rfl (hJ.same (by decide))
          | j + 21, hlt, _, _ => exact absurd hlt (by omega)
        case hdone =>
          intro l w' hall hJ
          have HPe : Hid (AnsP b w w' C D E G H (Um.hs ti y) y) := (hJ.did (hall 9 (by decide))).1
          clear hall hJ HP7 HR7 HNx
          simp only [putsOf, ansD, ansV, Act.put, List.setIfInBounds_toArray, List.set_cons_zero, List.set_cons_succ]
          go_wp2
          go_roundw
          case rel => exact ⟨j + 1, by omega, by go_num, ⟨_, HPe.out⟩⟩
          case measure => simp [intOf]; omega
    · have hje : j = m := by omega
      subst hje
      clear hin
      go_wp2_with fail
      refine (uwakes_any wr).mono ?_
      rintro r w7 ⟨rfl, hb⟩
      have HP7 : Hid (AnsP b w w7 C D E G H (Um.hs ti x) x) := HP.out.below hb
      have HV := ownu_view HP7.out.u
      rw [show (Um.hs ti x).tei = ti from rfl, show (Um.hs ti x).asks = false from rfl, show (Um.hs ti x).ri = 0 from rfl, show (Um.hs ti x).tries = 0 from rfl] at HV
      clear hb HP
      go_wp2_with fail
      refine HV.mono ?_
      rintro r w8 ⟨rfl, -, hO⟩
      have HB : Hid (Below w.heap.size w w8) := by
        have := hO.bel
        rw [HC.out] at this
        exact this
      clear HV hO HP7
      go_wp2
      go_ret
      exact ⟨rfl, HB.out⟩
end Go.Proofs.Ytdnhcpkpajbhoaa
