/-
  The walk of the law SourceGives: it returns true.
-/
import Derived.Test.YtdnhcpkpajbhoabSrcGivAct
import Derived.Test.YtdnhcpkpajbhoabSActRows
import Derived.Deep.DeepCutAuto
import Derived.Deep.CutBlock
namespace Go.Proofs.Ytdnhcpkpajbhoab
open Go.RowKit Go.Maps Go.WideMaps
set_option linter.unusedVariables false
set_option linter.unusedSimpArgs false
set_option maxRecDepth 100000

set_option maxHeartbeats 4000000 in
theorem walk_SourceGives (a : Option Addr) (len cap : Nat) (ps : List ActZ) (w : World) (hr : RowY w a len cap ps) :
    Calls Try.prog 4 #[.slice a len cap] w fun r w' => r = .returned (.bool true) ∧ Below w.heap.size w w' := by
  have hlc : len ≤ cap := hr.2.1
  have hcm : cap ≤ 9223372036854775807 := by have := hr.2.2.1; unfold maxLen at this; exact this
  have HR : Hid (∀ j, j < len → ∃ (bb off : Nat) (q : ActZ), a = some ⟨bb, off, none⟩ ∧ bb < w.heap.size ∧ q = ps.getD j actz0 ∧ q.At w bb (off + j * 5) ∧ q.Ok) := fun j hj => hr.at j hj
  clear hr
  obtain ⟨m, hm100, hml, hmin⟩ : ∃ m : Nat, m ≤ 100 ∧ m ≤ len ∧ m = min len 100 := ⟨min len 100, by omega, by omega, rfl⟩
  have hmm : (if (100 : Int) < (len : Int) then (100 : Int) else (len : Int)) = (m : Int) := by split <;> omega
  have hmm2 : min (len : Int) 100 = (m : Int) := by omega
  have hmx : max (m : Int) 0 = (m : Int) := by omega
  clear hmin
  have hfr : a.map (·.add 0) = a := by
    cases a with
    | none => rfl
    | some x => simp [Addr.add]
  go_enter Try.func4, Try.ntmps4
  go_wp2_with fail
  refine (owns_new w).mono ?_
  rintro r w1 ⟨C, P, M, rfl, hO⟩
  have HO1 : Hid (OwnS w.heap.size w w1 C P M Zm.new) := hO
  clear hO
  have hmk := gmk
  have hmf : ∀ (fn : Fn) (first cap : Array Value) (w : World), (Instr.makeFunc fn first cap).run Try.prog w = .ok (.func fn first cap) w := fun _ _ _ _ => rfl
  go_upto_region 4 with fail
  have HG1 := (show Hid (GivS w.heap.size w _ C P M _ _ _ _ Zm.new) from givs_start 46 HO1.out)
  obtain ⟨b, hb⟩ : ∃ b, b = w.heap.size := ⟨_, rfl⟩
  rw [← hb] at HG1
  have HC : Hid (b = w.heap.size) := hb
  clear hb HO1 hmk
  generalize ((((w1.alloc (.map #[] 0)).alloc (.map #[] 0)).alloc (.cells #[.map (some w1.heap.size)] 46)).alloc (.cells #[.map (some (w1.heap.size + 1))] 46)) = w2 at HG1 ⊢
  generalize w1.heap.size + 1 + 1 + 1 = B at *
  generalize w1.heap.size + 1 + 1 = A at *
  generalize w1.heap.size + 1 = Nr at *
  generalize w1.heap.size = Mo at *
  have HG2 : Hid (∃ s, GivS b w w2 C P M A B Mo Nr s) := ⟨_, HG1.out⟩
  clear HG1
  go_wp2
  try rw [hmm2]
  try rw [hmx]
  try rw [Int.toNat_natCast]
  clear hfr hmm hmm2 hmx
  go_loopw [28] (fun c wr => ∃ j : Nat, j ≤ m ∧ c = .int .i64 j ∧ Hid (∃ s, GivS b w wr C P M A B Mo Nr s)) (fun c _ => m - (intOf c).toNat)
  case atStart => exact ⟨0, Nat.zero_le _, rfl, HG2⟩
  case round =>
    obtain ⟨j, hjm, rfl, HS⟩ := hrel
    clear HG2
    obtain ⟨s, hO⟩ := HS.out
    have HO := (show Hid (GivS b w wr C P M A B Mo Nr s) from hO)
    clear hO HS
    by_cases hin : j < m
    · obtain ⟨bb, off, q, rfl, hbb, -, hq, hok⟩ := HR.out j (by omega)
      obtain ⟨q0, q1, q2, q3, q4⟩ := hq.below HO.out.o.bel (by rw [HC.out]; exact hbb)
      have hbr : bb < wr.heap.size := by have := HO.out.o.bs; have := HC.out; omega
      have hd1 := hok.d.1
      have hd2 := hok.d.2
      have HQ : Hid (In64 q.ai) := hok.ai
      obtain ⟨W3, hW3⟩ : ∃ W3, W3 = wr.alloc (.cells #[.int .i64 q.d, .int .i64 q.ty, .int .i64 q.ri, .int .i64 q.ai, .int .i64 q.of] 29) := ⟨_, rfl⟩
      have hb3 : Below wr.heap.size wr W3 := by rw [hW3]; exact (Below.refl _ _).alloc (Nat.le_refl _) _
      have HP : Hid (GivS b w W3 C P M A B Mo Nr s) := HO.out.below hb3
      have p0 : W3.cell? ⟨wr.heap.size, 0, none⟩ = some (.int .i64 q.d) := by rw [hW3]; simp
      have p1 : W3.cell? ⟨wr.heap.size, 1, none⟩ = some (.int .i64 q.ty) := by rw [hW3]; simp
      have p2 : W3.cell? ⟨wr.heap.size, 2, none⟩ = some (.int .i64 q.ri) := by rw [hW3]; simp
      have p3 : W3.cell? ⟨wr.heap.size, 3, none⟩ = some (.int .i64 q.ai) := by rw [hW3]; simp
      have p4 : W3.cell? ⟨wr.heap.size, 4, none⟩ = some (.int .i64 q.of) := by rw [hW3]; simp
      have hl : wr.heap.size < W3.heap.size := by rw [hW3]; simp
      have HV : Hid (True ∧ ¬ wr.heap.size = Nr) := ⟨trivial, by
        obtain ⟨hs, hg⟩ := HO.out.g
        have := hg.n.lt
        omega⟩
      clear hq hok hb3 HO HR
      go_upto_region 8 with fail
      rw [← hW3]
      clear hW3 q0 q1 q2 q3 q4 hbr
      generalize wr.heap.size = V at *
      go_upto_block 2 with fail
      obtain ⟨t6, ht6⟩ : ∃ t6 : Int, q.d.tmod 6 = t6 := ⟨_, rfl⟩
      rw [ht6]
      clear ht6 hd1 hd2
      go_cut [9] from 35 to 76 (fun s9 wx => ∃ (x6 : Option Addr) (c6 : Nat) (l6 : List Zm.Ef) (s6 : Zm.St), s9 = .slice x6 l6.length c6 ∧ Hid (GivM b w wx C P M A B Mo Nr s6 x6 c6 l6))
      case first =>
        by_cases h1 : t6 = 1
        · have e0 : (t6 == 1) = true := by simp; exact h1
          clear h1
          have HA : Hid (GivN b C P M A B Mo Nr ∧ ∃ hs, GvS W3 A B Mo Nr hs s.f (Zm.ua s)) := ⟨HP.out.n, HP.out.g⟩
          have hT := owns_check q.ai HP.out.o
          clear p0 p1 p2 p4
          go_wp2_with fail
          refine hT.mono ?_
          rintro r w6 ⟨x6, c6, rfl, ho, hm, hO6⟩
          have HM6 : Hid (GivM b w w6 C P M A B Mo Nr (Zm.check s q.ai).1 x6 c6 (Zm.check s q.ai).2) := by
            obtain ⟨hn, hs, hg⟩ := HA.out
            exact givm_made hn hg ho hm hO6 (lk_check q.ai) (check_len s q.ai)
          clear hT ho hm hO6 HA p3 hl
          go_wp2
          go_meet
          case rel => exact ⟨x6, c6, _, _, rfl, HM6⟩
        · have e0 : (t6 == 1) = false := by simp; exact h1
          clear h1
          by_cases h1 : t6 = (-1)
          · have e1 : (t6 == (-1)) = true := by simp; exact h1
            clear h1
            have HA : Hid (GivN b C P M A B Mo Nr ∧ ∃ hs, GvS W3 A B Mo Nr hs s.f (Zm.ua s)) := ⟨HP.out.n, HP.out.g⟩
            have hT := owns_check q.ai HP.out.o
            clear p0 p1 p2 p4
            go_wp2_with fail
            refine hT.mono ?_
            rintro r w6 ⟨x6, c6, rfl, ho, hm, hO6⟩
            have HM6 : Hid (GivM b w w6 C P M A B Mo Nr (Zm.check s q.ai).1 x6 c6 (Zm.check s q.ai).2) := by
              obtain ⟨hn, hs, hg⟩ := HA.out
              exact givm_made hn hg ho hm hO6 (lk_check q.ai) (check_len s q.ai)
            clear hT ho hm hO6 HA p3 hl
            go_wp2
            go_meet
            case rel => exact ⟨x6, c6, _, _, rfl, HM6⟩
          · have e1 : (t6 == (-1)) = false := by simp; exact h1
            clear h1
            by_cases h1 : t6 = 2
            · have e2 : (t6 == 2) = true := by simp; exact h1
              clear h1
              have HA : Hid (GivN b C P M A B Mo Nr ∧ ∃ hs, GvS W3 A B Mo Nr hs s.f (Zm.ua s)) := ⟨HP.out.n, HP.out.g⟩
              have hT := owns_audit HP.out.o
              clear p0 p1 p2 p3 p4 hl
              go_wp2_with fail
              refine hT.mono ?_
              rintro r w6 ⟨x6, c6, rfl, ho, hm, hO6⟩
              have HM6 : Hid (GivM b w w6 C P M A B Mo Nr (Zm.audit s) x6 c6 (Zm.auditE s)) := by
                obtain ⟨hn, hs, hg⟩ := HA.out
                exact givm_made hn hg ho hm hO6 lk_audit (audit_len s)
              clear hT ho hm hO6 HA
              go_wp2
              go_meet
              case rel => exact ⟨x6, c6, _, _, rfl, HM6⟩
            · have e2 : (t6 == 2) = false := by simp; exact h1
              clear h1
              by_cases h1 : t6 = (-2)
              · have e3 : (t6 == (-2)) = true := by simp; exact h1
                clear h1
                have HA : Hid (GivN b C P M A B Mo Nr ∧ ∃ hs, GvS W3 A B Mo Nr hs s.f (Zm.ua s)) := ⟨HP.out.n, HP.out.g⟩
                have hT := owns_audit HP.out.o
                clear p0 p1 p2 p3 p4 hl
                go_wp2_with fail
                refine hT.mono ?_
                rintro r w6 ⟨x6, c6, rfl, ho, hm, hO6⟩
                have HM6 : Hid (GivM b w w6 C P M A B Mo Nr (Zm.audit s) x6 c6 (Zm.auditE s)) := by
                  obtain ⟨hn, hs, hg⟩ := HA.out
                  exact givm_made hn hg ho hm hO6 lk_audit (audit_len s)
                clear hT ho hm hO6 HA
                go_wp2
                go_meet
                case rel => exact ⟨x6, c6, _, _, rfl, HM6⟩
              · have e3 : (t6 == (-2)) = false := by simp; exact h1
                clear h1
                by_cases h1 : t6 = 3
                · have e4 : (t6 == 3) = true := by simp; exact h1
                  clear h1
                  have HA : Hid (GivN b C P M A B Mo Nr ∧ ∃ hs, GvS W3 A B Mo Nr hs s.f (Zm.ua s)) := ⟨HP.out.n, HP.out.g⟩
                  have hT := owns_rem q.ai HP.out.o
                  clear p0 p1 p2 p4
                  go_wp2_with fail
                  refine hT.mono ?_
                  rintro r w6 ⟨x6, c6, rfl, ho, hm, hO6⟩
                  have HM6 : Hid (GivM b w w6 C P M A B Mo Nr (Zm.removeOp s q.ai).1 x6 c6 (Zm.removeOp s q.ai).2) := by
                    obtain ⟨hn, hs, hg⟩ := HA.out
                    exact givm_made hn hg ho hm hO6 (lk_rem q.ai) (rem_len s q.ai)
                  clear hT ho hm hO6 HA p3 hl
                  go_wp2
                  go_meet
                  case rel => exact ⟨x6, c6, _, _, rfl, HM6⟩
                · have e4 : (t6 == 3) = false := by simp; exact h1
                  clear h1
                  by_cases h1 : t6 = (-3)
                  · have e5 : (t6 == (-3)) = true := by simp; exact h1
                    clear h1
                    have HA : Hid (GivN b C P M A B Mo Nr ∧ ∃ hs, GvS W3 A B Mo Nr hs s.f (Zm.ua s)) := ⟨HP.out.n, HP.out.g⟩
                    have hT := owns_rem q.ai HP.out.o
                    clear p0 p1 p2 p4
                    go_wp2_with fail
                    refine hT.mono ?_
                    rintro r w6 ⟨x6, c6, rfl, ho, hm, hO6⟩
                    have HM6 : Hid (GivM b w w6 C P M A B Mo Nr (Zm.removeOp s q.ai).1 x6 c6 (Zm.removeOp s q.ai).2) := by
                      obtain ⟨hn, hs, hg⟩ := HA.out
                      exact givm_made hn hg ho hm hO6 (lk_rem q.ai) (rem_len s q.ai)
                    clear hT ho hm hO6 HA p3 hl
                    go_wp2
                    go_meet
                    case rel => exact ⟨x6, c6, _, _, rfl, HM6⟩
                  · have e5 : (t6 == (-3)) = false := by simp; exact h1
                    clear h1
                    by_cases h1 : t6 = 4
                    · have e6 : (t6 == 4) = true := by simp; exact h1
                      clear h1
                      obtain ⟨hs, hg⟩ := HP.out.g
                      obtain ⟨W4, hdl, hN4, hk4⟩ := hg.n.drop HQ.out (fun _ _ => rfl) 0
                      have cb := hg.cb
                      have lb := hg.lb
                      have HA : Hid (GivN b C P M A B Mo Nr ∧ ∃ hs, GvS W4 A B Mo Nr hs s.f (Pm.frF (Zm.ua s) q.ai)) := ⟨HP.out.n, hs, hg.turnN hN4 hk4⟩
                      have n2 := HP.out.n.ne Nr (Or.inr (Or.inr (Or.inr rfl)))
                      have HO4 : Hid (OwnS b w W4 C P M s) := ⟨HP.out.o.sr.kept hk4 (fun e => n2.1 e.symm) (fun e => n2.2.1 e.symm) (fun e => n2.2.2.1 e.symm), HP.out.o.bC, HP.out.o.bP, HP.out.o.bM, HP.out.o.bel.trans (hk4.below HP.out.o.bs (fun k e => by rw [e]; exact n2.2.2.2))⟩
                      have p3' := (hk4.cell (p := ⟨V, 3, none⟩) hl HV.out.2).trans p3
                      have hl' := Nat.lt_of_lt_of_le hl hk4.size
                      have HOk : Hid (Zm.Ok s) := HP.out.o.sr.ok
                      have hT := owns_timeout q.ai HQ.out HO4.out
                      clear p0 p1 p2 p4 hg hN4 hk4 n2
                      go_wp2_with fail
                      refine hT.mono ?_
                      rintro r w6 ⟨x6, c6, rfl, ho, hm, hO6⟩
                      have HM6 : Hid (GivM b w w6 C P M A B Mo Nr (Zm.timeout s q.ai).1 x6 c6 (Zm.timeout s q.ai).2) := by
                        obtain ⟨hn, hs, hg⟩ := HA.out
                        exact givm_made hn hg ho hm hO6 (lk_timeout HOk.out q.ai) (timeout_len s q.ai)
                      clear hT ho hm hO6 HA hdl cb lb p3' hl' p3 hl
                      go_wp2
                      go_meet
                      case rel => exact ⟨x6, c6, _, _, rfl, HM6⟩
                    · have e6 : (t6 == 4) = false := by simp; exact h1
                      clear h1
                      by_cases h1 : t6 = (-4)
                      · have e7 : (t6 == (-4)) = true := by simp; exact h1
                        clear h1
                        obtain ⟨hs, hg⟩ := HP.out.g
                        obtain ⟨W4, hdl, hN4, hk4⟩ := hg.n.drop HQ.out (fun _ _ => rfl) 0
                        have cb := hg.cb
                        have lb := hg.lb
                        have HA : Hid (GivN b C P M A B Mo Nr ∧ ∃ hs, GvS W4 A B Mo Nr hs s.f (Pm.frF (Zm.ua s) q.ai)) := ⟨HP.out.n, hs, hg.turnN hN4 hk4⟩
                        have n2 := HP.out.n.ne Nr (Or.inr (Or.inr (Or.inr rfl)))
                        have HO4 : Hid (OwnS b w W4 C P M s) := ⟨HP.out.o.sr.kept hk4 (fun e => n2.1 e.symm) (fun e => n2.2.1 e.symm) (fun e => n2.2.2.1 e.symm), HP.out.o.bC, HP.out.o.bP, HP.out.o.bM, HP.out.o.bel.trans (hk4.below HP.out.o.bs (fun k e => by rw [e]; exact n2.2.2.2))⟩
                        have p3' := (hk4.cell (p := ⟨V, 3, none⟩) hl HV.out.2).trans p3
                        have hl' := Nat.lt_of_lt_of_le hl hk4.size
                        have HOk : Hid (Zm.Ok s) := HP.out.o.sr.ok
                        have hT := owns_timeout q.ai HQ.out HO4.out
                        clear p0 p1 p2 p4 hg hN4 hk4 n2
                        go_wp2_with fail
                        refine hT.mono ?_
                        rintro r w6 ⟨x6, c6, rfl, ho, hm, hO6⟩
                        have HM6 : Hid (GivM b w w6 C P M A B Mo Nr (Zm.timeout s q.ai).1 x6 c6 (Zm.timeout s q.ai).2) := by
                          obtain ⟨hn, hs, hg⟩ := HA.out
                          exact givm_made hn hg ho hm hO6 (lk_timeout HOk.out q.ai) (timeout_len s q.ai)
                        clear hT ho hm hO6 HA hdl cb lb p3' hl' p3 hl
                        go_wp2
                        go_meet
                        case rel => exact ⟨x6, c6, _, _, rfl, HM6⟩
                      · have e7 : (t6 == (-4)) = false := by simp; exact h1
                        clear h1
                        have HMd := made_any15 q.d q.ty q.ri q.ai q.of W3
                        go_wp2_with fail
                        refine HMd.mono ?_
                        rintro r w5 ⟨rfl, hb5⟩
                        have HP5 : Hid (GivS b w w5 C P M A B Mo Nr s) := HP.out.below hb5
                        have HA : Hid (GivN b C P M A B Mo Nr ∧ ∃ hs, GvS w5 A B Mo Nr hs s.f (Zm.ua s)) := ⟨HP5.out.n, HP5.out.g⟩
                        have HOk : Hid (Zm.Ok s) := HP.out.o.sr.ok
                        have hT := owns_message q.ty q.ri q.ai HP5.out.o
                        clear p0 p1 p2 p3 p4 hl hb5 HMd
                        go_wp2_with fail
                        refine hT.mono ?_
                        rintro r w6 ⟨x6, c6, rfl, ho, hm, hO6⟩
                        have HM6 : Hid (GivM b w w6 C P M A B Mo Nr (Zm.message s q.ty q.ri q.ai).1 x6 c6 (Zm.message s q.ty q.ri q.ai).2) := by
                          obtain ⟨hn, hs, hg⟩ := HA.out
                          exact givm_made hn hg ho hm hO6 (lk_message HOk.out q.ty q.ri q.ai) (Zm.message_len s q.ty q.ri q.ai)
                        clear hT ho hm hO6 HA HP5
                        go_wp2
                        go_meet
                        case rel => exact ⟨x6, c6, _, _, rfl, HM6⟩
      obtain ⟨x6, c6, l6, s6, rfl, HM⟩ := hcut
      have HLk := HM.out.looked
      clear p0 p1 p2 p3 p4 hl HP HV HQ
      go_wp2_with fail
      refine HLk.mono ?_
      rintro r w7 ⟨rfl, hS7⟩
      have HS7 : Hid (GivS b w w7 C P M A B Mo Nr s6) := hS7
      have HL := owns_list HS7.out.o
      obtain ⟨N, hNe⟩ : ∃ N, Pm.ct s6.f 63 = N := ⟨_, rfl⟩
      rw [hNe] at HL
      have HNe : Hid (Pm.ct s6.f 63 = N) := hNe
      have hN63 : N ≤ 63 := by rw [← hNe]; exact Pm.ct_le _ _
      clear hS7 HLk HM hNe
      go_wp2_with fail
      refine HL.mono ?_
      rintro r w8 ⟨x8, c8, rfl, hl8, -⟩
      have HRow : Hid (∀ i, i < N → ∃ (g i' : Nat), x8 = some ⟨g, 0, none⟩ ∧ g < w8.heap.size ∧ w8.cell? ⟨g, i, none⟩ = some (.int .i64 (64 + (i' : Int))) ∧ i' < 63 ∧ s6.f i' = true) := fun i hi => by
        have hlen : (Pm.ls s6.f 63).length = N := HNe.out
        obtain ⟨G, hI, _⟩ := hl8.row
        obtain ⟨g, h1, _, h3, h4, _⟩ := hI.nth i (by rw [hlen]; exact hi)
        obtain ⟨i', k1, k2, k3⟩ := (Zm.ls_mem _ _ _).1 (show (Pm.ls s6.f 63).getD i 0 ∈ Pm.ls s6.f 63 by
          rw [List.getD, List.getElem?_eq_getElem (by rw [hlen]; exact hi)]
          exact List.getElem_mem _)
        rw [k3] at h4
        exact ⟨g, i', h1, h3, h4, k1, k2⟩
      have hNc : N ≤ c8 := by
        have hlen : (Pm.ls s6.f 63).length = N := HNe.out
        obtain ⟨G, hI, _⟩ := hl8.row
        have := hI.le
        rw [hlen] at this
        exact this
      have HS8 : Hid (GivS b w w8 C P M A B Mo Nr s6) := HS7.out.below hl8.bel
      clear hl8 HL HS7
      go_wp2
      generalize wr = wo at *
      go_loopw [10, 81] (fun i1 i2 wx => ∃ k : Nat, k ≤ N ∧ i1 = .int .i64 k ∧ i2 = .int .i64 k ∧ Hid (Below w8.heap.size w8 wx ∧ GivS b w wx C P M A B Mo Nr s6)) (fun _ i _ => N - (intOf i).toNat)
      case atStart => exact ⟨0, Nat.zero_le _, rfl, rfl, Below.refl _ _, HS8.out⟩
      case round =>
        obtain ⟨k, hk, rfl, rfl, HK⟩ := hrel
        clear HS8
        by_cases hin2 : k < N
        · obtain ⟨g, i', rfl, hg, hx, hi63, hf⟩ := HRow.out k hin2
          have hx2 := (HK.out.1.cell (p := ⟨g, k, none⟩) hg).trans hx
          have hg2 : g < wr.heap.size := Nat.lt_of_lt_of_le hg HK.out.1.size
          obtain ⟨hs, hgv⟩ := HK.out.2.g
          have ca := hgv.ca
          have la := hgv.la
          have hlk := hgv.m.look hi63
          rw [hf] at hlk
          clear hgv hx hg hf
          go_wp2
          go_roundw
          case rel => exact ⟨k + 1, by omega, by go_num, by go_num, HK⟩
          case measure => simp [intOf]; omega
        · have hje : k = N := by omega
          subst hje
          clear hin2 HRow
          obtain ⟨hs, hgv⟩ := HK.out.2.g
          have ca := hgv.ca
          have la := hgv.la
          obtain ⟨W9, hrg, hR9, hb9⟩ := hgv.m.range
          have HR9 : Hid (GivR b w W9 C P M A B Mo Nr wr.heap.size 0 s6) := givr_start HK.out.2 hR9 hb9
          clear hgv hR9 hb9 HK
          go_wp2
          generalize wr.heap.size = rr at *
          generalize wr = wo2 at *
          go_loopw [13] (fun i wx => ∃ h : Nat, h ≤ 63 ∧ i = .int .i64 h ∧ Hid (GivR b w wx C P M A B Mo Nr rr h s6)) (fun _ wx => wx.rangeLeft Mo rr)
          case atStart => exact ⟨0, by omega, rfl, HR9⟩
          case round =>
            obtain ⟨h, hh63, rfl, HG⟩ := hrel
            clear HR9 hrg ca la
            obtain ⟨hs, hr⟩ := HG.out.r
            rcases hr.next 0 with ⟨hn, hrun⟩ | ⟨p, v, W10, hp, hrun, hr', hk10, hlt, hent⟩
            · have hNh : h = k := by rw [← hn]; exact HNe.out
              subst hNh
              have HS9 : Hid (GivS b w wr C P M A B Mo Nr s6) := HG.out.gs
              have HCk := owns_cks HS9.out.o
              obtain ⟨Nc, hNce⟩ : ∃ Nc, (Zm.cks s6).length = Nc := ⟨_, rfl⟩
              have HNc : Hid ((Zm.cks s6).length = Nc) := hNce
              have hNc63 : Nc ≤ 63 := by
                rw [← hNce]
                unfold Zm.cks
                rw [List.length_map]
                exact Pm.ct_le _ _
              rw [hNce] at HCk
              clear hNce hn hr HG hs
              go_wp2_with fail
              refine HCk.mono ?_
              rintro r w11 ⟨x11, c11, rfl, hck, hb11⟩
              have HS11 : Hid (GivS b w w11 C P M A B Mo Nr s6) := HS9.out.below hb11
              have hcc : Nc ≤ c11 := by
                rw [← HNc.out] at hck ⊢
                exact hck.capC
              have HCR : Hid (∀ i, i < Nc → ∃ g p : Nat, x11 = some ⟨g, 0, none⟩ ∧ g < w11.heap.size ∧ p < 63 ∧ Zm.ua s6 p = true ∧ w11.cell? ⟨g, i * 3, none⟩ = some (.int .i64 (64 + (p : Int))) ∧ w11.cell? ⟨g, i * 3 + 1, none⟩ = some (.int .i64 (s6.a p)) ∧ w11.cell? ⟨g, i * 3 + 2, none⟩ = some (.int .i64 (s6.n p))) := fun i hi => by
                rw [← HNc.out] at hck hi
                exact cks_row HS9.out.o.sr.ok hck i hi
              obtain ⟨hs, hgv⟩ := HS11.out.g
              have cb := hgv.cb
              have lb := hgv.lb
              have hlen := fun ty => hgv.n.len ty
              have huc : Pm.ct (Zm.ua s6) 63 = Nc := by
                rw [← HNc.out]
                unfold Zm.cks
                rw [List.length_map]
                rfl
              rw [huc] at hlen
              clear hgv huc hck hb11 HCk HS9 hrun
              go_wp2
              generalize wr = wo3 at *
              go_loopw [117] (fun i wx => ∃ k2 : Nat, k2 ≤ Nc ∧ i = .int .i64 k2 ∧ Hid (Below w11.heap.size w11 wx ∧ GivS b w wx C P M A B Mo Nr s6)) (fun i _ => Nc - (intOf i).toNat)
              case atStart => exact ⟨0, Nat.zero_le _, rfl, Below.refl _ _, HS11.out⟩
              case round =>
                obtain ⟨k2, hk2, rfl, HK⟩ := hrel
                clear HS11 hlen cb lb
                by_cases hin3 : k2 < Nc
                · obtain ⟨g, p, rfl, hg, hp, hu, y0, y1, y2⟩ := HCR.out k2 hin3
                  have z0 := (HK.out.1.cell (p := ⟨g, k2 * 3, none⟩) hg).trans y0
                  have z1 := (HK.out.1.cell (p := ⟨g, k2 * 3 + 1, none⟩) hg).trans y1
                  have z2 := (HK.out.1.cell (p := ⟨g, k2 * 3 + 2, none⟩) hg).trans y2
                  have hg2 : g < wr.heap.size := Nat.lt_of_lt_of_le hg HK.out.1.size
                  have hok := HK.out.2.o.sr.ok
                  have h1 : 1 ≤ s6.a p := by unfold Zm.ua at hu; have := of_decide_eq_true hu; omega
                  have h2 := hok.a2 p
                  have h3 := hok.n1 p
                  have hfp := (ua_in hok hu).2
                  generalize s6.a p = ap at *
                  generalize s6.n p = np at *
                  have d1 : decide ((1 : Int) < (np : Int)) = false := decide_eq_false (by omega)
                  have d2 : decide ((ap : Int) < 1) = false := decide_eq_false (by omega)
                  have d3 : decide ((2 : Int) < (ap : Int)) = false := decide_eq_false (by omega)
                  obtain ⟨W12, hW12⟩ : ∃ W12, W12 = wr.alloc (.cells #[.int .i64 (64 + (p : Int)), .int .i64 ap, .int .i64 np] 44) := ⟨_, rfl⟩
                  have hb12 : Below wr.heap.size wr W12 := by rw [hW12]; exact (Below.refl _ _).alloc (Nat.le_refl _) _
                  have c0 : W12.cell? ⟨wr.heap.size, 0, none⟩ = some (.int .i64 (64 + (p : Int))) := by rw [hW12]; simp
                  have c1 : W12.cell? ⟨wr.heap.size, 1, none⟩ = some (.int .i64 ap) := by rw [hW12]; simp
                  have c2 : W12.cell? ⟨wr.heap.size, 2, none⟩ = some (.int .i64 np) := by rw [hW12]; simp
                  have hl12 : wr.heap.size < W12.heap.size := by rw [hW12]; simp
                  have HK2 : Hid (Below w11.heap.size w11 W12 ∧ GivS b w W12 C P M A B Mo Nr s6) := ⟨HK.out.1.trans (hb12.mono HK.out.1.size), HK.out.2.below hb12⟩
                  obtain ⟨hs, hgv⟩ := HK2.out.2.g
                  have ca := hgv.ca
                  have la := hgv.la
                  have cb := hgv.cb
                  have lb := hgv.lb
                  have hlk := hgv.m.look hp
                  rw [hfp] at hlk
                  have hlk2 := hgv.n.look hp
                  rw [hu] at hlk2
                  clear hgv hok hb12 hg y0 y1 y2 hu hfp HK h1 h2 h3
                  go_upto_region 45 with fail
                  rw [← hW12]
                  clear hW12 z0 z1 z2
                  generalize wr.heap.size = V12 at *
                  go_wp2
                  go_roundw
                  case rel => exact ⟨k2 + 1, by omega, by go_num, HK2⟩
                  case measure => simp [intOf]; omega
                · have hje : k2 = Nc := by omega
                  subst hje
                  clear hin3 HCR
                  have HSe : Hid (∃ s, GivS b w wr C P M A B Mo Nr s) := ⟨_, HK.out.2⟩
                  clear HK
                  go_wp2
                  go_roundw
                  case rel => exact ⟨j + 1, by omega, by go_num, HSe⟩
                  case measure => simp [intOf]; omega
            · have HG10 : Hid (GivR b w W10 C P M A B Mo Nr rr (h + if s6.f p then 1 else 0) s6) := HG.out.step hk10 hr'
              have hle10 := hr'.le
              obtain ⟨hs', hgv⟩ := HG10.out.gs.g
              have ca := hgv.ca
              have la := hgv.la
              have hlk := hgv.m.look hp
              clear hgv hr hr' hk10 HG hs
              cases hf : s6.f p with
              | true =>
                rw [hf] at hlk HG10 hle10
                simp only [if_true] at HG10 hle10
                clear hf
                go_wp2
                go_roundw
                case rel => exact ⟨h + 1, by omega, by go_num, HG10⟩
                case measure => exact hlt
              | false =>
                rw [hf] at hlk HG10 hle10
                simp only [Bool.false_eq_true, if_false, Nat.add_zero] at HG10 hle10
                clear hf
                go_wp2
                go_roundw
                case rel => exact ⟨h, by omega, rfl, HG10⟩
                case measure => exact hlt
    · have hje : j = m := by omega
      subst hje
      clear hin HR
      go_wp2_with fail
      refine (swakes_any wr).mono ?_
      rintro r w9 ⟨rfl, hb9⟩
      have HB : Hid (Below w.heap.size w w9) := by
        have := (HO.out.below hb9).o.bel
        rw [HC.out] at this
        exact this
      clear hb9 HO
      go_wp2
      go_ret
      exact ⟨rfl, HB.out⟩
end Go.Proofs.Ytdnhcpkpajbhoab
