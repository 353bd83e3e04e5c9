/-
  The walk of the law UserHolds: it returns true.
-/
import Derived.Test.YtdnhcpkpajbhoaaUsrHold
import Derived.Test.YtdnhcpkpajbhoaaUActRows
import Derived.Test.YtdnhcpkpajbhoaaTeimsgFrom
import Derived.Deep.DeepCutAuto
import Derived.Deep.CutBlock
namespace Go.Proofs.Ytdnhcpkpajbhoaa
open Go.RowKit
set_option linter.unusedVariables false
set_option linter.unusedSimpArgs false
set_option maxRecDepth 100000

/-- what an act leaves: the user, its view ahead (block V), the effects -/
structure HdA (b : Nat) (W0 w : World) (C D : Nat) (G : Option Nat) (V : Nat) (s s' : Um.St) (a : Option Addr) (cap : Nat) (l : List Um.Ef) (e : Int) : Prop where
  u : OwnU b W0 w C D G s'
  v : VwU w V s
  row : RowL w a l
  cap : l.length ≤ cap
  ok : Um.HoldOk s s' l e
theorem hda_made {b : Nat} {W0 w w' : World} {C D : Nat} {G : Option Nat} {V : Nat} {s s' : Um.St} {a : Option Addr} {cap : Nat} {l : List Um.Ef} {e : Int} (hv : VwU w V s) (hVC : ¬ (V = C ∨ V = D)) (ho : UOut w.heap.size w' (.slice a l.length cap) l) (hm : Mvu w w' C D G s') (hu : OwnU b W0 w' C D G s') (hok : Um.HoldOk s s' l e) : HdA b W0 w' C D G V s s' a cap l e :=
  ⟨hu, hv.kept hm.2 hVC, ho.row, ho.capU, hok⟩

theorem HdA.below {b : Nat} {W0 w w' : World} {C D : Nat} {G : Option Nat} {V : Nat} {s s' : Um.St} {a : Option Addr} {cap : Nat} {l : List Um.Ef} {e : Int} (h : HdA b W0 w C D G V s s' a cap l e) (hb : Below w.heap.size w w') : HdA b W0 w' C D G V s s' a cap l e :=
  ⟨h.u.below hb, h.v.below hb, h.row.below hb, h.cap, h.ok⟩
/-- and its view behind (block I) -/
structure HdI (b : Nat) (W0 w : World) (C D : Nat) (G : Option Nat) (V I : Nat) (s s' : Um.St) (a : Option Addr) (cap : Nat) (l : List Um.Ef) (e : Int) : Prop where
  h : HdA b W0 w C D G V s s' a cap l e
  i : VwU w I s'
theorem HdI.below {b : Nat} {W0 w w' : World} {C D : Nat} {G : Option Nat} {V I : Nat} {s s' : Um.St} {a : Option Addr} {cap : Nat} {l : List Um.Ef} {e : Int} (h : HdI b W0 w C D G V I s s' a cap l e) (hb : Below w.heap.size w w') : HdI b W0 w' C D G V I s s' a cap l e :=
  ⟨h.h.below hb, h.i.below hb⟩

set_option maxHeartbeats 4000000 in
theorem walk_UserHolds (x0 : Int) (a : Option Addr) (len cap : Nat) (ps : List ActU) (w : World) (hx : 0 ≤ x0 ∧ x0 ≤ 18446744073709551615) (hr : RowU w a len cap ps) :
    Calls Try.prog 4 #[.int .u64 x0, .slice a len cap] w fun r w' => r = .returned (.bool true) ∧ Below w.heap.size w w' := by
  have hlc : len ≤ cap := hr.2.1
  have hcm : cap ≤ 9223372036854775807 := by have := hr.2.2.1; unfold maxLen at this; exact this
  have HR : Hid (∀ j, j < len → ∃ (bb off : Nat) (q : ActU), a = some ⟨bb, off, none⟩ ∧ bb < w.heap.size ∧ q = ps.getD j actu0 ∧ q.At w bb (off + j * 6) ∧ q.Ok) := fun j hj => hr.at j hj
  clear hr
  obtain ⟨m, hm50, hml, hmin⟩ : ∃ m : Nat, m ≤ 100 ∧ m ≤ len ∧ m = min len 100 := ⟨min len 100, by omega, by omega, rfl⟩
  have hmm : (if (100 : Int) < (len : Int) then (100 : Int) else (len : Int)) = (m : Int) := by split <;> omega
  clear hmin
  have hfr : a.map (·.add 0) = a := by
    cases a with
    | none => rfl
    | some x => simp [Addr.add]
  have HDn := dnew_none x0 w hx.1 (by omega)
  clear hx
  go_enter Try.func4, Try.ntmps4
  go_wp2_with fail
  refine HDn.mono ?_
  rintro r w1 ⟨D, G, rfl, h1, h2, h3, h4⟩
  have HUn := ownu_new (b := w.heap.size) (W0 := w) 3 h1 (fun B hB => (h4 B hB).2) h3 h2 h2.size
  clear h1 h2 h3 h4 HDn
  go_wp2_with fail
  refine HUn.mono ?_
  rintro r w2 ⟨C, rfl, O2, -⟩
  obtain ⟨b, hb⟩ : ∃ b, b = w.heap.size := ⟨_, rfl⟩
  rw [← hb] at O2
  have HO2 : Hid (∃ s, OwnU b w w2 C D G s) := ⟨_, O2⟩
  have HC : Hid (b = w.heap.size) := hb
  clear O2 HUn hb
  go_wp2
  clear hfr hmm
  go_loopw [24] (fun c wr => ∃ j : Nat, j ≤ m ∧ c = .int .i64 j ∧ Hid (∃ s, OwnU b w wr C D G s)) (fun c _ => m - (intOf c).toNat)
  case atStart => exact ⟨0, Nat.zero_le _, rfl, HO2⟩
  case round =>
    obtain ⟨j, hjm, rfl, HS⟩ := hrel
    clear HO2
    obtain ⟨s, hO⟩ := HS.out
    have HO := (show Hid (OwnU b w wr C D G s) from hO)
    clear hO HS
    by_cases hin : j < m
    · obtain ⟨bb, off, q, rfl, hbb, -, hq, hok⟩ := HR.out j (by omega)
      obtain ⟨q0, q1, q2, q3, q4, q5⟩ := hq.below HO.out.bel (by rw [HC.out]; exact hbb)
      have hbr : bb < wr.heap.size := by have := HO.out.bs; have := HC.out; omega
      obtain ⟨qd, qty, qri, qai, qo, qm⟩ := q
      simp only [] at q0 q1 q2 q3 q4 q5
      have hd1 := hok.d.1
      have hd2 := hok.d.2
      simp only [] at hd1 hd2
      clear hq hok HR
      obtain ⟨W3, hW3⟩ : ∃ W3, W3 = wr.alloc (.cells #[.int .i64 qd, .int .i64 qty, .int .i64 qri, .int .i64 qai, .bool qo, .bool qm] 34) := ⟨_, rfl⟩
      have hb3 : Below wr.heap.size wr W3 := by rw [hW3]; exact (Below.refl _ _).alloc (Nat.le_refl _) _
      have HO3 : Hid (OwnU b w W3 C D G s) := HO.out.below hb3
      have p0 : W3.cell? ⟨wr.heap.size, 0, none⟩ = some (.int .i64 qd) := by rw [hW3]; simp
      have p1 : W3.cell? ⟨wr.heap.size, 1, none⟩ = some (.int .i64 qty) := by rw [hW3]; simp
      have p2 : W3.cell? ⟨wr.heap.size, 2, none⟩ = some (.int .i64 qri) := by rw [hW3]; simp
      have p3 : W3.cell? ⟨wr.heap.size, 3, none⟩ = some (.int .i64 qai) := by rw [hW3]; simp
      have p4 : W3.cell? ⟨wr.heap.size, 4, none⟩ = some (.bool qo) := by rw [hW3]; simp
      have p5 : W3.cell? ⟨wr.heap.size, 5, none⟩ = some (.bool qm) := by rw [hW3]; simp
      have hl3 : wr.heap.size < W3.heap.size := by rw [hW3]; simp
      have HP3 : Hid (ActU.At ⟨qd, qty, qri, qai, qo, qm⟩ W3 wr.heap.size 0 ∧ wr.heap.size < W3.heap.size) := ⟨⟨p0, p1, p2, p3, p4, p5⟩, hl3⟩
      have hV := ownu_view HO3.out
      clear HO hb3 p0 p1 p2 p3 p4 p5 hl3
      go_wp2_with fail
      rw [← hW3]
      clear hW3 q0 q1 q2 q3 q4 q5
      refine hV.mono ?_
      rintro r w4 ⟨rfl, hb4, hO4⟩
      obtain ⟨W5, hW5⟩ : ∃ W5, W5 = w4.alloc (.cells #[.int .i64 s.tei, .bool s.asks, .int .i64 s.ri, .int .i64 s.tries] 37) := ⟨_, rfl⟩
      have hb5 : Below w4.heap.size w4 W5 := by rw [hW5]; exact (Below.refl _ _).alloc (Nat.le_refl _) _
      have HO5 : Hid (OwnU b w W5 C D G s) := hO4.below hb5
      have HV5 : Hid (VwU W5 w4.heap.size s) := by rw [hW5]; exact vwu_new w4 s
      have hVC : ¬ (w4.heap.size = C ∨ w4.heap.size = D) := by have := hO4.us.lt; have := hO4.us.dl; omega
      have HVC : Hid (¬ (w4.heap.size = C ∨ w4.heap.size = D)) := hVC
      have hA5 := (HP3.out.1.below hb4 HP3.out.2).below hb5 (Nat.lt_of_lt_of_le HP3.out.2 hb4.size)
      have hl5 : wr.heap.size < W5.heap.size := Nat.lt_of_lt_of_le HP3.out.2 (Nat.le_trans hb4.size hb5.size)
      obtain ⟨p0, p1, p2, p3, p4, p5⟩ := hA5
      simp only [Nat.zero_add] at p0 p1 p2 p3 p4 p5
      clear hV hb4 hO4 hb5 HP3 HO3 hVC
      go_upto_region 8 with fail
      rw [← hW5]
      clear hW5
      obtain ⟨V, hVd⟩ : ∃ V, V = w4.heap.size := ⟨_, rfl⟩
      rw [← hVd] at HV5 HVC
      generalize w4.heap.size = V' at hVd ⊢
      subst hVd
      go_upto_block 2 with fail
      obtain ⟨t6, ht6⟩ : ∃ t6 : Int, qd.tmod 6 = t6 := ⟨_, rfl⟩
      rw [ht6]
      clear ht6 hd1 hd2
      go_cut [9, 10] from 33 to 66 (fun s9 s10 wx => ∃ (a6 : Option Addr) (c6 : Nat) (e6 : Int) (l6 : List Um.Ef) (s6 : Um.St), s9 = .slice a6 l6.length c6 ∧ s10 = .int .i64 e6 ∧ Hid (HdA b w wx C D G V s s6 a6 c6 l6 e6))
      case first =>
        by_cases h1 : t6 = 1
        · have e1 : (t6 == 1) = true := by simp; exact h1
          clear h1
          have hT := ownu_want HO5.out
          clear p0 p1 p2 p3 p4 p5 hl5
          go_wp2_with fail
          refine hT.mono ?_
          rintro r w6 ⟨a6, c6, rfl, ho, hm, hO6⟩
          have HH6 : Hid (HdA b w w6 C D G V s _ a6 c6 _ _) := hda_made HV5.out HVC.out ho hm hO6 Um.ho_want
          clear hT ho hm hO6
          go_wp2
          go_meet
          case rel => exact ⟨a6, c6, _, _, _, rfl, rfl, HH6⟩
        · have e1 : (t6 == 1) = false := by simp; exact h1
          clear h1
          by_cases h1n : t6 = (-1)
          · have e1n : (t6 == (-1)) = true := by simp; exact h1n
            clear h1n
            have hT := ownu_want HO5.out
            clear p0 p1 p2 p3 p4 p5 hl5
            go_wp2_with fail
            refine hT.mono ?_
            rintro r w6 ⟨a6, c6, rfl, ho, hm, hO6⟩
            have HH6 : Hid (HdA b w w6 C D G V s _ a6 c6 _ _) := hda_made HV5.out HVC.out ho hm hO6 Um.ho_want
            clear hT ho hm hO6
            go_wp2
            go_meet
            case rel => exact ⟨a6, c6, _, _, _, rfl, rfl, HH6⟩
          · have e1n : (t6 == (-1)) = false := by simp; exact h1n
            clear h1n
            by_cases h2 : t6 = 2
            · have e2 : (t6 == 2) = true := by simp; exact h2
              clear h2
              have hT := ownu_verify HO5.out
              clear p0 p1 p2 p3 p4 p5 hl5
              go_wp2_with fail
              refine hT.mono ?_
              rintro r w6 ⟨a6, c6, rfl, ho, hm, hO6⟩
              have HH6 : Hid (HdA b w w6 C D G V s _ a6 c6 _ _) := hda_made HV5.out HVC.out ho hm hO6 Um.ho_verify
              clear hT ho hm hO6
              go_wp2
              go_meet
              case rel => exact ⟨a6, c6, _, _, _, rfl, rfl, HH6⟩
            · have e2 : (t6 == 2) = false := by simp; exact h2
              clear h2
              by_cases h2n : t6 = (-2)
              · have e2n : (t6 == (-2)) = true := by simp; exact h2n
                clear h2n
                have hT := ownu_verify HO5.out
                clear p0 p1 p2 p3 p4 p5 hl5
                go_wp2_with fail
                refine hT.mono ?_
                rintro r w6 ⟨a6, c6, rfl, ho, hm, hO6⟩
                have HH6 : Hid (HdA b w w6 C D G V s _ a6 c6 _ _) := hda_made HV5.out HVC.out ho hm hO6 Um.ho_verify
                clear hT ho hm hO6
                go_wp2
                go_meet
                case rel => exact ⟨a6, c6, _, _, _, rfl, rfl, HH6⟩
              · have e2n : (t6 == (-2)) = false := by simp; exact h2n
                clear h2n
                by_cases h3 : t6 = 3
                · have e3 : (t6 == 3) = true := by simp; exact h3
                  clear h3
                  have hT := ownu_drop HO5.out
                  clear p0 p1 p2 p3 p4 p5 hl5
                  go_wp2_with fail
                  refine hT.mono ?_
                  rintro r w6 ⟨a6, c6, rfl, ho, hm, hO6⟩
                  have HH6 : Hid (HdA b w w6 C D G V s _ a6 c6 _ _) := hda_made HV5.out HVC.out ho hm hO6 Um.ho_drop
                  clear hT ho hm hO6
                  go_wp2
                  go_meet
                  case rel => exact ⟨a6, c6, _, _, _, rfl, rfl, HH6⟩
                · have e3 : (t6 == 3) = false := by simp; exact h3
                  clear h3
                  by_cases h3n : t6 = (-3)
                  · have e3n : (t6 == (-3)) = true := by simp; exact h3n
                    clear h3n
                    have hT := ownu_drop HO5.out
                    clear p0 p1 p2 p3 p4 p5 hl5
                    go_wp2_with fail
                    refine hT.mono ?_
                    rintro r w6 ⟨a6, c6, rfl, ho, hm, hO6⟩
                    have HH6 : Hid (HdA b w w6 C D G V s _ a6 c6 _ _) := hda_made HV5.out HVC.out ho hm hO6 Um.ho_drop
                    clear hT ho hm hO6
                    go_wp2
                    go_meet
                    case rel => exact ⟨a6, c6, _, _, _, rfl, rfl, HH6⟩
                  · have e3n : (t6 == (-3)) = false := by simp; exact h3n
                    clear h3n
                    by_cases h4 : t6 = 4
                    · have e4 : (t6 == 4) = true := by simp; exact h4
                      clear h4
                      have hT := ownu_timeout HO5.out
                      clear p0 p1 p2 p3 p4 p5 hl5
                      go_wp2_with fail
                      refine hT.mono ?_
                      rintro r w6 ⟨a6, c6, rfl, ho, hm, hO6⟩
                      have HH6 : Hid (HdA b w w6 C D G V s _ a6 c6 _ _) := hda_made HV5.out HVC.out ho hm hO6 Um.ho_timeout
                      clear hT ho hm hO6
                      go_wp2
                      go_meet
                      case rel => exact ⟨a6, c6, _, _, _, rfl, rfl, HH6⟩
                    · have e4 : (t6 == 4) = false := by simp; exact h4
                      clear h4
                      by_cases h4n : t6 = (-4)
                      · have e4n : (t6 == (-4)) = true := by simp; exact h4n
                        clear h4n
                        have hT := ownu_timeout HO5.out
                        clear p0 p1 p2 p3 p4 p5 hl5
                        go_wp2_with fail
                        refine hT.mono ?_
                        rintro r w6 ⟨a6, c6, rfl, ho, hm, hO6⟩
                        have HH6 : Hid (HdA b w w6 C D G V s _ a6 c6 _ _) := hda_made HV5.out HVC.out ho hm hO6 Um.ho_timeout
                        clear hT ho hm hO6
                        go_wp2
                        go_meet
                        case rel => exact ⟨a6, c6, _, _, _, rfl, rfl, HH6⟩
                      · have e4n : (t6 == (-4)) = false := by simp; exact h4n
                        clear h4n
                        have HMk := umk_any (some ⟨C, 0, none⟩) s.tei s.ri s.tries s.asks qd qty qri qai qo qm W5 (fun w5 hb => uview_any (HO5.out.us.below hb))
                        go_wp2_with fail
                        refine HMk.mono ?_
                        rintro r w6 ⟨rfl, hb6⟩
                        have hO6 := HO5.out.below hb6
                        have hV6 := HV5.out.below hb6
                        generalize Um.mkR s.ri qri qo = mr
                        generalize Um.mkA s.tei qai qm = ma
                        have hT := ownu_message qty mr ma hO6
                        have HO6 : Hid (Um.HoldOk s (Um.message s qty mr ma).1 (Um.message s qty mr ma).2 0 ∧ VwU w6 V s) := ⟨Um.ho_message hO6.us.ok qty mr ma, hV6⟩
                        clear hb6 hO6 hV6 HMk p0 p1 p2 p3 p4 p5 hl5
                        go_wp2_with fail
                        refine hT.mono ?_
                        rintro r w7 ⟨a6, c6, rfl, ho, hm, hO7⟩
                        have HH6 : Hid (HdA b w w7 C D G V s _ a6 c6 _ _) := hda_made HO6.out.2 HVC.out ho hm hO7 HO6.out.1
                        clear hT ho hm hO7 HO6
                        go_wp2
                        go_meet
                        case rel => exact ⟨a6, c6, _, _, _, rfl, rfl, HH6⟩
      obtain ⟨a6, c6, e6, l6, s6, rfl, rfl, HH⟩ := hcut
      clear p0 p1 p2 p3 p4 p5 hl5 HO5 HV5 HVC
      have hV7 := ownu_view HH.out.u
      go_wp2_with fail
      refine hV7.mono ?_
      rintro r w7 ⟨rfl, hb7, -⟩
      obtain ⟨W8, hW8⟩ : ∃ W8, W8 = w7.alloc (.cells #[.int .i64 s6.tei, .bool s6.asks, .int .i64 s6.ri, .int .i64 s6.tries] 37) := ⟨_, rfl⟩
      have hb8 : Below w7.heap.size w7 W8 := by rw [hW8]; exact (Below.refl _ _).alloc (Nat.le_refl _) _
      have HI : Hid (HdI b w W8 C D G V w7.heap.size s s6 a6 c6 l6 e6) := ⟨(HH.out.below hb7).below hb8, by rw [hW8]; exact vwu_new w7 s6⟩
      clear hV7 hb7 hb8 HH
      go_upto_region 23 with fail
      rw [← hW8]
      clear hW8
      generalize w7.heap.size = I at HI ⊢
      obtain ⟨n, hn⟩ : ∃ n, l6.length = n := ⟨_, rfl⟩
      have hn2 : n ≤ 2 := by rw [← hn]; exact HI.out.h.ok.len
      have hnc : n ≤ c6 := by rw [← hn]; exact HI.out.h.cap
      rw [hn]
      have HN : Hid (l6.length = n) := hn
      clear hn
      go_cut [80] from 69 to 79 (fun c wx => c = .bool false ∧ wx = W8)
      case first =>
        by_cases he : e6 = 0
        · have e1 : (e6 != 0) = false := by simp; exact he
          clear he
          go_wp2
          go_meet
          case rel => exact ⟨rfl, rfl⟩
        · have e1 : (e6 != 0) = true := by simp; exact he
          obtain ⟨hl, hs⟩ := HI.out.h.ok.err he
          have hn0 : ((n : Int) != 0) = false := by
            have := HN.out
            rw [hl] at this
            have : n = 0 := this.symm
            subst this
            rfl
          obtain ⟨vl, v0, v1, v2, v3⟩ := HI.out.h.v
          have hi := HI.out.i
          rw [hs] at hi
          obtain ⟨il, i0, i1, i2, i3⟩ := hi
          clear he hl hs
          generalize s.tei = st at *
          generalize s.asks = sa at *
          generalize s.ri = sr at *
          generalize s.tries = sq at *
          go_wp2
          go_meet
          case rel => exact ⟨rfl, rfl⟩
      obtain ⟨rfl, hwc⟩ := hcut
      rw [hwc]
      clear hwc wc
      go_wp2
      go_loopw [83] (fun c wx => ∃ k : Nat, k ≤ n ∧ c = .int .i64 k ∧ Hid (HdI b w wx C D G V I s s6 a6 c6 l6 e6)) (fun c _ => n - (intOf c).toNat)
      case atStart => exact ⟨0, Nat.zero_le _, rfl, HI⟩
      case round =>
        obtain ⟨k, hkn, rfl, HK⟩ := hrel
        clear HI
        by_cases hk : k < n
        · obtain ⟨x, hx⟩ : ∃ x, l6[k]? = some x := ⟨_, List.getElem?_eq_getElem (by rw [HN.out]; exact hk)⟩
          obtain ⟨g, rfl, hgl, hc⟩ := HK.out.h.row k x hx
          have hE := HK.out.h.ok.each x (List.mem_of_getElem? hx)
          obtain ⟨xk, xt, xr, xa, xi⟩ := x
          have k0 : wr.cell? ⟨g, k * 5, none⟩ = some (.int .i64 xk) := hc 0 _ rfl
          have k1 : wr.cell? ⟨g, k * 5 + 1, none⟩ = some (.int .i64 xt) := hc 1 _ rfl
          have k2 : wr.cell? ⟨g, k * 5 + 2, none⟩ = some (.int .i64 xr) := hc 2 _ rfl
          have k3 : wr.cell? ⟨g, k * 5 + 3, none⟩ = some (.int .i64 xa) := hc 3 _ rfl
          have k4 : wr.cell? ⟨g, k * 5 + 4, none⟩ = some (.int .i64 xi) := hc 4 _ rfl
          obtain ⟨vl, v0, v1, v2, v3⟩ := HK.out.h.v
          obtain ⟨il, i0, i1, i2, i3⟩ := HK.out.i
          have HKb : Hid (∀ w', Below wr.heap.size wr w' → HdI b w w' C D G V I s s6 (some ⟨g, 0, none⟩) c6 l6 e6) := fun w' hb => HK.out.below hb
          have hE' : (xk = 0 ∧ Tm.net xt = false ∧ (xt = 1 ∨ xa = s.tei) ∧ 0 ≤ xr ∧ xr ≤ 65535) ∨ (xk = 1 ∧ s.tei = -1 ∧ s6.tei = xi ∧ 64 ≤ xi ∧ xi ≤ 126) ∨ (xk = 2 ∧ s.tei = xi ∧ s6.tei = -1) ∨ 3 ≤ xk := hE
          clear hE hc hx HK v1 v2 v3 i1 i2 i3
          rcases hE' with ⟨rfl, hnet, hta, hr0, hr1⟩ | ⟨rfl, hs, hs6, hi0, hi1⟩ | ⟨rfl, hs, hs6⟩ | h3
          · have HF : Hid (∀ w', Calls Try.prog 22 #[.int .i64 xt] w' fun e w'' => e = .returned (.bool false) ∧ w' = w'') := fun w' => by
              have := from_any xt w'
              rw [hnet] at this
              exact this
            have d0 : decide (xr < 0) = false := decide_eq_false (by omega)
            have d1 : decide (65535 < xr) = false := decide_eq_false (by omega)
            clear hnet hr0 hr1 i0
            rcases hta with rfl | ha
            · go_wp2_with fail
              refine (HF.out _).mono ?_
              rintro r w9 ⟨rfl, rfl⟩
              clear HF
              go_wp2
              go_roundw
              case rel => exact ⟨k + 1, by omega, by go_num, HKb.out _ (((Below.refl _ _).alloc (Nat.le_refl _) _).alloc (by simp) _)⟩
              case measure => simp [intOf]; omega
            · rw [← ha] at v0
              clear ha
              by_cases ht : xt = 1
              · have e1 : (xt != 1) = false := by simp; exact ht
                clear ht
                go_wp2_with fail
                refine (HF.out _).mono ?_
                rintro r w9 ⟨rfl, rfl⟩
                clear HF
                go_wp2
                go_roundw
                case rel => exact ⟨k + 1, by omega, by go_num, HKb.out _ (((Below.refl _ _).alloc (Nat.le_refl _) _).alloc (by simp) _)⟩
                case measure => simp [intOf]; omega
              · have e1 : (xt != 1) = true := by simp; exact ht
                clear ht
                go_wp2_with fail
                refine (HF.out _).mono ?_
                rintro r w9 ⟨rfl, rfl⟩
                clear HF
                go_wp2
                go_roundw
                case rel => exact ⟨k + 1, by omega, by go_num, HKb.out _ (((Below.refl _ _).alloc (Nat.le_refl _) _).alloc (by simp) _)⟩
                case measure => simp [intOf]; omega
          · rw [hs] at v0
            rw [hs6] at i0
            have d0 : decide (xi < 64) = false := decide_eq_false (by omega)
            have d1 : decide (126 < xi) = false := decide_eq_false (by omega)
            clear hs hs6 hi0 hi1
            go_wp2
            go_roundw
            case rel => exact ⟨k + 1, by omega, by go_num, HKb.out _ (((Below.refl _ _).alloc (Nat.le_refl _) _).alloc (by simp) _)⟩
            case measure => simp [intOf]; omega
          · rw [hs] at v0
            rw [hs6] at i0
            clear hs hs6
            go_wp2
            go_roundw
            case rel => exact ⟨k + 1, by omega, by go_num, HKb.out _ (((Below.refl _ _).alloc (Nat.le_refl _) _).alloc (by simp) _)⟩
            case measure => simp [intOf]; omega
          · have e0 : (xk == 0) = false := by simp; omega
            have e1 : (xk == 1) = false := by simp; omega
            have e2 : (xk == 2) = false := by simp; omega
            clear h3 v0 i0
            go_wp2
            go_roundw
            case rel => exact ⟨k + 1, by omega, by go_num, HKb.out _ (((Below.refl _ _).alloc (Nat.le_refl _) _).alloc (by simp) _)⟩
            case measure => simp [intOf]; omega
        · have hke : k = n := by omega
          subst hke
          obtain ⟨il, i0, i1, i2, i3⟩ := HK.out.i
          have HU : Hid (∃ s, OwnU b w wr C D G s) := ⟨_, HK.out.h.u⟩
          have hok := HK.out.h.u.us.ok
          clear HK HN i2 i3
          cases hsa : s6.asks with
          | false =>
            rw [hsa] at i1
            clear hsa hok
            go_wp2
            go_roundw
            case rel => exact ⟨j + 1, by omega, by go_num, HU⟩
            case measure => simp [intOf]; omega
          | true =>
            rw [hsa] at i1
            have hm := (hok.ask hsa).1
            rw [hm] at i0
            clear hsa hok hm
            go_wp2
            go_roundw
            case rel => exact ⟨j + 1, by omega, by go_num, HU⟩
            case measure => simp [intOf]; omega
    · have hje : j = m := by omega
      subst hje
      clear hin HR
      go_wp2_with fail
      refine (uwakes_any wr).mono ?_
      rintro r w7 ⟨rfl, hb⟩
      have HB : Hid (Below w.heap.size w w7) := by
        have := (HO.out.below hb).bel
        rw [HC.out] at this
        exact this
      clear hb HO
      go_wp2
      go_ret
      exact ⟨rfl, HB.out⟩
end Go.Proofs.Ytdnhcpkpajbhoaa
