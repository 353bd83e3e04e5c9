/-
  The law's function 'act' of layer 16: one act of both users; the same is done.
-/
import Derived.Test.YtdnhcpkpajbhoaaUsrRefMsg
import Derived.Test.YtdnhcpkpajbhoaaUsrSame
import Derived.Deep.DeepCutAuto
import Derived.Deep.CutBlock
namespace Go.Proofs.Ytdnhcpkpajbhoaa
open Go.RowKit
set_option linter.unusedVariables false
set_option linter.unusedSimpArgs false
set_option maxRecDepth 100000

/-- what an act leaves of a user -/
def Um.act (s : Um.St) (t ty ri ai : Int) (own mine : Bool) : Um.St :=
  if t = 1 then (Um.want s).1 else if t = -1 then (Um.want s).1 else if t = 2 then s else if t = -2 then s else if t = 3 then (Um.drop s).1 else if t = -3 then (Um.drop s).1 else
  if t = 4 then (Um.timeout s).1 else if t = -4 then (Um.timeout s).1 else (Um.message s ty (Um.mkR s.ri ri own) (Um.mkA s.tei ai mine)).1
/-! ### both users: the program's (C, D, G below N), the document's (R, S from N on) -/
structure NumU (b N C D : Nat) (G : Option Nat) (R S : Nat) : Prop where
  c : C < N
  d : D < N
  g : ∀ B, G = some B → B < N
  nr : N ≤ R
  ns : N ≤ S
  bn : b ≤ N
structure PairU (b N : Nat) (W0 w : World) (C D : Nat) (G : Option Nat) (R S : Nat) (s : Um.St) : Prop where
  p : NumU b N C D G R S
  o : OwnU b W0 w C D G s
  r : UrC w R S w.heap.size s
structure MidU (b N : Nat) (W0 w : World) (C D : Nat) (G : Option Nat) (R S : Nat) (s s' : Um.St) (a : Option Addr) (cap : Nat) (l : List Um.Ef) : Prop where
  p : NumU b N C D G R S
  o : OwnU b W0 w C D G s'
  r : UrC w R S w.heap.size s
  row : ∀ j x, l[j]? = some x → ∃ g, a = some ⟨g, 0, none⟩ ∧ g < w.heap.size ∧ g ≠ R ∧ g ≠ S ∧ ∀ k u, (uefL x)[k]? = some u → w.cell? ⟨g, j * 5 + k, none⟩ = some u
  cap : l.length ≤ cap
structure ActO (b N : Nat) (W0 w : World) (C D : Nat) (G : Option Nat) (R S : Nat) (s s' : Um.St) (a : Option Addr) (cap : Nat) (l : List Um.Ef) (e : Int) : Prop where
  u : PairU b N W0 w C D G R S s'
  row : RowL w a l
  cap : l.length ≤ cap
  ok : Um.HoldOk s s' l e
  out : ∃ a2 c2, w.cell? ⟨R, 6, none⟩ = some (.slice a2 l.length c2) ∧ l.length ≤ c2 ∧ RowL w a2 l
section
variable {b N : Nat} {W0 w w' : World} {C D : Nat} {G : Option Nat} {R S : Nat} {s s' : Um.St} {a : Option Addr} {cap : Nat} {l : List Um.Ef} {e : Int}
theorem PairU.below (h : PairU b N W0 w C D G R S s) (hb : Below w.heap.size w w') : PairU b N W0 w' C D G R S s :=
  ⟨h.p, h.o.below hb, (h.r.below hb).up hb.size (Nat.le_refl _)⟩
theorem midu_made (h : PairU b N W0 w C D G R S s) (ho : UOut w.heap.size w' (.slice a l.length cap) l) (hm : Mvu w w' C D G s') (hu : OwnU b W0 w' C D G s') : MidU b N W0 w' C D G R S s s' a cap l := by
  have hc := h.p.c
  have hd := h.p.d
  have hr := h.p.nr
  have hs := h.p.ns
  have hrb := h.r.rb
  have hsb := h.r.sb
  refine ⟨h.p, hu, (h.r.kept hm.2 (by omega) (by omega)).up hm.2.size (Nat.le_refl _), fun j x hj => ?_, ho.capU⟩
  obtain ⟨g, e, hgb, hg, _, hx⟩ := ho.own (by have := (List.getElem?_eq_some_iff.1 hj).1; omega)
  exact ⟨g, e, hg, by omega, by omega, fun k u hk => hx _ u (uef_at l j x hj k u hk)⟩
theorem acto_made (h : MidU b N W0 w C D G R S s s' a cap l) (hm : MvR w w' R S w.heap.size s' l) (hok : Um.HoldOk s s' l e) : ActO b N W0 w' C D G R S s s' a cap l e := by
  have hc := h.p.c
  have hd := h.p.d
  have hr := h.p.nr
  have hs := h.p.ns
  have hbn := h.p.bn
  have hrb := h.r.rb
  have hsb := h.r.sb
  have hbs := h.o.bs
  have hlt := h.o.us.lt
  have hdl := h.o.us.dl
  have hT : ∀ k, k < w.heap.size → k ≠ R → k ≠ S → ¬ TchR R S w.heap.size k := fun k h1 h2 h3 ht => by
    rcases ht with ht | ht | ht
    · exact h2 ht
    · exact h3 ht
    · omega
  refine ⟨⟨h.p, ⟨h.o.us.kept hm.2 (hT C hlt (by omega) (by omega)) (hT D hdl (by omega) (by omega)) (fun B hB => hT B (h.o.us.gl B hB) (by have := h.p.g B hB; omega) (by have := h.p.g B hB; omega)), h.o.bC, h.o.bD, h.o.bel.trans (hm.2.below hbs (fun k hk => by
      rcases hk with rfl | rfl | hk <;> omega))⟩, hm.1.toC.up hm.2.size (Nat.le_refl _)⟩, fun j x hj => ?_, h.cap, hok, ?_⟩
  · obtain ⟨g, e1, hg, h1, h2, hx⟩ := h.row j x hj
    exact ⟨g, e1, Nat.lt_of_lt_of_le hg hm.2.size, fun k u hk => (hm.2.cell (p := ⟨g, j * 5 + k, none⟩) hg (hT g hg h1 h2)).trans (hx k u hk)⟩
  · obtain ⟨v, hv, ho⟩ := hm.1.out
    obtain ⟨a2, c2, rfl, h1, h2⟩ := RowR_of ho rfl
    exact ⟨a2, c2, hv, h1, h2⟩
end

set_option maxHeartbeats 4000000 in
theorem uact_any {b N : Nat} {W0 w : World} {C D : Nat} {G : Option Nat} {R S : Nat} {s : Um.St} (qd qty qri qai : Int) (qo qm : Bool) (hd1 : -9223372036854775808 ≤ qd) (hd2 : qd ≤ 9223372036854775807) (h : PairU b N W0 w C D G R S s) :
    Calls Try.prog 14 #[.pointer (some ⟨C, 0, none⟩), .pointer (some ⟨R, 0, none⟩), .agg #[.int .i64 qd, .int .i64 qty, .int .i64 qri, .int .i64 qai, .bool qo, .bool qm]] w fun r w' => r = .returned (.bool true) ∧ PairU b N W0 w' C D G R S (Um.act s (qd.tmod 6) qty qri qai qo qm) := by
  obtain ⟨W3, hW3⟩ : ∃ W3, W3 = w.alloc (.cells #[.int .i64 qd, .int .i64 qty, .int .i64 qri, .int .i64 qai, .bool qo, .bool qm] 34) := ⟨_, rfl⟩
  have hb3 : Below w.heap.size w W3 := by rw [hW3]; exact (Below.refl _ _).alloc (Nat.le_refl _) _
  have HP : Hid (PairU b N W0 W3 C D G R S s) := h.below hb3
  have p0 : W3.cell? ⟨w.heap.size, 0, none⟩ = some (.int .i64 qd) := by rw [hW3]; simp
  have p1 : W3.cell? ⟨w.heap.size, 1, none⟩ = some (.int .i64 qty) := by rw [hW3]; simp
  have p2 : W3.cell? ⟨w.heap.size, 2, none⟩ = some (.int .i64 qri) := by rw [hW3]; simp
  have p3 : W3.cell? ⟨w.heap.size, 3, none⟩ = some (.int .i64 qai) := by rw [hW3]; simp
  have p4 : W3.cell? ⟨w.heap.size, 4, none⟩ = some (.bool qo) := by rw [hW3]; simp
  have p5 : W3.cell? ⟨w.heap.size, 5, none⟩ = some (.bool qm) := by rw [hW3]; simp
  have hl : w.heap.size < W3.heap.size := by rw [hW3]; simp
  clear h hb3
  go_enter Try.func14, Try.ntmps14
  go_upto_region 4 with fail
  rw [← hW3]
  clear hW3
  generalize w.heap.size = V at *
  go_upto_block 0 with fail
  obtain ⟨t6, ht6⟩ : ∃ t6 : Int, qd.tmod 6 = t6 := ⟨_, rfl⟩
  rw [ht6]
  have HT6 : Hid (qd.tmod 6 = t6) := ht6
  clear ht6 hd1 hd2
  go_cut [7, 8, 9] from 10 (fun s7 s8 s9 wx => ∃ (a6 : Option Addr) (c6 : Nat) (e6 : Int) (l6 : List Um.Ef), s7 = .slice a6 l6.length c6 ∧ s8 = .int .i64 e6 ∧ s9 = .int .i64 e6 ∧ Hid (ActO b N W0 wx C D G R S s (Um.act s t6 qty qri qai qo qm) a6 c6 l6 e6))
  case first =>
    by_cases h1 : t6 = 1
    · have e0 : (t6 == 1) = true := by simp; exact h1
      have K0 : Hid (t6 = 1) := h1
      clear h1
      have hA : Um.act s t6 qty qri qai qo qm = (Um.want s).1 := by have k0 := K0.out; simp [Um.act, k0]
      have HA : Hid (Um.act s t6 qty qri qai qo qm = (Um.want s).1) := hA
      clear hA
      have hT := ownu_want HP.out.o
      clear p0 p1 p2 p3 p4 p5 hl
      go_wp2_with fail
      refine hT.mono ?_
      rintro r w6 ⟨a6, c6, rfl, ho, hm, hO6⟩
      have HM6 : Hid (MidU b N W0 w6 C D G R S s _ a6 c6 _) := midu_made HP.out ho hm hO6
      have HOk : Hid (Um.Ok s) := HP.out.o.us.ok
      have hR := rwant_any HM6.out.r HOk.out
      clear hT ho hm hO6
      go_wp2_with fail
      refine hR.mono ?_
      rintro r w7 ⟨rfl, hm7⟩
      have HH : Hid (ActO b N W0 w7 C D G R S s (Um.act s t6 qty qri qai qo qm) a6 c6 ((Um.want s).2) (Um.wantN s)) := by
        rw [HA.out]
        exact acto_made HM6.out hm7 Um.ho_want
      clear hR hm7 HM6 HA
      go_wp2
      go_meet
      case rel => exact ⟨a6, c6, _, _, rfl, rfl, rfl, HH⟩
    · have e0 : (t6 == 1) = false := by simp; exact h1
      have K0 : Hid (¬ t6 = 1) := h1
      clear h1
      by_cases h1 : t6 = (-1)
      · have e1 : (t6 == (-1)) = true := by simp; exact h1
        have K1 : Hid (t6 = (-1)) := h1
        clear h1
        have hA : Um.act s t6 qty qri qai qo qm = (Um.want s).1 := by have k0 := K0.out; have k1 := K1.out; simp [Um.act, k0, k1]
        have HA : Hid (Um.act s t6 qty qri qai qo qm = (Um.want s).1) := hA
        clear hA
        have hT := ownu_want HP.out.o
        clear p0 p1 p2 p3 p4 p5 hl
        go_wp2_with fail
        refine hT.mono ?_
        rintro r w6 ⟨a6, c6, rfl, ho, hm, hO6⟩
        have HM6 : Hid (MidU b N W0 w6 C D G R S s _ a6 c6 _) := midu_made HP.out ho hm hO6
        have HOk : Hid (Um.Ok s) := HP.out.o.us.ok
        have hR := rwant_any HM6.out.r HOk.out
        clear hT ho hm hO6
        go_wp2_with fail
        refine hR.mono ?_
        rintro r w7 ⟨rfl, hm7⟩
        have HH : Hid (ActO b N W0 w7 C D G R S s (Um.act s t6 qty qri qai qo qm) a6 c6 ((Um.want s).2) (Um.wantN s)) := by
          rw [HA.out]
          exact acto_made HM6.out hm7 Um.ho_want
        clear hR hm7 HM6 HA
        go_wp2
        go_meet
        case rel => exact ⟨a6, c6, _, _, rfl, rfl, rfl, HH⟩
      · have e1 : (t6 == (-1)) = false := by simp; exact h1
        have K1 : Hid (¬ t6 = (-1)) := h1
        clear h1
        by_cases h1 : t6 = 2
        · have e2 : (t6 == 2) = true := by simp; exact h1
          have K2 : Hid (t6 = 2) := h1
          clear h1
          have hA : Um.act s t6 qty qri qai qo qm = s := by have k0 := K0.out; have k1 := K1.out; have k2 := K2.out; simp [Um.act, k0, k1, k2]
          have HA : Hid (Um.act s t6 qty qri qai qo qm = s) := hA
          clear hA
          have hT := ownu_verify HP.out.o
          clear p0 p1 p2 p3 p4 p5 hl
          go_wp2_with fail
          refine hT.mono ?_
          rintro r w6 ⟨a6, c6, rfl, ho, hm, hO6⟩
          have HM6 : Hid (MidU b N W0 w6 C D G R S s _ a6 c6 _) := midu_made HP.out ho hm hO6
          have HOk : Hid (Um.Ok s) := HP.out.o.us.ok
          have hR := rverify_any HM6.out.r HOk.out
          clear hT ho hm hO6
          go_wp2_with fail
          refine hR.mono ?_
          rintro r w7 ⟨rfl, hm7⟩
          have HH : Hid (ActO b N W0 w7 C D G R S s (Um.act s t6 qty qri qai qo qm) a6 c6 (Um.verifyE s) (Um.verifyN s)) := by
            rw [HA.out]
            exact acto_made HM6.out hm7 Um.ho_verify
          clear hR hm7 HM6 HA
          go_wp2
          go_meet
          case rel => exact ⟨a6, c6, _, _, rfl, rfl, rfl, HH⟩
        · have e2 : (t6 == 2) = false := by simp; exact h1
          have K2 : Hid (¬ t6 = 2) := h1
          clear h1
          by_cases h1 : t6 = (-2)
          · have e3 : (t6 == (-2)) = true := by simp; exact h1
            have K3 : Hid (t6 = (-2)) := h1
            clear h1
            have hA : Um.act s t6 qty qri qai qo qm = s := by have k0 := K0.out; have k1 := K1.out; have k2 := K2.out; have k3 := K3.out; simp [Um.act, k0, k1, k2, k3]
            have HA : Hid (Um.act s t6 qty qri qai qo qm = s) := hA
            clear hA
            have hT := ownu_verify HP.out.o
            clear p0 p1 p2 p3 p4 p5 hl
            go_wp2_with fail
            refine hT.mono ?_
            rintro r w6 ⟨a6, c6, rfl, ho, hm, hO6⟩
            have HM6 : Hid (MidU b N W0 w6 C D G R S s _ a6 c6 _) := midu_made HP.out ho hm hO6
            have HOk : Hid (Um.Ok s) := HP.out.o.us.ok
            have hR := rverify_any HM6.out.r HOk.out
            clear hT ho hm hO6
            go_wp2_with fail
            refine hR.mono ?_
            rintro r w7 ⟨rfl, hm7⟩
            have HH : Hid (ActO b N W0 w7 C D G R S s (Um.act s t6 qty qri qai qo qm) a6 c6 (Um.verifyE s) (Um.verifyN s)) := by
              rw [HA.out]
              exact acto_made HM6.out hm7 Um.ho_verify
            clear hR hm7 HM6 HA
            go_wp2
            go_meet
            case rel => exact ⟨a6, c6, _, _, rfl, rfl, rfl, HH⟩
          · have e3 : (t6 == (-2)) = false := by simp; exact h1
            have K3 : Hid (¬ t6 = (-2)) := h1
            clear h1
            by_cases h1 : t6 = 3
            · have e4 : (t6 == 3) = true := by simp; exact h1
              have K4 : Hid (t6 = 3) := h1
              clear h1
              have hA : Um.act s t6 qty qri qai qo qm = (Um.drop s).1 := by have k0 := K0.out; have k1 := K1.out; have k2 := K2.out; have k3 := K3.out; have k4 := K4.out; simp [Um.act, k0, k1, k2, k3, k4]
              have HA : Hid (Um.act s t6 qty qri qai qo qm = (Um.drop s).1) := hA
              clear hA
              have hT := ownu_drop HP.out.o
              clear p0 p1 p2 p3 p4 p5 hl
              go_wp2_with fail
              refine hT.mono ?_
              rintro r w6 ⟨a6, c6, rfl, ho, hm, hO6⟩
              have HM6 : Hid (MidU b N W0 w6 C D G R S s _ a6 c6 _) := midu_made HP.out ho hm hO6
              have HOk : Hid (Um.Ok s) := HP.out.o.us.ok
              have hR := rdrop_any HM6.out.r HOk.out
              clear hT ho hm hO6
              go_wp2_with fail
              refine hR.mono ?_
              rintro r w7 ⟨rfl, hm7⟩
              have HH : Hid (ActO b N W0 w7 C D G R S s (Um.act s t6 qty qri qai qo qm) a6 c6 ((Um.drop s).2) (Um.dropN s)) := by
                rw [HA.out]
                exact acto_made HM6.out hm7 Um.ho_drop
              clear hR hm7 HM6 HA
              go_wp2
              go_meet
              case rel => exact ⟨a6, c6, _, _, rfl, rfl, rfl, HH⟩
            · have e4 : (t6 == 3) = false := by simp; exact h1
              have K4 : Hid (¬ t6 = 3) := h1
              clear h1
              by_cases h1 : t6 = (-3)
              · have e5 : (t6 == (-3)) = true := by simp; exact h1
                have K5 : Hid (t6 = (-3)) := h1
                clear h1
                have hA : Um.act s t6 qty qri qai qo qm = (Um.drop s).1 := by have k0 := K0.out; have k1 := K1.out; have k2 := K2.out; have k3 := K3.out; have k4 := K4.out; have k5 := K5.out; simp [Um.act, k0, k1, k2, k3, k4, k5]
                have HA : Hid (Um.act s t6 qty qri qai qo qm = (Um.drop s).1) := hA
                clear hA
                have hT := ownu_drop HP.out.o
                clear p0 p1 p2 p3 p4 p5 hl
                go_wp2_with fail
                refine hT.mono ?_
                rintro r w6 ⟨a6, c6, rfl, ho, hm, hO6⟩
                have HM6 : Hid (MidU b N W0 w6 C D G R S s _ a6 c6 _) := midu_made HP.out ho hm hO6
                have HOk : Hid (Um.Ok s) := HP.out.o.us.ok
                have hR := rdrop_any HM6.out.r HOk.out
                clear hT ho hm hO6
                go_wp2_with fail
                refine hR.mono ?_
                rintro r w7 ⟨rfl, hm7⟩
                have HH : Hid (ActO b N W0 w7 C D G R S s (Um.act s t6 qty qri qai qo qm) a6 c6 ((Um.drop s).2) (Um.dropN s)) := by
                  rw [HA.out]
                  exact acto_made HM6.out hm7 Um.ho_drop
                clear hR hm7 HM6 HA
                go_wp2
                go_meet
                case rel => exact ⟨a6, c6, _, _, rfl, rfl, rfl, HH⟩
              · have e5 : (t6 == (-3)) = false := by simp; exact h1
                have K5 : Hid (¬ t6 = (-3)) := h1
                clear h1
                by_cases h1 : t6 = 4
                · have e6 : (t6 == 4) = true := by simp; exact h1
                  have K6 : Hid (t6 = 4) := h1
                  clear h1
                  have hA : Um.act s t6 qty qri qai qo qm = (Um.timeout s).1 := by have k0 := K0.out; have k1 := K1.out; have k2 := K2.out; have k3 := K3.out; have k4 := K4.out; have k5 := K5.out; have k6 := K6.out; simp [Um.act, k0, k1, k2, k3, k4, k5, k6]
                  have HA : Hid (Um.act s t6 qty qri qai qo qm = (Um.timeout s).1) := hA
                  clear hA
                  have hT := ownu_timeout HP.out.o
                  clear p0 p1 p2 p3 p4 p5 hl
                  go_wp2_with fail
                  refine hT.mono ?_
                  rintro r w6 ⟨a6, c6, rfl, ho, hm, hO6⟩
                  have HM6 : Hid (MidU b N W0 w6 C D G R S s _ a6 c6 _) := midu_made HP.out ho hm hO6
                  have HOk : Hid (Um.Ok s) := HP.out.o.us.ok
                  have hR := rtimeout_any HM6.out.r HOk.out
                  clear hT ho hm hO6
                  go_wp2_with fail
                  refine hR.mono ?_
                  rintro r w7 ⟨rfl, hm7⟩
                  have HH : Hid (ActO b N W0 w7 C D G R S s (Um.act s t6 qty qri qai qo qm) a6 c6 ((Um.timeout s).2) (0)) := by
                    rw [HA.out]
                    exact acto_made HM6.out hm7 Um.ho_timeout
                  clear hR hm7 HM6 HA
                  go_wp2
                  go_meet
                  case rel => exact ⟨a6, c6, _, _, rfl, rfl, rfl, HH⟩
                · have e6 : (t6 == 4) = false := by simp; exact h1
                  have K6 : Hid (¬ t6 = 4) := h1
                  clear h1
                  by_cases h1 : t6 = (-4)
                  · have e7 : (t6 == (-4)) = true := by simp; exact h1
                    have K7 : Hid (t6 = (-4)) := h1
                    clear h1
                    have hA : Um.act s t6 qty qri qai qo qm = (Um.timeout s).1 := by have k0 := K0.out; have k1 := K1.out; have k2 := K2.out; have k3 := K3.out; have k4 := K4.out; have k5 := K5.out; have k6 := K6.out; have k7 := K7.out; simp [Um.act, k0, k1, k2, k3, k4, k5, k6, k7]
                    have HA : Hid (Um.act s t6 qty qri qai qo qm = (Um.timeout s).1) := hA
                    clear hA
                    have hT := ownu_timeout HP.out.o
                    clear p0 p1 p2 p3 p4 p5 hl
                    go_wp2_with fail
                    refine hT.mono ?_
                    rintro r w6 ⟨a6, c6, rfl, ho, hm, hO6⟩
                    have HM6 : Hid (MidU b N W0 w6 C D G R S s _ a6 c6 _) := midu_made HP.out ho hm hO6
                    have HOk : Hid (Um.Ok s) := HP.out.o.us.ok
                    have hR := rtimeout_any HM6.out.r HOk.out
                    clear hT ho hm hO6
                    go_wp2_with fail
                    refine hR.mono ?_
                    rintro r w7 ⟨rfl, hm7⟩
                    have HH : Hid (ActO b N W0 w7 C D G R S s (Um.act s t6 qty qri qai qo qm) a6 c6 ((Um.timeout s).2) (0)) := by
                      rw [HA.out]
                      exact acto_made HM6.out hm7 Um.ho_timeout
                    clear hR hm7 HM6 HA
                    go_wp2
                    go_meet
                    case rel => exact ⟨a6, c6, _, _, rfl, rfl, rfl, HH⟩
                  · have e7 : (t6 == (-4)) = false := by simp; exact h1
                    have K7 : Hid (¬ t6 = (-4)) := h1
                    clear h1
                    have hA : Um.act s t6 qty qri qai qo qm = (Um.message s qty (Um.mkR s.ri qri qo) (Um.mkA s.tei qai qm)).1 := by have k0 := K0.out; have k1 := K1.out; have k2 := K2.out; have k3 := K3.out; have k4 := K4.out; have k5 := K5.out; have k6 := K6.out; have k7 := K7.out; simp [Um.act, k0, k1, k2, k3, k4, k5, k6, k7]
                    have HMk := umk_any (some ⟨C, 0, none⟩) s.tei s.ri s.tries s.asks qd qty qri qai qo qm W3 (fun w5 hb => uview_any (HP.out.o.us.below hb))
                    go_wp2_with fail
                    refine HMk.mono ?_
                    rintro r w6 ⟨rfl, hb6⟩
                    have HP6 : Hid (PairU b N W0 w6 C D G R S s) := HP.out.below hb6
                    generalize Um.mkR s.ri qri qo = mr at *
                    generalize Um.mkA s.tei qai qm = ma at *
                    have HA : Hid (Um.act s t6 qty qri qai qo qm = (Um.message s qty mr ma).1) := hA
                    clear hA
                    obtain ⟨W7, hW7⟩ : ∃ W7, W7 = w6.alloc (.cells #[.int .i64 qty, .int .i64 mr, .int .i64 ma] 51) := ⟨_, rfl⟩
                    have hb7 : Below w6.heap.size w6 W7 := by rw [hW7]; exact (Below.refl _ _).alloc (Nat.le_refl _) _
                    have HP7 : Hid (PairU b N W0 W7 C D G R S s) := HP6.out.below hb7
                    have m0 : W7.cell? ⟨w6.heap.size, 0, none⟩ = some (.int .i64 qty) := by rw [hW7]; simp
                    have m1 : W7.cell? ⟨w6.heap.size, 1, none⟩ = some (.int .i64 mr) := by rw [hW7]; simp
                    have m2 : W7.cell? ⟨w6.heap.size, 2, none⟩ = some (.int .i64 ma) := by rw [hW7]; simp
                    have hlm : w6.heap.size < W7.heap.size := by rw [hW7]; simp
                    have HMM : Hid (¬ (w6.heap.size = C ∨ w6.heap.size = D)) := by have := HP6.out.o.us.lt; have := HP6.out.o.us.dl; show ¬ _; omega
                    have hT := ownu_message qty mr ma HP7.out.o
                    clear hb6 HMk hb7 HP6 p0 p1 p2 p3 p4 p5 hl
                    go_wp2_with fail
                    rw [← hW7]
                    clear hW7
                    generalize w6.heap.size = M at *
                    refine hT.mono ?_
                    rintro r w8 ⟨a6, c6, rfl, ho, hm, hO6⟩
                    have n0 := (hm.2.cell (p := ⟨M, 0, none⟩) hlm HMM.out).trans m0
                    have n1 := (hm.2.cell (p := ⟨M, 1, none⟩) hlm HMM.out).trans m1
                    have n2 := (hm.2.cell (p := ⟨M, 2, none⟩) hlm HMM.out).trans m2
                    have hln : M < w8.heap.size := Nat.lt_of_lt_of_le hlm hm.2.size
                    have HM6 : Hid (MidU b N W0 w8 C D G R S s _ a6 c6 _) := midu_made HP7.out ho hm hO6
                    have HOk : Hid (Um.Ok s) := HP7.out.o.us.ok
                    have hR := rmessage_any qty mr ma HM6.out.r HOk.out
                    clear hT ho hm hO6 m0 m1 m2 hlm HMM HP7
                    go_wp2_with fail
                    refine hR.mono ?_
                    rintro r w7 ⟨rfl, hm7⟩
                    have HH : Hid (ActO b N W0 w7 C D G R S s (Um.act s t6 qty qri qai qo qm) a6 c6 (Um.message s qty mr ma).2 0) := by
                      rw [HA.out]
                      exact acto_made HM6.out hm7 (Um.ho_message HOk.out qty mr ma)
                    clear hR hm7 HM6 HA n0 n1 n2 hln
                    go_wp2
                    go_meet
                    case rel => exact ⟨a6, c6, _, _, rfl, rfl, rfl, HH⟩
  obtain ⟨a6, c6, e6, l6, rfl, rfl, rfl, HH⟩ := hcut
  clear p0 p1 p2 p3 p4 p5 hl HP
  obtain ⟨a2, c2, k6, hc2, hr2⟩ := HH.out.out
  have hlt := HH.out.u.r.lt
  have hr1 := HH.out.row
  have hc1 := HH.out.cap
  have hle := HH.out.ok.len
  have herr := HH.out.ok.err
  have HPe : Hid (PairU b N W0 wc C D G R S (Um.act s t6 qty qri qai qo qm)) := HH.out.u
  clear HH
  by_cases he : e6 = 0
  · subst he
    have HS := usame_any a6 a2 l6.length c6 c2 l6 wc hr1 hr2 rfl hc1 hc2 (by omega)
    clear hr1 hr2 herr
    go_wp2_with fail
    refine HS.mono ?_
    rintro r w9 ⟨rfl, hb⟩
    have HPf : Hid (PairU b N W0 w9 C D G R S (Um.act s t6 qty qri qai qo qm)) := HPe.out.below hb
    clear HS hb
    go_wp2
    go_ret
    exact ⟨rfl, by rw [HT6.out]; exact HPf.out⟩
  · have e1 : (e6 == e6) = true := by simp
    have e2 : (e6 != 0) = true := by simp; exact he
    have e3 : (e6 == 0) = false := by simp; exact he
    obtain ⟨hl0, -⟩ := herr he
    subst hl0
    clear hr1 hr2 he
    go_wp2
    go_ret
    exact ⟨rfl, by rw [HT6.out]; exact HPe.out⟩
end Go.Proofs.Ytdnhcpkpajbhoaa
