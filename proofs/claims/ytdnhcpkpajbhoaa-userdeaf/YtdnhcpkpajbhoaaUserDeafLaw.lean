/-
  The walk of the law UserDeaf: it returns true.
-/
import Derived.Test.YtdnhcpkpajbhoaaUsrWakes
import Derived.Test.YtdnhcpkpajbhoaaUActRows
import Derived.Test.YtdnhcpkpajbhoaaRegionFlag
import Derived.Test.YtdnhcpkpajbhoaaTeimsgFrom
import Derived.Deep.DeepCutAuto
namespace Go.Proofs.Ytdnhcpkpajbhoaa
open Go.RowKit
set_option linter.unusedVariables false
set_option linter.unusedSimpArgs false
set_option maxRecDepth 100000

def Um.hears (s : Um.St) (ty ri ai : Int) : Prop := Tm.net ty = true ∧ (s.asks = true ∧ ri = s.ri ∨ 0 ≤ s.tei ∧ (ai = s.tei ∨ ai = 127))
theorem Um.deaf {s : Um.St} (hok : Um.Ok s) {ty ri ai : Int} (h : ¬ Um.hears s ty ri ai) : Um.message s ty ri ai = (s, []) := by
  unfold Um.hears at h
  have hnt : s.tei ≠ -1 → 0 ≤ s.tei := fun h => by rcases hok.tei with h1 | h1 <;> omega
  unfold Um.message
  split
  · split
    · rename_i h2
      subst h2
      have hn : Tm.net 2 = true := rfl
      rw [hn] at h
      unfold Um.assigned
      rw [if_neg, if_neg]
      · intro hg
        unfold Um.gone at hg
        simp only [Bool.and_eq_true, decide_eq_true_eq] at hg
        exact h ⟨rfl, Or.inr ⟨hnt hg.1, Or.inl hg.2⟩⟩
      · intro hg
        unfold Um.mine at hg
        simp only [Bool.and_eq_true, decide_eq_true_eq] at hg
        exact h ⟨rfl, Or.inl ⟨hg.1, hg.2.1⟩⟩
    · split
      · rename_i h2
        subst h2
        have hn : Tm.net 4 = true := rfl
        rw [hn] at h
        unfold Um.check
        rw [if_neg]
        intro hg
        unfold Um.meant at hg
        simp only [Bool.and_eq_true, Bool.or_eq_true, decide_eq_true_eq] at hg
        exact h ⟨rfl, Or.inr ⟨hnt hg.1, hg.2⟩⟩
      · split
        · rename_i h2
          subst h2
          have hn : Tm.net 6 = true := rfl
          rw [hn] at h
          unfold Um.remove
          rw [if_neg]
          intro hg
          unfold Um.meant at hg
          simp only [Bool.and_eq_true, Bool.or_eq_true, decide_eq_true_eq] at hg
          exact h ⟨rfl, Or.inr ⟨hnt hg.1, hg.2⟩⟩
        · rfl
  · rfl
/-- the user, its view (block V) and a message (block M) -/
structure DeafR (b : Nat) (W0 w : World) (C D : Nat) (G : Option Nat) (V M : Nat) (s : Um.St) (ty ri ai : Int) : Prop where
  u : OwnU b W0 w C D G s
  vl : V < w.heap.size
  v0 : w.cell? ⟨V, 0, none⟩ = some (.int .i64 s.tei)
  v1 : w.cell? ⟨V, 1, none⟩ = some (.bool s.asks)
  v2 : w.cell? ⟨V, 2, none⟩ = some (.int .i64 s.ri)
  v3 : w.cell? ⟨V, 3, none⟩ = some (.int .i64 s.tries)
  ml : M < w.heap.size
  m0 : w.cell? ⟨M, 0, none⟩ = some (.int .i64 ty)
  m1 : w.cell? ⟨M, 1, none⟩ = some (.int .i64 ri)
  m2 : w.cell? ⟨M, 2, none⟩ = some (.int .i64 ai)
  vC : ¬ (V = C ∨ V = D)
  mC : ¬ (M = C ∨ M = D)
section
variable {b : Nat} {W0 w w' : World} {C D : Nat} {G : Option Nat} {V M : Nat} {s : Um.St} {ty ri ai : Int}
theorem DeafR.move (h : DeafR b W0 w C D G V M s ty ri ai) (hu : OwnU b W0 w' C D G s) (hk : Kept w w' (fun k => k = C ∨ k = D)) : DeafR b W0 w' C D G V M s ty ri ai :=
  ⟨hu, Nat.lt_of_lt_of_le h.vl hk.size, (hk.cell (p := ⟨V, 0, none⟩) h.vl h.vC).trans h.v0, (hk.cell (p := ⟨V, 1, none⟩) h.vl h.vC).trans h.v1, (hk.cell (p := ⟨V, 2, none⟩) h.vl h.vC).trans h.v2, (hk.cell (p := ⟨V, 3, none⟩) h.vl h.vC).trans h.v3,
    Nat.lt_of_lt_of_le h.ml hk.size, (hk.cell (p := ⟨M, 0, none⟩) h.ml h.mC).trans h.m0, (hk.cell (p := ⟨M, 1, none⟩) h.ml h.mC).trans h.m1, (hk.cell (p := ⟨M, 2, none⟩) h.ml h.mC).trans h.m2, h.vC, h.mC⟩
theorem DeafR.below (h : DeafR b W0 w C D G V M s ty ri ai) (hb : Below w.heap.size w w') : DeafR b W0 w' C D G V M s ty ri ai :=
  h.move (h.u.below hb) (Kept.of_below hb (fun k hk h' => by omega))
theorem DeafR.message (h : DeafR b W0 w C D G V M s ty ri ai) (hd : ¬ Um.hears s ty ri ai) : Calls Try.prog 20 #[.pointer (some ⟨C, 0, none⟩), .agg #[.int .i64 ty, .int .i64 ri, .int .i64 ai]] w fun r w' => r = .returned (.slice none 0 0) ∧ DeafR b W0 w' C D G V M s ty ri ai := by
  refine (umessage_any ty ri ai h.u.us).mono ?_
  rintro r w' ⟨v, rfl, ho, hm⟩
  rw [Um.deaf h.u.us.ok hd] at ho hm
  exact ⟨by rw [ho.nil' rfl], h.move (h.u.then hm) hm.2⟩
end
structure DeafJ (b : Nat) (W0 : World) (C D : Nat) (G : Option Nat) (V M : Nat) (s : Um.St) (ty ri ai : Int) (l : Array Bool) (w : World) : Prop where
  r : DeafR b W0 w C D G V M s ty ri ai
def deafD : Nat → Option Nat | 0 => some 83 | 1 => some 84 | 2 => some 85 | 3 => some 86 | 4 => some 87 | 5 => some 88 | 6 => some 89 | 7 => some 90 | 8 => some 91 | 9 => some 92 | 10 => some 93 | 11 => some 94 | 12 => some 95 | 13 => some 96 | 14 => some 6 | _ => none
def deafV (C V M : Nat) (s : Um.St) (ty ri ai : Int) : Nat → Value | 0 => .bool true | 1 => .bool true | 2 => .pointer (some ⟨C, 0, none⟩) | 3 => .agg #[.int .i64 ty, .int .i64 ri, .int .i64 ai] | 4 => .slice none 0 0 | 5 => .int .i64 0 | 6 => .bool true | 7 => .bool true | 8 => .bool true | 9 => .pointer (some ⟨C, 0, none⟩) | 10 => .agg #[.int .i64 s.tei, .bool s.asks, .int .i64 s.ri, .int .i64 s.tries] | 11 => .agg #[.int .i64 s.tei, .bool s.asks, .int .i64 s.ri, .int .i64 s.tries] | 12 => .bool true | 13 => .bool true | 14 => .bool true | _ => undef
theorem deafD_inj : ∀ i j d, i < 15 → j < 15 → deafD i = some d → deafD j = some d → i = j := by
  have h : ∀ i < 15, ∀ j < 15, deafD i = deafD j → i = j := by decide
  intro i j d hi hj h1 h2
  exact h i hi j hj (h1.trans h2.symm)
theorem deafD_lt : ∀ i d, i < 15 → deafD i = some d → d < 97 := by
  have h : ∀ i < 15, (deafD i).all (· < 97) = true := by decide
  intro i d hi hd
  have := h i hi
  rw [hd] at this
  simpa using this
set_option maxHeartbeats 4000000 in
theorem walk_UserDeaf (x0 : Int) (a : Option Addr) (len cap : Nat) (ps : List ActU) (d ty ri ai : Int) (own mine : Bool) (w : World) (hx : 0 ≤ x0 ∧ x0 ≤ 18446744073709551615) (hr : RowU w a len cap ps) (i1 : -9223372036854775808 ≤ d ∧ d ≤ 9223372036854775807) (i2 : -9223372036854775808 ≤ ty ∧ ty ≤ 9223372036854775807) (i3 : -9223372036854775808 ≤ ri ∧ ri ≤ 9223372036854775807) (i4 : -9223372036854775808 ≤ ai ∧ ai ≤ 9223372036854775807) :
    Calls Try.prog 7 #[.int .u64 x0, .slice a len cap, .agg #[.int .i64 d, .int .i64 ty, .int .i64 ri, .int .i64 ai, .bool own, .bool mine]] w fun r w' => r = .returned (.bool true) ∧ Below w.heap.size w w' := by
  clear i1 i2 i3 i4
  have hlc : len ≤ cap := hr.2.1
  have hcm : cap ≤ 9223372036854775807 := by have := hr.2.2.1; unfold maxLen at this; exact this
  have HR : Hid (∀ j, j < len → ∃ (bb off : Nat) (q : ActU), a = some ⟨bb, off, none⟩ ∧ bb < w.heap.size ∧ q = ps.getD j actu0 ∧ q.At w bb (off + j * 6) ∧ q.Ok) := fun j hj => hr.at j hj
  clear hr
  obtain ⟨m, hm50, hml, hmin⟩ : ∃ m : Nat, m ≤ 50 ∧ m ≤ len ∧ m = min len 50 := ⟨min len 50, by omega, by omega, rfl⟩
  have hmm : (if (50 : Int) < (len : Int) then (50 : Int) else (len : Int)) = (m : Int) := by split <;> omega
  clear hmin
  have hfr : a.map (·.add 0) = a := by
    cases a with
    | none => rfl
    | some x => simp [Addr.add]
  obtain ⟨W, hW⟩ : ∃ W, W = w.alloc (.cells #[.int .i64 d, .int .i64 ty, .int .i64 ri, .int .i64 ai, .bool own, .bool mine] 34) := ⟨_, rfl⟩
  have hbW : Below w.heap.size w W := by rw [hW]; exact (Below.refl _ _).alloc (Nat.le_refl _) _
  have hWs : W.heap.size = w.heap.size + 1 := by rw [hW]; simp
  have m1 : W.cell? ⟨w.heap.size, 1, none⟩ = some (.int .i64 ty) := by rw [hW]; simp
  have m2 : W.cell? ⟨w.heap.size, 2, none⟩ = some (.int .i64 ri) := by rw [hW]; simp
  have m3 : W.cell? ⟨w.heap.size, 3, none⟩ = some (.int .i64 ai) := by rw [hW]; simp
  have HBW : Hid (Below w.heap.size w W) := hbW
  have HA : Hid (∀ w', Below W.heap.size W w' → w'.cell? ⟨w.heap.size, 1, none⟩ = some (.int .i64 ty) ∧ w'.cell? ⟨w.heap.size, 2, none⟩ = some (.int .i64 ri) ∧ w'.cell? ⟨w.heap.size, 3, none⟩ = some (.int .i64 ai) ∧ w.heap.size < w'.heap.size) := fun w' hb => by
    have hl : w.heap.size < W.heap.size := by omega
    exact ⟨(hb.cell (p := ⟨w.heap.size, 1, none⟩) hl).trans m1, (hb.cell (p := ⟨w.heap.size, 2, none⟩) hl).trans m2, (hb.cell (p := ⟨w.heap.size, 3, none⟩) hl).trans m3, Nat.lt_of_lt_of_le hl hb.size⟩
  have HR' : Hid (∀ j, j < len → ∃ (bb off : Nat) (q : ActU), a = some ⟨bb, off, none⟩ ∧ bb < W.heap.size ∧ q.At W bb (off + j * 6) ∧ q.Ok) := fun j hj => by
    obtain ⟨bb, off, q, h1, h2, _, h4, h5⟩ := HR.out j hj
    exact ⟨bb, off, q, h1, by omega, h4.below hbW h2, h5⟩
  have HDn := dnew_none x0 W hx.1 (by omega)
  clear hx HR hbW hWs m1 m2 m3
  go_enter Try.func7, Try.ntmps7
  go_wp2_with fail
  rw [← hW]
  clear hW
  refine HDn.mono ?_
  rintro r w1 ⟨D, G, rfl, h1, h2, h3, h4⟩
  have HUn := ownu_new (b := W.heap.size) (W0 := W) 3 h1 (fun B hB => (h4 B hB).2) h3 h2 h2.size
  clear h1 h2 h3 h4 HDn
  go_wp2_with fail
  refine HUn.mono ?_
  rintro r w2 ⟨C, rfl, O2, -⟩
  obtain ⟨b, hb⟩ : ∃ b, b = W.heap.size := ⟨_, rfl⟩
  rw [← hb] at O2
  have HO2 : Hid (∃ s, OwnU b W w2 C D G s) := ⟨_, O2⟩
  have HC : Hid (b = W.heap.size) := hb
  clear O2 HUn hb
  go_wp2
  clear hfr hmm
  go_loopw [21] (fun c wr => ∃ j : Nat, j ≤ m ∧ c = .int .i64 j ∧ Hid (∃ s, OwnU b W wr C D G s)) (fun c _ => m - (intOf c).toNat)
  case atStart => exact ⟨0, Nat.zero_le _, rfl, HO2⟩
  case round =>
    obtain ⟨j, hjm, rfl, HS⟩ := hrel
    clear HO2
    obtain ⟨s, hO⟩ := HS.out
    have HO := (show Hid (OwnU b W wr C D G s) from hO)
    clear hO HS
    by_cases hin : j < m
    · obtain ⟨bb, off, q, rfl, hbb, hq, hok⟩ := HR'.out j (by omega)
      obtain ⟨q0, q1, q2, q3, q4, q5⟩ := hq.below HO.out.bel (by rw [HC.out]; exact hbb)
      have hbr : bb < wr.heap.size := by have := HO.out.bs; have := HC.out; omega
      obtain ⟨qd, qty, qri, qai, qo, qm⟩ := q
      simp only [] at q0 q1 q2 q3 q4 q5
      have hd1 := hok.d.1
      have hd2 := hok.d.2
      simp only [] at hd1 hd2
      clear hq hok HR' HA HBW
      obtain ⟨W3, hW3⟩ : ∃ W3, W3 = wr.alloc (.cells #[.int .i64 qd, .int .i64 qty, .int .i64 qri, .int .i64 qai, .bool qo, .bool qm] 34) := ⟨_, rfl⟩
      have HO3 : Hid (OwnU b W W3 C D G s) := HO.out.below (by rw [hW3]; exact (Below.refl _ _).alloc (Nat.le_refl _) _)
      clear HO
      by_cases h1 : qd.tmod 6 = 1
      · have hWt := ownu_want HO3.out
        generalize (Um.want s).1 = s' at hWt
        generalize (Um.want s).2.length = n' at hWt
        generalize (Um.want s).2 = l' at hWt
        generalize Um.wantN s = e' at hWt
        go_wp2_with fail
        rw [← hW3]
        clear hW3
        refine hWt.mono ?_
        rintro r w5 ⟨a5, c5, rfl, -, -, hO5⟩
        have HO5 := (show Hid (∃ s, OwnU b W w5 C D G s) from ⟨_, hO5⟩)
        clear hO5 hWt q0 q1 q2 q3 q4 q5 HO3
        go_wp2
        go_roundw
        case rel => exact ⟨j + 1, by omega, by go_num, HO5⟩
        case measure => simp [intOf]; omega
      · by_cases h3 : qd.tmod 6 = 3
        · have hWt := ownu_drop HO3.out
          have e1 : (qd.tmod 6 == 1) = false := by simp; exact h1
          generalize (Um.drop s).1 = s' at hWt
          generalize (Um.drop s).2.length = n' at hWt
          generalize (Um.drop s).2 = l' at hWt
          generalize Um.dropN s = e' at hWt
          go_wp2_with fail
          rw [← hW3]
          clear hW3
          refine hWt.mono ?_
          rintro r w5 ⟨a5, c5, rfl, -, -, hO5⟩
          have HO5 := (show Hid (∃ s, OwnU b W w5 C D G s) from ⟨_, hO5⟩)
          clear hO5 hWt q0 q1 q2 q3 q4 q5 HO3
          go_wp2
          go_roundw
          case rel => exact ⟨j + 1, by omega, by go_num, HO5⟩
          case measure => simp [intOf]; omega
        · have e1 : (qd.tmod 6 == 1) = false := by simp; exact h1
          have e3 : (qd.tmod 6 == 3) = false := by simp; exact h3
          have HMk := umk_any (some ⟨C, 0, none⟩) s.tei s.ri s.tries s.asks qd qty qri qai qo qm W3 (fun w5 hb => uview_any (HO3.out.us.below hb))
          clear h1 h3
          go_wp2_with fail
          rw [← hW3]
          clear hW3
          refine HMk.mono ?_
          rintro r w5 ⟨rfl, hb5⟩
          have hO5 := HO3.out.below hb5
          generalize Um.mkR s.ri qri qo = mr
          generalize Um.mkA s.tei qai qm = ma
          have hMs := ownu_message qty mr ma hO5
          generalize (Um.message s qty mr ma).1 = s' at hMs
          generalize (Um.message s qty mr ma).2.length = n' at hMs
          generalize (Um.message s qty mr ma).2 = l' at hMs
          clear hb5 hO5 HMk HO3
          go_wp2_with fail
          refine hMs.mono ?_
          rintro r w6 ⟨a5, c5, rfl, -, -, hO6⟩
          have HO6 := (show Hid (∃ s, OwnU b W w6 C D G s) from ⟨_, hO6⟩)
          clear hO6 hMs q0 q1 q2 q3 q4 q5
          go_wp2
          go_roundw
          case rel => exact ⟨j + 1, by omega, by go_num, HO6⟩
          case measure => simp [intOf]; omega
    · have hje : j = m := by omega
      subst hje
      clear hin HR'
      have hV := ownu_view HO.out
      go_wp2_with fail
      refine hV.mono ?_
      rintro r w3 ⟨rfl, -, hO3⟩
      obtain ⟨k1, k2, k3, kl⟩ := HA.out w3 (by have := hO3.bel; rw [HC.out] at this; exact this)
      have HO3 : Hid (OwnU b W w3 C D G s) := hO3
      clear hV hO3 HO HA
      go_upto_region 14 with fail
      obtain ⟨W4, hW4⟩ : ∃ W4, W4 = ((w3.alloc (.cells #[.int .i64 s.tei, .bool s.asks, .int .i64 s.ri, .int .i64 s.tries] 37)).alloc (.cells #[.int .i64 ty, .int .i64 ri, .int .i64 ai] 51)) := ⟨_, rfl⟩
      rw [← hW4]
      have HDf : Hid (DeafR b W W4 C D G w3.heap.size (w3.heap.size + 1) s ty ri ai) := by
        rw [hW4]
        have hb1 : Below w3.heap.size w3 (w3.alloc (.cells #[.int .i64 s.tei, .bool s.asks, .int .i64 s.ri, .int .i64 s.tries] 37)) := (Below.refl _ _).alloc (Nat.le_refl _) _
        have hlC := HO3.out.us.lt
        have hlD := HO3.out.us.dl
        obtain ⟨Y, hY⟩ : ∃ Y, Y = w3.alloc (.cells #[.int .i64 s.tei, .bool s.asks, .int .i64 s.ri, .int .i64 s.tries] 37) := ⟨_, rfl⟩
        have y0 : Y.cell? ⟨w3.heap.size, 0, none⟩ = some (.int .i64 s.tei) := by rw [hY]; simp
        have y1 : Y.cell? ⟨w3.heap.size, 1, none⟩ = some (.bool s.asks) := by rw [hY]; simp
        have y2 : Y.cell? ⟨w3.heap.size, 2, none⟩ = some (.int .i64 s.ri) := by rw [hY]; simp
        have y3 : Y.cell? ⟨w3.heap.size, 3, none⟩ = some (.int .i64 s.tries) := by rw [hY]; simp
        have ys : Y.heap.size = w3.heap.size + 1 := by rw [hY]; simp
        rw [← hY] at hb1 ⊢
        clear hY
        have hb2 : Below Y.heap.size Y (Y.alloc (.cells #[.int .i64 ty, .int .i64 ri, .int .i64 ai] 51)) := (Below.refl _ _).alloc (Nat.le_refl _) _
        have hl : w3.heap.size < Y.heap.size := by omega
        refine ⟨(HO3.out.below hb1).below hb2, by simp; omega, (hb2.cell (p := ⟨w3.heap.size, 0, none⟩) hl).trans y0, (hb2.cell (p := ⟨w3.heap.size, 1, none⟩) hl).trans y1, (hb2.cell (p := ⟨w3.heap.size, 2, none⟩) hl).trans y2, (hb2.cell (p := ⟨w3.heap.size, 3, none⟩) hl).trans y3, by simp; omega, ?_, ?_, ?_, by omega, by omega⟩
        · rw [← ys]; simp
        · rw [← ys]; simp
        · rw [← ys]; simp
      have z0 := HDf.out.v0
      have z1 := HDf.out.v1
      have z2 := HDf.out.v2
      have z3 := HDf.out.v3
      have zl := HDf.out.vl
      have n0 := HDf.out.m0
      have n1 := HDf.out.m1
      have n2 := HDf.out.m2
      have nl := HDf.out.ml
      have hV0 : Hid (w3.heap.size + 1 = w3.heap.size + 1) := rfl
      clear hW4 HO3 k1 k2 k3 kl
      generalize w3.heap.size + 1 = M at HDf n0 n1 n2 nl hV0 ⊢
      generalize w3.heap.size = V at HDf z0 z1 z2 z3 zl ⊢
      clear hV0
      have HF := from_any ty W4
      have HHr : Hid (Um.hears s ty ri ai ↔ Tm.net ty = true ∧ (s.asks = true ∧ ri = s.ri ∨ 0 ≤ s.tei ∧ (ai = s.tei ∨ ai = 127))) := Iff.rfl
      generalize s.tei = st at *
      generalize s.asks = sa at *
      generalize s.ri = sr at *
      generalize s.tries = sq at *
      generalize (Value.agg #[.int .i64 st, .bool sa, .int .i64 sr, .int .i64 sq]) = vx
      go_cut [81] from 51 to 80 (fun c wx => ∃ g : Bool, c = .bool g ∧ Hid (g = false → ¬ Um.hears s ty ri ai) ∧ wx = W4)
      case first =>
        cases hnet : Tm.net ty with
        | false =>
          rw [hnet] at HF
          have hd : Hid (¬ Um.hears s ty ri ai) := by
            show ¬ _
            rw [HHr.out, hnet]
            exact fun h => by cases h.1
          clear HHr hnet
          go_wp2_with fail
          refine HF.mono ?_
          rintro r w' ⟨rfl, rfl⟩
          clear HF
          go_wp2
          go_meet
          case rel => exact ⟨false, rfl, fun _ => hd.out, rfl⟩
        | true =>
          rw [hnet] at HF
          clear hnet
          cases hsa : sa with
          | false =>
            rw [hsa] at z1
            have hA : ¬ (sa = true ∧ ri = sr) := fun h => by rw [hsa] at h; cases h.1
            clear hsa
            go_wp2_with fail
            refine HF.mono ?_
            rintro r w' ⟨rfl, rfl⟩
            clear HF
            by_cases hst : 0 ≤ st
            · by_cases hai : ai = st
              · have e1 : (ai == st) = true := by simp; exact hai
                clear hai hA
                clear HHr
                go_wp2
                go_meet
                case rel =>
                  have ht : true = false → ¬ Um.hears s ty ri ai := fun h => by cases h
                  exact ⟨true, rfl, ht, rfl⟩
              · have e1 : (ai == st) = false := by simp; exact hai
                by_cases hb : ai = 127
                · have e2 : (ai == 127) = true := by simp; exact hb
                  clear hb hai hA
                  clear HHr
                  go_wp2
                  go_meet
                  case rel =>
                    have ht : true = false → ¬ Um.hears s ty ri ai := fun h => by cases h
                    exact ⟨true, rfl, ht, rfl⟩
                · have e2 : (ai == 127) = false := by simp; exact hb
                  have hd : Hid (¬ Um.hears s ty ri ai) := by
                    show ¬ _
                    rw [HHr.out]
                    exact fun h => h.2.elim hA (fun h => h.2.elim hai hb)
                  clear HHr hb hai hA
                  go_wp2
                  go_meet
                  case rel => exact ⟨false, rfl, fun _ => hd.out, rfl⟩
            · have hd : Hid (¬ Um.hears s ty ri ai) := by
                show ¬ _
                rw [HHr.out]
                exact fun h => h.2.elim hA (fun h => hst h.1)
              clear HHr hA
              go_wp2
              go_meet
              case rel => exact ⟨false, rfl, fun _ => hd.out, rfl⟩
          | true =>
            rw [hsa] at z1
            by_cases hri : ri = sr
            · have e0 : (ri == sr) = true := by simp; exact hri
              clear hri hsa
              go_wp2_with fail
              refine HF.mono ?_
              rintro r w' ⟨rfl, rfl⟩
              clear HF
              clear HHr
              go_wp2
              go_meet
              case rel =>
                have ht : true = false → ¬ Um.hears s ty ri ai := fun h => by cases h
                exact ⟨true, rfl, ht, rfl⟩
            · have e0 : (ri == sr) = false := by simp; exact hri
              have hA : ¬ (sa = true ∧ ri = sr) := fun h => hri h.2
              clear hri hsa
              go_wp2_with fail
              refine HF.mono ?_
              rintro r w' ⟨rfl, rfl⟩
              clear HF
              by_cases hst : 0 ≤ st
              · by_cases hai : ai = st
                · have e1 : (ai == st) = true := by simp; exact hai
                  clear hai hA
                  clear HHr
                  go_wp2
                  go_meet
                  case rel =>
                    have ht : true = false → ¬ Um.hears s ty ri ai := fun h => by cases h
                    exact ⟨true, rfl, ht, rfl⟩
                · have e1 : (ai == st) = false := by simp; exact hai
                  by_cases hb : ai = 127
                  · have e2 : (ai == 127) = true := by simp; exact hb
                    clear hb hai hA
                    clear HHr
                    go_wp2
                    go_meet
                    case rel =>
                      have ht : true = false → ¬ Um.hears s ty ri ai := fun h => by cases h
                      exact ⟨true, rfl, ht, rfl⟩
                  · have e2 : (ai == 127) = false := by simp; exact hb
                    have hd : Hid (¬ Um.hears s ty ri ai) := by
                      show ¬ _
                      rw [HHr.out]
                      exact fun h => h.2.elim hA (fun h => h.2.elim hai hb)
                    clear HHr hb hai hA
                    go_wp2
                    go_meet
                    case rel => exact ⟨false, rfl, fun _ => hd.out, rfl⟩
              · have hd : Hid (¬ Um.hears s ty ri ai) := by
                  show ¬ _
                  rw [HHr.out]
                  exact fun h => h.2.elim hA (fun h => hst h.1)
                clear HHr hA
                go_wp2
                go_meet
                case rel => exact ⟨false, rfl, fun _ => hd.out, rfl⟩
      obtain ⟨g, rfl, HG, hwc⟩ := hcut
      rw [hwc]
      clear hwc wc HF HHr
      cases g with
      | true =>
        clear HG
        go_wp2_with fail
        refine (uwakes_any W4).mono ?_
        rintro r w6 ⟨rfl, hb6⟩
        have HB6 : Hid (Below w.heap.size w w6) := by
          have hq := (HDf.out.u.below hb6).bel
          rw [HC.out] at hq
          exact HBW.out.trans (hq.mono HBW.out.size)
        clear hb6 HDf z0 z1 z2 z3 n0 n1 n2
        go_wp2
        go_ret
        exact ⟨rfl, HB6.out⟩
      | false =>
        have HD : Hid (¬ Um.hears s ty ri ai) := HG.out rfl
        clear HG z0 z1 z2 z3 n0 n1 n2
        go_upto_region 16 with fail
        refine region_vals (by kernel_rfl) 15 rfl deafD (deafV C V M s ty ri ai) deafD_inj ?hd ?hlow (DeafJ b W C D G V M s ty ri ai) ?h0 ?hstep ?hdone
        case hd => exact deafD_lt
        case hlow => kernel_rfl
        case h0 => exact ⟨HDf.out.below (Below.refl _ _).drew⟩
        case hstep =>
          intro l fa w1 i hi hJ hr hK
          have r7 : fa.eval (.tmp 7) = .pointer (some ⟨C, 0, none⟩) := hK.rest 7 (by decide)
          have r10 : fa.eval (.tmp 10) = .pointer (some ⟨V, 0, none⟩) := hK.rest 10 (by decide)
          have r11 : fa.eval (.tmp 11) = .pointer (some ⟨M, 0, none⟩) := hK.rest 11 (by decide)
          have got : ∀ j, j ∈ depsOf .any _ i → ∀ d', deafD j = some d' → j < 15 → fa.eval (.tmp d') = deafV C V M s ty ri ai j := fun j hj d' hd hj' => hK.got j d' hj' (ready_deps hr j hj) hd
          match i, hi, hr, got with
          | 0, _, hr, got => exact stepw_call rfl (wanted_none rfl) (by have qc : ∀ v, fa.eval (.const v) = v := fun _ => rfl; have qf : fa.eval (.func 13) = .func (.func 13) #[] #[] := rfl; show (execOp fa.eval _).run Try.prog w1 = .ok (.enter 13 #[]) w1; generalize fa.eval = ρ at qf qc  ⊢; unfold execOp; simp only [resolve, qf, qc, List.map_toArray, List.map_cons, List.map_nil]; go_simp) rfl ((uwakes_any w1).mono fun e w' h => ⟨h.1, ⟨hJ.r.below h.2⟩⟩)
          | 1, _, hr, got => exact stepw_val rfl (wanted_none rfl) (runw_move rfl (got 0 (by decide) 83 rfl (by decide)) w1) rfl (⟨hJ.r⟩)
          | 2, _, hr, got => exact stepw_val rfl (wanted_some (j := 1) rfl rfl rfl (got 1 (by decide) 84 rfl (by decide))) (runw_move rfl r7 w1) rfl (⟨hJ.r⟩)
          | 3, _, hr, got => exact stepw_val rfl (wanted_some (j := 1) rfl rfl rfl (got 1 (by decide) 84 rfl (by decide))) (by have qc : ∀ v, fa.eval (.const v) = v := fun _ => rfl; have q11 : fa.eval (.tmp 11) = .pointer (some ⟨M, 0, none⟩) := r11; have z0 := hJ.r.m0; have z1 := hJ.r.m1; have z2 := hJ.r.m2; have zl := hJ.r.ml; show (execOp fa.eval _).run Try.prog w1 = .ok (.value (.agg #[.int .i64 ty, .int .i64 ri, .int .i64 ai])) w1; generalize fa.eval = ρ at qc q11 ⊢; unfold execOp; simp only [qc, q11]; go_simp) rfl (⟨hJ.r⟩)
          | 4, _, hr, got => exact stepw_call rfl (wanted_some (j := 1) rfl rfl rfl (got 1 (by decide) 84 rfl (by decide))) (by have qc : ∀ v, fa.eval (.const v) = v := fun _ => rfl; have q85 : fa.eval (.tmp 85) = .pointer (some ⟨C, 0, none⟩) := (got 2 (by decide) 85 rfl (by decide)); have q86 : fa.eval (.tmp 86) = .agg #[.int .i64 ty, .int .i64 ri, .int .i64 ai] := (got 3 (by decide) 86 rfl (by decide)); have qf : fa.eval (.func 20) = .func (.func 20) #[] #[] := rfl; show (execOp fa.eval _).run Try.prog w1 = .ok (.enter 20 #[.pointer (some ⟨C, 0, none⟩), .agg #[.int .i64 ty, .int .i64 ri, .int .i64 ai]]) w1; generalize fa.eval = ρ at qf qc q85 q86 ⊢; unfold execOp; simp only [resolve, qf, qc, q85, q86, List.map_toArray, List.map_cons, List.map_nil]; go_simp) rfl ((hJ.r.message HD.out).mono fun e w' h => ⟨h.1, ⟨h.2⟩⟩)
          | 5, _, hr, got => exact stepw_val rfl (wanted_some (j := 1) rfl rfl rfl (got 1 (by decide) 84 rfl (by decide))) (by have qc : ∀ v, fa.eval (.const v) = v := fun _ => rfl; have q87 : fa.eval (.tmp 87) = .slice none 0 0 := (got 4 (by decide) 87 rfl (by decide)); show (execOp fa.eval _).run Try.prog w1 = .ok (.value (.int .i64 0)) w1; generalize fa.eval = ρ at qc q87 ⊢; unfold execOp; simp only [resolve, invoke, builtin, Sem.run_bind, Sem.run_pure, Result.andThen_ok, List.map_toArray, List.map_cons, List.map_nil, qc, q87]; go_simp) rfl (⟨hJ.r⟩)
          | 6, _, hr, got => exact stepw_val rfl (wanted_some (j := 1) rfl rfl rfl (got 1 (by decide) 84 rfl (by decide))) (by have qc : ∀ v, fa.eval (.const v) = v := fun _ => rfl; have q88 : fa.eval (.tmp 88) = .int .i64 0 := (got 5 (by decide) 88 rfl (by decide)); show (execOp fa.eval _).run Try.prog w1 = .ok (.value (.bool true)) w1; generalize fa.eval = ρ at qc q88 ⊢; unfold execOp; simp only [qc, q88]; go_simp) rfl (⟨hJ.r⟩)
          | 7, _, hr, got => exact stepw_val rfl (wanted_none rfl) (runw_pick rfl (got 1 (by decide) 84 rfl (by decide)) (got 6 (by decide) 89 rfl (by decide)) w1) rfl (⟨hJ.r⟩)
          | 8, _, hr, got => exact stepw_val rfl (wanted_none rfl) (runw_move rfl (got 7 (by decide) 90 rfl (by decide)) w1) rfl (⟨hJ.r⟩)
          | 9, _, hr, got => exact stepw_val rfl (wanted_some (j := 8) rfl rfl rfl (got 8 (by decide) 91 rfl (by decide))) (runw_move rfl r7 w1) rfl (⟨hJ.r⟩)
          | 10, _, hr, got => exact stepw_call rfl (wanted_some (j := 8) rfl rfl rfl (got 8 (by decide) 91 rfl (by decide))) (by have qc : ∀ v, fa.eval (.const v) = v := fun _ => rfl; have q92 : fa.eval (.tmp 92) = .pointer (some ⟨C, 0, none⟩) := (got 9 (by decide) 92 rfl (by decide)); have qf : fa.eval (.func 15) = .func (.func 15) #[] #[] := rfl; show (execOp fa.eval _).run Try.prog w1 = .ok (.enter 15 #[.pointer (some ⟨C, 0, none⟩)]) w1; generalize fa.eval = ρ at qf qc q92 ⊢; unfold execOp; simp only [resolve, qf, qc, q92, List.map_toArray, List.map_cons, List.map_nil]; go_simp) rfl ((ownu_view hJ.r.u).mono fun e w' h => ⟨h.1, ⟨hJ.r.below h.2.1⟩⟩)
          | 11, _, hr, got => exact stepw_val rfl (wanted_some (j := 8) rfl rfl rfl (got 8 (by decide) 91 rfl (by decide))) (by have qc : ∀ v, fa.eval (.const v) = v := fun _ => rfl; have q10 : fa.eval (.tmp 10) = .pointer (some ⟨V, 0, none⟩) := r10; have z0 := hJ.r.v0; have z1 := hJ.r.v1; have z2 := hJ.r.v2; have z3 := hJ.r.v3; have zl := hJ.r.vl; show (execOp fa.eval _).run Try.prog w1 = .ok (.value (.agg #[.int .i64 s.tei, .bool s.asks, .int .i64 s.ri, .int .i64 s.tries])) w1; generalize fa.eval = ρ at qc q10 ⊢; unfold execOp; simp only [qc, q10]; go_simp) rfl (⟨hJ.r⟩)
          | 12, _, hr, got => exact stepw_val rfl (wanted_some (j := 8) rfl rfl rfl (got 8 (by decide) 91 rfl (by decide))) (by have qc : ∀ v, fa.eval (.const v) = v := fun _ => rfl; have q93 : fa.eval (.tmp 93) = .agg #[.int .i64 s.tei, .bool s.asks, .int .i64 s.ri, .int .i64 s.tries] := (got 10 (by decide) 93 rfl (by decide)); have q94 : fa.eval (.tmp 94) = .agg #[.int .i64 s.tei, .bool s.asks, .int .i64 s.ri, .int .i64 s.tries] := (got 11 (by decide) 94 rfl (by decide)); show (execOp fa.eval _).run Try.prog w1 = .ok (.value (.bool true)) w1; generalize fa.eval = ρ at qc q93 q94 ⊢; unfold execOp; simp only [qc, q93, q94]; go_simp) rfl (⟨hJ.r⟩)
          | 13, _, hr, got => exact stepw_val rfl (wanted_none rfl) (runw_pick rfl (got 8 (by decide) 91 rfl (by decide)) (got 12 (by decide) 95 rfl (by decide)) w1) rfl (⟨hJ.r⟩)
          | 14, _, hr, got => exact stepw_val rfl (wanted_none rfl) (runw_assign rfl (got 13 (by decide) 96 rfl (by decide)) w1) rfl (⟨hJ.r⟩)
          | j + 15, hlt, _, _ => exact absurd hlt (by omega)
        case hdone =>
          intro l w' hall hJ
          have HB6 : Hid (Below w.heap.size w w') := by
            have hq := hJ.r.u.bel
            rw [HC.out] at hq
            exact HBW.out.trans (hq.mono HBW.out.size)
          clear hall hJ HDf HD
          simp only [putsOf, deafD, deafV, Act.put, List.setIfInBounds_toArray, List.set_cons_zero, List.set_cons_succ]
          go_wp2
          go_ret
          exact ⟨rfl, HB6.out⟩
end Go.Proofs.Ytdnhcpkpajbhoaa
