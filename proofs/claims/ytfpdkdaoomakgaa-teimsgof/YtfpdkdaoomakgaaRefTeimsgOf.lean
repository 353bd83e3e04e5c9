/-
  The walk of the document's Of of layer 7: it answers 'ofRes'. Nothing that was there is turned.
-/
import Derived.Test.YtfpdkdaoomakgaaTeimsgOfWalks
import Derived.Test.YtfpdkdaoomakgaaRefTeimsg
import Derived.Test.YtfpdkdaoomakgaaRefTeimsgGet
namespace Go.Proofs.Ytfpdkdaoomakgaa
open Go.RowKit
set_option linter.unusedVariables false
set_option linter.unusedSimpArgs false

set_option maxHeartbeats 2000000 in
set_option maxRecDepth 100000 in
theorem ref_tof_any (sapi tei : Int) (c : Bool) (k : Int) (pf : Bool) (ns nr : Int) (info : ByteArray) (network : Bool) (w : World) (hi : info.size ≤ 140737488351232) :
    Calls Try.prog 22 #[.agg #[.int .i64 sapi, .int .i64 tei, .bool c, .int .i64 k, .bool pf, .int .i64 ns, .int .i64 nr, .string info], .bool network] w fun e w' =>
      e = .returned (tofV (Tm.ofRes sapi tei c k info network)) ∧ Below w.heap.size w w' := by
  have hH := of_start w sapi tei c k pf ns nr info 42 33
  have hGet := fun W => ref_tget_any info W hi
  have HI : Hid (Tm.isMsg sapi tei c k → (Tm.getRes info).2 = 0 → Tm.net (Tm.getRes info).1.1 = network → Tm.ofRes sapi tei c k info network = ((Tm.getRes info).1, true)) := Tm.of_in
  have HO : Hid (¬ (Tm.isMsg sapi tei c k ∧ (Tm.getRes info).2 = 0 ∧ Tm.net (Tm.getRes info).1.1 = network) → Tm.ofRes sapi tei c k info network = ((0, 0, 0), false)) := Tm.of_out
  generalize hR : Tm.getRes info = R at hGet HI HO
  obtain ⟨⟨t, ri, ai⟩, e0⟩ := R
  clear hR
  simp only [tgetV, msgV] at hGet
  have hN := fun W => ref_from_any t W
  have HI2 : Hid (Tm.isMsg sapi tei c k → e0 = 0 → Tm.net t = network → Tm.ofRes sapi tei c k info network = ((t, ri, ai), true)) := HI
  have HO2 : Hid (¬ (Tm.isMsg sapi tei c k ∧ e0 = 0 ∧ Tm.net t = network) → Tm.ofRes sapi tei c k info network = ((0, 0, 0), false)) := HO
  clear HI HO
  generalize Tm.net t = b at hN HI2 HO2
  generalize hW : Tm.ofRes sapi tei c k info network = X at HI2 HO2 ⊢
  clear hW
  go_enter Try.func22, Try.ntmps22
  go_wp2_with fail
  refine (hGet _).mono ?_
  rintro e w2 ⟨rfl, hb⟩
  clear hGet
  have hH2 := hH.later hb
  clear hH hb
  have HM : Hid (Three w2 (w.heap.size + 1)) := hH2.m
  have hbel := hH2.bel
  have hlt := hH2.m.lt
  obtain ⟨v0, v1, v2, c0, c1, c2, f0, f1, f2⟩ := hH2.m.parts
  obtain ⟨l0, a0, a1, a2, a3, a4, a5, a6, a7⟩ := hH2.a
  clear hH2
  go_wp2_with fail
  refine (hN _).mono ?_
  rintro e w' ⟨rfl, rfl⟩
  clear hN
  by_cases h1 : sapi = 63
  · by_cases h2 : tei = 127
    · cases c with
      | true =>
        by_cases h4 : k = 6
        · by_cases h5 : e0 = 0
          · subst h1 h2 h4 h5
            by_cases h6 : b = network
            · subst h6
              have HB : Hid _ := HI2.out ⟨rfl, rfl, rfl, rfl⟩ rfl rfl
              clear HI2 HO2
              have tb : (b != b) = false := by simp
              go_wp2
              obtain ⟨z0, z1, z2⟩ := set3_alloc HM.out (.int .i64 t) (.int .i64 ri) (.int .i64 ai) (.cells #[.int .i64 t, .int .i64 ri, .int .i64 ai] 33)
              unfold set3 at z0 z1 z2
              exact bodyPost_ret (v := .tuple #[.agg #[.int .i64 t, .int .i64 ri, .int .i64 ai], .bool true]) (by simp [results, Try.results22, go_sem, z0, z1, z2]) rfl ⟨by rw [HB.out]; rfl, set3_allocB hbel (Nat.le_succ _) _ _ _ rfl _⟩
            · have HB : Hid _ := HO2.out (fun q => h6 q.2.2)
              clear HI2 HO2
              cases b <;> cases network <;> first | exact absurd rfl h6 | skip
              all_goals
                clear h6
                go_wp2
                obtain ⟨z0, z1, z2⟩ := set3_alloc HM.out (.int .i64 0) (.int .i64 0) (.int .i64 0) (.cells #[.int .i64 t, .int .i64 ri, .int .i64 ai] 33)
                unfold set3 at z0 z1 z2
                exact bodyPost_ret (v := .tuple #[.agg #[.int .i64 0, .int .i64 0, .int .i64 0], .bool false]) (by simp [results, Try.results22, go_sem, z0, z1, z2]) rfl ⟨by rw [HB.out]; rfl, set3_allocB hbel (Nat.le_succ _) _ _ _ rfl _⟩
          · have HB : Hid _ := HO2.out (fun q => h5 q.2.1)
            have t5 : (e0 != 0) = true := by simpa using h5
            subst h1 h2 h4
            clear HI2 HO2 h5
            go_wp2
            obtain ⟨z0, z1, z2⟩ := set3_alloc HM.out (.int .i64 0) (.int .i64 0) (.int .i64 0) (.cells #[.int .i64 t, .int .i64 ri, .int .i64 ai] 33)
            unfold set3 at z0 z1 z2
            exact bodyPost_ret (v := .tuple #[.agg #[.int .i64 0, .int .i64 0, .int .i64 0], .bool false]) (by simp [results, Try.results22, go_sem, z0, z1, z2]) rfl ⟨by rw [HB.out]; rfl, set3_allocB hbel (Nat.le_succ _) _ _ _ rfl _⟩
        · have HB : Hid _ := HO2.out (fun q => h4 q.1.2.2.1)
          have t4 : (k != 6) = true := by simpa using h4
          subst h1 h2
          clear HI2 HO2 h4
          go_wp2
          obtain ⟨z0, z1, z2⟩ := set3_alloc HM.out (.int .i64 0) (.int .i64 0) (.int .i64 0) (.cells #[.int .i64 t, .int .i64 ri, .int .i64 ai] 33)
          unfold set3 at z0 z1 z2
          exact bodyPost_ret (v := .tuple #[.agg #[.int .i64 0, .int .i64 0, .int .i64 0], .bool false]) (by simp [results, Try.results22, go_sem, z0, z1, z2]) rfl ⟨by rw [HB.out]; rfl, set3_allocB hbel (Nat.le_succ _) _ _ _ rfl _⟩
      | false =>
        have HB : Hid _ := HO2.out (fun q => Bool.noConfusion q.1.2.2.2)
        subst h1 h2
        clear HI2 HO2
        go_wp2
        obtain ⟨z0, z1, z2⟩ := set3_alloc HM.out (.int .i64 0) (.int .i64 0) (.int .i64 0) (.cells #[.int .i64 t, .int .i64 ri, .int .i64 ai] 33)
        unfold set3 at z0 z1 z2
        exact bodyPost_ret (v := .tuple #[.agg #[.int .i64 0, .int .i64 0, .int .i64 0], .bool false]) (by simp [results, Try.results22, go_sem, z0, z1, z2]) rfl ⟨by rw [HB.out]; rfl, set3_allocB hbel (Nat.le_succ _) _ _ _ rfl _⟩
    · have HB : Hid _ := HO2.out (fun q => h2 q.1.2.1)
      have t2 : (tei != 127) = true := by simpa using h2
      subst h1
      clear HI2 HO2 h2
      go_wp2
      obtain ⟨z0, z1, z2⟩ := set3_alloc HM.out (.int .i64 0) (.int .i64 0) (.int .i64 0) (.cells #[.int .i64 t, .int .i64 ri, .int .i64 ai] 33)
      unfold set3 at z0 z1 z2
      exact bodyPost_ret (v := .tuple #[.agg #[.int .i64 0, .int .i64 0, .int .i64 0], .bool false]) (by simp [results, Try.results22, go_sem, z0, z1, z2]) rfl ⟨by rw [HB.out]; rfl, set3_allocB hbel (Nat.le_succ _) _ _ _ rfl _⟩
  · have HB : Hid _ := HO2.out (fun q => h1 q.1.1)
    have t1 : (sapi != 63) = true := by simpa using h1
    clear HI2 HO2 h1
    go_wp2
    obtain ⟨z0, z1, z2⟩ := set3_alloc HM.out (.int .i64 0) (.int .i64 0) (.int .i64 0) (.cells #[.int .i64 t, .int .i64 ri, .int .i64 ai] 33)
    unfold set3 at z0 z1 z2
    exact bodyPost_ret (v := .tuple #[.agg #[.int .i64 0, .int .i64 0, .int .i64 0], .bool false]) (by simp [results, Try.results22, go_sem, z0, z1, z2]) rfl ⟨by rw [HB.out]; rfl, set3_allocB hbel (Nat.le_succ _) _ _ _ rfl _⟩
end Go.Proofs.Ytfpdkdaoomakgaa
