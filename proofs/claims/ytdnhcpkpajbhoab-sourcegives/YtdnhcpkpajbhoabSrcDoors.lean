/-
  The walks of a source's Message, of New; of a nil source.
-/
import Derived.Test.YtdnhcpkpajbhoabSrcMessage
namespace Go.Proofs.Ytdnhcpkpajbhoab
open Go.RowKit
set_option linter.unusedVariables false
set_option linter.unusedSimpArgs false
set_option maxRecDepth 100000

theorem good_in {ty ri ai : Int} (h : Zm.good ty ri ai = true) : In64 ai := by
  unfold Zm.good at h
  have := Tm.put_ok (of_decide_eq_true h)
  have h2 := this.2.1.2
  exact ⟨by omega, by omega⟩
theorem smessage_any (C P M : Nat) (s : Zm.St) (ty ri ai : Int) (w : World) (h : Sr w C P M s) :
    Calls Try.prog 19 #[.pointer (some ⟨C, 0, none⟩), .agg #[.int .i64 ty, .int .i64 ri, .int .i64 ai]] w fun r w' => ∃ v, r = .returned v ∧ Out w.heap.size w' v (Zm.message s ty ri ai).2 ∧ Mvs w w' C P M (Zm.message s ty ri ai).1 := by
  have HS : Hid (∀ w', Below w.heap.size w w' → Sr w' C P M s) := fun w' hb => h.below hb
  obtain ⟨W, hW⟩ : ∃ W, W = w.alloc (.cells #[.int .i64 ty, .int .i64 ri, .int .i64 ai] 51) := ⟨_, rfl⟩
  have hbW : Below w.heap.size w W := by rw [hW]; exact (Below.refl _ _).alloc (Nat.le_refl _) _
  have hWs : W.heap.size = w.heap.size + 1 := by rw [hW]; simp
  have m0 : W.cell? ⟨w.heap.size, 0, none⟩ = some (.int .i64 ty) := by rw [hW]; simp
  have m1 : W.cell? ⟨w.heap.size, 1, none⟩ = some (.int .i64 ri) := by rw [hW]; simp
  have m2 : W.cell? ⟨w.heap.size, 2, none⟩ = some (.int .i64 ai) := by rw [hW]; simp
  have HBW : Hid (Below w.heap.size w W) := hbW
  have HM := smade_any C P M s W (h.below hbW)
  have HG := good_any ty ri ai W
  clear h hbW
  cases hg : Zm.good ty ri ai with
  | false =>
    rw [hg] at HG
    have HN : Hid (Zm.message s ty ri ai = (s, [])) := by show _ = _; unfold Zm.message; rw [hg, if_neg (by decide)]
    clear hg
    go_enter Try.func19, Try.ntmps19
    go_wp2_with fail
    rw [← hW]
    refine HM.mono ?_
    rintro r w1 ⟨rfl, rfl⟩
    clear HM
    go_wp2_with fail
    rw [← hW]
    refine HG.mono ?_
    rintro r w1 ⟨rfl, hb⟩
    have HB1 : Hid (Below w.heap.size w w1) := HBW.out.trans (hb.mono HBW.out.size)
    clear hb HG m0 m1 m2 hW
    go_wp2
    go_ret
    rw [HN.out]
    exact ⟨_, rfl, out_nil _ _, HS.out _ HB1.out, Kept.of_below HB1.out (fun k hk h' => by omega)⟩
  | true =>
    rw [hg] at HG
    have HI := good_in hg
    have HN : Hid (Zm.message s ty ri ai = if ty = 1 then Zm.assign s ri ai else if ty = 5 then Zm.answer s ai else if ty = 7 then Zm.verify s ai else (s, [])) := by show _ = _; unfold Zm.message; rw [hg, if_pos rfl]
    clear hg
    go_enter Try.func19, Try.ntmps19
    go_wp2_with fail
    rw [← hW]
    refine HM.mono ?_
    rintro r w1 ⟨rfl, rfl⟩
    clear HM
    go_wp2_with fail
    rw [← hW]
    refine HG.mono ?_
    rintro r w1 ⟨rfl, hb⟩
    have HB1 : Hid (Below w.heap.size w w1) := HBW.out.trans (hb.mono HBW.out.size)
    have hlB : w.heap.size < W.heap.size := by omega
    have n0 := (hb.cell (p := ⟨w.heap.size, 0, none⟩) hlB).trans m0
    have n1 := (hb.cell (p := ⟨w.heap.size, 1, none⟩) hlB).trans m1
    have n2 := (hb.cell (p := ⟨w.heap.size, 2, none⟩) hlB).trans m2
    have hl1 : w.heap.size < w1.heap.size := by have := hb.size; omega
    have hS1 := HS.out w1 HB1.out
    clear hb HG m0 m1 m2 hW hlB hWs
    by_cases h1 : ty = 1
    · subst h1
      have HC := sassign_any C P M s 1 ri ai w1 hS1
      have HN2 : Hid (Zm.message s 1 ri ai = Zm.assign s ri ai) := HN.out
      clear hS1
      go_wp2_with fail
      refine HC.mono ?_
      rintro r w2 ⟨v, rfl, ho, hm⟩
      have HO : Hid (Out w.heap.size w2 v (Zm.assign s ri ai).2) := ho.up HB1.out.size
      have HM : Hid (Mvs w w2 C P M (Zm.assign s ri ai).1) := Mvs.ahead HB1.out hm
      clear ho hm HC n0 n1 n2
      go_wp2
      go_ret
      rw [HN2.out]
      exact ⟨_, rfl, HO.out, HM.out⟩
    · by_cases h5 : ty = 5
      · subst h5
        have HC := sanswer_any C P M s ai w1 hS1 HI
        have HN2 : Hid (Zm.message s 5 ri ai = Zm.answer s ai) := HN.out
        clear hS1
        go_wp2_with fail
        refine HC.mono ?_
        rintro r w2 ⟨v, rfl, ho, hm⟩
        have HO : Hid (Out w.heap.size w2 v (Zm.answer s ai).2) := ho.up HB1.out.size
        have HM : Hid (Mvs w w2 C P M (Zm.answer s ai).1) := Mvs.ahead HB1.out hm
        clear ho hm HC n0 n1 n2
        go_wp2
        go_ret
        rw [HN2.out]
        exact ⟨_, rfl, HO.out, HM.out⟩
      · by_cases h7 : ty = 7
        · subst h7
          have HC := sverify_any C P M s ai w1 hS1
          have HN2 : Hid (Zm.message s 7 ri ai = Zm.verify s ai) := HN.out
          clear hS1
          go_wp2_with fail
          refine HC.mono ?_
          rintro r w2 ⟨v, rfl, ho, hm⟩
          have HO : Hid (Out w.heap.size w2 v (Zm.verify s ai).2) := ho.up HB1.out.size
          have HM : Hid (Mvs w w2 C P M (Zm.verify s ai).1) := Mvs.ahead HB1.out hm
          clear ho hm HC n0 n1 n2
          go_wp2
          go_ret
          rw [HN2.out]
          exact ⟨_, rfl, HO.out, HM.out⟩
        · have HN2 : Hid (Zm.message s ty ri ai = (s, [])) := by show _ = _; rw [HN.out, if_neg h1, if_neg h5, if_neg h7]
          have b1 : (ty == 1) = false := by simp; exact h1
          have b5 : (ty == 5) = false := by simp; exact h5
          have b7 : (ty == 7) = false := by simp; exact h7
          clear h1 h5 h7 hS1
          go_wp2
          go_ret
          rw [HN2.out]
          exact ⟨_, rfl, out_nil _ _, HS.out _ HB1.out, Kept.of_below HB1.out (fun k hk h' => by omega)⟩
theorem smk (W : World) : (Instr.makeMap 67 none).run Try.prog W = .ok (.map (some W.heap.size)) (W.alloc (.map #[] 0)) := by
  first | kernel_rfl | rfl | simp [Instr.makeMap]
theorem snew_any (w : World) :
    Calls Try.prog 7 #[] w fun r w' => ∃ C P M, r = .returned (.pointer (some ⟨C, 0, none⟩)) ∧ Sr w' C P M Zm.new ∧ Below w.heap.size w w' ∧ w.heap.size ≤ C ∧ w.heap.size ≤ P ∧ w.heap.size ≤ M := by
  go_enter Try.func7, Try.ntmps7
  go_wp2_with fail
  refine (pnew_any w).mono ?_
  rintro r w1 ⟨rfl, hp, hb⟩
  have HM : Hid (∀ T, Sr ((w1.alloc (.map #[] 0)).alloc (.cells #[.pointer (some ⟨w.heap.size, 0, none⟩), .map (some w1.heap.size)] T)) (w1.heap.size + 1) w.heap.size w1.heap.size Zm.new ∧ Below w.heap.size w ((w1.alloc (.map #[] 0)).alloc (.cells #[.pointer (some ⟨w.heap.size, 0, none⟩), .map (some w1.heap.size)] T))) := fun T => by
    have hb1 : Below w1.heap.size w1 (w1.alloc (.map #[] 0)) := (Below.refl _ _).alloc (Nat.le_refl _) _
    have hb2 : Below (w1.alloc (.map #[] 0)).heap.size (w1.alloc (.map #[] 0)) ((w1.alloc (.map #[] 0)).alloc (.cells #[.pointer (some ⟨w.heap.size, 0, none⟩), .map (some w1.heap.size)] T)) := (Below.refl _ _).alloc (Nat.le_refl _) _
    have hlt := hp.lt
    have hs : (w1.alloc (.map #[] 0)).heap.size = w1.heap.size + 1 := by simp
    have hh := heap_alloc_new (w1.alloc (.map #[] 0)) (.cells #[.pointer (some ⟨w.heap.size, 0, none⟩), .map (some w1.heap.size)] T)
    rw [hs] at hh
    refine ⟨⟨by simp, ?_, ?_, (hp.below hb1).below hb2, ?_, Zm.ok_new, by omega, by omega, by omega⟩, ?_⟩
    · exact (cell_of_row _ _ 0 _ _ _ hh).trans rfl
    · exact (cell_of_row _ _ 1 _ _ _ hh).trans rfl
    · exact (chIs_made w1 (s := Zm.new) (fun _ => rfl)).of_block (hb2.block _ (by simp))
    · have := hb.size
      exact (hb.alloc this _).alloc (by simp; omega) _
  have hsz := hb.size
  have hne := hp.lt
  clear hp hb
  have hmk := smk w1
  go_wp2
  go_ret
  exact ⟨w1.heap.size + 1, w.heap.size, w1.heap.size, rfl, (HM.out _).1, (HM.out _).2, by omega, by omega, by omega⟩
theorem scheck_nil (t : Int) (w : World) : Calls Try.prog 15 #[.pointer none, .int .i64 t] w fun r w' => r = .returned (.tuple #[.slice none 0 0, .int .i64 1]) ∧ w = w' := by
  have HM := smade_nil w
  go_enter Try.func15, Try.ntmps15
  go_wp2_with fail
  refine HM.mono ?_
  rintro r w1 ⟨rfl, rfl⟩
  clear HM
  go_wp2
  go_ret2
  exact ⟨rfl, rfl⟩
theorem srem_nil (t : Int) (w : World) : Calls Try.prog 17 #[.pointer none, .int .i64 t] w fun r w' => r = .returned (.tuple #[.slice none 0 0, .int .i64 1]) ∧ w = w' := by
  have HM := smade_nil w
  go_enter Try.func17, Try.ntmps17
  go_wp2_with fail
  refine HM.mono ?_
  rintro r w1 ⟨rfl, rfl⟩
  clear HM
  go_wp2
  go_ret2
  exact ⟨rfl, rfl⟩
theorem saudit_nil (w : World) : Calls Try.prog 16 #[.pointer none] w fun r w' => r = .returned (.slice none 0 0) ∧ w = w' := by
  have HM := smade_nil w
  go_enter Try.func16, Try.ntmps16
  go_wp2_with fail
  refine HM.mono ?_
  rintro r w1 ⟨rfl, rfl⟩
  clear HM
  go_wp2
  go_ret
  exact ⟨rfl, rfl⟩
theorem stimeout_nil (t : Int) (w : World) : Calls Try.prog 18 #[.pointer none, .int .i64 t] w fun r w' => r = .returned (.slice none 0 0) ∧ w = w' := by
  have HM := smade_nil w
  go_enter Try.func18, Try.ntmps18
  go_wp2_with fail
  refine HM.mono ?_
  rintro r w1 ⟨rfl, rfl⟩
  clear HM
  go_wp2
  go_ret
  exact ⟨rfl, rfl⟩
theorem slist_nil (w : World) : Calls Try.prog 11 #[.pointer none] w fun r w' => r = .returned (.slice none 0 0) ∧ w = w' := by
  have HM := smade_nil w
  go_enter Try.func11, Try.ntmps11
  go_wp2_with fail
  refine HM.mono ?_
  rintro r w1 ⟨rfl, rfl⟩
  clear HM
  go_wp2
  go_ret
  exact ⟨rfl, rfl⟩
theorem schecks_nil (w : World) : Calls Try.prog 13 #[.pointer none] w fun r w' => r = .returned (.slice none 0 0) ∧ w = w' := by
  have HM := smade_nil w
  go_enter Try.func13, Try.ntmps13
  go_wp2_with fail
  refine HM.mono ?_
  rintro r w1 ⟨rfl, rfl⟩
  clear HM
  go_wp2
  go_ret
  exact ⟨rfl, rfl⟩
theorem smessage_nil (ty ri ai : Int) (w : World) : Calls Try.prog 19 #[.pointer none, .agg #[.int .i64 ty, .int .i64 ri, .int .i64 ai]] w fun r w' => r = .returned (.slice none 0 0) ∧ Below w.heap.size w w' := by
  have HB : Hid (Below w.heap.size w (w.alloc (.cells #[.int .i64 ty, .int .i64 ri, .int .i64 ai] 51))) := (Below.refl _ _).alloc (Nat.le_refl _) _
  have HM := smade_nil (w.alloc (.cells #[.int .i64 ty, .int .i64 ri, .int .i64 ai] 51))
  go_enter Try.func19, Try.ntmps19
  go_wp2_with fail
  refine HM.mono ?_
  rintro r w1 ⟨rfl, rfl⟩
  clear HM
  go_wp2
  go_ret
  exact ⟨rfl, HB.out⟩
end Go.Proofs.Ytdnhcpkpajbhoab
