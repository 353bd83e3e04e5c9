/-
  The walks of a user's small functions: made, holds, meant, send, good, forget, lose, ask; and View.
-/
import Derived.Test.YtdnhcpkpajbhoaaUsrRow
import Derived.Test.YtdnhcpkpajbhoaaTeimsgPutWalks
import Derived.Test.YtdnhcpkpajbhoaaKindWalks
import Derived.OwnWalk
namespace Go.Proofs.Ytdnhcpkpajbhoaa
open Go.RowKit
set_option linter.unusedVariables false
set_option linter.unusedSimpArgs false
set_option maxRecDepth 100000

section
variable {w : World} {C D : Nat} {G : Option Nat} {s : Um.St}
theorem umade_any (h : Us w C D G s) :
    Calls Try.prog 31 #[.pointer (some ⟨C, 0, none⟩)] w fun r w' => r = .returned (.bool true) ∧ w = w' := by
  have c1 := h.c1
  have hlt := h.lt
  have hq := next_some s.nil D
  have hg := next_guard s.nil D
  generalize nextV s.nil D = f at c1 hq hg
  clear h
  go_enter Try.func31, Try.ntmps31
  go_wp2
  go_ret
  exact ⟨rfl, rfl⟩
theorem umade_nil (w : World) :
    Calls Try.prog 31 #[.pointer none] w fun r w' => r = .returned (.bool false) ∧ w = w' := by
  go_enter Try.func31, Try.ntmps31
  go_wp2
  go_ret
  exact ⟨rfl, rfl⟩
theorem uholds_any (h : Us w C D G s) :
    Calls Try.prog 32 #[.pointer (some ⟨C, 0, none⟩)] w fun r w' => r = .returned (.bool (decide (s.tei ≠ -1))) ∧ w = w' := by
  have c2 := h.c2
  have hlt := h.lt
  generalize s.tei = t at c2 ⊢
  clear h
  go_enter Try.func32, Try.ntmps32
  go_wp2
  go_ret
  exact ⟨ret_bool (by by_cases e : t = -1 <;> simp [e]), rfl⟩
theorem usend_any (ty ri ai : Int) (w : World) :
    Calls Try.prog 34 #[.int .i64 ty, .int .i64 ri, .int .i64 ai] w fun r w' => r = .returned (.agg #[.int .i64 0, .int .i64 ty, .int .i64 ri, .int .i64 ai, .int .i64 0]) ∧ Below w.heap.size w w' := by
  go_enter Try.func34, Try.ntmps34
  go_wp2
  refine bodyPost_ret (v := .agg #[.int .i64 0, .int .i64 ty, .int .i64 ri, .int .i64 ai, .int .i64 0]) (by simp [results, Try.results34, go_sem]) rfl ⟨rfl, ?_⟩
  repeat' first | exact (Below.refl _ _).alloc (Nat.le_refl _) _ | refine Below.setCell ?_ (Nat.le_refl _) _
theorem ugood_any (ty ri ai : Int) (w : World) :
    Calls Try.prog 37 #[.agg #[.int .i64 ty, .int .i64 ri, .int .i64 ai]] w fun r w' => r = .returned (.bool (Um.good ty ri ai)) ∧ Below w.heap.size w w' := by
  have HG : Hid (Um.good ty ri ai = decide ((Tm.putRes ty ri ai).2 = 0)) := rfl
  obtain ⟨W1, hW1⟩ : ∃ W1, W1 = w.alloc (.cells #[.int .i64 ty, .int .i64 ri, .int .i64 ai] 51) := ⟨_, rfl⟩
  have HB1 : Hid (Below w.heap.size w W1) := by rw [hW1]; exact (Below.refl _ _).alloc (Nat.le_refl _) _
  go_enter Try.func37, Try.ntmps37
  go_wp2_with fail
  rw [← hW1]
  clear hW1
  refine (tput_any ty ri ai W1).mono ?_
  rintro r w2 ⟨rfl, hb⟩
  have HB2 : Hid (Below w.heap.size w w2) := HB1.out.trans (hb.mono HB1.out.size)
  clear hb HB1
  generalize (Tm.putRes ty ri ai).2 = e at HG
  generalize (Tm.putRes ty ri ai).1 = z
  go_wp2
  go_ret
  exact ⟨by rw [HG.out]; rfl, HB2.out⟩
theorem umeant_any (ai : Int) (h : Us w C D G s) :
    Calls Try.prog 39 #[.pointer (some ⟨C, 0, none⟩), .int .i64 ai] w fun r w' => r = .returned (.bool (Um.meant s ai)) ∧ w = w' := by
  have HH := uholds_any h
  have c2 := h.c2
  have hlt := h.lt
  have HE : Hid (Um.meant s ai = (decide (s.tei ≠ -1) && (decide (ai = s.tei) || decide (ai = 127)))) := rfl
  generalize s.tei = t at c2 HH HE
  clear h
  generalize decide (t ≠ -1) = b at HH HE
  cases b with
  | false =>
    go_enter Try.func39, Try.ntmps39
    go_wp2_with fail
    refine HH.mono ?_
    rintro r w1 ⟨rfl, rfl⟩
    clear HH
    go_wp2
    go_ret
    exact ⟨by rw [HE.out]; rfl, rfl⟩
  | true =>
    by_cases e : ai = t
    · have e1 : (ai == t) = true := by simp; exact e
      have HE2 : Hid (Um.meant s ai = true) := by show _ = _; rw [HE.out, decide_eq_true e]; rfl
      clear HE e
      go_enter Try.func39, Try.ntmps39
      go_wp2_with fail
      refine HH.mono ?_
      rintro r w1 ⟨rfl, rfl⟩
      clear HH
      go_wp2
      go_ret
      exact ⟨by rw [HE2.out]; rfl, rfl⟩
    · have e1 : (ai == t) = false := by simp; exact e
      have HE2 : Hid (Um.meant s ai = (ai == 127)) := by show _ = _; rw [HE.out, decide_eq_false e]; rfl
      clear HE e
      go_enter Try.func39, Try.ntmps39
      go_wp2_with fail
      refine HH.mono ?_
      rintro r w1 ⟨rfl, rfl⟩
      clear HH
      go_wp2
      go_ret
      exact ⟨by rw [HE2.out]; rfl, rfl⟩
theorem uforget_any (h : Us w C D G s) :
    Calls Try.prog 35 #[.pointer (some ⟨C, 0, none⟩)] w fun r w' => r = .returned (.tuple #[]) ∧ Mvu w w' C D G (Um.idle s) := by
  have HM : Hid (Mvu w ((((w.setCell ⟨C, 2, none⟩ (.int .i64 (-1))).setCell ⟨C, 3, none⟩ (.bool false)).setCell ⟨C, 4, none⟩ (.int .i64 0)).setCell ⟨C, 5, none⟩ (.int .i64 0)) C D G (Um.idle s)) := h.set (Um.idle_ok h.ok)
  have c2 := h.c2
  have c3 := h.c3
  have c4 := h.c4
  have c5 := h.c5
  have f2 := h.fz 2 (by decide)
  have f3 := h.fz 3 (by decide)
  have f4 := h.fz 4 (by decide)
  have f5 := h.fz 5 (by decide)
  have hlt := h.lt
  clear h
  go_enter Try.func35, Try.ntmps35
  go_wp2
  go_end0
  exact ⟨rfl, HM.out⟩
end
end Go.Proofs.Ytdnhcpkpajbhoaa
