/-
  The walks of a queue's Push and List.
-/
import Derived.Test.YteppelahpbgmjaaQueWalks
import Derived.BigQuiet
namespace Go.Proofs.Yteppelahpbgmjaa
open Go.RowKit
set_option linter.unusedVariables false
set_option linter.unusedSimpArgs false

theorem takes_q (C : Nat) (mo : Int) (w : World) (k : Nat) (hc : w.cell? ⟨C, 0, none⟩ = some (.int .i64 mo)) (hlt : C < w.heap.size) :
    Calls Try.prog 25 #[.pointer (some ⟨C, 0, none⟩)] (w.drewN k) fun e w' => e = .returned (.int .i64 (Qm.takes mo : Nat)) ∧ w' = w.drewN k :=
  takes_any C mo (w.drewN k) (((drewN_blw (Below.refl w.heap.size w) k).cell (p := ⟨C, 0, none⟩) hlt).trans hc) (Nat.lt_of_lt_of_le hlt (drewN_blw (Below.refl w.heap.size w) k).size)

set_option maxHeartbeats 1000000 in
theorem push_any (C sn : Nat) (G : Option Nat) (mo : Int) (L : List ByteArray) (s : ByteArray) (w : World) (h : Qu w C G mo L sn) (hs : s.size ≤ 9223372036854775807) :
    Calls Try.prog 19 #[.pointer (some ⟨C, 0, none⟩), .string s] w fun e w' => e = .returned (.int .i64 (Qm.pushN mo L s)) ∧ Mvq w w' C G mo (Qm.pushL mo L s) sn := by
  obtain ⟨a, cap, h1, h2⟩ := h.c1
  have hc0 := h.c0
  have hf1 := h.f1
  have hlt := h.lt
  have hle := h.le
  have hts := Qm.takes_le mo
  have HQ : Hid (Qu w C G mo L sn) := h
  have HS : Hid (SRow w a cap G L) := h2
  clear h h2
  by_cases h260 : 260 < s.size
  · have HA : Hid (Qm.pushN mo L s = 5 ∧ Qm.pushL mo L s = L) := ⟨by unfold Qm.pushN; rw [if_pos h260], by unfold Qm.pushL; rw [if_pos h260]⟩
    clear h1 hc0 hf1
    go_enter Try.func19, Try.ntmps19
    go_wp2
    go_ret
    exact ⟨by rw [HA.out.1]; rfl, by rw [HA.out.2]; exact HQ.out.same (Below.refl _ _)⟩
  · have h260' : s.size ≤ 260 := by omega
    by_cases hfull : Qm.takes mo ≤ L.length
    · have HA : Hid (Qm.pushN mo L s = 10 ∧ Qm.pushL mo L s = L) := ⟨by unfold Qm.pushN; rw [if_neg h260, if_pos hfull], by unfold Qm.pushL; rw [if_neg h260, if_pos hfull]⟩
      clear h260 hf1
      obtain ⟨n, hn⟩ : ∃ n : Nat, n = L.length := ⟨_, rfl⟩
      rw [← hn] at h1 hle hfull
      clear hn
      go_enter Try.func19, Try.ntmps19
      go_wp2_with fail
      go_quiet ((go_at_call 25; exact Calls.quiet_of_same (takes_q C mo _ _ hc0 hlt)))
      generalize Qm.takes mo = tk at hfull hts ⊢
      go_wp2
      go_ret
      exact ⟨by rw [HA.out.1]; rfl, by rw [HA.out.2]; exact HQ.out.same (drewN_blw (Below.refl _ _) _)⟩
    · have HA : Hid (Qm.pushN mo L s = 0 ∧ Qm.pushL mo L s = L ++ [s]) := ⟨by unfold Qm.pushN; rw [if_neg h260, if_neg hfull], by unfold Qm.pushL; rw [if_neg h260, if_neg hfull]⟩
      have hfull' : L.length < Qm.takes mo := by omega
      clear h260 hfull
      go_enter Try.func19, Try.ntmps19
      go_wp2_with fail
      go_quiet ((go_at_call 25; exact Calls.quiet_of_same (takes_q C mo _ _ hc0 hlt)))
      have HT : Hid (L.length < Qm.takes mo) := hfull'
      generalize Qm.takes mo = tk at hfull' hts ⊢
      obtain ⟨W0, hW0⟩ : ∃ W0, W0 = w.drewN nq := ⟨_, rfl⟩
      have hb0 : Below w.heap.size w W0 := by rw [hW0]; exact drewN_blw (Below.refl _ _) nq
      rw [← hW0]
      obtain ⟨W1, hW1⟩ : ∃ W1, W1 = W0.alloc (.cells #[.string s] 9) := ⟨_, rfl⟩
      have hb1 : Below W0.heap.size W0 W1 := by rw [hW1]; exact (Below.refl _ _).alloc (Nat.le_refl _) _
      have hb2 : Below w.heap.size w W1 := hb0.trans (hb1.mono hb0.size)
      have Q1 : Qu W1 C G mo L sn := HQ.out.below hb2
      have HQ1 : Hid (Qu W1 C G mo L sn) := Q1
      have HB : Hid (Below w.heap.size w W1) := hb2
      have hS1 : Hid (SRow W1 a cap G L) := HS.out.kept (T := fun _ => False) (Kept.of_below hb2 (fun k hk h' => by omega)) (fun _ _ x => x)
      have hnc : Hid (W1.cell? ⟨W0.heap.size, 0, none⟩ = some (.string s)) := by rw [hW1]; show _ = _; simp
      have y1 : W0.cell? ⟨C, 1, none⟩ = some (.slice a L.length cap) := (hb0.cell (p := ⟨C, 1, none⟩) hlt).trans h1
      have ylt : C < W0.heap.size := Nat.lt_of_lt_of_le hlt hb0.size
      clear hW0 h1 hc0 hf1 HS hb0 hb1 hb2 Q1 hlt
      go_wp2_with (at_builtin; rw [← hW1]; refine append_srow rfl _ _ rfl a cap G L s W0.heap.size 1 rfl hS1.out rfl hnc.out (by omega) ?_)
      intro a' cap' G' w' hS' hK' hG'
      have hne : ¬ (G = some C) := HQ1.out.ne
      have hz : W1.heap.size = W0.heap.size + 1 := by rw [hW1]; simp
      rw [← hW1] at hK'
      rw [← hz] at hG'
      have v1 : w'.cell? ⟨C, 1, none⟩ = some (.slice a L.length cap) := by
        refine (hK'.cell (p := ⟨C, 1, none⟩) HQ1.out.lt hne).trans ?_
        rw [hW1]; exact (((Below.refl _ _).alloc (Nat.le_refl _) _).cell (p := ⟨C, 1, none⟩) ylt).trans y1
      have vf : w'.frozen? ⟨C, 1, none⟩ = false := (hK'.frozen (p := ⟨C, 1, none⟩) HQ1.out.lt hne).trans HQ1.out.f1
      have vlt : C < w'.heap.size := Nat.lt_of_lt_of_le HQ1.out.lt hK'.size
      have HM : Hid (Mvq w (w'.setCell ⟨C, 1, none⟩ (.slice a' (L.length + 1) cap')) C G mo (L ++ [s]) sn) := by
        have := HQ1.out.setRow (L' := L ++ [s]) hK' hS' hG' (by have := HQ1.out.sn; simp; omega) (by have := HT.out; simp; omega) (fun x hx => by
          simp at hx
          rcases hx with hx | rfl
          · exact HQ1.out.size x hx
          · exact h260')
        have e : (L ++ [s]).length = L.length + 1 := by simp
        rw [e] at this
        exact Mvq.ahead HB.out this
      clear hK' hS' hG' hne hz HQ1 hS1 hnc y1 ylt hW1
      go_wp2
      go_ret
      exact ⟨by rw [HA.out.1]; rfl, by rw [HA.out.2]; exact HM.out⟩

theorem nil_eq (w : World) (n c : Nat) : (binOp .eql 40 (.slice none n c) (.slice none 0 0)).run Try.prog w = .ok (.bool true) w := by kernel_rfl
theorem some_eq (w : World) (x : Addr) (n c : Nat) : (binOp .eql 40 (.slice (some x) n c) (.slice none 0 0)).run Try.prog w = .ok (.bool false) w := by kernel_rfl

set_option maxHeartbeats 1000000 in
theorem clone_any (a : Option Addr) (cap : Nat) (G : Option Nat) (L : List ByteArray) (w : World) (h : SRow w a cap G L) (hl : L.length ≤ 1000000) :
    Calls Try.prog 26 #[.slice a L.length cap] w fun e w' => ∃ v, e = .returned v ∧ w'.ownsRow w.heap.size 9 1 v L.length (L.map Value.string) ∧ Below w.heap.size w w' := by
  obtain ⟨i0, hi, hz0, hz1, hz2⟩ := info_parts str_info
  rcases h.row with ⟨rfl, rfl, rfl⟩ | ⟨g, off, rfl, rfl, hlt, hc, hf⟩
  · have h0 : L = [] := List.eq_nil_of_length_eq_zero (by have := h.le; omega)
    subst h0
    clear h hl
    have hq := nil_eq
    go_enter Try.func26, Try.ntmps26
    go_wp2
    go_ret
    exact ⟨_, rfl, World.ownsRow_nil _ _ _ _, Below.refl _ _⟩
  · have hq := some_eq
    have HC : Hid (∀ (j : Nat) (u : Value), (L.map Value.string)[j]? = some u → (w.alloc (.cells #[] 9)).cell? ((⟨g, off, none⟩ : Addr).add j) = some u) := by
      intro j u hj
      obtain ⟨h3, rfl⟩ := strs_at L j u hj
      rw [Addr.add_lit]
      exact (((Below.refl _ _).alloc (Nat.le_refl w.heap.size) _).cell (p := ⟨g, off + j, none⟩) hlt).trans (hc j h3)
    have HL : Hid ((L.map Value.string).length = L.length * 1) := by show _ = _; simp
    have HO : Hid (∀ u ∈ L.map Value.string, u.oneCell' = true) := strs_one L
    obtain ⟨n, hn⟩ : ∃ n : Nat, n = L.length := ⟨_, rfl⟩
    obtain ⟨vs, hvs⟩ : ∃ vs, vs = L.map Value.string := ⟨_, rfl⟩
    rw [← hvs] at HC HL HO
    rw [← hn] at hl HL
    rw [← hvs, ← hn]
    clear h hc hf hvs hn
    go_enter Try.func26, Try.ntmps26
    go_wp2_with (at_builtin; refine wpList_append_own _ rfl _ _ 40 rfl w.heap.size 9 i0 (.string ByteArray.empty) 1 16 Try.underlying40 hi hz0 hz1 hz2 rfl (by decide) _ _ _ rfl (World.ownsRow_made w #[] 0 (Nat.le_refl _) (Nat.zero_le _) rfl) ⟨g, off, none⟩ n cap vs rfl HL.out HC.out HO.out ?qc4 ?qc5 ?qc6 ?_)
    case qc4 => unfold maxLen; omega
    case qc5 => omega
    case qc6 => simp
    intro v' w1 hown hgrow hnil
    have HW : Hid (w1.ownsRow w.heap.size 9 1 v' n vs ∧ Below w.heap.size w w1) := by
      refine ⟨by simpa using hown, ?_⟩
      exact ((Below.refl _ w).alloc (Nat.le_refl _) _).grown hgrow (by simp) (by intro k hk; simp [Value.ownBlock] at hk; omega)
    clear hown hgrow hnil HC HL HO
    go_wp2
    go_ret
    exact ⟨v', rfl, HW.out.1, HW.out.2⟩

set_option maxHeartbeats 400000 in
theorem list_any (C sn : Nat) (G : Option Nat) (mo : Int) (L : List ByteArray) (w : World) (h : Qu w C G mo L sn) :
    Calls Try.prog 21 #[.pointer (some ⟨C, 0, none⟩)] w fun e w' => ∃ v, e = .returned v ∧ w'.ownsRow w.heap.size 9 1 v L.length (L.map Value.string) ∧ Below w.heap.size w w' := by
  obtain ⟨a, cap, h1, h2⟩ := h.c1
  have HC := clone_any a cap G L w h2 (by have := h.le; omega)
  have hlt := h.lt
  clear h h2
  go_enter Try.func21, Try.ntmps21
  go_wp2_with fail
  refine HC.mono ?_
  rintro e w1 ⟨v, rfl, ho, hb⟩
  have HW : Hid (w1.ownsRow w.heap.size 9 1 v L.length (L.map Value.string) ∧ Below w.heap.size w w1) := ⟨ho, hb⟩
  clear HC ho hb
  go_wp2
  go_ret
  exact ⟨v, rfl, HW.out.1, HW.out.2⟩
end Go.Proofs.Yteppelahpbgmjaa
