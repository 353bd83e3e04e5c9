/-
  The walks of the document's pool: Has, Claim, Free, Assign, List.
-/
import Derived.Test.YtdojkaliohcckaaPoolList
namespace Go.Proofs.Ytdojkaliohcckaa
open Go.RowKit
set_option linter.unusedVariables false
set_option linter.unusedSimpArgs false

theorem new_rp (w : World) (T : TypeId) : Rp (w.alloc (.cells ((Array.replicate 128 (Value.bool false)).push (.int .i64 0)) T)) w.heap.size (fun _ => false) 0 := by
  refine ⟨⟨by simp, fun i hi => ?_, fun i => by simp⟩, 0, ?_, Or.inl ⟨rfl, rfl⟩⟩
  · have h1 : 64 + i < 128 := by omega
    simp [Array.getElem?_push, h1]
    omega
  · simp [Array.getElem_push]

set_option maxHeartbeats 1000000 in
theorem rhas_any (C nx : Nat) (f : Nat → Bool) (t : Int) (w : World) (h : Rp w C f nx) : Calls Try.prog 19 #[.pointer (some ⟨C, 0, none⟩), .int .i64 t] w fun e w' => e = .returned (.bool (Pm.has f t)) ∧ w = w' := by
  have hlt := h.lt
  cases ha : Pm.au t with
  | false =>
    have HN : Hid (Pm.has f t = false) := Pm.has_no f ha
    have h' := Pm.not_au ha
    clear ha h
    by_cases h1 : t < 64
    · clear h'
      go_enter Try.func19, Try.ntmps19
      go_wp2
      go_ret
      exact ⟨by rw [HN.out]; rfl, rfl⟩
    · have h2 : 64 ≤ t := by omega
      have h3 : 126 < t := by omega
      clear h' h1
      go_enter Try.func19, Try.ntmps19
      go_wp2
      go_ret
      exact ⟨by rw [HN.out]; rfl, rfl⟩
  | true =>
    obtain ⟨p, hp, rfl, -⟩ := Pm.au_place ha
    have HN : Hid (Pm.has f (64 + (p : Int)) = f p) := Pm.has_of f p hp
    have hc := h.bs.on p hp
    clear ha h
    generalize f p = b at hc HN
    obtain ⟨q, hq⟩ : ∃ q : Nat, q = 64 + p := ⟨_, rfl⟩
    have hqe : (64 : Int) + (p : Int) = (q : Int) := by omega
    rw [hqe] at HN ⊢
    rw [← hq] at hc
    have h1 : 64 ≤ q := by omega
    have h2 : q ≤ 126 := by omega
    clear hqe hq hp
    go_enter Try.func19, Try.ntmps19
    go_wp2
    go_ret
    exact ⟨by rw [HN.out]; rfl, rfl⟩

set_option maxHeartbeats 1000000 in
theorem rclaim_any (C nx : Nat) (f : Nat → Bool) (t : Int) (w : World) (h : Rp w C f nx) : Calls Try.prog 11 #[.pointer (some ⟨C, 0, none⟩), .int .i64 t] w fun e w' => e = .returned (.int .i64 (Pm.clN f t)) ∧ Rp w' C (Pm.clF f t) nx ∧ Kept w w' (fun k => k = C) := by
  have hlt := h.lt
  cases ha : Pm.au t with
  | false =>
    have HN : Hid (Pm.clN f t = 2 ∧ Pm.clF f t = f) := Pm.cl_no f ha
    have HP : Hid (Rp w C f nx) := h
    have h' := Pm.not_au ha
    clear ha h
    by_cases h1 : t < 64
    · clear h'
      go_enter Try.func11, Try.ntmps11
      go_wp2
      go_ret
      exact ⟨by rw [HN.out.1]; rfl, by rw [HN.out.2]; exact HP.out, Kept.refl _ _⟩
    · have h2 : 64 ≤ t := by omega
      have h3 : 126 < t := by omega
      clear h' h1
      go_enter Try.func11, Try.ntmps11
      go_wp2
      go_ret
      exact ⟨by rw [HN.out.1]; rfl, by rw [HN.out.2]; exact HP.out, Kept.refl _ _⟩
  | true =>
    obtain ⟨p, hp, rfl, hat⟩ := Pm.au_place ha
    have hc := h.bs.on p hp
    obtain ⟨q, hq⟩ : ∃ q : Nat, q = 64 + p := ⟨_, rfl⟩
    have hqe : (64 : Int) + (p : Int) = (q : Int) := by omega
    rw [← hq] at hc
    have h1 : 64 ≤ q := by omega
    have h2 : q ≤ 126 := by omega
    cases hf : f p with
    | true =>
      have HN : Hid (Pm.clN f (64 + (p : Int)) = 13 ∧ Pm.clF f (64 + (p : Int)) = f) := Pm.cl_there ha (by rw [hat]; exact hf)
      have HP : Hid (Rp w C f nx) := h
      rw [hf] at hc
      rw [hqe] at HN ⊢
      clear ha h hf hat hqe hq hp
      go_enter Try.func11, Try.ntmps11
      go_wp2
      go_ret
      exact ⟨by rw [HN.out.1]; rfl, by rw [HN.out.2]; exact HP.out, Kept.refl _ _⟩
    | false =>
      have HN : Hid (Pm.clN f (64 + (p : Int)) = 0 ∧ Pm.clF f (64 + (p : Int)) = Pm.upd f p true) := by have := Pm.cl_ok ha (show f (Pm.at' (64 + (p : Int))) = false by rw [hat]; exact hf); rw [hat] at this; exact this
      have HP : Hid (Rp (w.setCell ⟨C, q, none⟩ (.bool true)) C (Pm.upd f p true) nx ∧ Kept w (w.setCell ⟨C, q, none⟩ (.bool true)) (fun k => k = C)) := by rw [hq]; exact ⟨h.set p hp true, own_set w C _ _⟩
      have hz := h.bs.fz q
      rw [hf] at hc
      rw [hqe] at HN ⊢
      clear ha h hf hat hqe hq hp
      go_enter Try.func11, Try.ntmps11
      go_wp2
      go_ret
      exact ⟨by rw [HN.out.1]; rfl, by rw [HN.out.2]; exact HP.out.1, HP.out.2⟩

set_option maxHeartbeats 1000000 in
theorem rfree_any (C nx : Nat) (f : Nat → Bool) (t : Int) (w : World) (h : Rp w C f nx) : Calls Try.prog 13 #[.pointer (some ⟨C, 0, none⟩), .int .i64 t] w fun e w' => e = .returned (.bool (Pm.has f t)) ∧ Rp w' C (Pm.frF f t) nx ∧ Kept w w' (fun k => k = C) := by
  have HH := rhas_any C nx f t w h
  have hlt := h.lt
  cases hh : Pm.has f t with
  | false =>
    rw [hh] at HH
    have HN : Hid (Pm.frF f t = f) := Pm.fr_no hh
    have HP : Hid (Rp w C f nx) := h
    clear hh h
    go_enter Try.func13, Try.ntmps13
    go_wp2_with fail
    refine HH.mono ?_
    rintro e w' ⟨rfl, rfl⟩
    clear HH
    go_wp2
    go_ret
    exact ⟨rfl, by rw [HN.out]; exact HP.out, Kept.refl _ _⟩
  | true =>
    rw [hh] at HH
    obtain ⟨ha, hf, he⟩ := Pm.fr_ok hh
    obtain ⟨p, hp, rfl, hat⟩ := Pm.au_place ha
    rw [hat] at hf he
    obtain ⟨q, hq⟩ : ∃ q : Nat, q = 64 + p := ⟨_, rfl⟩
    have hqe : (64 : Int) + (p : Int) = (q : Int) := by omega
    have hc := h.bs.on p hp
    rw [← hq, hf] at hc
    have h2 : q ≤ 126 := by omega
    have HN : Hid (Pm.frF f (64 + (p : Int)) = Pm.upd f p false) := he
    have HP : Hid (Rp (w.setCell ⟨C, q, none⟩ (.bool false)) C (Pm.upd f p false) nx ∧ Kept w (w.setCell ⟨C, q, none⟩ (.bool false)) (fun k => k = C)) := by rw [hq]; exact ⟨h.set p hp false, own_set w C _ _⟩
    have hz := h.bs.fz q
    rw [hqe] at HN HH ⊢
    clear hh h hf he hat ha hqe hq hp
    go_enter Try.func13, Try.ntmps13
    go_wp2_with fail
    refine HH.mono ?_
    rintro e w' ⟨rfl, rfl⟩
    clear HH
    go_wp2
    go_ret
    exact ⟨rfl, by rw [HN.out]; exact HP.out.1, HP.out.2⟩

set_option maxHeartbeats 2000000 in
theorem rlist_any (C nx : Nat) (f : Nat → Bool) (w : World) (h : Rp w C f nx) : Calls Try.prog 17 #[.pointer (some ⟨C, 0, none⟩)] w fun e w' => ∃ a cap, e = .returned (.slice a (Pm.ct f 63) cap) ∧ Lst w w' a cap (Pm.ls f 63) := by
  have hlt := h.lt
  have HP : Hid (Rp w C f nx) := h
  clear h
  go_enter Try.func17, Try.ntmps17
  go_wp2
  go_loopw [3, 4] (fun v c wr => ∃ (i q : Nat) (a : Option Addr) (cap : Nat), i ≤ 63 ∧ c = .int .i64 q ∧ Hid (q = 64 + i) ∧ v = .slice a (Pm.ct f i) cap ∧ Hid (Lst w wr a cap (Pm.ls f i))) (fun _ c _ => 200 - (intOf c).toNat)
  case atStart => exact ⟨0, 64, none, 0, Nat.zero_le _, rfl, rfl, rfl, ⟨⟨none, irow_nil w, fun B hB => by cases hB⟩, Below.refl _ _⟩⟩
  case round =>
    obtain ⟨i, q, a, cap, hi, rfl, HQ, rfl, HL⟩ := hrel
    by_cases hlt2 : i < 63
    · have hcp := ((HP.out.below HL.out.bel)).bs.on i hlt2
      rw [← HQ.out] at hcp
      have hq : q ≤ 126 := by have := HQ.out; omega
      have hltr : C < wr.heap.size := Nat.lt_of_lt_of_le hlt HL.out.bel.size
      cases hf : f i with
      | false =>
        rw [hf] at hcp
        have HE : Hid (Pm.ct f (i + 1) = Pm.ct f i ∧ Pm.ls f (i + 1) = Pm.ls f i) := ⟨Pm.ct_off hf, Pm.ls_off hf⟩
        clear hf
        generalize Pm.ct f i = n at HE
        go_wp2
        go_roundw
        case rel => exact ⟨i + 1, q + 1, a, cap, by omega, by go_num, (show q + 1 = 64 + (i + 1) by have := HQ.out; omega), by rw [HE.out.1], by rw [HE.out.2]; exact HL⟩
        case measure => simp [intOf]; omega
      | true =>
        rw [hf] at hcp
        have hqi : (64 : Int) + (i : Int) = (q : Int) := by have := HQ.out; omega
        have HE : Hid (Pm.ct f (i + 1) = Pm.ct f i + 1 ∧ Pm.ls f (i + 1) = Pm.ls f i ++ [(q : Int)] ∧ (Pm.ls f i).length = Pm.ct f i) := ⟨Pm.ct_on hf, by rw [Pm.ls_on hf, hqi], rfl⟩
        have hn := Pm.ct_le f i
        clear hf hqi
        obtain ⟨W1, hW1⟩ : ∃ W1, W1 = wr.alloc (.cells #[.int .i64 (q : Int)] 3) := ⟨_, rfl⟩
        have hb1 : Below wr.heap.size wr W1 := by rw [hW1]; exact (Below.refl _ _).alloc (Nat.le_refl _) _
        have hcell : W1.cell? ⟨wr.heap.size, 0, none⟩ = some (.int .i64 (q : Int)) := by rw [hW1]; simp
        obtain ⟨G, hS, hG⟩ := HL.out.row
        have hS1 := hS.below hb1
        have HB : Hid (Below w.heap.size w W1 ∧ ∀ B, G = some B → w.heap.size ≤ B) := ⟨HL.out.bel.trans (hb1.mono HL.out.bel.size), hG⟩
        have HX : Hid (IRow W1 a cap G (Pm.ls f i) ∧ W1.cell? ⟨wr.heap.size, 0, none⟩ = some (.int .i64 (q : Int))) := ⟨hS1, hcell⟩
        clear HL hS hG hS1 hb1 hcell
        obtain ⟨L, hL⟩ : ∃ L, L = Pm.ls f i := ⟨_, rfl⟩
        rw [← hL] at HX HE
        clear hL
        obtain ⟨n, hnn⟩ : ∃ n, n = Pm.ct f i := ⟨_, rfl⟩
        rw [← hnn] at HE hn ⊢
        clear hnn
        go_wp2_with (at_builtin; rw [← hW1]; refine append_irow rfl _ _ rfl a cap G L (q : Int) wr.heap.size 1 (by rw [HE.out.2.2]; rfl) HX.out.1 rfl HX.out.2 (by rw [HE.out.2.2]; omega) ?_)
        intro a' cap' G' w' hS' hK' hG'
        rw [HE.out.2.2]
        have HQ2 : Hid (Lst w w' a' cap' (L ++ [(q : Int)])) := Lst.push HB.out.1 HB.out.2 hS' (by rw [hW1]; exact hK') (by rw [hW1]; simpa using hG')
        clear hS' hK' hG' HB HX hW1 hcp
        go_wp2
        go_roundw
        case rel => exact ⟨i + 1, q + 1, a', cap', by omega, by go_num, (show q + 1 = 64 + (i + 1) by have := HQ.out; omega), by rw [HE.out.1], by rw [HE.out.2.1]; exact HQ2⟩
        case measure => simp [intOf]; omega
    · have hi63 : i = 63 := by omega
      subst hi63
      have hq : q = 127 := HQ.out
      subst hq
      clear hlt2
      go_wp2
      go_ret
      exact ⟨a, cap, rfl, HL.out⟩
end Go.Proofs.Ytdojkaliohcckaa
