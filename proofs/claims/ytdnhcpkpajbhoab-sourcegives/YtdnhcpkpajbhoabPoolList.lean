/-
  The walk of a pool's List: new memory.
-/
import Derived.Test.YtdnhcpkpajbhoabPoolWalks
import Derived.Test.YtdnhcpkpajbhoabIntRow
namespace Go.Proofs.Ytdnhcpkpajbhoab
open Go.RowKit
set_option linter.unusedVariables false
set_option linter.unusedSimpArgs false

/-- a list so far: new memory, all else as it was -/
structure Lst (w wr : World) (a : Option Addr) (cap : Nat) (L : List Int) : Prop where
  row : ∃ G, IRow wr a cap G L ∧ ∀ B, G = some B → w.heap.size ≤ B
  bel : Below w.heap.size w wr
theorem Lst.push {w W w' : World} {a' : Option Addr} {cap' : Nat} {G G' : Option Nat} {L : List Int} {x : Int} (hb : Below w.heap.size w W) (hG : ∀ B, G = some B → w.heap.size ≤ B) (h : IRow w' a' cap' G' (L ++ [x])) (hk : Kept W w' (fun k => G = some k)) (hf : ∀ B, G' = some B → G = some B ∨ W.heap.size ≤ B) : Lst w w' a' cap' (L ++ [x]) := by
  refine ⟨⟨G', h, fun B hB => ?_⟩, hb.trans (hk.below hb.size (fun k hk' => hG k hk'))⟩
  rcases hf B hB with h' | h'
  · exact hG B h'
  · have := hb.size; omega

set_option maxHeartbeats 2000000 in
theorem plist_any (C nx : Nat) (f : Nat → Bool) (w : World) (h : Pl w C f nx) : Calls Try.prog 29 #[.pointer (some ⟨C, 0, none⟩)] w fun e w' => ∃ a cap, e = .returned (.slice a (Pm.ct f 63) cap) ∧ Lst w w' a cap (Pm.ls f 63) := by
  have hlt := h.lt
  have HP : Hid (Pl w C f nx) := h
  clear h
  go_enter Try.func29, Try.ntmps29
  go_wp2
  go_loopw [3, 7] (fun v c wr => ∃ (i : Nat) (a : Option Addr) (cap : Nat), i ≤ 63 ∧ c = .int .i64 i ∧ v = .slice a (Pm.ct f i) cap ∧ Hid (Lst w wr a cap (Pm.ls f i))) (fun _ c _ => 63 - (intOf c).toNat)
  case atStart => exact ⟨0, none, 0, Nat.zero_le _, rfl, rfl, ⟨⟨none, irow_nil w, fun B hB => by cases hB⟩, Below.refl _ _⟩⟩
  case round =>
    obtain ⟨i, a, cap, hi, rfl, rfl, HL⟩ := hrel
    by_cases hlt2 : i < 63
    · have hcp := ((HP.out.below HL.out.bel)).at i hlt2
      have hltr : C < wr.heap.size := Nat.lt_of_lt_of_le hlt HL.out.bel.size
      cases hf : f i with
      | false =>
        rw [hf] at hcp
        have HE : Hid (Pm.ct f (i + 1) = Pm.ct f i ∧ Pm.ls f (i + 1) = Pm.ls f i) := ⟨Pm.ct_off hf, Pm.ls_off hf⟩
        clear hf
        generalize Pm.ct f i = n at HE
        go_wp2
        go_roundw
        case rel => exact ⟨i + 1, a, cap, by omega, by go_num, by rw [HE.out.1], by rw [HE.out.2]; exact HL⟩
        case measure => simp [intOf]; omega
      | true =>
        rw [hf] at hcp
        have HE : Hid (Pm.ct f (i + 1) = Pm.ct f i + 1 ∧ Pm.ls f (i + 1) = Pm.ls f i ++ [64 + (i : Int)] ∧ (Pm.ls f i).length = Pm.ct f i) := ⟨Pm.ct_on hf, Pm.ls_on hf, rfl⟩
        have hn := Pm.ct_le f i
        clear hf
        obtain ⟨W1, hW1⟩ : ∃ W1, W1 = wr.alloc (.cells #[.int .i64 (64 + (i : Int))] 3) := ⟨_, rfl⟩
        have hb1 : Below wr.heap.size wr W1 := by rw [hW1]; exact (Below.refl _ _).alloc (Nat.le_refl _) _
        have hcell : W1.cell? ⟨wr.heap.size, 0, none⟩ = some (.int .i64 (64 + (i : Int))) := by rw [hW1]; simp
        obtain ⟨G, hS, hG⟩ := HL.out.row
        have hS1 := hS.below hb1
        have HB : Hid (Below w.heap.size w W1 ∧ ∀ B, G = some B → w.heap.size ≤ B) := ⟨HL.out.bel.trans (hb1.mono HL.out.bel.size), hG⟩
        have HX : Hid (IRow W1 a cap G (Pm.ls f i) ∧ W1.cell? ⟨wr.heap.size, 0, none⟩ = some (.int .i64 (64 + (i : Int)))) := ⟨hS1, hcell⟩
        clear HL hS hG hS1 hb1 hcell
        obtain ⟨L, hL⟩ : ∃ L, L = Pm.ls f i := ⟨_, rfl⟩
        rw [← hL] at HX HE
        clear hL
        obtain ⟨n, hnn⟩ : ∃ n, n = Pm.ct f i := ⟨_, rfl⟩
        rw [← hnn] at HE hn ⊢
        clear hnn
        go_wp2_with (at_builtin; rw [← hW1]; refine append_irow rfl _ _ rfl a cap G L (64 + (i : Int)) wr.heap.size 1 (by rw [HE.out.2.2]; rfl) HX.out.1 rfl HX.out.2 (by rw [HE.out.2.2]; omega) ?_)
        intro a' cap' G' w' hS' hK' hG'
        rw [HE.out.2.2]
        have HQ : Hid (Lst w w' a' cap' (L ++ [64 + (i : Int)])) := Lst.push HB.out.1 HB.out.2 hS' (by rw [hW1]; exact hK') (by rw [hW1]; simpa using hG')
        clear hS' hK' hG' HB HX hW1 hcp
        go_wp2
        go_roundw
        case rel => exact ⟨i + 1, a', cap', by omega, by go_num, by rw [HE.out.1], by rw [HE.out.2.1]; exact HQ⟩
        case measure => simp [intOf]; omega
    · have hi63 : i = 63 := by omega
      subst hi63
      clear hlt2
      go_wp2
      go_ret
      exact ⟨a, cap, rfl, HL.out⟩
end Go.Proofs.Ytdnhcpkpajbhoab
