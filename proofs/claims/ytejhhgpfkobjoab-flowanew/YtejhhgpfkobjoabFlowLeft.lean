/-
  A copy of a row of payloads (append of it to nothing); a flow, and such a row that lies beside it; what a Reset's flow comes to, payload by payload.
-/
import Derived.Test.YtejhhgpfkobjoabFlowVw
namespace Go.Proofs.Ytejhhgpfkobjoab
open Go.RowKit
set_option linter.unusedVariables false
set_option linter.unusedSimpArgs false

/-- append of a row to nil -/
theorem append_nil {w : World} {ops : Array Oper} {rest : List Oper} {o : Oper} {a : Act} {Q : Exit → Act → World → Prop} (hgd : o.guard = none) (s x : Operand)
    (ho : o.op = .call { callee := .builtin .append, args := #[s, x], argTypes := #[30, 30] })
    (g off cap : Nat) (G : Option Nat) (L : List ByteArray) (hs : a.eval s = .slice none 0 0) (hx : a.eval x = .slice (some ⟨g, off, none⟩) L.length cap) (hS : SRow w (some ⟨g, off, none⟩) cap G L) (hl : L.length ≤ 1000000)
    (h : ∀ a' cap' G' w', SRow w' a' cap' G' L → Below w.heap.size w w' → (∀ B, G' = some B → w.heap.size ≤ B) → wpList Try.prog ops Q rest (a.put o.dst (.slice a' L.length cap')) w') : wpList Try.prog ops Q (o :: rest) a w := by
  obtain ⟨i0, hi, hz0, hz1, hz2⟩ := info_parts qstr_info
  rcases hS.row with ⟨hx', _⟩ | ⟨g', off', e1, e2, hlt, hc, hf⟩
  · cases hx'
  · injection e1 with e1
    injection e1 with e1 e3
    subst e1 e3
    refine wpList_append_own w hgd s x 30 ho w.heap.size 9 i0 (.string ByteArray.empty) 1 16 Try.underlying30 hi hz0 hz1 hz2 rfl (by decide) _ 0 [] hs (World.ownsRow_nil w w.heap.size 9 1) ⟨g, off, none⟩ L.length cap (L.map Value.string) hx (by simp) (fun j u hj => ?_) (strs_one L) (by unfold maxLen; omega) (by omega) (Nat.le_refl _) ?_
    · obtain ⟨h3, rfl⟩ := strs_at L j u hj
      rw [Addr.add_lit]
      exact hc j h3
    · intro v' w' hown hg hnil
      have hb : Below w.heap.size w w' := ⟨hg.os, hg.tape, hg.output, hg.size, fun k hk => hg.block k hk (fun e => by simp [Value.ownBlock] at e)⟩
      have hown' : w'.ownsRow w.heap.size 9 1 v' L.length (L.map Value.string) := by simpa using hown
      obtain ⟨a', cap', G', rfl, hS', hG⟩ := own_srow rfl hown'
      exact h a' cap' G' w' hS' hb (fun B hB => (hG B hB).1)

/-- a flow, and a row that lies beside it -/
structure FlL (b : Nat) (W0 w : World) (C : Nat) (σ : Wm.St) (a : Option Addr) (cap : Nat) (L : List ByteArray) : Prop where
  fl : ∃ G K, Fl w C G σ ∧ SRow w a cap K L ∧ (∀ k, qtch C G k → b ≤ k) ∧ ∀ B, K = some B → ¬ qtch C G B
  ok : σ.Ok
  bel : Below b W0 w
section
variable {b : Nat} {W0 w w' : World} {C R D : Nat} {σ σ' : Wm.St} {a : Option Addr} {cap : Nat} {L : List ByteArray}
theorem FlL.bs (h : FlL b W0 w C σ a cap L) : b ≤ w.heap.size := by
  obtain ⟨G, K, h1, h2, h3, h4⟩ := h.fl
  have := h3 C (Or.inl rfl); have := h1.lt; omega
theorem FlL.below (h : FlL b W0 w C σ a cap L) (hb : Below w.heap.size w w') : FlL b W0 w' C σ a cap L := by
  obtain ⟨G, K, h1, h2, h3, h4⟩ := h.fl
  exact ⟨⟨G, K, h1.below hb, h2.kept (T := fun _ => False) (Kept.of_below hb (fun k hk h' => by omega)) (fun _ _ x => x), h3, h4⟩, h.ok, h.bel.trans (hb.mono h.bs)⟩
theorem FlL.moved (h : FlL b W0 w C σ a cap L) : ∃ G, Fl w C G σ ∧ ∀ w' σ', Mvf w w' C G σ' → σ'.Ok → FlL b W0 w' C σ' a cap L := by
  obtain ⟨G, K, h1, h2, h3, h4⟩ := h.fl
  have hbs := h.bs
  refine ⟨G, h1, fun w' σ' hm ok => ?_⟩
  obtain ⟨G', hq', hk, hf⟩ := hm
  refine ⟨⟨G', K, hq', h2.kept hk h4, fun k hk' => ?_, fun B hB hk' => ?_⟩, ok, h.bel.trans (hk.below hbs (fun k hk' => h3 k hk'))⟩
  · rcases hk' with rfl | hk'
    · exact h3 k (Or.inl rfl)
    · rcases hf k hk' with h' | h'
      · exact h3 k (Or.inr h')
      · omega
  · rcases hk' with rfl | hk'
    · exact h4 B hB (Or.inl rfl)
    · rcases hf B hk' with h' | h'
      · exact h4 B hB (Or.inr h')
      · have := h2.lt hB; omega
theorem FlL.nth (h : FlL b W0 w C σ a cap L) (i : Nat) (hi : i < L.length) : ∃ g off, a = some ⟨g, off, none⟩ ∧ g < w.heap.size ∧ w.cell? ⟨g, off + i, none⟩ = some (.string (L.getD i ByteArray.empty)) := by
  obtain ⟨G, K, h1, h2, h3, h4⟩ := h.fl
  obtain ⟨g, off, e, _, hlt, hc⟩ := h2.nth i hi
  exact ⟨g, off, e, hlt, hc⟩
theorem FlL.cp (h : FlL b W0 w C σ a cap L) : L.length ≤ cap := by
  obtain ⟨G, K, h1, h2, h3, h4⟩ := h.fl
  exact h2.le
theorem PrF.left {G' : Option Nat} (h : PrF b W0 w C R D σ σ) (ok : σ.Ok) (hS : SRow w' a cap G' L) (hb : Below w.heap.size w w') (hG : ∀ B, G' = some B → w.heap.size ≤ B) : FlL b W0 w' C σ a cap L := by
  obtain ⟨G, h1, h2⟩ := (show ∃ G, Fl w C G σ ∧ ∀ k, qtch C G k → b ≤ k by
    obtain ⟨G, H, h1, _, h3, _⟩ := h.qu
    exact ⟨G, h1, h3⟩)
  exact ⟨⟨G, G', h1.below hb, hS, h2, fun B hB hk => by have := h1.tlt hk; have := hG B hB; omega⟩, ok, h.bel.trans (hb.mono h.bs)⟩
theorem PrF.refrow (h : PrF b W0 w C R D σ σ) : ∃ a cap H, w.cell? ⟨R, 7, none⟩ = some (.pointer (some ⟨D, 0, none⟩)) ∧ w.cell? ⟨D, 1, none⟩ = some (.slice a σ.L.length cap) ∧ SRow w a cap H σ.L ∧ σ.L.length ≤ 256 ∧ R < w.heap.size ∧ D < w.heap.size := by
  obtain ⟨G, H, _, hr, _⟩ := h.qu
  obtain ⟨a, cap, h1, h2⟩ := hr.qu.c1
  exact ⟨a, cap, H, hr.c7, h1, h2, hr.qu.le, hr.lt, hr.qu.lt⟩
theorem fll_reset (h : FlL b W0 w C σ a cap L) :
    Calls Try.prog 7 #[.pointer (some ⟨C, 0, none⟩)] w fun e w' => e = .returned (.tuple #[]) ∧ FlL b W0 w' C (Wm.resetT σ) a cap L := by
  obtain ⟨G, hq, hm⟩ := h.moved
  exact (freset_any C G σ w hq).mono fun e w' hx => ⟨hx.1, hm _ _ hx.2 (Wm.resetT_ok h.ok)⟩
theorem fll_take (h : FlL b W0 w C σ a cap L) :
    Calls Try.prog 10 #[.pointer (some ⟨C, 0, none⟩)] w fun e w' => e = .returned (.tuple #[.int .i64 (Wm.takeN σ), .string (Wm.takeS σ), .bool (Wm.takeB σ)]) ∧ FlL b W0 w' C (Wm.takeT σ) a cap L := by
  obtain ⟨G, hq, hm⟩ := h.moved
  exact (ftake_any C G σ w hq h.ok).mono fun e w' hx => ⟨hx.1, hm _ _ hx.2 (Wm.takeT_ok h.ok)⟩
theorem fll_ack (nr : Int) (h : FlL b W0 w C σ a cap L) (h0 : -9223372036854775808 ≤ nr) (h1 : nr ≤ 9223372036854775807) :
    Calls Try.prog 11 #[.pointer (some ⟨C, 0, none⟩), .int .i64 nr] w fun e w' => e = .returned (.tuple #[.int .i64 (Wm.ackN σ nr), .int .i64 (Wm.ackE σ nr)]) ∧ FlL b W0 w' C (Wm.ackT σ nr) a cap L := by
  obtain ⟨G, hq, hm⟩ := h.moved
  exact (fack_any C G σ nr w hq h.ok h0 h1).mono fun e w' hx => ⟨hx.1, hm _ _ hx.2 (Wm.ackT_ok h.ok nr)⟩
theorem fll_view (h : FlL b W0 w C σ a cap L) :
    Calls Try.prog 9 #[.pointer (some ⟨C, 0, none⟩)] w fun e w' => e = .returned (vwV σ) ∧ FlL b W0 w' C σ a cap L := by
  obtain ⟨G, hq, hm⟩ := h.moved
  exact (fview_any C G σ w hq).mono fun e w' hx => ⟨hx.1, h.below hx.2⟩
end

/-! ### payload by payload -/
/-- behind i of them, each taken and answered -/
def anew (k mo : Int) (L : List ByteArray) (i : Nat) : Wm.St := ⟨(i : Int) % 128, (i : Int) % 128, 0, false, false, false, k, mo, L.drop i, 0⟩
theorem anew_reset (σ : Wm.St) : Wm.resetT σ = anew σ.k σ.mo σ.L 0 := rfl
theorem anew_take {k mo : Int} {L : List ByteArray} {i : Nat} (hi : i < L.length) : Wm.takeB (anew k mo L i) = true ∧ Wm.takeN (anew k mo L i) = (i : Int) % 128 ∧ Wm.takeS (anew k mo L i) = L.getD i ByteArray.empty ∧ Wm.takeT (anew k mo L i) = { anew k mo L i with vs := Sm.ad ((i : Int) % 128) 1, sn := 1 } := by
  have h1 : Wm.takeB (anew k mo L i) = true := Wm.takeB_all rfl (by have := Wm.win_pos k; show ((0 : Nat) : Int) < Wm.win k; omega) (by show 0 < (L.drop i).length; rw [List.length_drop]; omega)
  obtain ⟨t1, t2, t3⟩ := Wm.take_yes h1
  refine ⟨h1, t1, t2.trans ?_, t3⟩
  show (L.drop i).getD 0 ByteArray.empty = _
  simp [List.getD]
theorem anew_ack {k mo : Int} {L : List ByteArray} {i : Nat} (hi : i < L.length) (hk0 : -9223372036854775808 ≤ k) (hk1 : k ≤ 9223372036854775807) : Wm.ackE { anew k mo L i with vs := Sm.ad ((i : Int) % 128) 1, sn := 1 } ((i : Int) % 128 + 1) = 0 ∧ Wm.ackT { anew k mo L i with vs := Sm.ad ((i : Int) % 128) 1, sn := 1 } ((i : Int) % 128 + 1) = anew k mo L (i + 1) := by
  have hb : Wm.ackB { anew k mo L i with vs := Sm.ad ((i : Int) % 128) 1, sn := 1 } ((i : Int) % 128 + 1) = true := by
    refine decide_eq_true ?_
    show Sm.sb ((i : Int) % 128 + 1) ((i : Int) % 128) ≤ Sm.sb (Sm.ad ((i : Int) % 128) 1) ((i : Int) % 128)
    unfold Sm.sb Sm.ad
    omega
  refine ⟨by unfold Wm.ackE; rw [hb]; rfl, ?_⟩
  have hd : Sm.sb ((i : Int) % 128 + 1) ((i : Int) % 128) = 1 := by unfold Sm.sb; omega
  unfold Wm.ackT
  rw [hb]
  show (⟨Sm.ad ((i : Int) % 128) 1, Sm.nm ((i : Int) % 128 + 1), 0, false, false, false, k, mo, Qm.doneL (L.drop i) 1 (Sm.sb ((i : Int) % 128 + 1) ((i : Int) % 128)), Qm.doneS 1 (Sm.sb ((i : Int) % 128 + 1) ((i : Int) % 128))⟩ : Wm.St) = ⟨((i + 1 : Nat) : Int) % 128, ((i + 1 : Nat) : Int) % 128, 0, false, false, false, k, mo, L.drop (i + 1), 0⟩
  rw [hd]
  have e1 : Sm.ad ((i : Int) % 128) 1 = ((i + 1 : Nat) : Int) % 128 := by unfold Sm.ad; omega
  have e2 : Sm.nm ((i : Int) % 128 + 1) = ((i + 1 : Nat) : Int) % 128 := by unfold Sm.nm; omega
  have e3 : Qm.doneL (L.drop i) 1 1 = L.drop (i + 1) := by
    show (L.drop i).drop 1 = _
    rw [List.drop_drop]
  rw [e1, e2, e3]
  rfl
theorem anew_end {k mo : Int} {L : List ByteArray} : Wm.takeB (anew k mo L L.length) = false := Wm.takeB_len (by show ¬ 0 < (L.drop L.length).length; simp)
end Go.Proofs.Ytejhhgpfkobjoab
