/-
  Plain mathematics of what the law FlowCarries plays: payloads by number, a sender with a window, a receiver; how far it is still to go. It names nothing of the program.
-/
import Derived.Test.YtejhhgpfkobjoaaFlowMath
namespace Go.Proofs.Ytejhhgpfkobjoaa.Wm
set_option linter.unusedVariables false

/-- the payload of that number -/
def tx (i : Nat) : ByteArray := strOfNums [(i : Int)]
def lay (n : Nat) : List ByteArray := (List.range n).map tx
theorem lay_length (n : Nat) : (lay n).length = n := by simp [lay]
theorem tx_size (i : Nat) : (tx i).size = 1 := rfl
theorem lay_push (i : Nat) (h : i < 200) : Qm.pushN 256 (lay i) (tx i) = 0 ∧ Qm.pushL 256 (lay i) (tx i) = lay (i + 1) := by
  have h1 : ¬ 260 < (tx i).size := by rw [tx_size]; omega
  have h2 : ¬ Qm.takes 256 ≤ (lay i).length := by
    rw [lay_length]
    have : Qm.takes 256 = 256 := rfl
    omega
  refine ⟨by unfold Qm.pushN; rw [if_neg h1, if_neg h2], ?_⟩
  unfold Qm.pushL
  rw [if_neg h1, if_neg h2]
  simp [lay, List.range_succ]

/-- the sender: from payload b on unanswered, sn of them sent -/
def cst (k : Int) (N b sn : Nat) : St := ⟨((b + sn : Nat) : Int) % 128, (b : Int) % 128, 0, false, false, false, k, 256, (lay N).drop b, sn⟩
/-- the receiver: g payloads came -/
def rst (k : Int) (g : Nat) (re : Bool) : St := ⟨0, 0, (g : Int) % 128, false, false, re, k, 256, [], 0⟩
theorem cst_new (k : Int) : new k 256 = cst k 0 0 0 := rfl
theorem rst_new (k : Int) : new k 256 = rst k 0 false := rfl
theorem cst_push (k : Int) (i : Nat) (h : i < 200) : pushT (cst k i 0 0) (tx i) = cst k (i + 1) 0 0 := by
  show (⟨_, _, _, _, _, _, _, _, Qm.pushL 256 (lay i) (tx i), _⟩ : St) = _
  rw [(lay_push i h).2]
  rfl
theorem cst_left (k : Int) (N b : Nat) : ((cst k N b 0).L.length - (cst k N b 0).sn : Nat) = N - b := by
  show ((lay N).drop b).length - 0 = _
  rw [List.length_drop, lay_length]
  omega
theorem cst_yes {k : Int} {N b sn : Nat} (h1 : (sn : Int) < win k) (h2 : b + sn < N) : takeB (cst k N b sn) = true ∧ takeN (cst k N b sn) = ((b + sn : Nat) : Int) % 128 ∧ takeS (cst k N b sn) = tx (b + sn) ∧ takeT (cst k N b sn) = cst k N b (sn + 1) := by
  have hb : takeB (cst k N b sn) = true := takeB_all rfl h1 (by show sn < ((lay N).drop b).length; rw [List.length_drop, lay_length]; omega)
  obtain ⟨t1, t2, t3⟩ := take_yes hb
  refine ⟨hb, t1, t2.trans ?_, t3.trans ?_⟩
  · show ((lay N).drop b).getD sn ByteArray.empty = _
    simp [List.getD, lay, h2]
  · have e : Sm.ad (((b + sn : Nat) : Int) % 128) 1 = ((b + (sn + 1) : Nat) : Int) % 128 := by unfold Sm.ad; omega
    show (⟨Sm.ad (((b + sn : Nat) : Int) % 128) 1, _, _, _, _, _, _, _, _, _⟩ : St) = _
    rw [e]
    rfl
theorem cst_no {k : Int} {N b sn : Nat} (h : ¬ ((sn : Int) < win k ∧ b + sn < N)) : takeB (cst k N b sn) = false := by
  by_cases h1 : (sn : Int) < win k
  · exact takeB_len (by show ¬ sn < ((lay N).drop b).length; rw [List.length_drop, lay_length]; omega)
  · exact takeB_win h1
theorem cst_ack {k : Int} {N b sn g : Nat} (h1 : b ≤ g) (h2 : g ≤ b + sn) (h3 : sn ≤ 127) : ackE (cst k N b sn) ((g : Int) % 128) = 0 ∧ ackT (cst k N b sn) ((g : Int) % 128) = cst k N g (b + sn - g) := by
  have e1 : Sm.sb ((g : Int) % 128) ((b : Int) % 128) = ((g - b : Nat) : Int) := by unfold Sm.sb; omega
  have e2 : Sm.sb (((b + sn : Nat) : Int) % 128) ((b : Int) % 128) = (sn : Int) := by unfold Sm.sb; omega
  have hb : ackB (cst k N b sn) ((g : Int) % 128) = true := by
    refine decide_eq_true ?_
    show Sm.sb ((g : Int) % 128) ((b : Int) % 128) ≤ Sm.sb (((b + sn : Nat) : Int) % 128) ((b : Int) % 128)
    rw [e1, e2]
    omega
  refine ⟨by unfold ackE; rw [hb]; rfl, ?_⟩
  unfold ackT
  rw [hb]
  show (⟨((b + sn : Nat) : Int) % 128, Sm.nm ((g : Int) % 128), 0, false, false, false, k, 256, Qm.doneL ((lay N).drop b) sn (Sm.sb ((g : Int) % 128) ((b : Int) % 128)), Qm.doneS sn (Sm.sb ((g : Int) % 128) ((b : Int) % 128))⟩ : St) = _
  rw [e1]
  have hok : Qm.okN sn ((g - b : Nat) : Int) = true := decide_eq_true (by omega)
  have e3 : Qm.doneL ((lay N).drop b) sn ((g - b : Nat) : Int) = (lay N).drop g := by
    unfold Qm.doneL
    rw [hok, if_pos rfl, Int.toNat_natCast, List.drop_drop]
    congr 1
    omega
  have e4 : Qm.doneS sn ((g - b : Nat) : Int) = b + sn - g := by
    unfold Qm.doneS
    rw [hok, if_pos rfl, Int.toNat_natCast]
    omega
  have e5 : Sm.nm ((g : Int) % 128) = (g : Int) % 128 := by unfold Sm.nm; omega
  have e6 : ((b + sn : Nat) : Int) % 128 = ((g + (b + sn - g) : Nat) : Int) % 128 := by
    have : g + (b + sn - g) = b + sn := by omega
    rw [this]
  rw [e3, e4, e5, e6]
  rfl
theorem cst_back (k : Int) (N b sn : Nat) : backT (cst k N b sn) = cst k N b 0 := rfl
theorem rst_next {k : Int} {g : Nat} {re : Bool} : comeN (rst k g re) ((g : Int) % 128) = 0 ∧ comeT (rst k g re) ((g : Int) % 128) = rst k (g + 1) false := by
  have e : Sm.nm ((g : Int) % 128) = (rst k g re).vr := by show Sm.nm ((g : Int) % 128) = (g : Int) % 128; unfold Sm.nm; omega
  have hw : (rst k g re).ow = false := rfl
  refine ⟨by unfold comeN; rw [hw, if_neg (by decide), if_pos e], ?_⟩
  unfold comeT
  rw [hw, if_neg (by decide), if_pos e]
  have e2 : Sm.ad ((g : Int) % 128) 1 = ((g + 1 : Nat) : Int) % 128 := by unfold Sm.ad; omega
  show (⟨_, _, Sm.ad ((g : Int) % 128) 1, _, _, _, _, _, _, _⟩ : St) = _
  rw [e2]
  rfl
theorem rst_other {k : Int} {g p : Nat} {re : Bool} (h : ¬ (p : Int) % 128 = (g : Int) % 128) : (comeN (rst k g re) ((p : Int) % 128) == 0) = false ∧ comeT (rst k g re) ((p : Int) % 128) = rst k g true := by
  have e : ¬ Sm.nm ((p : Int) % 128) = (rst k g re).vr := by show ¬ Sm.nm ((p : Int) % 128) = (g : Int) % 128; unfold Sm.nm; omega
  have hw : (rst k g re).ow = false := rfl
  refine ⟨?_, ?_⟩
  · unfold comeN
    rw [hw, if_neg (by decide), if_neg e]
    cases re <;> rfl
  · unfold comeT
    rw [hw, if_neg (by decide), if_neg e]
    rfl

/-! ### how far it is still to go -/
/-- what is always so: b are answered, sn sent, g came -/
structure Inv (k : Int) (N b sn g : Nat) : Prop where
  n : N ≤ 199
  bg : b ≤ g
  gw : (g : Int) ≤ b + win k
  gn : g ≤ N
  bs : b + sn ≤ N
  sw : (sn : Int) ≤ win k
def far (N b sn g : Nat) : Nat := if g = b + sn then 2 * (N - g) + (if 0 < sn then 1 else 0) else 400 + (128 - sn)
def Near (N b sn g i : Nat) : Prop := 500 ≤ i → far N b sn g + (i - 500) ≤ 528
section
variable {k : Int} {N b sn g i : Nat}
theorem Inv.start (hN : N ≤ 199) : Inv k N 0 0 0 := by
  have := win_pos k
  exact ⟨hN, Nat.le_refl _, by omega, Nat.zero_le _, by omega, by omega⟩
theorem far_le (h : Inv k N b sn g) : far N b sn g ≤ 528 := by
  have := h.n
  unfold far
  split
  · split <;> omega
  · omega
theorem near_start : Near N 0 0 0 0 := fun h => absurd h (by omega)
/-- one is sent, and lost -/
theorem Inv.sent (h : Inv k N b sn g) (h1 : (sn : Int) < win k) (h2 : b + sn < N) : Inv k N b (sn + 1) g := ⟨h.n, h.bg, h.gw, h.gn, by omega, by omega⟩
theorem near_lost (h : Inv k N b sn g) (hi : i < 500) : Near N b sn g (i + 1) := by
  intro h5
  have := far_le h
  omega
/-- one is sent, and comes -/
theorem same_num (h : Inv k N b sn g) (h1 : (sn : Int) < win k) : ((b + sn : Nat) : Int) % 128 = (g : Int) % 128 ↔ b + sn = g := by
  have := win_le k
  have := h.bg
  have := h.gw
  omega
theorem Inv.came (h : Inv k N b sn g) (h1 : (sn : Int) < win k) (h2 : b + sn < N) (he : b + sn = g) : Inv k N b (sn + 1) (g + 1) := ⟨h.n, by have := h.bg; omega, by omega, by omega, by omega, by omega⟩
theorem near_came (h : Inv k N b sn g) (hn : Near N b sn g i) (h2 : b + sn < N) (he : b + sn = g) (hi : ¬ i < 500) : Near N b (sn + 1) (g + 1) (i + 1) := by
  intro h5
  have h6 := hn (by omega)
  unfold far at *
  rw [if_pos (by omega)] at h6 ⊢
  rw [if_pos (by omega)]
  split at h6 <;> omega
theorem near_wrong (h : Inv k N b sn g) (hn : Near N b sn g i) (h1 : (sn : Int) < win k) (h2 : b + sn < N) (he : ¬ b + sn = g) (hi : ¬ i < 500) : Near N b (sn + 1) g (i + 1) := by
  intro h5
  have h6 := hn (by omega)
  have := win_le k
  have := h.n
  unfold far at *
  rw [if_neg (by omega)] at h6
  split
  · rw [if_pos (by omega)]; omega
  · omega
/-- nothing can be sent: an answer -/
theorem Inv.full (h : Inv k N b sn g) (hf : ¬ ((sn : Int) < win k ∧ b + sn < N)) : g ≤ b + sn := by
  have := h.gw; have := h.gn; have := h.sw; have := h.bs
  omega
theorem Inv.back (h : Inv k N b sn g) : Inv k N b 0 g := ⟨h.n, h.bg, h.gw, h.gn, by have := h.bs; omega, by have := win_pos k; omega⟩
theorem Inv.acked (h : Inv k N b sn g) : Inv k N g 0 g := ⟨h.n, Nat.le_refl _, by have := win_pos k; omega, h.gn, by have := h.gn; omega, by have := win_pos k; omega⟩
theorem near_acked (h : Inv k N b sn g) (hn : Near N b sn g i) (hf : ¬ ((sn : Int) < win k ∧ b + sn < N)) (hg : ¬ N - g = 0) (hi : ¬ i < 500) : Near N g 0 g (i + 1) := by
  intro h5
  have h6 := hn (by omega)
  have := win_pos k
  have := h.n
  have := h.sw
  have := h.gn
  unfold far at *
  rw [if_pos (by omega), if_neg (by omega)]
  split at h6
  · split at h6
    · omega
    · exfalso
      have h0 : sn = 0 := by omega
      subst h0
      exact hf ⟨by omega, by omega⟩
  · have := win_le k
    omega
theorem Inv.over (h : Inv k N b sn g) (hb : N - b = 0) : g = N := by have := h.bg; have := h.gn; omega
end
end Go.Proofs.Ytejhhgpfkobjoaa.Wm
