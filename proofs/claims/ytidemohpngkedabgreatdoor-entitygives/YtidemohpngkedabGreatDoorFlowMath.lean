/-
  Plain mathematics of a flow: its numbers, what is set, its payloads. It names nothing of the program.
-/
import Derived.Test.YtidemohpngkedabGreatDoorQueMath
import Derived.Test.YtidemohpngkedabGreatDoorSeqMath
namespace Go.Proofs.YtidemohpngkedabGreatDoor.Wm
set_option linter.unusedVariables false

/-- a flow -/
structure St where
  (vs va vr : Int)
  (pe ow re : Bool)
  (k mo : Int)
  L : List ByteArray
  sn : Nat

/-- how many may be unanswered -/
def win (k : Int) : Int := min (max k 1) 127
theorem win_pos (k : Int) : 1 ≤ win k := by unfold win; omega
theorem win_le (k : Int) : win k ≤ 127 := by unfold win; omega

/-- what is always so -/
structure St.Ok (σ : St) : Prop where
  vs0 : 0 ≤ σ.vs
  vs1 : σ.vs ≤ 127
  va0 : 0 ≤ σ.va
  va1 : σ.va ≤ 127
  vr0 : 0 ≤ σ.vr
  vr1 : σ.vr ≤ 127
  k0 : -9223372036854775808 ≤ σ.k
  k1 : σ.k ≤ 9223372036854775807
  sw : (σ.sn : Int) ≤ win σ.k
  se : (σ.sn : Int) = Sm.sb σ.vs σ.va

def new (k mo : Int) : St := ⟨0, 0, 0, false, false, false, k, mo, [], 0⟩
def takeB (σ : St) : Bool := !σ.pe && (decide ((σ.sn : Int) < win σ.k) && decide (σ.sn < σ.L.length))
def takeT (σ : St) : St := if takeB σ then { σ with vs := Sm.ad σ.vs 1, sn := σ.sn + 1 } else σ
def takeN (σ : St) : Int := if takeB σ then σ.vs else 0
def takeS (σ : St) : ByteArray := if takeB σ then σ.L.getD σ.sn ByteArray.empty else ByteArray.empty
def ackB (σ : St) (nr : Int) : Bool := Sm.vd σ.va nr σ.vs
def ackN (σ : St) (nr : Int) : Int := if ackB σ nr then Sm.sb nr σ.va else 0
def ackE (σ : St) (nr : Int) : Int := if ackB σ nr then 0 else 2
def ackT (σ : St) (nr : Int) : St := if ackB σ nr then { σ with va := Sm.nm nr, L := Qm.doneL σ.L σ.sn (Sm.sb nr σ.va), sn := Qm.doneS σ.sn (Sm.sb nr σ.va) } else σ
def backT (σ : St) : St := { σ with vs := σ.va, sn := 0 }
def comeN (σ : St) (ns : Int) : Int := if σ.ow then 3 else if Sm.nm ns = σ.vr then 0 else if σ.re then 2 else 1
def comeT (σ : St) (ns : Int) : St := if σ.ow then σ else if Sm.nm ns = σ.vr then { σ with vr := Sm.ad σ.vr 1, re := false } else { σ with re := true }
def peerT (σ : St) (b : Bool) : St := { σ with pe := b }
def ownT (σ : St) (b : Bool) : St := { σ with ow := b }
def resetT (σ : St) : St := { σ with vs := 0, va := 0, vr := 0, pe := false, ow := false, re := false, sn := 0 }
def clearT (σ : St) : St := { σ with vs := σ.va, L := [], sn := 0 }
def pushT (σ : St) (s : ByteArray) : St := { σ with L := Qm.pushL σ.mo σ.L s }

theorem room_zero {σ : St} (h : σ.Ok) : (Sm.rm σ.va σ.vs σ.k = 0) ↔ ¬ (σ.sn : Int) < win σ.k := by
  have h1 := h.se
  have h2 := h.sw
  unfold Sm.rm
  unfold win at *
  omega
theorem new_ok (k mo : Int) (h0 : -9223372036854775808 ≤ k) (h1 : k ≤ 9223372036854775807) : (new k mo).Ok := by
  refine ⟨Int.le_refl 0, (by decide : (0 : Int) ≤ 127), Int.le_refl 0, (by decide : (0 : Int) ≤ 127), Int.le_refl 0, (by decide : (0 : Int) ≤ 127), h0, h1, ?_, (by decide : ((0 : Nat) : Int) = Sm.sb 0 0)⟩
  have := win_pos k
  show ((0 : Nat) : Int) ≤ win k
  omega
theorem takeT_ok {σ : St} (h : σ.Ok) : (takeT σ).Ok := by
  unfold takeT
  split
  · rename_i hb
    unfold takeB at hb
    simp at hb
    have h1 := h.se
    have h2 := win_le σ.k
    have h3 := hb.2.1
    refine ⟨Sm.ad_lo _ _, Sm.ad_hi _ _, h.va0, h.va1, h.vr0, h.vr1, h.k0, h.k1, ?_, ?_⟩
    · show ((σ.sn + 1 : Nat) : Int) ≤ win σ.k
      omega
    · show ((σ.sn + 1 : Nat) : Int) = Sm.sb (Sm.ad σ.vs 1) σ.va
      unfold Sm.sb Sm.ad at *
      omega
  · exact h
/-- a number that may come: so many are answered -/
theorem ack_le {σ : St} (h : σ.Ok) {nr : Int} (hb : ackB σ nr = true) : 0 ≤ Sm.sb nr σ.va ∧ Sm.sb nr σ.va ≤ (σ.sn : Int) := by
  have h1 := h.se
  have h2 := of_decide_eq_true hb
  have := Sm.sb_lo nr σ.va
  omega
theorem ack_okN {σ : St} (h : σ.Ok) {nr : Int} (hb : ackB σ nr = true) : Qm.okN σ.sn (Sm.sb nr σ.va) = true := decide_eq_true (ack_le h hb)
theorem ackT_sn {σ : St} (h : σ.Ok) {nr : Int} (hb : ackB σ nr = true) : ackT σ nr = { σ with va := Sm.nm nr, L := σ.L.drop (Sm.sb nr σ.va).toNat, sn := σ.sn - (Sm.sb nr σ.va).toNat } := by
  unfold ackT Qm.doneL Qm.doneS
  rw [hb, ack_okN h hb]
  rfl
theorem ackT_ok {σ : St} (h : σ.Ok) (nr : Int) : (ackT σ nr).Ok := by
  by_cases hb : ackB σ nr = true
  · rw [ackT_sn h hb]
    have h1 := h.se
    have h2 := ack_le h hb
    have h3 := h.sw
    refine ⟨h.vs0, h.vs1, Sm.nm_lo _, Sm.nm_hi _, h.vr0, h.vr1, h.k0, h.k1, ?_, ?_⟩
    · show ((σ.sn - (Sm.sb nr σ.va).toNat : Nat) : Int) ≤ win σ.k
      omega
    · show ((σ.sn - (Sm.sb nr σ.va).toNat : Nat) : Int) = Sm.sb σ.vs (Sm.nm nr)
      unfold Sm.sb Sm.nm at *
      omega
  · unfold ackT
    rw [if_neg hb]
    exact h
theorem sb_same (a : Int) : Sm.sb a a = 0 := by unfold Sm.sb; omega
theorem backT_ok {σ : St} (h : σ.Ok) : (backT σ).Ok := by
  have := win_pos σ.k
  refine ⟨h.va0, h.va1, h.va0, h.va1, h.vr0, h.vr1, h.k0, h.k1, ?_, ?_⟩
  · show ((0 : Nat) : Int) ≤ win σ.k
    omega
  · show ((0 : Nat) : Int) = Sm.sb σ.va σ.va
    rw [sb_same]; rfl
theorem comeT_ok {σ : St} (h : σ.Ok) (ns : Int) : (comeT σ ns).Ok := by
  unfold comeT
  split
  · exact h
  · split
    · exact ⟨h.vs0, h.vs1, h.va0, h.va1, Sm.ad_lo _ _, Sm.ad_hi _ _, h.k0, h.k1, h.sw, h.se⟩
    · exact ⟨h.vs0, h.vs1, h.va0, h.va1, h.vr0, h.vr1, h.k0, h.k1, h.sw, h.se⟩
theorem peerT_ok {σ : St} (h : σ.Ok) (b : Bool) : (peerT σ b).Ok := ⟨h.vs0, h.vs1, h.va0, h.va1, h.vr0, h.vr1, h.k0, h.k1, h.sw, h.se⟩
theorem ownT_ok {σ : St} (h : σ.Ok) (b : Bool) : (ownT σ b).Ok := ⟨h.vs0, h.vs1, h.va0, h.va1, h.vr0, h.vr1, h.k0, h.k1, h.sw, h.se⟩
theorem pushT_ok {σ : St} (h : σ.Ok) (s : ByteArray) : (pushT σ s).Ok := ⟨h.vs0, h.vs1, h.va0, h.va1, h.vr0, h.vr1, h.k0, h.k1, h.sw, h.se⟩
theorem resetT_ok {σ : St} (h : σ.Ok) : (resetT σ).Ok := by
  have := win_pos σ.k
  refine ⟨Int.le_refl 0, (by decide : (0 : Int) ≤ 127), Int.le_refl 0, (by decide : (0 : Int) ≤ 127), Int.le_refl 0, (by decide : (0 : Int) ≤ 127), h.k0, h.k1, ?_, (by decide : ((0 : Nat) : Int) = Sm.sb 0 0)⟩
  show ((0 : Nat) : Int) ≤ win σ.k
  omega
theorem clearT_ok {σ : St} (h : σ.Ok) : (clearT σ).Ok := by
  have := win_pos σ.k
  refine ⟨h.va0, h.va1, h.va0, h.va1, h.vr0, h.vr1, h.k0, h.k1, ?_, ?_⟩
  · show ((0 : Nat) : Int) ≤ win σ.k
    omega
  · show ((0 : Nat) : Int) = Sm.sb σ.va σ.va
    rw [sb_same]; rfl

theorem take_no {σ : St} (h : takeB σ = false) : takeN σ = 0 ∧ takeS σ = ByteArray.empty ∧ takeT σ = σ := by
  unfold takeN takeS takeT
  rw [h]
  exact ⟨rfl, rfl, rfl⟩
theorem take_yes {σ : St} (h : takeB σ = true) : takeN σ = σ.vs ∧ takeS σ = σ.L.getD σ.sn ByteArray.empty ∧ takeT σ = { σ with vs := Sm.ad σ.vs 1, sn := σ.sn + 1 } := by
  unfold takeN takeS takeT
  rw [h]
  exact ⟨rfl, rfl, rfl⟩
theorem takeB_pe {σ : St} (h : σ.pe = true) : takeB σ = false := by unfold takeB; rw [h]; rfl
theorem takeB_win {σ : St} (h : ¬ (σ.sn : Int) < win σ.k) : takeB σ = false := by unfold takeB; rw [decide_eq_false h]; simp
theorem takeB_len {σ : St} (h : ¬ σ.sn < σ.L.length) : takeB σ = false := by unfold takeB; rw [decide_eq_false h]; simp
theorem takeB_all {σ : St} (h1 : σ.pe = false) (h2 : (σ.sn : Int) < win σ.k) (h3 : σ.sn < σ.L.length) : takeB σ = true := by unfold takeB; rw [h1, decide_eq_true h2, decide_eq_true h3]; rfl
/-! ### one call as plain data -/
def nAdd (n : Int) (near : Bool) (x : Int) : Int := if near then n % 256 + x else n
/-- what a call makes of a flow -/
def step (σ : St) (d n : Int) (near on : Bool) (s : ByteArray) : St :=
  let r := d.tmod 10
  if r = 1 ∨ r = -1 then takeT σ
  else if r = 2 ∨ r = -2 then ackT σ (nAdd n near σ.va)
  else if r = 3 ∨ r = -3 then backT σ
  else if r = 4 ∨ r = -4 then comeT σ (nAdd n near σ.vr)
  else if r = 5 ∨ r = -5 then peerT σ on
  else if r = 6 ∨ r = -6 then ownT σ on
  else if r = 7 ∨ r = -7 then resetT σ
  else if r = 8 ∨ r = -8 then clearT σ
  else pushT σ s
theorem step_ok {σ : St} (h : σ.Ok) (d n : Int) (near on : Bool) (s : ByteArray) : (step σ d n near on s).Ok := by
  unfold step
  simp only []
  repeat' split
  · exact takeT_ok h
  · exact ackT_ok h _
  · exact backT_ok h
  · exact comeT_ok h _
  · exact peerT_ok h _
  · exact ownT_ok h _
  · exact resetT_ok h
  · exact clearT_ok h
  · exact pushT_ok h _
theorem takeT_k (σ : St) : (takeT σ).k = σ.k ∧ (takeT σ).mo = σ.mo := by unfold takeT; split <;> exact ⟨rfl, rfl⟩
theorem ackT_k (σ : St) (n : Int) : (ackT σ n).k = σ.k ∧ (ackT σ n).mo = σ.mo := by unfold ackT; split <;> exact ⟨rfl, rfl⟩
theorem comeT_k (σ : St) (n : Int) : (comeT σ n).k = σ.k ∧ (comeT σ n).mo = σ.mo := by
  unfold comeT
  split
  · exact ⟨rfl, rfl⟩
  · split <;> exact ⟨rfl, rfl⟩
theorem step_k (σ : St) (d n : Int) (near on : Bool) (s : ByteArray) : (step σ d n near on s).k = σ.k ∧ (step σ d n near on s).mo = σ.mo := by
  unfold step
  simp only []
  repeat' split
  · exact takeT_k σ
  · exact ackT_k σ _
  · exact ⟨rfl, rfl⟩
  · exact comeT_k σ _
  all_goals exact ⟨rfl, rfl⟩
end Go.Proofs.YtidemohpngkedabGreatDoor.Wm
