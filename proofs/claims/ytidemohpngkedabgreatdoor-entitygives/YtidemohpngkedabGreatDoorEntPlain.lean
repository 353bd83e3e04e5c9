/-
  Plain mathematics of an entity: its states, what it tells. It names nothing of the program.
  What is always so of an entity: its numbers, its payloads, its units, its timers. It names nothing of the program.
  How much an entity tells at most in a step. It names nothing of the program.
  Which of an entity's timers run, in each state. It names nothing of the program.
-/
import Derived.Test.YtidemohpngkedabGreatDoorFlowMath
namespace Go.Proofs.YtidemohpngkedabGreatDoor.Em
set_option linter.unusedVariables false

/-- a frame -/
structure Fr where
  (sapi tei : Int)
  c : Bool
  k : Int
  pf : Bool
  (ns nr : Int)
  info : ByteArray
def fr0 : Fr := ⟨0, 0, false, 0, false, 0, 0, ByteArray.empty⟩
/-- an effect -/
structure Eff where
  kind : Int
  f : Fr
  data : ByteArray
  timer : Int
/-- an entity, and what it told in the call that runs -/
structure St where
  (most state tei tries : Int)
  (asked t200 t203 : Bool)
  units : List ByteArray
  fl : Wm.St
  out : List Eff

/-- P14: N200 as it counts -/
def mostOf (n : Int) : Int := min (max n 1) 32
def new (k n200 : Int) : St := ⟨mostOf n200, 1, -1, 0, false, false, false, [], Wm.new k 256, []⟩

/-! ### what it does -/
def add (e : St) (x : Eff) : St := { e with out := e.out ++ [x] }
def tell (e : St) (k : Int) (d : ByteArray) : St := add e ⟨k, fr0, d, 0⟩
/-- is a frame of that kind numbered (N(R))? -/
def numbered (k : Int) : Bool := decide (0 ≤ k ∧ k < 4)
def send (e : St) (f : Fr) : St := add e ⟨0, { f with tei := e.tei, nr := if numbered f.k then e.fl.vr else f.nr }, ByteArray.empty, 0⟩
def start200 (e : St) : St := add { e with t200 := true } ⟨9, fr0, ByteArray.empty, 200⟩
def start203 (e : St) : St := add { e with t203 := true } ⟨9, fr0, ByteArray.empty, 203⟩
def stop200 (e : St) : St := if e.t200 then add { e with t200 := false } ⟨10, fr0, ByteArray.empty, 200⟩ else e
def stop203 (e : St) : St := if e.t203 then add { e with t203 := false } ⟨10, fr0, ByteArray.empty, 203⟩ else e
/-- a frame without numbers and information -/
def bare (c : Bool) (k : Int) (pf : Bool) : Fr := ⟨0, 0, c, k, pf, 0, 0, ByteArray.empty⟩
/-- it calls -/
def call (e : St) : St := { start200 (stop203 (send { e with tries := 0 } (bare true 4 true))) with state := 5 }
/-- it calls anew, with a letter -/
def anew (e : St) (l : ByteArray) : St := call { tell e 7 l with asked := false }
/-- it goes on, in the state Open: one payload -/
def goOne (e : St) : St :=
  let e1 := send { e with fl := Wm.takeT e.fl } ⟨0, 0, true, 0, false, Wm.takeN e.fl, 0, Wm.takeS e.fl⟩
  if e1.t200 then e1 else start200 (stop203 e1)
def goN : Nat → St → St
  | 0, e => e
  | n + 1, e => if Wm.takeB e.fl then goN n (goOne e) else e
def goOn (e : St) : St := if e.state = 7 then goN 128 e else e
/-- it opens -/
def open' (e : St) : St := goOn { start203 (stop200 { e with fl := Wm.resetT e.fl }) with state := 7 }
/-- it answers, or inquires -/
def answer (e : St) (c pf : Bool) : St := send e (bare c (if e.fl.ow then 2 else 1) pf)
def inquire (e : St) : St := start200 (answer e true true)
def clear (e : St) : St := { e with fl := Wm.clearT e.fl }
/-- it ends -/
def end' (e : St) : St := { stop203 (stop200 (clear e)) with state := 4 }
def unit (e : St) (s : ByteArray) : St := send e ⟨0, 0, true, 6, false, 0, 0, s⟩

/-! ### P14.2 -/
def establish (e : St) : St × Int :=
  if e.state = 1 then (tell { e with state := 3 } 8 ByteArray.empty, 0)
  else if e.state = 2 then ({ e with state := 3 }, 0)
  else if e.state = 6 then (e, 12)
  else if e.state = 5 then ({ clear e with asked := true }, 0)
  else if e.state = 4 then (call { e with asked := true }, 0)
  else if e.state = 7 ∨ e.state = 8 then (call { clear e with asked := true }, 0)
  else (e, 0)
def release (e : St) : St × Int :=
  if e.state = 4 then (tell e 4 ByteArray.empty, 0)
  else if e.state = 7 ∨ e.state = 8 then ({ start200 (stop203 (send { clear e with tries := 0 } (bare true 7 true))) with state := 6 }, 0)
  else (e, 12)
def mayData (e : St) : Bool := decide (e.state = 7 ∨ e.state = 8) || (decide (e.state = 5) && !e.asked)
def data (e : St) (s : ByteArray) : St × Int :=
  if mayData e then
    (if Qm.pushN e.fl.mo e.fl.L s = 0 then goOn { e with fl := Wm.pushT e.fl s } else e, Qm.pushN e.fl.mo e.fl.L s)
  else (e, 12)
def units (e : St) (s : ByteArray) : St × Int :=
  if 4 ≤ e.state then (unit e s, 0)
  else if e.units.length = 256 then (e, 10)
  else if e.state = 1 then (tell { e with units := e.units ++ [s], state := 2 } 8 ByteArray.empty, 0)
  else ({ e with units := e.units ++ [s] }, 0)
/-- Busy, Ready -/
def busy (e : St) (b : Bool) : St × Int :=
  if e.state = 7 ∨ e.state = 8 then (if e.fl.ow = b then e else answer { e with fl := Wm.ownT e.fl b } false false, 0)
  else (e, 12)
def ask (e0 : St) (a : Int) (s : ByteArray) : St × Int :=
  let e := { e0 with out := [] }
  if a < 0 ∨ 5 < a then (e, 2)
  else if (a = 2 ∨ a = 3) ∧ 260 < s.size then (e, 5)
  else if a = 0 then establish e
  else if a = 1 then release e
  else if a = 2 then data e s
  else if a = 3 then units e s
  else busy e (decide (a = 4))
/-! ### P14.3, P14.4 -/
def unitsOut (e : St) : List ByteArray → St
  | [] => e
  | s :: l => unitsOut (unit e s) l
def assign (e0 : St) (tei : Int) : St × Int :=
  let e := { e0 with out := [] }
  if tei < 0 ∨ 126 < tei then (e, 2)
  else if 4 ≤ e.state then (e, 13)
  else
    let e1 := { unitsOut { e with tei := tei, state := 4 } e.units with units := [] }
    (if e.state = 3 then call { e1 with asked := true } else e1, 0)
def remove (e0 : St) : St × Int :=
  let e := { e0 with out := [] }
  if e.state = 1 then (e, 11)
  else
    let e1 := end' e
    let e2 := if e.state = 3 ∨ e.state = 5 ∨ e.state = 7 ∨ e.state = 8 then tell e1 3 ByteArray.empty else if e.state = 6 then tell e1 4 ByteArray.empty else e1
    ({ e2 with units := [], tei := -1, state := 1 }, 0)
/-! ### P14.5, P14.6 -/
def letter (n : UInt8) : ByteArray := ⟨#[n]⟩
def reply (e : St) (k : Int) (f : Fr) : St := send e (bare false k f.pf)
def strange (e : St) (f : Fr) : St := tell e 7 (letter (if f.pf then 67 else 68))
def unsure (e : St) : St := if 0 < e.fl.sn then tell (clear e) 1 ByteArray.empty else e
def inAssigned (e : St) (f : Fr) : St :=
  if f.k = 4 then open' (tell (reply e 8 f) 1 ByteArray.empty)
  else if f.k = 7 then reply e 5 f
  else if f.k = 8 then strange e f
  else if f.k = 5 ∧ f.pf = false then call { e with asked := true }
  else e
def inConnecting (e : St) (f : Fr) : St :=
  if f.k = 4 then reply e 8 f
  else if f.k = 7 then reply e 5 f
  else if f.k = 8 then
    (if f.pf then open' { (if e.asked then tell e 2 ByteArray.empty else unsure e) with asked := false }
    else tell e 7 (letter 68))
  else if f.k = 5 ∧ f.pf = true then end' (tell e 3 ByteArray.empty)
  else e
def inReleasing (e : St) (f : Fr) : St :=
  if f.k = 4 then reply e 5 f
  else if f.k = 7 then reply e 8 f
  else if f.k = 8 then (if f.pf then end' (tell e 4 ByteArray.empty) else tell e 7 (letter 68))
  else if f.k = 5 ∧ f.pf = true then end' (tell e 4 ByteArray.empty)
  else e
def count (e : St) (n : Int) : St :=
  if e.fl.va = e.fl.vs then start203 (stop200 e) else if 0 < n then start200 e else e
/-- RR, RNR, REJ, ahead of the N(R) -/
def super1 (e : St) (f : Fr) : St :=
  let e1 := if f.c && f.pf then answer e false true else e
  let e2 := if !f.c && f.pf && decide (e.state = 7) then tell e1 7 (letter 65) else e1
  { e2 with fl := Wm.peerT e2.fl (decide (f.k = 2)) }
/-- and behind it -/
def super2 (e : St) (f : Fr) (n : Int) : St :=
  if e.state = 8 then
    (if f.c = true ∨ f.pf = false then e
    else
      let e1 := if f.k = 2 then start200 e else start203 (stop200 e)
      goOn { e1 with fl := Wm.backT e1.fl, state := 7 })
  else goOn (if f.k = 1 then count e n else if f.k = 2 then start200 (stop203 e) else
    let e1 := start203 (stop200 e)
    { e1 with fl := Wm.backT e1.fl })
def supervised (e : St) (f : Fr) : St :=
  let e1 := super1 e f
  let e2 := { e1 with fl := Wm.ackT e1.fl f.nr }
  if Wm.ackB e1.fl f.nr then super2 e2 f (Wm.ackN e1.fl f.nr) else anew e2 (letter 74)
/-- I: ahead of the N(R) -/
def info1 (e : St) (f : Fr) : St :=
  let g := Wm.comeN e.fl f.ns
  let e1 := { e with fl := Wm.comeT e.fl f.ns }
  if g = 0 then answer (tell e1 5 f.info) false f.pf
  else if g = 1 then send e1 (bare false 3 f.pf)
  else if f.pf then answer e1 false true
  else e1
def info (e : St) (f : Fr) : St :=
  let e1 := info1 e f
  let e2 := { e1 with fl := Wm.ackT e1.fl f.nr }
  if Wm.ackB e1.fl f.nr then
    (if e2.state = 7 then goOn (if e2.fl.pe then e2 else count e2 (Wm.ackN e1.fl f.nr)) else e2)
  else anew e2 (letter 74)
def inOpen (e : St) (f : Fr) : St :=
  if f.k = 4 then open' (unsure (tell (reply e 8 f) 7 (letter 70)))
  else if f.k = 7 then end' (tell (reply e 8 f) 3 ByteArray.empty)
  else if f.k = 8 then strange e f
  else if f.k = 5 then anew e (letter (if f.pf then 66 else 69))
  else if f.k = 9 then anew e (letter 75)
  else if f.k = 0 then info e f
  else supervised e f
/-- a frame comes; may it be? -/
def frame (e0 : St) (may : Bool) (f0 : Fr) : St :=
  let e := { e0 with out := [] }
  if e.tei < 0 ∨ may = false then e
  else
    let f := { f0 with nr := Sm.nm f0.nr, ns := Sm.nm f0.ns }
    if f.k = 6 then tell e 6 f.info
    else if e.state = 4 then inAssigned e f
    else if e.state = 5 then inConnecting e f
    else if e.state = 6 then inReleasing e f
    else inOpen e f
/-! ### P14.7 -/
def again (e : St) (k : Int) (l : ByteArray) (given : Int) : St :=
  if e.tries = e.most then end' (tell (tell e 7 l) given ByteArray.empty)
  else start200 (send { e with tries := e.tries + 1 } (bare true k true))
def asks (e : St) : St := { inquire { e with tries := 0 } with state := 8 }
def timeout (e0 : St) (t : Int) : St :=
  let e := { e0 with out := [] }
  if t = 203 then (if e.t203 then (if e.state = 7 then asks { e with t203 := false } else { e with t203 := false }) else e)
  else if t = 200 ∧ e.t200 = true then
    let e1 := { e with t200 := false }
    if e.state = 5 then again e1 4 (letter 71) 3
    else if e.state = 6 then again e1 7 (letter 72) 4
    else if e.state = 7 then asks e1
    else if e.state = 8 then (if e1.tries = e1.most then anew e1 (letter 73) else inquire { e1 with tries := e1.tries + 1 })
    else e1
  else e
end Go.Proofs.YtidemohpngkedabGreatDoor.Em

namespace Go.Proofs.YtidemohpngkedabGreatDoor.Em
set_option linter.unusedVariables false

/-! ### what the small steps leave -/
/-- but for timers and what is told it is as it was -/
structure Keep (e e' : St) : Prop where
  most : e'.most = e.most
  state : e'.state = e.state
  tei : e'.tei = e.tei
  tries : e'.tries = e.tries
  asked : e'.asked = e.asked
  units : e'.units = e.units
  fl : e'.fl = e.fl
theorem Keep.refl (e : St) : Keep e e := ⟨rfl, rfl, rfl, rfl, rfl, rfl, rfl⟩
theorem Keep.trans {a b c : St} (h : Keep a b) (k : Keep b c) : Keep a c :=
  ⟨k.most.trans h.most, k.state.trans h.state, k.tei.trans h.tei, k.tries.trans h.tries, k.asked.trans h.asked, k.units.trans h.units, k.fl.trans h.fl⟩
theorem add_keep (e : St) (x : Eff) : Keep e (add e x) := ⟨rfl, rfl, rfl, rfl, rfl, rfl, rfl⟩
theorem tell_keep (e : St) (k : Int) (d : ByteArray) : Keep e (tell e k d) := ⟨rfl, rfl, rfl, rfl, rfl, rfl, rfl⟩
theorem send_keep (e : St) (f : Fr) : Keep e (send e f) := ⟨rfl, rfl, rfl, rfl, rfl, rfl, rfl⟩
theorem start200_keep (e : St) : Keep e (start200 e) := ⟨rfl, rfl, rfl, rfl, rfl, rfl, rfl⟩
theorem start203_keep (e : St) : Keep e (start203 e) := ⟨rfl, rfl, rfl, rfl, rfl, rfl, rfl⟩
theorem stop200_keep (e : St) : Keep e (stop200 e) := by
  unfold stop200
  split
  · exact ⟨rfl, rfl, rfl, rfl, rfl, rfl, rfl⟩
  · exact Keep.refl e
theorem stop203_keep (e : St) : Keep e (stop203 e) := by
  unfold stop203
  split
  · exact ⟨rfl, rfl, rfl, rfl, rfl, rfl, rfl⟩
  · exact Keep.refl e
theorem stop200_t (e : St) : (stop200 e).t200 = false ∧ (stop200 e).t203 = e.t203 := by
  unfold stop200
  split
  · exact ⟨rfl, rfl⟩
  · rename_i h
    exact ⟨by simpa using h, rfl⟩
theorem stop203_t (e : St) : (stop203 e).t203 = false ∧ (stop203 e).t200 = e.t200 := by
  unfold stop203
  split
  · exact ⟨rfl, rfl⟩
  · rename_i h
    exact ⟨by simpa using h, rfl⟩
theorem answer_keep (e : St) (c pf : Bool) : Keep e (answer e c pf) := send_keep e _
theorem inquire_keep (e : St) : Keep e (inquire e) := (answer_keep e true true).trans (start200_keep _)

/-! ### flows -/
/-- what is always so of its flow -/
structure FlOk (σ : Wm.St) : Prop where
  ok : σ.Ok
  sl : σ.sn ≤ σ.L.length
  ll : σ.L.length ≤ 256
  mo : σ.mo = 256
  sz : ∀ x ∈ σ.L, x.size ≤ 260
theorem FlOk.take {σ : Wm.St} (h : FlOk σ) : FlOk (Wm.takeT σ) := by
  by_cases hb : Wm.takeB σ = true
  · obtain ⟨_, _, t3⟩ := Wm.take_yes hb
    have hok := Wm.takeT_ok h.ok
    rw [t3] at hok ⊢
    have hlt : σ.sn < σ.L.length := by
      unfold Wm.takeB at hb
      simp at hb
      exact hb.2.2
    exact ⟨hok, hlt, h.ll, h.mo, h.sz⟩
  · have hb' : Wm.takeB σ = false := by simpa using hb
    rw [(Wm.take_no hb').2.2]
    exact h
theorem FlOk.ack {σ : Wm.St} (h : FlOk σ) (n : Int) : FlOk (Wm.ackT σ n) := by
  refine ⟨Wm.ackT_ok h.ok n, ?_, ?_, (Wm.ackT_k σ n).2.trans h.mo, ?_⟩
  all_goals
    by_cases hb : Wm.ackB σ n = true
    · rw [Wm.ackT_sn h.ok hb]
      have := Wm.ack_le h.ok hb
      have := h.sl
      have := h.ll
      first
        | (show σ.sn - (Sm.sb n σ.va).toNat ≤ (σ.L.drop (Sm.sb n σ.va).toNat).length; rw [List.length_drop]; omega)
        | (show (σ.L.drop (Sm.sb n σ.va).toNat).length ≤ 256; rw [List.length_drop]; omega)
        | exact fun x hx => h.sz x (List.mem_of_mem_drop hx)
    · have hb' : Wm.ackB σ n = false := by simpa using hb
      have e : Wm.ackT σ n = σ := by unfold Wm.ackT; rw [hb']; rfl
      rw [e]
      first | exact h.sl | exact h.ll | exact h.sz
theorem FlOk.come {σ : Wm.St} (h : FlOk σ) (n : Int) : FlOk (Wm.comeT σ n) := by
  have e : (Wm.comeT σ n).L = σ.L ∧ (Wm.comeT σ n).sn = σ.sn := by
    unfold Wm.comeT
    split
    · exact ⟨rfl, rfl⟩
    · split <;> exact ⟨rfl, rfl⟩
  exact ⟨Wm.comeT_ok h.ok n, by rw [e.1, e.2]; exact h.sl, by rw [e.1]; exact h.ll, (Wm.comeT_k σ n).2.trans h.mo, by rw [e.1]; exact h.sz⟩
theorem FlOk.back {σ : Wm.St} (h : FlOk σ) : FlOk (Wm.backT σ) := ⟨Wm.backT_ok h.ok, Nat.zero_le _, h.ll, h.mo, h.sz⟩
theorem FlOk.reset {σ : Wm.St} (h : FlOk σ) : FlOk (Wm.resetT σ) := ⟨Wm.resetT_ok h.ok, Nat.zero_le _, h.ll, h.mo, h.sz⟩
theorem FlOk.clear {σ : Wm.St} (h : FlOk σ) : FlOk (Wm.clearT σ) := ⟨Wm.clearT_ok h.ok, Nat.zero_le _, Nat.zero_le _, h.mo, fun x hx => by simp [Wm.clearT] at hx⟩
theorem FlOk.peer {σ : Wm.St} (h : FlOk σ) (b : Bool) : FlOk (Wm.peerT σ b) := ⟨Wm.peerT_ok h.ok b, h.sl, h.ll, h.mo, h.sz⟩
theorem FlOk.own {σ : Wm.St} (h : FlOk σ) (b : Bool) : FlOk (Wm.ownT σ b) := ⟨Wm.ownT_ok h.ok b, h.sl, h.ll, h.mo, h.sz⟩
theorem FlOk.push {σ : Wm.St} (h : FlOk σ) (s : ByteArray) : FlOk (Wm.pushT σ s) := by
  have h256 : Qm.takes 256 = 256 := rfl
  refine ⟨Wm.pushT_ok h.ok s, Nat.le_trans h.sl (Qm.pushL_le _ _ _), ?_, h.mo, Qm.pushL_size _ _ _ h.sz⟩
  have := Qm.pushL_length σ.mo σ.L s (by rw [h.mo, h256]; exact h.ll)
  rw [h.mo, h256] at this
  show (Qm.pushL σ.mo σ.L s).length ≤ 256
  rw [h.mo]
  exact this
theorem FlOk.new (k : Int) (h0 : -9223372036854775808 ≤ k) (h1 : k ≤ 9223372036854775807) : FlOk (Wm.new k 256) :=
  ⟨Wm.new_ok k 256 h0 h1, Nat.le_refl _, Nat.zero_le _, rfl, fun x hx => by simp [Wm.new] at hx⟩

/-! ### an entity -/
structure Ok (e : St) : Prop where
  fl : FlOk e.fl
  m0 : 1 ≤ e.most
  m1 : e.most ≤ 32
  s0 : 1 ≤ e.state
  s1 : e.state ≤ 8
  r0 : 0 ≤ e.tries
  r1 : e.tries ≤ e.most
  lo : e.state ≤ 3 → e.tei = -1
  hi : 4 ≤ e.state → 0 ≤ e.tei ∧ e.tei ≤ 126
  un : 4 ≤ e.state → e.units = []
  ul : e.units.length ≤ 256
  uz : ∀ x ∈ e.units, x.size ≤ 260
  ql : e.state ≤ 4 ∨ e.state = 6 → e.fl.L = []
theorem Ok.keep {e e' : St} (h : Ok e) (k : Keep e e') : Ok e' := by
  refine ⟨?_, ?_, ?_, ?_, ?_, ?_, ?_, ?_, ?_, ?_, ?_, ?_, ?_⟩
  · rw [k.fl]; exact h.fl
  · rw [k.most]; exact h.m0
  · rw [k.most]; exact h.m1
  · rw [k.state]; exact h.s0
  · rw [k.state]; exact h.s1
  · rw [k.tries]; exact h.r0
  · rw [k.tries, k.most]; exact h.r1
  · rw [k.state, k.tei]; exact h.lo
  · rw [k.state, k.tei]; exact h.hi
  · rw [k.state, k.units]; exact h.un
  · rw [k.units]; exact h.ul
  · rw [k.units]; exact h.uz
  · rw [k.state, k.fl]; exact h.ql
/-- the same with a flow that is one, in a state with payloads -/
theorem Ok.flow {e : St} (h : Ok e) {σ : Wm.St} (hσ : FlOk σ) (hL : e.state ≤ 4 ∨ e.state = 6 → σ.L = []) : Ok { e with fl := σ } :=
  ⟨hσ, h.m0, h.m1, h.s0, h.s1, h.r0, h.r1, h.lo, h.hi, h.un, h.ul, h.uz, hL⟩
/-- a state with a TEI, without payloads where there may be none -/
theorem Ok.to {e : St} (h : Ok e) (s : Int) (h4 : 4 ≤ e.state) (hs0 : 4 ≤ s) (hs1 : s ≤ 8) (hL : s = 4 ∨ s = 6 → e.fl.L = []) : Ok { e with state := s } :=
  ⟨h.fl, h.m0, h.m1, by show 1 ≤ s; omega, hs1, h.r0, h.r1, fun hx => by have : s ≤ 3 := hx; omega, fun _ => h.hi h4, fun _ => h.un h4, h.ul, h.uz, fun hx => hL (by have : s ≤ 4 ∨ s = 6 := hx; omega)⟩
theorem Ok.asks {e : St} (h : Ok e) (b : Bool) : Ok { e with asked := b } := ⟨h.fl, h.m0, h.m1, h.s0, h.s1, h.r0, h.r1, h.lo, h.hi, h.un, h.ul, h.uz, h.ql⟩
theorem Ok.tried {e : St} (h : Ok e) (n : Int) (h0 : 0 ≤ n) (h1 : n ≤ e.most) : Ok { e with tries := n } := ⟨h.fl, h.m0, h.m1, h.s0, h.s1, h0, h1, h.lo, h.hi, h.un, h.ul, h.uz, h.ql⟩
theorem Ok.fresh {e : St} (h : Ok e) (l : List Eff) : Ok { e with out := l } := ⟨h.fl, h.m0, h.m1, h.s0, h.s1, h.r0, h.r1, h.lo, h.hi, h.un, h.ul, h.uz, h.ql⟩
theorem new_ok (k n : Int) (h0 : -9223372036854775808 ≤ k) (h1 : k ≤ 9223372036854775807) : Ok (new k n) := by
  have hm : 1 ≤ mostOf n ∧ mostOf n ≤ 32 := by unfold mostOf; omega
  exact ⟨FlOk.new k h0 h1, hm.1, hm.2, by show (1 : Int) ≤ 1; omega, by show (1 : Int) ≤ 8; omega, Int.le_refl 0, by show (0 : Int) ≤ mostOf n; omega, fun _ => rfl, fun h => by have : (4 : Int) ≤ 1 := h; omega, fun h => by have : (4 : Int) ≤ 1 := h; omega, Nat.zero_le _, fun x hx => by simp [new] at hx, fun _ => rfl⟩
theorem clear_ok {e : St} (h : Ok e) : Ok (clear e) := h.flow h.fl.clear (fun _ => rfl)
theorem call_ok {e : St} (h : Ok e) (h4 : 4 ≤ e.state) : Ok (call e) := by
  have h1 := h.tried 0 (Int.le_refl 0) (by have := h.m0; omega)
  have k1 := send_keep { e with tries := 0 } (bare true 4 true)
  have k2 := stop203_keep (send { e with tries := 0 } (bare true 4 true))
  have k3 := start200_keep (stop203 (send { e with tries := 0 } (bare true 4 true)))
  have hk := (k1.trans k2).trans k3
  exact (h1.keep hk).to 5 (by rw [hk.state]; exact h4) (by omega) (by omega) (fun hx => by omega)
theorem anew_ok {e : St} (h : Ok e) (h4 : 4 ≤ e.state) (l : ByteArray) : Ok (anew e l) := call_ok ((h.keep (tell_keep e 7 l)).asks false) h4
theorem goOne_ok {e : St} (h : Ok e) (h7 : e.state = 7) : Ok (goOne e) ∧ (goOne e).state = 7 := by
  have h1 : Ok { e with fl := Wm.takeT e.fl } := h.flow h.fl.take (fun hx => by omega)
  unfold goOne
  simp only []
  split
  · exact ⟨h1.keep (send_keep _ _), h7⟩
  · have hk := ((send_keep { e with fl := Wm.takeT e.fl } ⟨0, 0, true, 0, false, Wm.takeN e.fl, 0, Wm.takeS e.fl⟩).trans (stop203_keep _)).trans (start200_keep _)
    exact ⟨h1.keep hk, hk.state.trans h7⟩
theorem goN_ok : ∀ (n : Nat) {e : St}, Ok e → e.state = 7 → Ok (goN n e) ∧ (goN n e).state = 7
  | 0, e, h, h7 => ⟨h, h7⟩
  | n + 1, e, h, h7 => by
    unfold goN
    split
    · obtain ⟨h1, h2⟩ := goOne_ok h h7
      exact goN_ok n h1 h2
    · exact ⟨h, h7⟩
theorem goOn_ok {e : St} (h : Ok e) : Ok (goOn e) ∧ (goOn e).state = e.state := by
  unfold goOn
  split
  · rename_i h7
    obtain ⟨h1, h2⟩ := goN_ok 128 h h7
    exact ⟨h1, h2.trans h7.symm⟩
  · exact ⟨h, rfl⟩
theorem open_ok {e : St} (h : Ok e) (h4 : 4 ≤ e.state) : Ok (open' e) ∧ (open' e).state = 7 := by
  have hq : e.state ≤ 4 ∨ e.state = 6 → (Wm.resetT e.fl).L = [] := fun hx => h.ql hx
  have h1 := h.flow h.fl.reset hq
  have hk := (stop200_keep { e with fl := Wm.resetT e.fl }).trans (start203_keep _)
  have h2 := (h1.keep hk).to 7 (by rw [hk.state]; exact h4) (by omega) (by omega) (fun hx => by omega)
  exact goOn_ok h2
theorem end_ok {e : St} (h : Ok e) (h4 : 4 ≤ e.state) : Ok (end' e) ∧ (end' e).state = 4 := by
  have h1 := clear_ok h
  have hk := (stop200_keep (clear e)).trans (stop203_keep _)
  exact ⟨(h1.keep hk).to 4 (by rw [hk.state]; exact h4) (by omega) (by omega) (fun _ => by rw [hk.fl]; rfl), rfl⟩
theorem establish_ok {e : St} (h : Ok e) : Ok (establish e).1 := by
  unfold establish
  split
  · rename_i hs
    exact ⟨h.fl, h.m0, h.m1, by show (1 : Int) ≤ 3; omega, by show (3 : Int) ≤ 8; omega, h.r0, h.r1, fun _ => h.lo (by omega), fun hx => by have : (4 : Int) ≤ 3 := hx; omega, fun hx => by have : (4 : Int) ≤ 3 := hx; omega, h.ul, h.uz, fun _ => h.ql (by omega)⟩
  · split
    · rename_i _ hs
      exact ⟨h.fl, h.m0, h.m1, by show (1 : Int) ≤ 3; omega, by show (3 : Int) ≤ 8; omega, h.r0, h.r1, fun _ => h.lo (by omega), fun hx => by have : (4 : Int) ≤ 3 := hx; omega, fun hx => by have : (4 : Int) ≤ 3 := hx; omega, h.ul, h.uz, fun _ => h.ql (by omega)⟩
    · split
      · exact h
      · split
        · exact (clear_ok h).asks true
        · split
          · rename_i hs
            exact call_ok (h.asks true) (by show 4 ≤ e.state; omega)
          · split
            · rename_i hs
              exact call_ok ((clear_ok h).asks true) (by show 4 ≤ e.state; omega)
            · exact h
theorem release_ok {e : St} (h : Ok e) : Ok (release e).1 := by
  unfold release
  split
  · exact h.keep (tell_keep e 4 _)
  · split
    · rename_i hs
      have h1 := (clear_ok h).tried 0 (Int.le_refl 0) (by have := h.m0; show (0 : Int) ≤ e.most; omega)
      have hk := ((send_keep { clear e with tries := 0 } (bare true 7 true)).trans (stop203_keep _)).trans (start200_keep _)
      exact (h1.keep hk).to 6 (by rw [hk.state]; show 4 ≤ e.state; omega) (by omega) (by omega) (fun _ => by rw [hk.fl]; rfl)
    · exact h
theorem data_ok {e : St} (h : Ok e) (s : ByteArray) : Ok (data e s).1 := by
  unfold data
  split
  · rename_i hm
    show Ok (if Qm.pushN e.fl.mo e.fl.L s = 0 then goOn { e with fl := Wm.pushT e.fl s } else e)
    split
    · refine (goOn_ok (h.flow (h.fl.push s) (fun hx => ?_))).1
      unfold mayData at hm
      simp at hm
      omega
    · exact h
  · exact h
theorem units_ok {e : St} (h : Ok e) (s : ByteArray) (hs : s.size ≤ 260) : Ok (units e s).1 := by
  have happ : ∀ x ∈ e.units ++ [s], x.size ≤ 260 := by
    intro x hx
    simp at hx
    rcases hx with hx | rfl
    · exact h.uz x hx
    · exact hs
  unfold units
  split
  · exact h.keep (send_keep e _)
  · split
    · exact h
    · rename_i h4 hf
      have hl : (e.units ++ [s]).length ≤ 256 := by have := h.ul; simp; omega
      split
      · rename_i h1
        exact ⟨h.fl, h.m0, h.m1, by show (1 : Int) ≤ 2; omega, by show (2 : Int) ≤ 8; omega, h.r0, h.r1, fun _ => h.lo (by omega), fun hx => by have : (4 : Int) ≤ 2 := hx; omega, fun hx => by have : (4 : Int) ≤ 2 := hx; omega, hl, happ, fun _ => h.ql (by omega)⟩
      · exact ⟨h.fl, h.m0, h.m1, h.s0, h.s1, h.r0, h.r1, h.lo, h.hi, fun hx => absurd hx (by show ¬ 4 ≤ e.state; omega), hl, happ, h.ql⟩
theorem busy_ok {e : St} (h : Ok e) (b : Bool) : Ok (busy e b).1 := by
  unfold busy
  split
  · rename_i hs
    show Ok (if e.fl.ow = b then e else answer { e with fl := Wm.ownT e.fl b } false false)
    split
    · exact h
    · exact (h.flow (h.fl.own b) (fun hx => by omega)).keep (answer_keep _ _ _)
  · exact h
theorem ask_ok {e : St} (h : Ok e) (a : Int) (s : ByteArray) : Ok (ask e a s).1 := by
  have h0 := h.fresh []
  unfold ask
  simp only []
  split
  · exact h0
  · split
    · exact h0
    · rename_i _ hsz
      split
      · exact establish_ok h0
      · split
        · exact release_ok h0
        · split
          · exact data_ok h0 s
          · split
            · rename_i ha
              exact units_ok h0 s (by omega)
            · exact busy_ok h0 _
theorem unitsOut_keep : ∀ (l : List ByteArray) (e : St), Keep e (unitsOut e l)
  | [], e => Keep.refl e
  | s :: l, e => (send_keep e _).trans (unitsOut_keep l (unit e s))
theorem assign_ok {e : St} (h : Ok e) (tei : Int) : Ok (assign e tei).1 := by
  have h0 := h.fresh []
  unfold assign
  simp only []
  split
  · exact h0
  · split
    · exact h0
    · rename_i ht h4
      have hk := unitsOut_keep e.units { e with out := [], tei := tei, state := 4 }
      have h1 : Ok { unitsOut { e with out := [], tei := tei, state := 4 } e.units with units := [] } := by
        refine ⟨?_, ?_, ?_, ?_, ?_, ?_, ?_, ?_, ?_, fun _ => rfl, Nat.zero_le _, fun x hx => by simp at hx, ?_⟩
        · show FlOk (unitsOut _ _).fl; rw [hk.fl]; exact h.fl
        · show 1 ≤ (unitsOut _ _).most; rw [hk.most]; exact h.m0
        · show (unitsOut _ _).most ≤ 32; rw [hk.most]; exact h.m1
        · show 1 ≤ (unitsOut _ _).state; rw [hk.state]; show (1 : Int) ≤ 4; omega
        · show (unitsOut _ _).state ≤ 8; rw [hk.state]; show (4 : Int) ≤ 8; omega
        · show 0 ≤ (unitsOut _ _).tries; rw [hk.tries]; exact h.r0
        · show (unitsOut _ _).tries ≤ (unitsOut _ _).most; rw [hk.tries, hk.most]; exact h.r1
        · show (unitsOut _ _).state ≤ 3 → (unitsOut _ _).tei = -1
          rw [hk.state]
          intro hx
          have : (4 : Int) ≤ 3 := hx
          omega
        · show 4 ≤ (unitsOut _ _).state → 0 ≤ (unitsOut _ _).tei ∧ (unitsOut _ _).tei ≤ 126
          rw [hk.tei]
          intro _
          show 0 ≤ tei ∧ tei ≤ 126
          omega
        · show (unitsOut _ _).state ≤ 4 ∨ (unitsOut _ _).state = 6 → (unitsOut _ _).fl.L = []
          rw [hk.fl]
          intro _
          exact h.ql (by have : ¬ 4 ≤ e.state := h4; omega)
      have h2 : (4 : Int) ≤ (unitsOut { e with out := [], tei := tei, state := 4 } e.units).state := by rw [hk.state]; show (4 : Int) ≤ 4; omega
      show Ok (if e.state = 3 then _ else _)
      split
      · exact call_ok (h1.asks true) h2
      · exact h1
theorem remove_ok {e : St} (h : Ok e) : Ok (remove e).1 := by
  have h0 := h.fresh []
  have hc : FlOk (end' { e with out := [] }).fl ∧ (end' { e with out := [] }).fl.L = [] ∧ (end' { e with out := [] }).most = e.most ∧ (end' { e with out := [] }).tries = e.tries := by
    have hk := (stop200_keep (clear { e with out := [] })).trans (stop203_keep _)
    refine ⟨?_, ?_, hk.most, hk.tries⟩
    · show FlOk (stop203 _).fl; rw [hk.fl]; exact h.fl.clear
    · show (stop203 _).fl.L = []; rw [hk.fl]; rfl
  unfold remove
  simp only []
  split
  · exact h0
  · generalize end' { e with out := [] } = e1 at hc
    obtain ⟨c1, c2, c3, c4⟩ := hc
    have hk : Keep e1 (if e.state = 3 ∨ e.state = 5 ∨ e.state = 7 ∨ e.state = 8 then tell e1 3 ByteArray.empty else if e.state = 6 then tell e1 4 ByteArray.empty else e1) := by
      split
      · exact tell_keep _ _ _
      · split
        · exact tell_keep _ _ _
        · exact Keep.refl _
    generalize (if e.state = 3 ∨ e.state = 5 ∨ e.state = 7 ∨ e.state = 8 then tell e1 3 ByteArray.empty else if e.state = 6 then tell e1 4 ByteArray.empty else e1) = e2 at hk
    refine ⟨?_, ?_, ?_, by show (1 : Int) ≤ 1; omega, by show (1 : Int) ≤ 8; omega, ?_, ?_, fun _ => rfl, fun hx => by have : (4 : Int) ≤ 1 := hx; omega, fun _ => rfl, Nat.zero_le _, fun x hx => by simp at hx, fun _ => ?_⟩
    · show FlOk e2.fl; rw [hk.fl]; exact c1
    · show 1 ≤ e2.most; rw [hk.most, c3]; exact h.m0
    · show e2.most ≤ 32; rw [hk.most, c3]; exact h.m1
    · show 0 ≤ e2.tries; rw [hk.tries, c4]; exact h.r0
    · show e2.tries ≤ e2.most; rw [hk.tries, hk.most, c3, c4]; exact h.r1
    · show e2.fl.L = []; rw [hk.fl]; exact c2
theorem unsure_ok {e : St} (h : Ok e) : Ok (unsure e) ∧ (unsure e).state = e.state := by
  unfold unsure
  split
  · exact ⟨(clear_ok h).keep (tell_keep _ _ _), rfl⟩
  · exact ⟨h, rfl⟩
theorem inAssigned_ok {e : St} (h : Ok e) (h4 : e.state = 4) (f : Fr) : Ok (inAssigned e f) := by
  unfold inAssigned
  split
  · exact (open_ok (h.keep ((send_keep e (bare false 8 f.pf)).trans (tell_keep _ 1 ByteArray.empty))) (by show 4 ≤ e.state; omega)).1
  · split
    · exact h.keep (send_keep _ _)
    · split
      · exact h.keep (tell_keep _ _ _)
      · split
        · exact call_ok (h.asks true) (by show 4 ≤ e.state; omega)
        · exact h
theorem inConnecting_ok {e : St} (h : Ok e) (h5 : e.state = 5) (f : Fr) : Ok (inConnecting e f) := by
  unfold inConnecting
  split
  · exact h.keep (send_keep _ _)
  · split
    · exact h.keep (send_keep _ _)
    · split
      · split
        · have hx : Ok (if e.asked = true then tell e 2 ByteArray.empty else unsure e) ∧ (if e.asked = true then tell e 2 ByteArray.empty else unsure e).state = e.state := by
            split
            · exact ⟨h.keep (tell_keep _ _ _), rfl⟩
            · exact unsure_ok h
          exact (open_ok (hx.1.asks false) (by show 4 ≤ (if e.asked = true then tell e 2 ByteArray.empty else unsure e).state; rw [hx.2]; omega)).1
        · exact h.keep (tell_keep _ _ _)
      · split
        · exact (end_ok (h.keep (tell_keep e 3 _)) (by show 4 ≤ e.state; omega)).1
        · exact h
theorem inReleasing_ok {e : St} (h : Ok e) (h6 : e.state = 6) (f : Fr) : Ok (inReleasing e f) := by
  unfold inReleasing
  split
  · exact h.keep (send_keep _ _)
  · split
    · exact h.keep (send_keep _ _)
    · split
      · split
        · exact (end_ok (h.keep (tell_keep e 4 _)) (by show 4 ≤ e.state; omega)).1
        · exact h.keep (tell_keep _ _ _)
      · split
        · exact (end_ok (h.keep (tell_keep e 4 _)) (by show 4 ≤ e.state; omega)).1
        · exact h
theorem count_keep (e : St) (n : Int) : Keep e (count e n) := by
  unfold count
  split
  · exact (stop200_keep e).trans (start203_keep _)
  · split
    · exact start200_keep e
    · exact Keep.refl e
theorem super1_ok {e : St} (h : Ok e) (h7 : 7 ≤ e.state) (f : Fr) : Ok (super1 e f) ∧ (super1 e f).state = e.state := by
  unfold super1
  simp only []
  have k1 : Keep e (if (f.c && f.pf) = true then answer e false true else e) := by
    split
    · exact answer_keep _ _ _
    · exact Keep.refl _
  generalize (if (f.c && f.pf) = true then answer e false true else e) = e1 at k1
  have k2 : Keep e1 (if (!f.c && f.pf && decide (e.state = 7)) = true then tell e1 7 (letter 65) else e1) := by
    split
    · exact tell_keep _ _ _
    · exact Keep.refl _
  generalize (if (!f.c && f.pf && decide (e.state = 7)) = true then tell e1 7 (letter 65) else e1) = e2 at k2
  have hk := k1.trans k2
  have h2 := h.keep hk
  exact ⟨h2.flow (h2.fl.peer _) (fun hx => by have := hk.state; omega), hk.state⟩
theorem super2_ok {e : St} (h : Ok e) (h7 : 7 ≤ e.state) (f : Fr) (n : Int) : Ok (super2 e f n) := by
  have hb : ∀ e1, Keep e e1 → Ok { e1 with fl := Wm.backT e1.fl, state := 7 } := by
    intro e1 hk
    have h1 := h.keep hk
    have hs := hk.state
    have h2 : Ok { e1 with fl := Wm.backT e1.fl } := h1.flow h1.fl.back (fun hx => by omega)
    exact h2.to 7 (by show 4 ≤ e1.state; omega) (by omega) (by omega) (fun hx => by omega)
  have hb2 : ∀ e1, Keep e e1 → Ok { e1 with fl := Wm.backT e1.fl } := by
    intro e1 hk
    have h1 := h.keep hk
    have hs := hk.state
    exact h1.flow h1.fl.back (fun hx => by omega)
  unfold super2
  split
  · split
    · exact h
    · have k1 : Keep e (if f.k = 2 then start200 e else start203 (stop200 e)) := by
        split
        · exact start200_keep e
        · exact (stop200_keep e).trans (start203_keep _)
      exact (goOn_ok (hb _ k1)).1
  · refine (goOn_ok ?_).1
    split
    · exact h.keep (count_keep e n)
    · split
      · exact h.keep ((stop203_keep e).trans (start200_keep _))
      · exact hb2 _ ((stop200_keep e).trans (start203_keep _))
theorem acked_ok {e : St} (h : Ok e) (h7 : 7 ≤ e.state) (n : Int) : Ok { e with fl := Wm.ackT e.fl n } := h.flow (h.fl.ack n) (fun hx => by omega)
theorem supervised_ok {e : St} (h : Ok e) (h7 : 7 ≤ e.state) (f : Fr) : Ok (supervised e f) := by
  obtain ⟨h1, h2⟩ := super1_ok h h7 f
  have h3 := acked_ok h1 (by rw [h2]; exact h7) f.nr
  unfold supervised
  simp only []
  split
  · exact super2_ok h3 (by show 7 ≤ (super1 e f).state; rw [h2]; exact h7) f _
  · exact anew_ok h3 (by show 4 ≤ (super1 e f).state; rw [h2]; omega) _
theorem info1_ok {e : St} (h : Ok e) (h7 : 7 ≤ e.state) (f : Fr) : Ok (info1 e f) ∧ (info1 e f).state = e.state := by
  have h1 : Ok { e with fl := Wm.comeT e.fl f.ns } := h.flow (h.fl.come f.ns) (fun hx => by omega)
  unfold info1
  simp only []
  split
  · exact ⟨h1.keep ((tell_keep _ 5 f.info).trans (answer_keep _ false f.pf)), rfl⟩
  · split
    · exact ⟨h1.keep (send_keep _ _), rfl⟩
    · split
      · exact ⟨h1.keep (answer_keep _ false true), rfl⟩
      · exact ⟨h1, rfl⟩
theorem info_ok {e : St} (h : Ok e) (h7 : 7 ≤ e.state) (f : Fr) : Ok (info e f) := by
  obtain ⟨h1, h2⟩ := info1_ok h h7 f
  have h3 := acked_ok h1 (by rw [h2]; exact h7) f.nr
  unfold info
  simp only []
  split
  · split
    · refine (goOn_ok ?_).1
      split
      · exact h3
      · exact h3.keep (count_keep _ _)
    · exact h3
  · exact anew_ok h3 (by show 4 ≤ (info1 e f).state; rw [h2]; omega) _
theorem inOpen_ok {e : St} (h : Ok e) (h7 : 7 ≤ e.state) (f : Fr) : Ok (inOpen e f) := by
  unfold inOpen
  split
  · have h1 := h.keep ((send_keep e (bare false 8 f.pf)).trans (tell_keep _ 7 (letter 70)))
    obtain ⟨h2, h3⟩ := unsure_ok h1
    exact (open_ok h2 (by rw [h3]; show 4 ≤ e.state; omega)).1
  · split
    · exact (end_ok (h.keep ((send_keep e (bare false 8 f.pf)).trans (tell_keep _ 3 ByteArray.empty))) (by show 4 ≤ e.state; omega)).1
    · split
      · exact h.keep (tell_keep _ _ _)
      · split
        · exact anew_ok h (by omega) _
        · split
          · exact anew_ok h (by omega) _
          · split
            · exact info_ok h h7 f
            · exact supervised_ok h h7 f
theorem frame_ok {e : St} (h : Ok e) (may : Bool) (f : Fr) : Ok (frame e may f) := by
  have h0 := h.fresh []
  unfold frame
  simp only []
  split
  · exact h0
  · rename_i hm
    have h4 : 4 ≤ e.state := by
      rcases (show e.state ≤ 3 ∨ 4 ≤ e.state by omega) with h3 | h3
      · have := h.lo h3
        exact absurd (Or.inl (by show e.tei < 0; omega)) hm
      · exact h3
    split
    · exact h0.keep (tell_keep _ _ _)
    · split
      · rename_i hs
        exact inAssigned_ok h0 hs _
      · split
        · rename_i hs
          exact inConnecting_ok h0 hs _
        · split
          · rename_i hs
            exact inReleasing_ok h0 hs _
          · rename_i g4 g5 g6
            exact inOpen_ok h0 (by have a4 : ¬ e.state = 4 := g4; have a5 : ¬ e.state = 5 := g5; have a6 : ¬ e.state = 6 := g6; show 7 ≤ e.state; omega) _
theorem timed_ok {e : St} (h : Ok e) (a b : Bool) : Ok { e with t200 := a, t203 := b } := ⟨h.fl, h.m0, h.m1, h.s0, h.s1, h.r0, h.r1, h.lo, h.hi, h.un, h.ul, h.uz, h.ql⟩
theorem asks_ok {e : St} (h : Ok e) (h7 : e.state = 7) : Ok (asks e) := by
  have h1 := h.tried 0 (Int.le_refl 0) (by have := h.m0; omega)
  have hk := inquire_keep { e with tries := 0 }
  exact (h1.keep hk).to 8 (by rw [hk.state]; show 4 ≤ e.state; omega) (by omega) (by omega) (fun hx => by omega)
theorem again_ok {e : St} (h : Ok e) (h4 : 4 ≤ e.state) (k : Int) (l : ByteArray) (g : Int) : Ok (again e k l g) := by
  unfold again
  split
  · exact (end_ok (h.keep ((tell_keep e 7 l).trans (tell_keep _ g ByteArray.empty))) h4).1
  · rename_i hn
    have h1 := h.tried (e.tries + 1) (by have := h.r0; omega) (by have := h.r1; omega)
    exact h1.keep ((send_keep { e with tries := e.tries + 1 } (bare true k true)).trans (start200_keep _))
theorem timeout_ok {e : St} (h : Ok e) (t : Int) : Ok (timeout e t) := by
  have h0 := h.fresh []
  unfold timeout
  simp only []
  split
  · split
    · have h1 : Ok { e with out := [], t203 := false } := timed_ok h0 e.t200 false
      split
      · rename_i h7
        exact asks_ok h1 h7
      · exact h1
    · exact h0
  · split
    · have h1 : Ok { e with out := [], t200 := false } := timed_ok h0 false e.t203
      split
      · rename_i hs
        exact again_ok h1 (by show 4 ≤ e.state; have : e.state = 5 := hs; omega) _ _ _
      · split
        · rename_i hs
          exact again_ok h1 (by show 4 ≤ e.state; have : e.state = 6 := hs; omega) _ _ _
        · split
          · rename_i h7
            exact asks_ok h1 h7
          · split
            · rename_i h8
              have h8' : e.state = 8 := h8
              split
              · exact anew_ok h1 (by show 4 ≤ e.state; omega) _
              · rename_i hn
                have hn' : ¬ e.tries = e.most := hn
                have h2 := h1.tried (e.tries + 1) (by have := h.r0; omega) (by have := h.r1; show e.tries + 1 ≤ e.most; omega)
                exact h2.keep (inquire_keep _)
            · exact h1
    · exact h0
end Go.Proofs.YtidemohpngkedabGreatDoor.Em

namespace Go.Proofs.YtidemohpngkedabGreatDoor.Em
set_option linter.unusedVariables false
theorem len_add (e : St) (x : Eff) : (add e x).out.length = e.out.length + 1 := by simp [add]
theorem len_tell (e : St) (k : Int) (d : ByteArray) : (tell e k d).out.length = e.out.length + 1 := len_add _ _
theorem len_send (e : St) (f : Fr) : (send e f).out.length = e.out.length + 1 := len_add _ _
theorem len_start200 (e : St) : (start200 e).out.length = e.out.length + 1 := len_add _ _
theorem len_start203 (e : St) : (start203 e).out.length = e.out.length + 1 := len_add _ _
theorem len_stop200 (e : St) : (stop200 e).out.length ≤ e.out.length + 1 := by
  unfold stop200
  split
  · rw [len_add]; exact Nat.le_refl _
  · omega
theorem len_stop203 (e : St) : (stop203 e).out.length ≤ e.out.length + 1 := by
  unfold stop203
  split
  · rw [len_add]; exact Nat.le_refl _
  · omega
theorem len_await (e : St) : (start200 (stop203 e)).out.length ≤ e.out.length + 2 := by
  rw [len_start200]; have := len_stop203 e; omega
theorem len_rest (e : St) : (start203 (stop200 e)).out.length ≤ e.out.length + 2 := by
  rw [len_start203]; have := len_stop200 e; omega
theorem len_call (e : St) : (call e).out.length ≤ e.out.length + 3 := by
  show (start200 (stop203 (send { e with tries := 0 } (bare true 4 true)))).out.length ≤ _
  have h1 := len_await (send { e with tries := 0 } (bare true 4 true))
  rw [len_send] at h1
  exact h1
theorem len_answer (e : St) (c pf : Bool) : (answer e c pf).out.length = e.out.length + 1 := len_send _ _
theorem len_inquire (e : St) : (inquire e).out.length = e.out.length + 2 := by
  unfold inquire
  rw [len_start200, len_answer]
theorem len_anew (e : St) (l : ByteArray) : (anew e l).out.length ≤ e.out.length + 4 := by
  have h1 := len_call { tell e 7 l with asked := false }
  have h2 : ({ tell e 7 l with asked := false } : St).out.length = e.out.length + 1 := len_tell e 7 l
  unfold anew
  omega
theorem len_goOne (e : St) : (goOne e).out.length ≤ e.out.length + 3 := by
  unfold goOne
  simp only []
  have h1 : (send { e with fl := Wm.takeT e.fl } ⟨0, 0, true, 0, false, Wm.takeN e.fl, 0, Wm.takeS e.fl⟩).out.length = e.out.length + 1 := len_send _ _
  generalize send { e with fl := Wm.takeT e.fl } ⟨0, 0, true, 0, false, Wm.takeN e.fl, 0, Wm.takeS e.fl⟩ = e1 at h1
  split
  · omega
  · have := len_await e1; omega
theorem len_goN : ∀ (n : Nat) (e : St), (goN n e).out.length ≤ e.out.length + 3 * n
  | 0, e => by show e.out.length ≤ _; omega
  | n + 1, e => by
    unfold goN
    split
    · have h1 := len_goN n (goOne e)
      have h2 := len_goOne e
      omega
    · omega
theorem len_goOn (e : St) : (goOn e).out.length ≤ e.out.length + 384 := by
  unfold goOn
  split
  · have := len_goN 128 e; omega
  · omega
theorem len_open (e : St) : (open' e).out.length ≤ e.out.length + 386 := by
  unfold open'
  have h1 := len_rest { e with fl := Wm.resetT e.fl }
  have h2 := len_goOn { start203 (stop200 { e with fl := Wm.resetT e.fl }) with state := 7 }
  have h3 : ({ start203 (stop200 { e with fl := Wm.resetT e.fl }) with state := 7 } : St).out.length = (start203 (stop200 { e with fl := Wm.resetT e.fl })).out.length := rfl
  have h4 : ({ e with fl := Wm.resetT e.fl } : St).out.length = e.out.length := rfl
  omega
theorem len_end (e : St) : (end' e).out.length ≤ e.out.length + 2 := by
  show (stop203 (stop200 (clear e))).out.length ≤ _
  have h1 := len_stop203 (stop200 (clear e))
  have h2 := len_stop200 (clear e)
  have h3 : (clear e).out.length = e.out.length := rfl
  omega
theorem len_unsure (e : St) : (unsure e).out.length ≤ e.out.length + 1 := by
  unfold unsure
  split
  · rw [len_tell]; exact Nat.le_refl _
  · omega
theorem len_count (e : St) (n : Int) : (count e n).out.length ≤ e.out.length + 2 := by
  unfold count
  split
  · exact len_rest e
  · split
    · rw [len_start200]; omega
    · omega
end Go.Proofs.YtidemohpngkedabGreatDoor.Em

namespace Go.Proofs.YtidemohpngkedabGreatDoor.Em
set_option linter.unusedVariables false

/-- in the states up to 4 none; in 5, 6, 8 T200 alone; in 7 one of both, T200 as long as payloads count as sent -/
structure Tm (e : St) : Prop where
  a : e.state ≤ 4 → e.t200 = false ∧ e.t203 = false
  b : e.state = 5 ∨ e.state = 6 ∨ e.state = 8 → e.t200 = true ∧ e.t203 = false
  c : e.state = 7 → (e.t200 = true ∧ e.t203 = false) ∨ (e.t200 = false ∧ e.t203 = true ∧ e.fl.sn = 0)
/-- what is told makes no difference -/
structure Same (e e' : St) : Prop where
  k : Keep e e'
  t2 : e'.t200 = e.t200
  t3 : e'.t203 = e.t203
theorem Same.refl (e : St) : Same e e := ⟨Keep.refl e, rfl, rfl⟩
theorem Same.trans {a b c : St} (h : Same a b) (k : Same b c) : Same a c := ⟨h.k.trans k.k, k.t2.trans h.t2, k.t3.trans h.t3⟩
theorem tell_same (e : St) (k : Int) (d : ByteArray) : Same e (tell e k d) := ⟨tell_keep e k d, rfl, rfl⟩
theorem send_same (e : St) (f : Fr) : Same e (send e f) := ⟨send_keep e f, rfl, rfl⟩
theorem answer_same (e : St) (c pf : Bool) : Same e (answer e c pf) := send_same e _
theorem Tm.same {e e' : St} (h : Tm e) (s : Same e e') : Tm e' := by
  refine ⟨?_, ?_, ?_⟩
  · rw [s.k.state, s.t2, s.t3]; exact h.a
  · rw [s.k.state, s.t2, s.t3]; exact h.b
  · rw [s.k.state, s.t2, s.t3, s.k.fl]; exact h.c
theorem Tm.asked {e : St} (h : Tm e) (b : Bool) : Tm { e with asked := b } := ⟨h.a, h.b, h.c⟩
theorem Tm.tried {e : St} (h : Tm e) (n : Int) : Tm { e with tries := n } := ⟨h.a, h.b, h.c⟩
theorem Tm.fresh {e : St} (h : Tm e) (l : List Eff) : Tm { e with out := l } := ⟨h.a, h.b, h.c⟩
/-- a flow with no more sent than before -/
theorem Tm.flow {e : St} (h : Tm e) (σ : Wm.St) (hs : e.fl.sn = 0 → σ.sn = 0) : Tm { e with fl := σ } :=
  ⟨h.a, h.b, fun hx => (h.c hx).imp id (fun ⟨p, q, r⟩ => ⟨p, q, hs r⟩)⟩
theorem new_tm (k n : Int) : Tm (new k n) := ⟨fun _ => ⟨rfl, rfl⟩, fun h => by have : (1 : Int) = 5 ∨ (1 : Int) = 6 ∨ (1 : Int) = 8 := h; omega, fun h => by have : (1 : Int) = 7 := h; omega⟩
theorem on200 (e : St) (s : Int) (hs : s = 5 ∨ s = 6 ∨ s = 7 ∨ s = 8) (h2 : e.t200 = true) (h3 : e.t203 = false) : Tm { e with state := s } :=
  ⟨fun hx => by have : s ≤ 4 := hx; omega, fun _ => ⟨h2, h3⟩, fun _ => Or.inl ⟨h2, h3⟩⟩
theorem call_t (e : St) : (call e).t200 = true ∧ (call e).t203 = false := by
  have := (stop203_t (send { e with tries := 0 } (bare true 4 true))).1
  exact ⟨rfl, this⟩
theorem call_tm (e : St) : Tm (call e) := ⟨fun hx => by have : (5 : Int) ≤ 4 := hx; omega, fun _ => call_t e, fun hx => by have : (5 : Int) = 7 := hx; omega⟩
theorem anew_tm (e : St) (l : ByteArray) : Tm (anew e l) := call_tm _
theorem goOne_tm (e : St) (hx : e.t200 = true ∧ e.t203 = false ∨ e.t200 = false) : (goOne e).t200 = true ∧ ((goOne e).t203 = false) := by
  unfold goOne
  simp only []
  split
  · rename_i h
    rcases hx with ⟨_, h3⟩ | h2
    · exact ⟨h, h3⟩
    · have : e.t200 = true := h
      rw [h2] at this
      cases this
  · exact ⟨rfl, (stop203_t _).1⟩
theorem goN_tm : ∀ (n : Nat) (e : St), Tm e → e.state = 7 → Tm (goN n e)
  | 0, e, h, h7 => h
  | n + 1, e, h, h7 => by
    unfold goN
    split
    · have hs : (goOne e).state = 7 := by
        unfold goOne
        simp only []
        split
        · exact h7
        · have hk := ((send_keep { e with fl := Wm.takeT e.fl } ⟨0, 0, true, 0, false, Wm.takeN e.fl, 0, Wm.takeS e.fl⟩).trans (stop203_keep _)).trans (start200_keep _)
          exact hk.state.trans h7
      have ht := goOne_tm e (by
        rcases h.c h7 with h' | ⟨h', _⟩
        · exact Or.inl h'
        · exact Or.inr h')
      refine goN_tm n _ ?_ hs
      exact ⟨fun hx => by omega, fun hx => by omega, fun _ => Or.inl ht⟩
    · exact h
theorem goOn_tm {e : St} (h : Tm e) : Tm (goOn e) := by
  unfold goOn
  split
  · rename_i h7
    exact goN_tm 128 e h h7
  · exact h
/-- T203 starts, T200 stops -/
theorem rest_t (e : St) : (start203 (stop200 e)).t200 = false ∧ (start203 (stop200 e)).t203 = true := ⟨(stop200_t e).1, rfl⟩
theorem work_t (e : St) : (start200 (stop203 e)).t200 = true ∧ (start200 (stop203 e)).t203 = false := ⟨rfl, (stop203_t e).1⟩
theorem open_tm (e : St) : Tm (open' e) := by
  refine goOn_tm ⟨fun hx => ?_, fun hx => ?_, fun _ => Or.inr ⟨(rest_t { e with fl := Wm.resetT e.fl }).1, (rest_t { e with fl := Wm.resetT e.fl }).2, ?_⟩⟩
  · have : (7 : Int) ≤ 4 := hx
    omega
  · have : (7 : Int) = 5 ∨ (7 : Int) = 6 ∨ (7 : Int) = 8 := hx
    omega
  · have hk := (stop200_keep { e with fl := Wm.resetT e.fl }).trans (start203_keep _)
    show (start203 (stop200 { e with fl := Wm.resetT e.fl })).fl.sn = 0
    rw [hk.fl]
    rfl
theorem end_t (e : St) : (end' e).t200 = false ∧ (end' e).t203 = false := by
  have h2 := stop203_t (stop200 (clear e))
  exact ⟨h2.2.trans (stop200_t (clear e)).1, h2.1⟩
theorem end_tm (e : St) : Tm (end' e) := ⟨fun _ => end_t e, fun hx => by have : (4 : Int) = 5 ∨ (4 : Int) = 6 ∨ (4 : Int) = 8 := hx; omega, fun hx => by have : (4 : Int) = 7 := hx; omega⟩
theorem clear_tm {e : St} (h : Tm e) : Tm (clear e) := h.flow _ (fun _ => rfl)
theorem low_tm {e : St} (h : Tm e) (h3 : e.state ≤ 4) (s : Int) (hs : s ≤ 4) (l : List Eff) (u : List ByteArray) : Tm { e with state := s, out := l, units := u } :=
  ⟨fun _ => h.a h3, fun hx => by have : s = 5 ∨ s = 6 ∨ s = 8 := hx; omega, fun hx => by have : s = 7 := hx; omega⟩
theorem establish_tm {e : St} (h : Tm e) : Tm (establish e).1 := by
  unfold establish
  split
  · rename_i hs
    exact (low_tm h (by omega) 3 (by omega) e.out e.units).same (tell_same _ 8 _)
  · split
    · rename_i _ hs
      exact low_tm h (by omega) 3 (by omega) e.out e.units
    · split
      · exact h
      · split
        · exact (clear_tm h).asked true
        · split
          · exact call_tm _
          · split
            · exact call_tm _
            · exact h
theorem release_tm {e : St} (h : Tm e) : Tm (release e).1 := by
  unfold release
  split
  · exact h.same (tell_same _ _ _)
  · split
    · exact on200 _ 6 (by omega) (work_t _).1 (work_t _).2
    · exact h
theorem data_tm {e : St} (h : Tm e) (s : ByteArray) : Tm (data e s).1 := by
  unfold data
  split
  · show Tm (if Qm.pushN e.fl.mo e.fl.L s = 0 then goOn { e with fl := Wm.pushT e.fl s } else e)
    split
    · exact goOn_tm (h.flow _ (fun hx => hx))
    · exact h
  · exact h
theorem units_tm {e : St} (h : Tm e) (s : ByteArray) : Tm (units e s).1 := by
  unfold units
  split
  · exact h.same (send_same _ _)
  · split
    · exact h
    · rename_i h4 _
      split
      · exact (low_tm h (by omega) 2 (by omega) e.out (e.units ++ [s])).same (tell_same _ 8 _)
      · exact low_tm h (by omega) e.state (by omega) e.out (e.units ++ [s])
theorem busy_tm {e : St} (h : Tm e) (b : Bool) : Tm (busy e b).1 := by
  unfold busy
  split
  · show Tm (if e.fl.ow = b then e else answer { e with fl := Wm.ownT e.fl b } false false)
    split
    · exact h
    · exact (h.flow (Wm.ownT e.fl b) (fun hx => hx)).same (answer_same _ _ _)
  · exact h
theorem ask_tm {e : St} (h : Tm e) (a : Int) (s : ByteArray) : Tm (ask e a s).1 := by
  have h0 := h.fresh []
  unfold ask
  simp only []
  split
  · exact h0
  · split
    · exact h0
    · split
      · exact establish_tm h0
      · split
        · exact release_tm h0
        · split
          · exact data_tm h0 s
          · split
            · exact units_tm h0 s
            · exact busy_tm h0 _
theorem unitsOut_same : ∀ (l : List ByteArray) (e : St), Same e (unitsOut e l)
  | [], e => Same.refl e
  | s :: l, e => (send_same e _).trans (unitsOut_same l (unit e s))
theorem assign_tm {e : St} (h : Tm e) (tei : Int) : Tm (assign e tei).1 := by
  have h0 := h.fresh []
  unfold assign
  simp only []
  split
  · exact h0
  · split
    · exact h0
    · rename_i _ h4
      have h4' : ¬ 4 ≤ e.state := h4
      have hs := unitsOut_same e.units { e with out := [], tei := tei, state := 4 }
      have h1 : Tm { e with out := [], tei := tei, state := 4 } := ⟨fun _ => h.a (by omega), fun hx => by have : (4 : Int) = 5 ∨ (4 : Int) = 6 ∨ (4 : Int) = 8 := hx; omega, fun hx => by have : (4 : Int) = 7 := hx; omega⟩
      have h2 := h1.same hs
      show Tm (if e.state = 3 then _ else _)
      split
      · exact call_tm _
      · exact ⟨h2.a, h2.b, h2.c⟩
theorem remove_tm {e : St} (h : Tm e) : Tm (remove e).1 := by
  have h0 := h.fresh []
  have ht := end_t { e with out := [] }
  unfold remove
  simp only []
  split
  · exact h0
  · generalize end' { e with out := [] } = e1 at ht
    refine ⟨fun _ => ?_, fun hx => by have : (1 : Int) = 5 ∨ (1 : Int) = 6 ∨ (1 : Int) = 8 := hx; omega, fun hx => by have : (1 : Int) = 7 := hx; omega⟩
    show (if e.state = 3 ∨ e.state = 5 ∨ e.state = 7 ∨ e.state = 8 then tell e1 3 ByteArray.empty else if e.state = 6 then tell e1 4 ByteArray.empty else e1).t200 = false ∧ (if e.state = 3 ∨ e.state = 5 ∨ e.state = 7 ∨ e.state = 8 then tell e1 3 ByteArray.empty else if e.state = 6 then tell e1 4 ByteArray.empty else e1).t203 = false
    split
    · exact ht
    · split
      · exact ht
      · exact ht
theorem inAssigned_tm {e : St} (h : Tm e) (f : Fr) : Tm (inAssigned e f) := by
  unfold inAssigned
  split
  · exact open_tm _
  · split
    · exact h.same (send_same _ _)
    · split
      · exact h.same (tell_same _ _ _)
      · split
        · exact call_tm _
        · exact h
theorem inConnecting_tm {e : St} (h : Tm e) (f : Fr) : Tm (inConnecting e f) := by
  unfold inConnecting
  split
  · exact h.same (send_same _ _)
  · split
    · exact h.same (send_same _ _)
    · split
      · split
        · exact open_tm _
        · exact h.same (tell_same _ _ _)
      · split
        · exact end_tm _
        · exact h
theorem inReleasing_tm {e : St} (h : Tm e) (f : Fr) : Tm (inReleasing e f) := by
  unfold inReleasing
  split
  · exact h.same (send_same _ _)
  · split
    · exact h.same (send_same _ _)
    · split
      · split
        · exact end_tm _
        · exact h.same (tell_same _ _ _)
      · split
        · exact end_tm _
        · exact h
/-- an answer to payloads, in the state Open -/
theorem acked_tm {e : St} (h : Tm e) (ho : Ok e) (n : Int) : Tm { e with fl := Wm.ackT e.fl n } := by
  refine h.flow _ (fun h0 => ?_)
  by_cases hb : Wm.ackB e.fl n = true
  · rw [Wm.ackT_sn ho.fl.ok hb]
    show e.fl.sn - _ = 0
    omega
  · have hb' : Wm.ackB e.fl n = false := by simpa using hb
    have : Wm.ackT e.fl n = e.fl := by unfold Wm.ackT; rw [hb']; rfl
    rw [this]
    exact h0
theorem count_tm {e : St} (h : Tm e) (ho : Ok e) (h7 : e.state = 7) (n : Int) : Tm (count e n) := by
  unfold count
  split
  · rename_i hv
    have hk := (stop200_keep e).trans (start203_keep _)
    have h0 : e.fl.sn = 0 := by
      have := ho.fl.ok.se
      rw [hv, Wm.sb_same] at this
      omega
    refine ⟨fun hx => ?_, fun hx => ?_, fun _ => Or.inr ⟨(rest_t e).1, (rest_t e).2, by rw [hk.fl]; exact h0⟩⟩
    · rw [hk.state] at hx; omega
    · rw [hk.state] at hx; omega
  · rename_i hv
    split
    · have hsn : e.fl.sn ≠ 0 := by
        intro h0
        have h1 := ho.fl.ok.se
        have v0 := ho.fl.ok.vs0
        have v1 := ho.fl.ok.vs1
        have a0 := ho.fl.ok.va0
        have a1 := ho.fl.ok.va1
        rw [h0] at h1
        unfold Sm.sb at h1
        omega
      rcases h.c h7 with ⟨p, q⟩ | ⟨_, _, r⟩
      · exact ⟨fun hx => by have : e.state ≤ 4 := hx; omega, fun hx => by have : e.state = 5 ∨ e.state = 6 ∨ e.state = 8 := hx; omega, fun _ => Or.inl ⟨rfl, q⟩⟩
      · exact absurd r hsn
    · exact h
theorem super1_tm {e : St} (h : Tm e) (f : Fr) : Tm (super1 e f) := by
  unfold super1
  simp only []
  have k1 : Same e (if (f.c && f.pf) = true then answer e false true else e) := by
    split
    · exact answer_same _ _ _
    · exact Same.refl _
  generalize (if (f.c && f.pf) = true then answer e false true else e) = e1 at k1
  have k2 : Same e1 (if (!f.c && f.pf && decide (e.state = 7)) = true then tell e1 7 (letter 65) else e1) := by
    split
    · exact tell_same _ _ _
    · exact Same.refl _
  generalize (if (!f.c && f.pf && decide (e.state = 7)) = true then tell e1 7 (letter 65) else e1) = e2 at k2
  exact (h.same (k1.trans k2)).flow _ (fun hx => hx)
theorem super2_tm {e : St} (h : Tm e) (ho : Ok e) (h7 : 7 ≤ e.state) (f : Fr) (n : Int) : Tm (super2 e f n) := by
  unfold super2
  split
  · split
    · exact h
    · rename_i h8 hn
      refine goOn_tm ⟨fun hx => ?_, fun hx => ?_, fun _ => ?_⟩
      · have : (7 : Int) ≤ 4 := hx
        omega
      · have : (7 : Int) = 5 ∨ (7 : Int) = 6 ∨ (7 : Int) = 8 := hx
        omega
      · show ((if f.k = 2 then start200 e else start203 (stop200 e)).t200 = true ∧ (if f.k = 2 then start200 e else start203 (stop200 e)).t203 = false) ∨ ((if f.k = 2 then start200 e else start203 (stop200 e)).t200 = false ∧ (if f.k = 2 then start200 e else start203 (stop200 e)).t203 = true ∧ (0 : Nat) = 0)
        split
        · exact Or.inl ⟨rfl, (h.b (Or.inr (Or.inr h8))).2⟩
        · exact Or.inr ⟨(rest_t e).1, (rest_t e).2, rfl⟩
  · rename_i h8
    have hs7 : e.state = 7 := by have := ho.s1; omega
    refine goOn_tm ?_
    split
    · exact count_tm h ho hs7 n
    · split
      · have hk := (stop203_keep e).trans (start200_keep _)
        exact ⟨fun hx => by rw [hk.state] at hx; omega, fun hx => by rw [hk.state] at hx; omega, fun _ => Or.inl (work_t e)⟩
      · have hk := (stop200_keep e).trans (start203_keep _)
        refine ⟨fun hx => ?_, fun hx => ?_, fun _ => Or.inr ⟨(rest_t e).1, (rest_t e).2, rfl⟩⟩
        · have hx' : (start203 (stop200 e)).state ≤ 4 := hx
          rw [hk.state] at hx'; omega
        · have hx' : (start203 (stop200 e)).state = 5 ∨ (start203 (stop200 e)).state = 6 ∨ (start203 (stop200 e)).state = 8 := hx
          rw [hk.state] at hx'; omega
theorem supervised_tm {e : St} (h : Tm e) (ho : Ok e) (h7 : 7 ≤ e.state) (f : Fr) : Tm (supervised e f) := by
  obtain ⟨o1, o2⟩ := super1_ok ho h7 f
  have h1 := super1_tm h f
  have h3 := acked_tm h1 o1 f.nr
  have o3 := acked_ok o1 (by rw [o2]; exact h7) f.nr
  unfold supervised
  simp only []
  split
  · exact super2_tm h3 o3 (by show 7 ≤ (super1 e f).state; rw [o2]; exact h7) f _
  · exact anew_tm _ _
theorem info1_tm {e : St} (h : Tm e) (f : Fr) : Tm (info1 e f) := by
  have hs : e.fl.sn = 0 → (Wm.comeT e.fl f.ns).sn = 0 := by
    intro h0
    unfold Wm.comeT
    split
    · exact h0
    · split <;> exact h0
  have h1 := h.flow (Wm.comeT e.fl f.ns) hs
  unfold info1
  simp only []
  split
  · exact h1.same ((tell_same _ 5 f.info).trans (answer_same _ false f.pf))
  · split
    · exact h1.same (send_same _ _)
    · split
      · exact h1.same (answer_same _ false true)
      · exact h1
theorem info_tm {e : St} (h : Tm e) (ho : Ok e) (h7 : 7 ≤ e.state) (f : Fr) : Tm (info e f) := by
  obtain ⟨o1, o2⟩ := info1_ok ho h7 f
  have h1 := info1_tm h f
  have h3 := acked_tm h1 o1 f.nr
  have o3 := acked_ok o1 (by rw [o2]; exact h7) f.nr
  unfold info
  simp only []
  split
  · split
    · rename_i hs
      refine goOn_tm ?_
      split
      · exact h3
      · exact count_tm h3 o3 hs _
    · exact h3
  · exact anew_tm _ _
theorem inOpen_tm {e : St} (h : Tm e) (ho : Ok e) (h7 : 7 ≤ e.state) (f : Fr) : Tm (inOpen e f) := by
  unfold inOpen
  split
  · exact open_tm _
  · split
    · exact end_tm _
    · split
      · exact h.same (tell_same _ _ _)
      · split
        · exact anew_tm _ _
        · split
          · exact anew_tm _ _
          · split
            · exact info_tm h ho h7 f
            · exact supervised_tm h ho h7 f
theorem frame_tm {e : St} (h : Tm e) (ho : Ok e) (may : Bool) (f : Fr) : Tm (frame e may f) := by
  have h0 := h.fresh []
  have o0 := ho.fresh []
  unfold frame
  simp only []
  split
  · exact h0
  · rename_i hm
    have h4 : 4 ≤ e.state := by
      rcases (show e.state ≤ 3 ∨ 4 ≤ e.state by omega) with h3 | h3
      · have := ho.lo h3
        exact absurd (Or.inl (by show e.tei < 0; omega)) hm
      · exact h3
    split
    · exact h0.same (tell_same _ _ _)
    · split
      · exact inAssigned_tm h0 _
      · split
        · exact inConnecting_tm h0 _
        · split
          · exact inReleasing_tm h0 _
          · rename_i g4 g5 g6
            exact inOpen_tm h0 o0 (by have a4 : ¬ e.state = 4 := g4; have a5 : ¬ e.state = 5 := g5; have a6 : ¬ e.state = 6 := g6; show 7 ≤ e.state; omega) _
theorem again_tm {e : St} (h3 : e.t203 = false) (hs : e.state = 5 ∨ e.state = 6) (k : Int) (l : ByteArray) (g : Int) : Tm (again e k l g) := by
  unfold again
  split
  · exact end_tm _
  · exact ⟨fun hx => by have : e.state ≤ 4 := hx; omega, fun _ => ⟨rfl, h3⟩, fun hx => by have : e.state = 7 := hx; omega⟩
theorem asks_tm (e : St) (h3 : e.t203 = false) : Tm (asks e) := on200 _ 8 (by omega) rfl h3
theorem timeout_tm {e : St} (h : Tm e) (ho : Ok e) (t : Int) : Tm (timeout e t) := by
  have h0 := h.fresh []
  unfold timeout
  simp only []
  split
  · split
    · rename_i h203
      split
      · exact asks_tm _ rfl
      · rename_i h7
        have h7' : ¬ e.state = 7 := h7
        have h203' : e.t203 = true := h203
        exfalso
        rcases (show e.state ≤ 4 ∨ (e.state = 5 ∨ e.state = 6 ∨ e.state = 8) by have := ho.s1; omega) with hs | hs
        · have := (h.a hs).2; rw [h203'] at this; cases this
        · have := (h.b hs).2; rw [h203'] at this; cases this
    · exact h0
  · split
    · rename_i h200
      have h2 : e.t200 = true := h200.2
      have h3 : e.t203 = false := by
        rcases (show e.state ≤ 4 ∨ (e.state = 5 ∨ e.state = 6 ∨ e.state = 8) ∨ e.state = 7 by have := ho.s1; omega) with hs | hs | hs
        · exact (h.a hs).2
        · exact (h.b hs).2
        · rcases h.c hs with ⟨_, q⟩ | ⟨p, _⟩
          · exact q
          · rw [h2] at p; cases p
      split
      · rename_i hs
        exact again_tm (e := { e with out := [], t200 := false }) h3 (Or.inl hs) _ _ _
      · split
        · rename_i hs
          exact again_tm (e := { e with out := [], t200 := false }) h3 (Or.inr hs) _ _ _
        · split
          · exact asks_tm _ h3
          · split
            · rename_i h8
              have h8' : e.state = 8 := h8
              split
              · exact anew_tm _ _
              · exact ⟨fun hx => by have : e.state ≤ 4 := hx; omega, fun _ => ⟨rfl, h3⟩, fun hx => by have : e.state = 7 := hx; omega⟩
            · rename_i n5 n6 n7 n8
              have n5' : ¬ e.state = 5 := n5
              have n6' : ¬ e.state = 6 := n6
              have n7' : ¬ e.state = 7 := n7
              have n8' : ¬ e.state = 8 := n8
              have := (h.a (by have := ho.s1; omega)).1
              rw [h2] at this
              cases this
    · exact h0
end Go.Proofs.YtidemohpngkedabGreatDoor.Em
