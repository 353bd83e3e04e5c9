/-
  A user as plain data: what it has, what it does, and what it has then. It imports nothing of the program.
-/
import Derived.Test.YtdnhcpkpajbhoaaDrawMath
import Derived.Test.YtdnhcpkpajbhoaaTeimsgMath
namespace Go.Proofs.Ytdnhcpkpajbhoaa.Um
set_option linter.unusedVariables false
set_option linter.unusedSimpArgs false

/-- a user: how often it tries, its TEI (-1: none), whether it asks, its number, its tries; its source: a nil one, or the first numbers and x -/
structure St where
  most : Int
  tei : Int
  asks : Bool
  ri : Int
  tries : Int
  nil : Bool
  L : List Int
  x : Int
/-- an effect -/
structure Ef where
  k : Int
  ty : Int
  ri : Int
  ai : Int
  tei : Int
def say (t ri ai : Int) : Ef := ⟨0, t, ri, ai, 0⟩
def tell (k t : Int) : Ef := ⟨k, 0, 0, 0, t⟩
/-- the source's next number, and what the source is then -/
def nx (s : St) : Int := if s.nil then 0 else Dm.nx s.L s.x
def on (s : St) : St := if s.nil then s else { s with L := s.L.tail, x := Dm.nX s.L s.x }
structure Ok (s : St) : Prop where
  m0 : 1 ≤ s.most
  m1 : s.most ≤ 32
  tei : s.tei = -1 ∨ 64 ≤ s.tei ∧ s.tei ≤ 126
  ask : s.asks = true → s.tei = -1 ∧ 1 ≤ s.tries ∧ s.tries ≤ s.most
  no : s.asks = false → s.ri = 0 ∧ s.tries = 0
  r0 : 0 ≤ s.ri
  r1 : s.ri ≤ 65535
def most (n : Int) : Int := if n < 1 then 1 else if 32 < n then 32 else n
def new (n : Int) (nil : Bool) (L : List Int) (x : Int) : St := ⟨most n, -1, false, 0, 0, nil, L, x⟩
theorem new_ok (n : Int) (nil : Bool) (L : List Int) (x : Int) : Ok (new n nil L x) := by
  have h : 1 ≤ most n ∧ most n ≤ 32 := by unfold most; split <;> (try split) <;> omega
  exact ⟨h.1, h.2, Or.inl rfl, fun h => (by cases h), fun _ => ⟨rfl, rfl⟩, by show (0 : Int) ≤ 0; decide, by show (0 : Int) ≤ 65535; decide⟩
theorem nx_lo (s : St) : 0 ≤ nx s := by
  unfold nx
  split
  · decide
  · exact Dm.nx_lo _ _
theorem nx_hi (s : St) : nx s ≤ 65535 := by
  unfold nx
  split
  · decide
  · exact Dm.nx_hi _ _
theorem on_most (s : St) : (on s).most = s.most := by unfold on; split <;> rfl
theorem on_tei (s : St) : (on s).tei = s.tei := by unfold on; split <;> rfl
theorem on_asks (s : St) : (on s).asks = s.asks := by unfold on; split <;> rfl
theorem on_ri (s : St) : (on s).ri = s.ri := by unfold on; split <;> rfl
theorem on_tries (s : St) : (on s).tries = s.tries := by unfold on; split <;> rfl
theorem on_nil (s : St) : (on s).nil = s.nil := by unfold on; split <;> rfl
theorem on_ok {s : St} (h : Ok s) : Ok (on s) :=
  ⟨by rw [on_most]; exact h.m0, by rw [on_most]; exact h.m1, by rw [on_tei]; exact h.tei, by rw [on_asks, on_tei, on_tries, on_most]; exact h.ask, by rw [on_asks, on_ri, on_tries]; exact h.no, by rw [on_ri]; exact h.r0, by rw [on_ri]; exact h.r1⟩
/-- what it has is laid down anew -/
def has (s : St) (tei : Int) (asks : Bool) (ri tries : Int) : St := { s with tei := tei, asks := asks, ri := ri, tries := tries }
def idle (s : St) : St := has s (-1) false 0 0
theorem idle_ok {s : St} (h : Ok s) : Ok (idle s) := ⟨h.m0, h.m1, Or.inl rfl, fun h => (by cases h), fun _ => ⟨rfl, rfl⟩, by show (0 : Int) ≤ 0; decide, by show (0 : Int) ≤ 65535; decide⟩
def ask (s : St) (t : Int) : St := has (on s) (-1) true (nx s) t
def askE (s : St) : List Ef := [say 1 (nx s) 127, tell 4 0]
theorem ask_ok {s : St} (h : Ok s) {t : Int} (h0 : 1 ≤ t) (h1 : t ≤ s.most) : Ok (ask s t) :=
  ⟨by show 1 ≤ (on s).most; rw [on_most]; exact h.m0, by show (on s).most ≤ 32; rw [on_most]; exact h.m1, Or.inl rfl, fun _ => ⟨rfl, h0, by show t ≤ (on s).most; rw [on_most]; exact h1⟩, fun h => (by cases h), nx_lo s, nx_hi s⟩
def loseE (s : St) : List Ef := [tell 2 s.tei]

/-! ### P16.1 -/
def wantN (s : St) : Int := if s.tei = -1 then if s.asks then 12 else 0 else 13
def want (s : St) : St × List Ef := if s.tei = -1 then if s.asks then (s, []) else (ask s 1, askE s) else (s, [])
/-! ### P16.2 -/
def good (ty ri ai : Int) : Bool := decide ((Go.Proofs.Ytdnhcpkpajbhoaa.Tm.putRes ty ri ai).2 = 0)
def meant (s : St) (ai : Int) : Bool := decide (s.tei ≠ -1) && (decide (ai = s.tei) || decide (ai = 127))
def mine (s : St) (ri ai : Int) : Bool := s.asks && (decide (ri = s.ri) && decide (64 ≤ ai ∧ ai ≤ 126))
def gone (s : St) (ai : Int) : Bool := decide (s.tei ≠ -1) && decide (ai = s.tei)
def assigned (s : St) (ri ai : Int) : St × List Ef :=
  if mine s ri ai then (has s ai false 0 0, [tell 5 0, tell 1 ai]) else if gone s ai then (idle s, loseE s) else (s, [])
def check (s : St) (ai : Int) : St × List Ef := if meant s ai then (on s, [say 5 (nx s) s.tei]) else (s, [])
def remove (s : St) (ai : Int) : St × List Ef := if meant s ai then (idle s, loseE s) else (s, [])
def message (s : St) (ty ri ai : Int) : St × List Ef :=
  if good ty ri ai then if ty = 2 then assigned s ri ai else if ty = 4 then check s ai else if ty = 6 then remove s ai else (s, []) else (s, [])
/-! ### P16.3 -/
def verifyN (s : St) : Int := if s.tei = -1 then 11 else 0
def verifyE (s : St) : List Ef := if s.tei = -1 then [] else [say 7 0 s.tei]
def dropN (s : St) : Int := if s.asks then 0 else if s.tei = -1 then 11 else 0
def drop (s : St) : St × List Ef := if s.asks then (idle s, [tell 5 0]) else if s.tei = -1 then (s, []) else (idle s, loseE s)
/-! ### P16.4 -/
def timeout (s : St) : St × List Ef := if s.asks then if s.tries = s.most then (idle s, [tell 3 0]) else (ask s (s.tries + 1), askE s) else (s, [])

theorem want_ok {s : St} (h : Ok s) : Ok (want s).1 := by
  unfold want
  split
  · split
    · exact h
    · exact ask_ok h (by decide) h.m0
  · exact h
theorem assigned_ok {s : St} (h : Ok s) (ri ai : Int) : Ok (assigned s ri ai).1 := by
  unfold assigned
  split
  · rename_i hm
    unfold mine at hm
    simp only [Bool.and_eq_true, decide_eq_true_eq] at hm
    exact ⟨h.m0, h.m1, Or.inr hm.2.2, fun h => (by cases h), fun _ => ⟨rfl, rfl⟩, by show (0 : Int) ≤ 0; decide, by show (0 : Int) ≤ 65535; decide⟩
  · split
    · exact idle_ok h
    · exact h
theorem check_ok {s : St} (h : Ok s) (ai : Int) : Ok (check s ai).1 := by
  unfold check
  split
  · exact on_ok h
  · exact h
theorem remove_ok {s : St} (h : Ok s) (ai : Int) : Ok (remove s ai).1 := by
  unfold remove
  split
  · exact idle_ok h
  · exact h
theorem message_ok {s : St} (h : Ok s) (ty ri ai : Int) : Ok (message s ty ri ai).1 := by
  unfold message
  split
  · split
    · exact assigned_ok h ri ai
    · split
      · exact check_ok h ai
      · split
        · exact remove_ok h ai
        · exact h
  · exact h
theorem drop_ok {s : St} (h : Ok s) : Ok (drop s).1 := by
  unfold drop
  split
  · exact idle_ok h
  · split
    · exact h
    · exact idle_ok h
theorem timeout_ok {s : St} (h : Ok s) : Ok (timeout s).1 := by
  unfold timeout
  split
  · rename_i ha
    obtain ⟨_, h1, h2⟩ := h.ask ha
    split
    · exact idle_ok h
    · exact ask_ok h (by omega) (by omega)
  · exact h
end Go.Proofs.Ytdnhcpkpajbhoaa.Um
