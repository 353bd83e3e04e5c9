/-
  What an entity tells when a frame comes: payloads and units just where they may be told; what is refused changes nothing; a frame that may not be changes nothing. It names nothing of the program.
  What an entity sends: frames of its own link that may be, with numbers and information that may be. It names nothing of the program.
  An entity that is removed; a call, or a release, that nobody answers; units that wait. It names nothing of the program.
-/
import Derived.Test.YtidemohpngkedabGreatDoorEntPlain
namespace Go.Proofs.YtidemohpngkedabGreatDoor.Em
set_option linter.unusedVariables false

/-- all that was told is so -/
def Al (P : Eff → Prop) (e : St) : Prop := ∀ x ∈ e.out, P x
theorem Al.add {P : Eff → Prop} {e : St} {x : Eff} (h : Al P e) (hx : P x) : Al P (add e x) := by
  intro y hy
  have : y ∈ e.out ++ [x] := hy
  simp at this
  rcases this with hy | rfl
  · exact h y hy
  · exact hx
section
variable {P : Eff → Prop} (hP : ∀ x : Eff, x.kind ≠ 5 → x.kind ≠ 6 → (x.kind = 0 → x.f.k ≠ 6) → P x)
include hP
theorem tell_al {e : St} (h : Al P e) (k : Int) (d : ByteArray) (h5 : k ≠ 5) (h6 : k ≠ 6) : Al P (tell e k d) := h.add (hP _ h5 h6 (fun _ => by show (0 : Int) ≠ 6; decide))
theorem send_al {e : St} (h : Al P e) (f : Fr) (hf : f.k ≠ 6) : Al P (send e f) := h.add (hP _ (by show (0 : Int) ≠ 5; decide) (by show (0 : Int) ≠ 6; decide) (fun _ => hf))
theorem start200_al {e : St} (h : Al P e) : Al P (start200 e) := Al.add (e := { e with t200 := true }) h (hP _ (by show (9 : Int) ≠ 5; decide) (by show (9 : Int) ≠ 6; decide) (fun _ => by show (0 : Int) ≠ 6; decide))
theorem start203_al {e : St} (h : Al P e) : Al P (start203 e) := Al.add (e := { e with t203 := true }) h (hP _ (by show (9 : Int) ≠ 5; decide) (by show (9 : Int) ≠ 6; decide) (fun _ => by show (0 : Int) ≠ 6; decide))
theorem stop200_al {e : St} (h : Al P e) : Al P (stop200 e) := by
  unfold stop200
  split
  · exact Al.add (e := { e with t200 := false }) h (hP _ (by show (10 : Int) ≠ 5; decide) (by show (10 : Int) ≠ 6; decide) (fun _ => by show (0 : Int) ≠ 6; decide))
  · exact h
theorem stop203_al {e : St} (h : Al P e) : Al P (stop203 e) := by
  unfold stop203
  split
  · exact Al.add (e := { e with t203 := false }) h (hP _ (by show (10 : Int) ≠ 5; decide) (by show (10 : Int) ≠ 6; decide) (fun _ => by show (0 : Int) ≠ 6; decide))
  · exact h
theorem call_al {e : St} (h : Al P e) : Al P (call e) := start200_al hP (stop203_al hP (send_al hP (e := { e with tries := 0 }) h (bare true 4 true) (by show (4 : Int) ≠ 6; decide)))
theorem anew_al {e : St} (h : Al P e) (l : ByteArray) : Al P (anew e l) := call_al hP (e := { tell e 7 l with asked := false }) (tell_al hP h 7 l (by decide) (by decide))
theorem goOne_al {e : St} (h : Al P e) : Al P (goOne e) := by
  have h1 : Al P (send { e with fl := Wm.takeT e.fl } ⟨0, 0, true, 0, false, Wm.takeN e.fl, 0, Wm.takeS e.fl⟩) := send_al hP (e := { e with fl := Wm.takeT e.fl }) h _ (by show (0 : Int) ≠ 6; decide)
  unfold goOne
  simp only []
  split
  · exact h1
  · exact start200_al hP (stop203_al hP h1)
theorem goN_al : ∀ (n : Nat) {e : St}, Al P e → Al P (goN n e)
  | 0, e, h => h
  | n + 1, e, h => by
    unfold goN
    split
    · exact goN_al n (goOne_al hP h)
    · exact h
theorem goOn_al {e : St} (h : Al P e) : Al P (goOn e) := by
  unfold goOn
  split
  · exact goN_al hP 128 h
  · exact h
theorem open_al {e : St} (h : Al P e) : Al P (open' e) := goOn_al hP (e := { start203 (stop200 { e with fl := Wm.resetT e.fl }) with state := 7 }) (start203_al hP (stop200_al hP (e := { e with fl := Wm.resetT e.fl }) h))
theorem answer_al {e : St} (h : Al P e) (c pf : Bool) : Al P (answer e c pf) := send_al hP h _ (by show (if e.fl.ow then (2 : Int) else 1) ≠ 6; split <;> decide)
theorem end_al {e : St} (h : Al P e) : Al P (end' e) := stop203_al hP (stop200_al hP (e := clear e) h)
theorem unsure_al {e : St} (h : Al P e) : Al P (unsure e) := by
  unfold unsure
  split
  · exact tell_al hP (e := clear e) h 1 _ (by decide) (by decide)
  · exact h
theorem count_al {e : St} (h : Al P e) (n : Int) : Al P (count e n) := by
  unfold count
  split
  · exact start203_al hP (stop200_al hP h)
  · split
    · exact start200_al hP h
    · exact h
theorem inAssigned_al {e : St} (h : Al P e) (f : Fr) : Al P (inAssigned e f) := by
  unfold inAssigned
  split
  · exact open_al hP (tell_al hP (send_al hP h (bare false 8 f.pf) (by show (8 : Int) ≠ 6; decide)) 1 _ (by decide) (by decide))
  · split
    · exact send_al hP h (bare false 5 f.pf) (by show (5 : Int) ≠ 6; decide)
    · split
      · exact tell_al hP h 7 _ (by decide) (by decide)
      · split
        · exact call_al hP (e := { e with asked := true }) h
        · exact h
theorem inConnecting_al {e : St} (h : Al P e) (f : Fr) : Al P (inConnecting e f) := by
  unfold inConnecting
  split
  · exact send_al hP h (bare false 8 f.pf) (by show (8 : Int) ≠ 6; decide)
  · split
    · exact send_al hP h (bare false 5 f.pf) (by show (5 : Int) ≠ 6; decide)
    · split
      · split
        · have h1 : Al P (if e.asked = true then tell e 2 ByteArray.empty else unsure e) := by
            split
            · exact tell_al hP h 2 _ (by decide) (by decide)
            · exact unsure_al hP h
          exact open_al hP (e := { (if e.asked = true then tell e 2 ByteArray.empty else unsure e) with asked := false }) h1
        · exact tell_al hP h 7 _ (by decide) (by decide)
      · split
        · exact end_al hP (tell_al hP h 3 _ (by decide) (by decide))
        · exact h
theorem inReleasing_al {e : St} (h : Al P e) (f : Fr) : Al P (inReleasing e f) := by
  unfold inReleasing
  split
  · exact send_al hP h (bare false 5 f.pf) (by show (5 : Int) ≠ 6; decide)
  · split
    · exact send_al hP h (bare false 8 f.pf) (by show (8 : Int) ≠ 6; decide)
    · split
      · split
        · exact end_al hP (tell_al hP h 4 _ (by decide) (by decide))
        · exact tell_al hP h 7 _ (by decide) (by decide)
      · split
        · exact end_al hP (tell_al hP h 4 _ (by decide) (by decide))
        · exact h
theorem super1_al {e : St} (h : Al P e) (f : Fr) : Al P (super1 e f) := by
  unfold super1
  simp only []
  have h1 : Al P (if (f.c && f.pf) = true then answer e false true else e) := by
    split
    · exact answer_al hP h _ _
    · exact h
  generalize (if (f.c && f.pf) = true then answer e false true else e) = e1 at h1
  have h2 : Al P (if (!f.c && f.pf && decide (e.state = 7)) = true then tell e1 7 (letter 65) else e1) := by
    split
    · exact tell_al hP h1 7 _ (by decide) (by decide)
    · exact h1
  exact h2
theorem super2_al {e : St} (h : Al P e) (f : Fr) (n : Int) : Al P (super2 e f n) := by
  unfold super2
  split
  · split
    · exact h
    · have h1 : Al P (if f.k = 2 then start200 e else start203 (stop200 e)) := by
        split
        · exact start200_al hP h
        · exact start203_al hP (stop200_al hP h)
      exact goOn_al hP (e := { (if f.k = 2 then start200 e else start203 (stop200 e)) with fl := Wm.backT (if f.k = 2 then start200 e else start203 (stop200 e)).fl, state := 7 }) h1
  · refine goOn_al hP ?_
    split
    · exact count_al hP h n
    · split
      · exact start200_al hP (stop203_al hP h)
      · exact start203_al hP (stop200_al hP h)
theorem supervised_al {e : St} (h : Al P e) (f : Fr) : Al P (supervised e f) := by
  have h1 : Al P { super1 e f with fl := Wm.ackT (super1 e f).fl f.nr } := super1_al hP h f
  unfold supervised
  simp only []
  split
  · exact super2_al hP h1 f _
  · exact anew_al hP h1 _
/-- an I frame: what it tells may be a payload -/
theorem info_al {e : St} (h : Al P e) (f : Fr) (h5 : Wm.comeN e.fl f.ns = 0 → P ⟨5, fr0, f.info, 0⟩) : Al P (info e f) := by
  have h0 : Al P (info1 e f) := by
    have h1 : Al P { e with fl := Wm.comeT e.fl f.ns } := h
    unfold info1
    simp only []
    split
    · rename_i hg
      exact answer_al hP (h1.add (h5 hg)) _ _
    · split
      · exact send_al hP h1 (bare false 3 f.pf) (by show (3 : Int) ≠ 6; decide)
      · split
        · exact answer_al hP h1 _ _
        · exact h1
  have h1 : Al P { info1 e f with fl := Wm.ackT (info1 e f).fl f.nr } := h0
  unfold info
  simp only []
  split
  · split
    · refine goOn_al hP ?_
      split
      · exact h1
      · exact count_al hP h1 _
    · exact h1
  · exact anew_al hP h1 _
theorem inOpen_al {e : St} (h : Al P e) (f : Fr) (h5 : f.k = 0 → Wm.comeN e.fl f.ns = 0 → P ⟨5, fr0, f.info, 0⟩) : Al P (inOpen e f) := by
  unfold inOpen
  split
  · exact open_al hP (unsure_al hP (tell_al hP (send_al hP h (bare false 8 f.pf) (by show (8 : Int) ≠ 6; decide)) 7 _ (by decide) (by decide)))
  · split
    · exact end_al hP (tell_al hP (send_al hP h (bare false 8 f.pf) (by show (8 : Int) ≠ 6; decide)) 3 _ (by decide) (by decide))
    · split
      · exact tell_al hP h 7 _ (by decide) (by decide)
      · split
        · exact anew_al hP h _
        · split
          · exact anew_al hP h _
          · split
            · rename_i hk
              exact info_al hP h f (h5 hk)
            · exact supervised_al hP h f
theorem establish_al {e : St} (h : Al P e) : Al P (establish e).1 := by
  unfold establish
  split
  · exact tell_al hP (e := { e with state := 3 }) h 8 _ (by decide) (by decide)
  · split
    · exact h
    · split
      · exact h
      · split
        · exact h
        · split
          · exact call_al hP (e := { e with asked := true }) h
          · split
            · exact call_al hP (e := { clear e with asked := true }) h
            · exact h
theorem release_al {e : St} (h : Al P e) : Al P (release e).1 := by
  unfold release
  split
  · exact tell_al hP h 4 _ (by decide) (by decide)
  · split
    · exact start200_al hP (stop203_al hP (send_al hP (e := { clear e with tries := 0 }) h (bare true 7 true) (by show (7 : Int) ≠ 6; decide)))
    · exact h
theorem data_al {e : St} (h : Al P e) (s : ByteArray) : Al P (data e s).1 := by
  unfold data
  split
  · show Al P (if Qm.pushN e.fl.mo e.fl.L s = 0 then goOn { e with fl := Wm.pushT e.fl s } else e)
    split
    · exact goOn_al hP (e := { e with fl := Wm.pushT e.fl s }) h
    · exact h
  · exact h
theorem busy_al {e : St} (h : Al P e) (b : Bool) : Al P (busy e b).1 := by
  unfold busy
  split
  · show Al P (if e.fl.ow = b then e else answer { e with fl := Wm.ownT e.fl b } false false)
    split
    · exact h
    · exact answer_al hP (e := { e with fl := Wm.ownT e.fl b }) h _ _
  · exact h
theorem ask_al {e : St} (a : Int) (s : ByteArray) (h3 : a ≠ 3) : Al P (ask e a s).1 := by
  have h0 : Al P { e with out := [] } := fun x hx => by simp at hx
  unfold ask
  simp only []
  split
  · exact h0
  · split
    · exact h0
    · split
      · exact establish_al hP h0
      · split
        · exact release_al hP h0
        · split
          · exact data_al hP h0 s
          · first
            | (split
               · exact absurd (by assumption) h3
               · exact busy_al hP h0 _)
            | exact busy_al hP h0 _
theorem again_al {e : St} (h : Al P e) (k : Int) (l : ByteArray) (g : Int) (hk : k ≠ 6) (h5 : g ≠ 5) (h6 : g ≠ 6) : Al P (again e k l g) := by
  unfold again
  split
  · exact end_al hP (tell_al hP (tell_al hP h 7 l (by decide) (by decide)) g _ h5 h6)
  · exact start200_al hP (send_al hP (e := { e with tries := e.tries + 1 }) h (bare true k true) hk)
theorem inquire_al {e : St} (h : Al P e) : Al P (inquire e) := start200_al hP (answer_al hP h _ _)
theorem asks_al {e : St} (h : Al P e) : Al P (asks e) := inquire_al hP (e := { e with tries := 0 }) h
theorem timeout_al {e : St} (t : Int) : Al P (timeout e t) := by
  have h0 : ∀ e' : St, e'.out = [] → Al P e' := fun e' he x hx => by rw [he] at hx; simp at hx
  unfold timeout
  simp only []
  split
  · split
    · split
      · exact asks_al hP (h0 _ rfl)
      · exact h0 _ rfl
    · exact h0 _ rfl
  · split
    · split
      · exact again_al hP (h0 _ rfl) _ _ _ (by decide) (by decide) (by decide)
      · split
        · exact again_al hP (h0 _ rfl) _ _ _ (by decide) (by decide) (by decide)
        · split
          · exact asks_al hP (h0 _ rfl)
          · split
            · split
              · exact anew_al hP (h0 _ rfl) _
              · exact inquire_al hP (h0 _ rfl)
            · exact h0 _ rfl
    · exact h0 _ rfl
/-- a frame that is no UI: but for payloads -/
theorem frame_al {e : St} (may : Bool) (f : Fr) (h6 : f.k ≠ 6) (h5 : P ⟨5, fr0, f.info, 0⟩) : Al P (frame e may f) := by
  have h0 : Al P { e with out := [] } := fun x hx => by simp at hx
  unfold frame
  simp only []
  split
  · exact h0
  · skip
    split
    · exact inAssigned_al hP h0 _
    · split
      · exact inConnecting_al hP h0 _
      · split
        · exact inReleasing_al hP h0 _
        · exact inOpen_al hP h0 _ (fun _ _ => h5)
end
theorem come_next {σ : Wm.St} {n : Int} (h : Wm.comeN σ n = 0) : Sm.nm n = σ.vr := by
  unfold Wm.comeN at h
  split at h
  · omega
  · split at h
    · assumption
    · split at h <;> omega
/-- payloads are told with a link alone, each of the I frame whose turn it is; units with a TEI alone -/
theorem frame_tells {e : St} (h : Ok e) (may : Bool) (f : Fr) : ∀ x ∈ (frame e may f).out, (x.kind = 5 → 7 ≤ e.state ∧ x.data = f.info ∧ f.k = 0 ∧ Sm.nm f.ns = e.fl.vr) ∧ (x.kind = 6 → 0 ≤ e.tei ∧ x.data = f.info) := by
  have hP : ∀ x : Eff, x.kind ≠ 5 → x.kind ≠ 6 → (x.kind = 0 → x.f.k ≠ 6) → ((x.kind = 5 → 7 ≤ e.state ∧ x.data = f.info ∧ f.k = 0 ∧ Sm.nm f.ns = e.fl.vr) ∧ (x.kind = 6 → 0 ≤ e.tei ∧ x.data = f.info)) := fun x h5 h6 _ => ⟨fun hx => absurd hx h5, fun hx => absurd hx h6⟩
  have h0 : Al (fun x => (x.kind = 5 → 7 ≤ e.state ∧ x.data = f.info ∧ f.k = 0 ∧ Sm.nm f.ns = e.fl.vr) ∧ (x.kind = 6 → 0 ≤ e.tei ∧ x.data = f.info)) { e with out := [] } := fun x hx => by simp at hx
  show Al (fun x => (x.kind = 5 → 7 ≤ e.state ∧ x.data = f.info ∧ f.k = 0 ∧ Sm.nm f.ns = e.fl.vr) ∧ (x.kind = 6 → 0 ≤ e.tei ∧ x.data = f.info)) (frame e may f)
  unfold frame
  simp only []
  split
  · exact h0
  · rename_i hm
    have ht : 0 ≤ e.tei := by
      rcases (show e.tei < 0 ∨ 0 ≤ e.tei by omega) with h1 | h1
      · exact absurd (Or.inl h1) hm
      · exact h1
    have h4 : 4 ≤ e.state := by
      rcases (show e.state ≤ 3 ∨ 4 ≤ e.state by omega) with h3 | h3
      · have := h.lo h3
        omega
      · exact h3
    split
    · exact h0.add ⟨fun hx => by have : (6 : Int) = 5 := hx; omega, fun _ => ⟨ht, rfl⟩⟩
    · split
      · exact inAssigned_al hP h0 _
      · split
        · exact inConnecting_al hP h0 _
        · split
          · exact inReleasing_al hP h0 _
          · rename_i g4 g5 g6
            refine inOpen_al hP h0 _ (fun hk hg => ⟨fun _ => ⟨?_, rfl, hk, ?_⟩, fun hx => by have : (5 : Int) = 6 := hx; omega⟩)
            · have a4 : ¬ e.state = 4 := g4
              have a5 : ¬ e.state = 5 := g5
              have a6 : ¬ e.state = 6 := g6
              omega
            · have hn := come_next hg
              have e2 : Sm.nm (Sm.nm f.ns) = Sm.nm f.ns := by unfold Sm.nm; omega
              exact e2.symm.trans hn
theorem establish_ref (e : St) : (establish e).2 = 0 ∨ (establish e).1 = e := by
  unfold establish
  repeat' split
  all_goals first | exact Or.inl rfl | exact Or.inr rfl
theorem release_ref (e : St) : (release e).2 = 0 ∨ (release e).1 = e := by
  unfold release
  repeat' split
  all_goals first | exact Or.inl rfl | exact Or.inr rfl
theorem data_ref (e : St) (s : ByteArray) : (data e s).2 = 0 ∨ (data e s).1 = e := by
  unfold data
  split
  · by_cases h : Qm.pushN e.fl.mo e.fl.L s = 0
    · exact Or.inl h
    · exact Or.inr (by show (if Qm.pushN e.fl.mo e.fl.L s = 0 then _ else _) = _; rw [if_neg h])
  · exact Or.inr rfl
theorem units_ref (e : St) (s : ByteArray) : (units e s).2 = 0 ∨ (units e s).1 = e := by
  unfold units
  repeat' split
  all_goals first | exact Or.inl rfl | exact Or.inr rfl
theorem busy_ref (e : St) (b : Bool) : (busy e b).2 = 0 ∨ (busy e b).1 = e := by
  unfold busy
  split
  · exact Or.inl rfl
  · exact Or.inr rfl
/-- what is refused changes nothing -/
theorem ask_refused {e : St} (a : Int) (s : ByteArray) (h : (ask e a s).2 ≠ 0) : (ask e a s).1 = { e with out := [] } := by
  have key : (ask e a s).2 = 0 ∨ (ask e a s).1 = { e with out := [] } := by
    unfold ask
    simp only []
    split
    · exact Or.inr rfl
    · split
      · exact Or.inr rfl
      · split
        · exact establish_ref _
        · split
          · exact release_ref _
          · split
            · exact data_ref _ s
            · split
              · exact units_ref _ s
              · exact busy_ref _ _
  exact key.resolve_left h
/-- a frame that may not be, or that comes ahead of a TEI -/
theorem frame_deaf {e : St} {may : Bool} (f : Fr) (h : e.tei < 0 ∨ may = false) : frame e may f = { e with out := [] } := by
  unfold frame
  simp only []
  rw [if_pos h]
end Go.Proofs.YtidemohpngkedabGreatDoor.Em

namespace Go.Proofs.YtidemohpngkedabGreatDoor.Em
set_option linter.unusedVariables false

/-- a frame as it is made, ahead of its link and its N(R) -/
def Made (f : Fr) : Prop :=
  f.sapi = 0 ∧ ((f.k = 0 ∧ f.c = true ∧ f.info.size ≤ 260 ∧ 0 ≤ f.ns ∧ f.ns ≤ 127) ∨
    (f.ns = 0 ∧ f.nr = 0 ∧ ((f.k = 6 ∧ f.c = true ∧ f.pf = false ∧ f.info.size ≤ 260) ∨
      (f.info = ByteArray.empty ∧ (f.k = 1 ∨ f.k = 2 ∨ f.k = 3 ∨ (f.k = 4 ∧ f.c = true) ∨ (f.k = 7 ∧ f.c = true) ∨ (f.k = 5 ∧ f.c = false) ∨ (f.k = 8 ∧ f.c = false))))))
/-- a frame that was sent, of that TEI -/
def Sent (tei : Int) (f : Fr) : Prop := f.tei = tei ∧ 0 ≤ tei ∧ tei ≤ 126 ∧ 0 ≤ f.nr ∧ f.nr ≤ 127 ∧ (f.k = 0 ∨ f.k = 1 ∨ f.k = 2 ∨ f.k = 3 ∨ f.nr = 0) ∧ ∃ m, Made m ∧ f = { m with tei := f.tei, nr := f.nr }
def Good (tei : Int) (x : Eff) : Prop := x.kind = 0 → Sent tei x.f
/-- an entity with a TEI, what it told so far is good -/
structure Gd (T : Int) (e : St) : Prop where
  ok : Ok e
  h4 : 4 ≤ e.state
  t : e.tei = T
  g : ∀ x ∈ e.out, Good T x
theorem mem_add {e : St} {x y : Eff} (h : y ∈ (add e x).out) : y ∈ e.out ∨ y = x := by
  have : y ∈ e.out ++ [x] := h
  simpa using this
theorem Gd.tell {T : Int} {e : St} (h : Gd T e) (k : Int) (d : ByteArray) (hk : k ≠ 0) : Gd T (tell e k d) := by
  refine ⟨h.ok.keep (tell_keep e k d), h.h4, h.t, fun x hx => ?_⟩
  rcases mem_add hx with hx | rfl
  · exact h.g x hx
  · exact fun h0 => absurd h0 hk
theorem Gd.start200 {T : Int} {e : St} (h : Gd T e) : Gd T (start200 e) := by
  refine ⟨h.ok.keep (start200_keep e), h.h4, h.t, fun x hx => ?_⟩
  rcases mem_add hx with hx | rfl
  · exact h.g x hx
  · exact fun h0 => absurd h0 (by decide)
theorem Gd.start203 {T : Int} {e : St} (h : Gd T e) : Gd T (start203 e) := by
  refine ⟨h.ok.keep (start203_keep e), h.h4, h.t, fun x hx => ?_⟩
  rcases mem_add hx with hx | rfl
  · exact h.g x hx
  · exact fun h0 => absurd h0 (by decide)
theorem Gd.stop200 {T : Int} {e : St} (h : Gd T e) : Gd T (stop200 e) := by
  refine ⟨h.ok.keep (stop200_keep e), by rw [(stop200_keep e).state]; exact h.h4, (stop200_keep e).tei.trans h.t, fun x hx => ?_⟩
  unfold Em.stop200 at hx
  split at hx
  · rcases mem_add hx with hx | rfl
    · exact h.g x hx
    · exact fun h0 => absurd h0 (by decide)
  · exact h.g x hx
theorem Gd.stop203 {T : Int} {e : St} (h : Gd T e) : Gd T (stop203 e) := by
  refine ⟨h.ok.keep (stop203_keep e), by rw [(stop203_keep e).state]; exact h.h4, (stop203_keep e).tei.trans h.t, fun x hx => ?_⟩
  unfold Em.stop203 at hx
  split at hx
  · rcases mem_add hx with hx | rfl
    · exact h.g x hx
    · exact fun h0 => absurd h0 (by decide)
  · exact h.g x hx
theorem Gd.send {T : Int} {e : St} (h : Gd T e) (f : Fr) (hm : Made f) : Gd T (send e f) := by
  refine ⟨h.ok.keep (send_keep e f), h.h4, h.t, fun x hx => ?_⟩
  rcases mem_add hx with hx | rfl
  · exact h.g x hx
  · intro _
    have ht := h.ok.hi h.h4
    rw [h.t] at ht
    have v0 := h.ok.fl.ok.vr0
    have v1 := h.ok.fl.ok.vr1
    refine ⟨h.t, ht.1, ht.2, ?_, ?_, ?_, f, hm, rfl⟩
    · show 0 ≤ (if numbered f.k = true then e.fl.vr else f.nr)
      split
      · exact v0
      · rename_i hn
        rcases hm.2 with h0 | h0
        · exact absurd (decide_eq_true (by omega)) hn
        · rw [h0.2.1]; exact Int.le_refl 0
    · show (if numbered f.k = true then e.fl.vr else f.nr) ≤ 127
      split
      · exact v1
      · rename_i hn
        rcases hm.2 with h0 | h0
        · exact absurd (decide_eq_true (by omega)) hn
        · rw [h0.2.1]; decide
    · show f.k = 0 ∨ f.k = 1 ∨ f.k = 2 ∨ f.k = 3 ∨ (if numbered f.k = true then e.fl.vr else f.nr) = 0
      by_cases hn : numbered f.k = true
      · have := of_decide_eq_true hn
        omega
      · rw [if_neg hn]
        rcases hm.2 with h0 | h0
        · exact Or.inl h0.1
        · exact Or.inr (Or.inr (Or.inr (Or.inr h0.2.1)))
theorem Gd.flow {T : Int} {e : St} (h : Gd T e) {σ : Wm.St} (hσ : FlOk σ) (hL : e.state ≤ 4 ∨ e.state = 6 → σ.L = []) : Gd T { e with fl := σ } := ⟨h.ok.flow hσ hL, h.h4, h.t, h.g⟩
theorem Gd.to {T : Int} {e : St} (h : Gd T e) (s : Int) (hs0 : 4 ≤ s) (hs1 : s ≤ 8) (hL : s = 4 ∨ s = 6 → e.fl.L = []) : Gd T { e with state := s } := ⟨h.ok.to s h.h4 hs0 hs1 hL, hs0, h.t, h.g⟩
theorem Gd.asked {T : Int} {e : St} (h : Gd T e) (b : Bool) : Gd T { e with asked := b } := ⟨h.ok.asks b, h.h4, h.t, h.g⟩
theorem Gd.tried {T : Int} {e : St} (h : Gd T e) (n : Int) (h0 : 0 ≤ n) (h1 : n ≤ e.most) : Gd T { e with tries := n } := ⟨h.ok.tried n h0 h1, h.h4, h.t, h.g⟩
theorem Gd.timed {T : Int} {e : St} (h : Gd T e) (a b : Bool) : Gd T { e with t200 := a, t203 := b } := ⟨timed_ok h.ok a b, h.h4, h.t, h.g⟩
theorem Gd.clear {T : Int} {e : St} (h : Gd T e) : Gd T (clear e) := h.flow h.ok.fl.clear (fun _ => rfl)
theorem bare_made (c : Bool) (k : Int) (pf : Bool) (hk : k = 1 ∨ k = 2 ∨ k = 3 ∨ (k = 4 ∧ c = true) ∨ (k = 7 ∧ c = true) ∨ (k = 5 ∧ c = false) ∨ (k = 8 ∧ c = false)) : Made (bare c k pf) := ⟨rfl, Or.inr ⟨rfl, rfl, Or.inr ⟨rfl, hk⟩⟩⟩
theorem call_gd {T : Int} {e : St} (h : Gd T e) : Gd T (call e) := by
  have h1 := (((h.tried 0 (Int.le_refl 0) (by have := h.ok.m0; omega)).send (bare true 4 true) (bare_made _ _ _ (by simp))).stop203).start200
  exact h1.to 5 (by omega) (by omega) (fun hx => by omega)
theorem anew_gd {T : Int} {e : St} (h : Gd T e) (l : ByteArray) : Gd T (anew e l) := call_gd ((h.tell 7 l (by decide)).asked false)
theorem takeS_size {σ : Wm.St} (h : FlOk σ) : (Wm.takeS σ).size ≤ 260 := by
  unfold Wm.takeS
  split
  · rename_i hb
    unfold Wm.takeB at hb
    simp at hb
    have hlt := hb.2.2
    have hm : σ.L.getD σ.sn ByteArray.empty ∈ σ.L := by
      rw [List.getD, List.getElem?_eq_getElem hlt]
      exact List.getElem_mem _
    exact h.sz _ hm
  · exact Nat.zero_le _
theorem takeN_bd {σ : Wm.St} (h : FlOk σ) : 0 ≤ Wm.takeN σ ∧ Wm.takeN σ ≤ 127 := by
  unfold Wm.takeN
  split
  · exact ⟨h.ok.vs0, h.ok.vs1⟩
  · decide
theorem goOne_gd {T : Int} {e : St} (h : Gd T e) (h7 : e.state = 7) : Gd T (goOne e) ∧ (goOne e).state = 7 := by
  have hn := takeN_bd h.ok.fl
  have h1 := (h.flow h.ok.fl.take (fun hx => by omega)).send ⟨0, 0, true, 0, false, Wm.takeN e.fl, 0, Wm.takeS e.fl⟩ ⟨rfl, Or.inl ⟨rfl, rfl, takeS_size h.ok.fl, hn.1, hn.2⟩⟩
  have hs := (goOne_ok h.ok h7).2
  refine ⟨?_, hs⟩
  unfold goOne
  simp only []
  split
  · exact h1
  · exact h1.stop203.start200
theorem goN_gd {T : Int} : ∀ (n : Nat) {e : St}, Gd T e → e.state = 7 → Gd T (goN n e)
  | 0, e, h, h7 => h
  | n + 1, e, h, h7 => by
    unfold goN
    split
    · obtain ⟨h1, h2⟩ := goOne_gd h h7
      exact goN_gd n h1 h2
    · exact h
theorem goOn_gd {T : Int} {e : St} (h : Gd T e) : Gd T (goOn e) := by
  unfold goOn
  split
  · rename_i h7
    exact goN_gd 128 h h7
  · exact h
theorem open_gd {T : Int} {e : St} (h : Gd T e) : Gd T (open' e) := by
  have h1 := ((h.flow h.ok.fl.reset (fun hx => h.ok.ql hx)).stop200).start203
  exact goOn_gd (h1.to 7 (by omega) (by omega) (fun hx => by omega))
theorem answer_gd {T : Int} {e : St} (h : Gd T e) (c pf : Bool) : Gd T (answer e c pf) := h.send _ (bare_made _ _ _ (by split <;> simp))
theorem inquire_gd {T : Int} {e : St} (h : Gd T e) : Gd T (inquire e) := (answer_gd h true true).start200
theorem end_gd {T : Int} {e : St} (h : Gd T e) : Gd T (end' e) := by
  have hk := (stop200_keep (clear e)).trans (stop203_keep _)
  exact (h.clear.stop200.stop203).to 4 (by omega) (by omega) (fun _ => by rw [hk.fl]; rfl)
theorem unit_gd {T : Int} {e : St} (h : Gd T e) (s : ByteArray) (hs : s.size ≤ 260) : Gd T (unit e s) := h.send _ ⟨rfl, Or.inr ⟨rfl, rfl, Or.inl ⟨rfl, rfl, rfl, hs⟩⟩⟩
theorem reply_gd {T : Int} {e : St} (h : Gd T e) (k : Int) (f : Fr) (hk : k = 5 ∨ k = 8) : Gd T (reply e k f) := h.send _ (bare_made _ _ _ (by rcases hk with rfl | rfl <;> simp))
theorem unsure_gd {T : Int} {e : St} (h : Gd T e) : Gd T (unsure e) := by
  unfold unsure
  split
  · exact h.clear.tell 1 _ (by decide)
  · exact h
theorem strange_gd {T : Int} {e : St} (h : Gd T e) (f : Fr) : Gd T (strange e f) := h.tell 7 _ (by decide)
theorem count_gd {T : Int} {e : St} (h : Gd T e) (n : Int) : Gd T (count e n) := by
  unfold count
  split
  · exact h.stop200.start203
  · split
    · exact h.start200
    · exact h
theorem establish_gd {T : Int} {e : St} (h : Gd T e) : Gd T (establish e).1 := by
  unfold establish
  split
  · rename_i hs; have := h.h4; omega
  · split
    · rename_i hs; have := h.h4; omega
    · split
      · exact h
      · split
        · exact h.clear.asked true
        · split
          · exact call_gd (h.asked true)
          · split
            · exact call_gd (h.clear.asked true)
            · exact h
theorem release_gd {T : Int} {e : St} (h : Gd T e) : Gd T (release e).1 := by
  unfold release
  split
  · exact h.tell 4 _ (by decide)
  · split
    · have hk := ((send_keep { clear e with tries := 0 } (bare true 7 true)).trans (stop203_keep _)).trans (start200_keep _)
      have h1 := (((h.clear.tried 0 (Int.le_refl 0) (by have := h.ok.m0; show (0 : Int) ≤ e.most; omega)).send (bare true 7 true) (bare_made _ _ _ (by simp))).stop203).start200
      exact h1.to 6 (by omega) (by omega) (fun _ => by rw [hk.fl]; rfl)
    · exact h
theorem data_gd {T : Int} {e : St} (h : Gd T e) (s : ByteArray) : Gd T (data e s).1 := by
  unfold data
  split
  · rename_i hm
    show Gd T (if Qm.pushN e.fl.mo e.fl.L s = 0 then goOn { e with fl := Wm.pushT e.fl s } else e)
    split
    · refine goOn_gd (h.flow (h.ok.fl.push s) (fun hx => ?_))
      unfold mayData at hm
      simp at hm
      omega
    · exact h
  · exact h
theorem units_gd {T : Int} {e : St} (h : Gd T e) (s : ByteArray) (hs : s.size ≤ 260) : Gd T (units e s).1 := by
  unfold units
  split
  · exact unit_gd h s hs
  · rename_i h4
    exact absurd h.h4 h4
theorem busy_gd {T : Int} {e : St} (h : Gd T e) (b : Bool) : Gd T (busy e b).1 := by
  unfold busy
  split
  · show Gd T (if e.fl.ow = b then e else answer { e with fl := Wm.ownT e.fl b } false false)
    split
    · exact h
    · exact answer_gd (h.flow (h.ok.fl.own b) (fun hx => by omega)) _ _
  · exact h
/-- ahead of a call nothing is told -/
theorem Gd.fresh {e : St} (h : Ok e) (h4 : 4 ≤ e.state) : Gd e.tei { e with out := [] } := ⟨h.fresh [], h4, rfl, fun x hx => by simp at hx⟩
/-- an entity without a TEI sends nothing when it is asked -/
theorem ask_low {e : St} (h : Ok e) (h3 : e.state ≤ 3) (a : Int) (s : ByteArray) : ∀ x ∈ (ask e a s).1.out, x.kind ≠ 0 := by
  have hnil : ∀ x ∈ ([] : List Eff), x.kind ≠ 0 := fun x hx => by simp at hx
  have hone : ∀ k : Int, k ≠ 0 → ∀ x ∈ ([] : List Eff) ++ [(⟨k, fr0, ByteArray.empty, 0⟩ : Eff)], x.kind ≠ 0 := by
    intro k hk x hx
    simp at hx
    subst hx
    exact hk
  unfold ask
  simp only []
  split
  · exact hnil
  · split
    · exact hnil
    · split
      · unfold establish
        split
        · exact hone 8 (by decide)
        · split
          · exact hnil
          · split
            · exact hnil
            · split
              · rename_i hx; have hx' : e.state = 5 := hx; omega
              · split
                · rename_i hx; have hx' : e.state = 4 := hx; omega
                · split
                  · rename_i hx; have hx' : e.state = 7 ∨ e.state = 8 := hx; omega
                  · exact hnil
      · split
        · unfold release
          split
          · rename_i hx; have hx' : e.state = 4 := hx; omega
          · split
            · rename_i hx; have hx' : e.state = 7 ∨ e.state = 8 := hx; omega
            · exact hnil
        · split
          · unfold data
            split
            · rename_i hm
              unfold mayData at hm
              simp at hm
              omega
            · exact hnil
          · split
            · unfold units
              split
              · rename_i hx; have hx' : 4 ≤ e.state := hx; omega
              · split
                · exact hnil
                · split
                  · exact hone 8 (by decide)
                  · exact hnil
            · unfold busy
              split
              · rename_i hx; have hx' : e.state = 7 ∨ e.state = 8 := hx; omega
              · exact hnil
theorem ask_gd {e : St} (h : Ok e) (h4 : 4 ≤ e.state) (a : Int) (s : ByteArray) : Gd e.tei (ask e a s).1 := by
  have h0 := Gd.fresh h h4
  unfold ask
  simp only []
  split
  · exact h0
  · split
    · exact h0
    · split
      · exact establish_gd h0
      · split
        · exact release_gd h0
        · split
          · exact data_gd h0 s
          · split
            · exact units_gd h0 s (by omega)
            · exact busy_gd h0 _
/-- whatever an entity sends when it is asked is of its own link, and may be -/
theorem ask_sent {e : St} (h : Ok e) (a : Int) (s : ByteArray) : ∀ x ∈ (ask e a s).1.out, x.kind = 0 → Sent e.tei x.f ∧ (ask e a s).1.tei = e.tei := by
  intro x hx h0
  rcases (show e.state ≤ 3 ∨ 4 ≤ e.state by omega) with h3 | h4
  · exact absurd h0 (ask_low h h3 a s x hx)
  · have hg := ask_gd h h4 a s
    exact ⟨hg.g x hx h0, hg.t⟩
theorem inAssigned_gd {T : Int} {e : St} (h : Gd T e) (f : Fr) : Gd T (inAssigned e f) := by
  unfold inAssigned
  split
  · exact open_gd ((reply_gd h 8 f (Or.inr rfl)).tell 1 _ (by decide))
  · split
    · exact reply_gd h 5 f (Or.inl rfl)
    · split
      · exact strange_gd h f
      · split
        · exact call_gd (h.asked true)
        · exact h
theorem inConnecting_gd {T : Int} {e : St} (h : Gd T e) (f : Fr) : Gd T (inConnecting e f) := by
  unfold inConnecting
  split
  · exact reply_gd h 8 f (Or.inr rfl)
  · split
    · exact reply_gd h 5 f (Or.inl rfl)
    · split
      · split
        · refine open_gd (Gd.asked ?_ false)
          split
          · exact h.tell 2 _ (by decide)
          · exact unsure_gd h
        · exact h.tell 7 _ (by decide)
      · split
        · exact end_gd (h.tell 3 _ (by decide))
        · exact h
theorem inReleasing_gd {T : Int} {e : St} (h : Gd T e) (f : Fr) : Gd T (inReleasing e f) := by
  unfold inReleasing
  split
  · exact reply_gd h 5 f (Or.inl rfl)
  · split
    · exact reply_gd h 8 f (Or.inr rfl)
    · split
      · split
        · exact end_gd (h.tell 4 _ (by decide))
        · exact h.tell 7 _ (by decide)
      · split
        · exact end_gd (h.tell 4 _ (by decide))
        · exact h
theorem super1_gd {T : Int} {e : St} (h : Gd T e) (h7 : 7 ≤ e.state) (f : Fr) : Gd T (super1 e f) := by
  have hs := (super1_ok h.ok h7 f)
  unfold super1
  simp only []
  have g1 : Gd T (if (f.c && f.pf) = true then answer e false true else e) ∧ (if (f.c && f.pf) = true then answer e false true else e).state = e.state := by
    split
    · exact ⟨answer_gd h _ _, rfl⟩
    · exact ⟨h, rfl⟩
  generalize (if (f.c && f.pf) = true then answer e false true else e) = e1 at g1
  have g2 : Gd T (if (!f.c && f.pf && decide (e.state = 7)) = true then tell e1 7 (letter 65) else e1) ∧ (if (!f.c && f.pf && decide (e.state = 7)) = true then tell e1 7 (letter 65) else e1).state = e.state := by
    split
    · exact ⟨g1.1.tell 7 _ (by decide), g1.2⟩
    · exact g1
  generalize (if (!f.c && f.pf && decide (e.state = 7)) = true then tell e1 7 (letter 65) else e1) = e2 at g2
  exact g2.1.flow (g2.1.ok.fl.peer _) (fun hx => by have := g2.2; omega)
theorem back_gd {T : Int} {e : St} (h : Gd T e) (h7 : 7 ≤ e.state) : Gd T { e with fl := Wm.backT e.fl } := h.flow h.ok.fl.back (fun hx => by omega)
theorem super2_gd {T : Int} {e : St} (h : Gd T e) (h7 : 7 ≤ e.state) (f : Fr) (n : Int) : Gd T (super2 e f n) := by
  unfold super2
  split
  · split
    · exact h
    · have g1 : Gd T (if f.k = 2 then start200 e else start203 (stop200 e)) ∧ (if f.k = 2 then start200 e else start203 (stop200 e)).state = e.state := by
        split
        · exact ⟨h.start200, rfl⟩
        · exact ⟨h.stop200.start203, (stop200_keep e).state⟩
      generalize (if f.k = 2 then start200 e else start203 (stop200 e)) = e1 at g1
      exact goOn_gd ((back_gd g1.1 (by have := g1.2; omega)).to 7 (by omega) (by omega) (fun hx => by omega))
  · refine goOn_gd ?_
    split
    · exact count_gd h n
    · split
      · exact h.stop203.start200
      · exact back_gd h.stop200.start203 (by show 7 ≤ (stop200 e).state; rw [(stop200_keep e).state]; exact h7)
theorem acked_gd {T : Int} {e : St} (h : Gd T e) (h7 : 7 ≤ e.state) (n : Int) : Gd T { e with fl := Wm.ackT e.fl n } := h.flow (h.ok.fl.ack n) (fun hx => by omega)
theorem supervised_gd {T : Int} {e : St} (h : Gd T e) (h7 : 7 ≤ e.state) (f : Fr) : Gd T (supervised e f) := by
  have hs := (super1_ok h.ok h7 f).2
  have h1 := acked_gd (super1_gd h h7 f) (by rw [hs]; exact h7) f.nr
  unfold supervised
  simp only []
  split
  · exact super2_gd h1 (by show 7 ≤ (super1 e f).state; rw [hs]; exact h7) f _
  · exact anew_gd h1 _
theorem info1_gd {T : Int} {e : St} (h : Gd T e) (h7 : 7 ≤ e.state) (f : Fr) : Gd T (info1 e f) := by
  have h1 : Gd T { e with fl := Wm.comeT e.fl f.ns } := h.flow (h.ok.fl.come f.ns) (fun hx => by omega)
  unfold info1
  simp only []
  split
  · exact answer_gd (h1.tell 5 _ (by decide)) _ _
  · split
    · exact h1.send _ (bare_made _ _ _ (by simp))
    · split
      · exact answer_gd h1 _ _
      · exact h1
theorem info_gd {T : Int} {e : St} (h : Gd T e) (h7 : 7 ≤ e.state) (f : Fr) : Gd T (info e f) := by
  have hs := (info1_ok h.ok h7 f).2
  have h1 := acked_gd (info1_gd h h7 f) (by rw [hs]; exact h7) f.nr
  unfold info
  simp only []
  split
  · split
    · refine goOn_gd ?_
      split
      · exact h1
      · exact count_gd h1 _
    · exact h1
  · exact anew_gd h1 _
theorem inOpen_gd {T : Int} {e : St} (h : Gd T e) (h7 : 7 ≤ e.state) (f : Fr) : Gd T (inOpen e f) := by
  unfold inOpen
  split
  · exact open_gd (unsure_gd ((reply_gd h 8 f (Or.inr rfl)).tell 7 _ (by decide)))
  · split
    · exact end_gd ((reply_gd h 8 f (Or.inr rfl)).tell 3 _ (by decide))
    · split
      · exact strange_gd h f
      · split
        · exact anew_gd h _
        · split
          · exact anew_gd h _
          · split
            · exact info_gd h h7 f
            · exact supervised_gd h h7 f
/-- a frame leaves an entity as it was, or keeps it with a link's TEI -/
theorem frame_key {e : St} (h : Ok e) (may : Bool) (f : Fr) : frame e may f = { e with out := [] } ∨ Gd e.tei (frame e may f) := by
  unfold frame
  simp only []
  split
  · exact Or.inl rfl
  · rename_i hm
    have h4 : 4 ≤ e.state := by
      rcases (show e.state ≤ 3 ∨ 4 ≤ e.state by omega) with h3 | h3
      · have := h.lo h3
        exact absurd (Or.inl (by show e.tei < 0; omega)) hm
      · exact h3
    have h0 := Gd.fresh h h4
    right
    split
    · exact h0.tell 6 _ (by decide)
    · split
      · exact inAssigned_gd h0 _
      · split
        · exact inConnecting_gd h0 _
        · split
          · exact inReleasing_gd h0 _
          · rename_i g4 g5 g6
            exact inOpen_gd h0 (by have a4 : ¬ e.state = 4 := g4; have a5 : ¬ e.state = 5 := g5; have a6 : ¬ e.state = 6 := g6; show 7 ≤ e.state; omega) _
/-- whatever an entity sends when a frame comes is of its own link, and may be -/
theorem frame_sent {e : St} (h : Ok e) (may : Bool) (f : Fr) : ∀ x ∈ (frame e may f).out, x.kind = 0 → Sent e.tei x.f ∧ (frame e may f).tei = e.tei := by
  intro x hx h0
  rcases frame_key h may f with hk | hk
  · rw [hk] at hx; simp at hx
  · exact ⟨hk.g x hx h0, hk.t⟩
theorem again_gd {T : Int} {e : St} (h : Gd T e) (k : Int) (l : ByteArray) (g : Int) (hk : k = 4 ∨ k = 7) (hg : g ≠ 0) : Gd T (again e k l g) := by
  unfold again
  split
  · exact end_gd ((h.tell 7 l (by decide)).tell g _ hg)
  · rename_i hn
    exact ((h.tried (e.tries + 1) (by have := h.ok.r0; omega) (by have := h.ok.r1; omega)).send _ (bare_made _ _ _ (by rcases hk with rfl | rfl <;> simp))).start200
theorem asks_gd {T : Int} {e : St} (h : Gd T e) : Gd T (asks e) := by
  have h1 := inquire_gd (h.tried 0 (Int.le_refl 0) (by have := h.ok.m0; omega))
  exact h1.to 8 (by omega) (by omega) (fun hx => by omega)
/-- a timer leaves an entity as it was, or keeps it with a link's TEI -/
theorem timeout_key {e : St} (h : Ok e) (ht : Tm e) (t : Int) : timeout e t = { e with out := [] } ∨ Gd e.tei (timeout e t) := by
  rcases (show e.state ≤ 4 ∨ 5 ≤ e.state by omega) with h4 | h5
  · left
    obtain ⟨p, q⟩ := ht.a h4
    unfold timeout
    simp only []
    rw [p, q]
    split
    · rfl
    · rw [if_neg (by rintro ⟨-, hx⟩; exact absurd hx (by decide))]
  · right
    have h0 := Gd.fresh h (by omega)
    unfold timeout
    simp only []
    split
    · split
      · have h1 : Gd e.tei { e with out := [], t203 := false } := h0.timed e.t200 false
        split
        · exact asks_gd h1
        · exact h1
      · exact h0
    · split
      · have h1 : Gd e.tei { e with out := [], t200 := false } := h0.timed false e.t203
        split
        · exact again_gd h1 4 _ 3 (Or.inl rfl) (by decide)
        · split
          · exact again_gd h1 7 _ 4 (Or.inr rfl) (by decide)
          · split
            · exact asks_gd h1
            · split
              · split
                · exact anew_gd h1 _
                · rename_i hn
                  have hn' : ¬ e.tries = e.most := hn
                  exact inquire_gd (h1.tried (e.tries + 1) (by have := h.r0; omega) (by have := h.r1; show e.tries + 1 ≤ e.most; omega))
              · exact h1
      · exact h0
/-- whatever an entity sends when a timer is over is of its own link, and may be -/
theorem timeout_sent {e : St} (h : Ok e) (ht : Tm e) (t : Int) : ∀ x ∈ (timeout e t).out, x.kind = 0 → Sent e.tei x.f ∧ (timeout e t).tei = e.tei := by
  intro x hx h0
  rcases timeout_key h ht t with hk | hk
  · rw [hk] at hx; simp at hx
  · exact ⟨hk.g x hx h0, hk.t⟩
/-- an entity that has no TEI and isn't waiting for one has no units -/
def U1 (e : St) : Prop := e.state = 1 → e.units = []
theorem U1.gd {T : Int} {e : St} (h : Gd T e) : U1 e := fun hs => by have := h.h4; omega
theorem ask_u1 {e : St} (ho : Ok e) (hu : U1 e) (a : Int) (s : ByteArray) : U1 (ask e a s).1 := by
  rcases (show e.state ≤ 3 ∨ 4 ≤ e.state by omega) with h3 | h4
  · have n4 : ¬ e.state = 4 := by omega
    have n5 : ¬ e.state = 5 := by omega
    have n6 : ¬ e.state = 6 := by omega
    have n78 : ¬ (e.state = 7 ∨ e.state = 8) := by omega
    have m4 : ¬ 4 ≤ e.state := by omega
    unfold ask
    simp only []
    split
    · exact hu
    · split
      · exact hu
      · split
        · unfold establish
          simp only [if_neg n4, if_neg n5, if_neg n6, if_neg n78]
          split
          · intro hs; exact absurd hs (by show ¬ ((3 : Int) = 1); decide)
          · split
            · intro hs; exact absurd hs (by show ¬ ((3 : Int) = 1); decide)
            · exact hu
        · split
          · unfold release
            simp only [if_neg n4, if_neg n78]
            exact hu
          · split
            · have hm : mayData { e with out := [] } = false := by
                unfold mayData
                simp only [decide_eq_false n5, decide_eq_false n78]
                rfl
              unfold data
              rw [hm]
              exact hu
            · split
              · unfold units
                simp only [if_neg m4]
                split
                · exact hu
                · split
                  · intro hs; exact absurd hs (by show ¬ ((2 : Int) = 1); decide)
                  · rename_i h1
                    intro hs
                    exact absurd hs h1
              · unfold busy
                simp only [if_neg n78]
                exact hu
  · exact U1.gd (ask_gd ho h4 a s)
theorem frame_u1 {e : St} (ho : Ok e) (hu : U1 e) (may : Bool) (f : Fr) : U1 (frame e may f) := by
  rcases frame_key ho may f with hk | hk
  · rw [hk]; exact hu
  · exact U1.gd hk
theorem timeout_u1 {e : St} (ho : Ok e) (ht : Tm e) (hu : U1 e) (t : Int) : U1 (timeout e t) := by
  rcases timeout_key ho ht t with hk | hk
  · rw [hk]; exact hu
  · exact U1.gd hk
theorem assign_u1 {e : St} (hu : U1 e) (tei : Int) : U1 (assign e tei).1 := by
  unfold assign
  simp only []
  split
  · exact hu
  · split
    · exact hu
    · split
      · intro hs; exact absurd hs (by show ¬ ((5 : Int) = 1); decide)
      · intro hs; rfl
theorem remove_u1 {e : St} (hu : U1 e) : U1 (remove e).1 := by
  unfold remove
  simp only []
  split
  · exact hu
  · intro hs; rfl
end Go.Proofs.YtidemohpngkedabGreatDoor.Em

namespace Go.Proofs.YtidemohpngkedabGreatDoor.Em
set_option linter.unusedVariables false

/-! ### behind Remove -/
theorem stop200_out (e : St) : (stop200 e).out = e.out ++ (if e.t200 then [⟨10, fr0, ByteArray.empty, 200⟩] else []) := by
  unfold stop200
  cases e.t200 with
  | true => rfl
  | false => simp
theorem stop203_out (e : St) : (stop203 e).out = e.out ++ (if e.t203 then [⟨10, fr0, ByteArray.empty, 203⟩] else []) := by
  unfold stop203
  cases e.t203 with
  | true => rfl
  | false => simp
theorem end_out (e : St) : (end' e).out = e.out ++ ((if e.t200 then [⟨10, fr0, ByteArray.empty, 200⟩] else []) ++ (if e.t203 then [⟨10, fr0, ByteArray.empty, 203⟩] else [])) := by
  show (stop203 (stop200 (clear e))).out = _
  rw [stop203_out, stop200_out, (stop200_t (clear e)).2, List.append_assoc]
  rfl
/-- how often a user is told of a link's end -/
def downs (l : List Eff) : Nat := (l.filter fun x => x.kind == 3 || x.kind == 4).length
theorem downs_append (a b : List Eff) : downs (a ++ b) = downs a + downs b := by simp [downs]
theorem gone {e : St} (ho : Ok e) : (e.state = 1 → (remove e).2 = 11 ∧ (remove e).1.out = []) ∧ (e.state ≠ 1 → (remove e).2 = 0) ∧
    (∀ x ∈ (remove e).1.out, x.kind ≠ 0 ∧ x.kind ≠ 9) ∧ downs (remove e).1.out = (if e.state = 3 ∨ 5 ≤ e.state then 1 else 0) ∧
    (e.state ≠ 1 → (remove e).1.state = 1 ∧ (remove e).1.tei = -1 ∧ (remove e).1.units = [] ∧ (remove e).1.fl.sn = 0 ∧ (remove e).1.fl.L = []) := by
  have hs0 := ho.s0
  have hs1 := ho.s1
  by_cases h1 : e.state = 1
  · have hr : remove e = ({ e with out := [] }, 11) := by
      unfold remove
      simp only []
      rw [if_pos h1]
    rw [hr]
    exact ⟨fun _ => ⟨rfl, rfl⟩, fun h => absurd h1 h, fun x hx => by simp at hx, by rw [if_neg (by omega)]; rfl, fun h => absurd h1 h⟩
  · have hk := (stop200_keep (clear { e with out := [] })).trans (stop203_keep _)
    have hout := end_out { e with out := [] }
    have hfl : (end' { e with out := [] }).fl = Wm.clearT e.fl := hk.fl
    have hend : ∀ x ∈ (end' { e with out := [] }).out, x.kind = 10 := by
      intro x hx
      rw [hout] at hx
      simp at hx
      rcases hx with hx | hx
      · rw [hx.2]
      · rw [hx.2]
    have hd0 : downs (end' { e with out := [] }).out = 0 := by
      unfold downs
      rw [List.filter_eq_nil_iff.2 (fun x hx => by rw [hend x hx]; decide)]
      rfl
    unfold remove
    simp only []
    rw [if_neg h1]
    generalize end' { e with out := [] } = e1 at hfl hend hd0
    refine ⟨fun h => absurd h h1, fun _ => rfl, ?_, ?_, fun _ => ⟨rfl, rfl, rfl, ?_, ?_⟩⟩
    · show ∀ x ∈ (if e.state = 3 ∨ e.state = 5 ∨ e.state = 7 ∨ e.state = 8 then tell e1 3 ByteArray.empty else if e.state = 6 then tell e1 4 ByteArray.empty else e1).out, x.kind ≠ 0 ∧ x.kind ≠ 9
      intro x hx
      split at hx
      · have : x ∈ e1.out ++ [⟨3, fr0, ByteArray.empty, 0⟩] := hx
        simp at this
        rcases this with h | rfl
        · rw [hend x h]; decide
        · exact ⟨(by decide : (3 : Int) ≠ 0), (by decide : (3 : Int) ≠ 9)⟩
      · split at hx
        · have : x ∈ e1.out ++ [⟨4, fr0, ByteArray.empty, 0⟩] := hx
          simp at this
          rcases this with h | rfl
          · rw [hend x h]; decide
          · exact ⟨(by decide : (4 : Int) ≠ 0), (by decide : (4 : Int) ≠ 9)⟩
        · rw [hend x hx]; decide
    · show downs (if e.state = 3 ∨ e.state = 5 ∨ e.state = 7 ∨ e.state = 8 then tell e1 3 ByteArray.empty else if e.state = 6 then tell e1 4 ByteArray.empty else e1).out = _
      split
      · rename_i h
        show downs (e1.out ++ [⟨3, fr0, ByteArray.empty, 0⟩]) = _
        rw [downs_append, hd0, if_pos (by omega)]
        rfl
      · split
        · show downs (e1.out ++ [⟨4, fr0, ByteArray.empty, 0⟩]) = _
          rw [downs_append, hd0, if_pos (by omega)]
          rfl
        · rw [hd0, if_neg (by omega)]
    · show (if e.state = 3 ∨ e.state = 5 ∨ e.state = 7 ∨ e.state = 8 then tell e1 3 ByteArray.empty else if e.state = 6 then tell e1 4 ByteArray.empty else e1).fl.sn = 0
      have hx : (if e.state = 3 ∨ e.state = 5 ∨ e.state = 7 ∨ e.state = 8 then tell e1 3 ByteArray.empty else if e.state = 6 then tell e1 4 ByteArray.empty else e1).fl = e1.fl := by
        split
        · rfl
        · split <;> rfl
      rw [hx, hfl]
      rfl
    · show (if e.state = 3 ∨ e.state = 5 ∨ e.state = 7 ∨ e.state = 8 then tell e1 3 ByteArray.empty else if e.state = 6 then tell e1 4 ByteArray.empty else e1).fl.L = []
      have hx : (if e.state = 3 ∨ e.state = 5 ∨ e.state = 7 ∨ e.state = 8 then tell e1 3 ByteArray.empty else if e.state = 6 then tell e1 4 ByteArray.empty else e1).fl = e1.fl := by
        split
        · rfl
        · split <;> rfl
      rw [hx, hfl]
      rfl

/-! ### a call, or a release, that nobody answers -/
/-- it waits for an answer, with so many tries behind it -/
structure Waits (e : St) (s : Int) (j : Nat) : Prop where
  state : e.state = s
  tries : e.tries = (j : Int)
  t2 : e.t200 = true
  t3 : e.t203 = false
/-- the frame of a call, of a release -/
def askF (e : St) (k : Int) : Fr := { bare true k true with tei := e.tei }
def askOut (e : St) (k : Int) : List Eff := [⟨0, askF e k, ByteArray.empty, 0⟩] ++ ((if e.t203 then [⟨10, fr0, ByteArray.empty, 203⟩] else []) ++ [⟨9, fr0, ByteArray.empty, 200⟩])
theorem call_waits (e : St) (h : e.out = []) : Waits (call e) 5 0 ∧ (call e).most = e.most ∧ (call e).tei = e.tei ∧ (call e).out = askOut e 4 := by
  have hk := ((send_keep { e with tries := 0 } (bare true 4 true)).trans (stop203_keep _)).trans (start200_keep _)
  refine ⟨⟨rfl, hk.tries, (call_t e).1, (call_t e).2⟩, hk.most, hk.tei, ?_⟩
  show (stop203 (send { e with tries := 0 } (bare true 4 true))).out ++ [⟨9, fr0, ByteArray.empty, 200⟩] = _
  rw [stop203_out]
  show (e.out ++ [_]) ++ _ ++ _ = _
  rw [h]
  unfold askOut
  simp
  constructor <;> rfl
theorem establish_waits {e : St} (ho : Ok e) (h4 : e.state = 4 ∨ e.state = 7 ∨ e.state = 8) (s : ByteArray) : (ask e 0 s).2 = 0 ∧ Waits (ask e 0 s).1 5 0 ∧ (ask e 0 s).1.most = e.most ∧ (ask e 0 s).1.out = askOut e 4 := by
  have hd : ∃ e1 : St, ask e 0 s = (call e1, 0) ∧ e1.out = [] ∧ e1.most = e.most ∧ e1.tei = e.tei ∧ e1.t203 = e.t203 := by
    unfold ask
    simp only []
    rw [if_neg (by omega), if_neg (by omega), if_pos trivial]
    unfold establish
    simp only []
    rw [if_neg (by omega), if_neg (by omega), if_neg (by omega), if_neg (by omega)]
    rcases h4 with h | h | h
    · rw [if_pos h]
      exact ⟨_, rfl, rfl, rfl, rfl, rfl⟩
    · rw [if_neg (by omega), if_pos (by omega)]
      exact ⟨_, rfl, rfl, rfl, rfl, rfl⟩
    · rw [if_neg (by omega), if_pos (by omega)]
      exact ⟨_, rfl, rfl, rfl, rfl, rfl⟩
  obtain ⟨e1, h1, h2, h3, h5, h6⟩ := hd
  obtain ⟨c1, c2, c3, c4⟩ := call_waits e1 h2
  rw [h1]
  refine ⟨rfl, c1, c2.trans h3, ?_⟩
  show (call e1).out = _
  rw [c4]
  unfold askOut askF
  rw [h5, h6]
theorem release_waits {e : St} (h7 : e.state = 7 ∨ e.state = 8) (s : ByteArray) : (ask e 1 s).2 = 0 ∧ Waits (ask e 1 s).1 6 0 ∧ (ask e 1 s).1.most = e.most ∧ (ask e 1 s).1.out = askOut e 7 := by
  unfold ask
  simp only []
  rw [if_neg (by omega), if_neg (by omega), if_neg (by omega), if_pos trivial]
  unfold release
  simp only []
  rw [if_neg (by omega), if_pos h7]
  have hk := ((send_keep { clear { e with out := [] } with tries := 0 } (bare true 7 true)).trans (stop203_keep _)).trans (start200_keep _)
  refine ⟨rfl, ⟨rfl, hk.tries, rfl, (work_t _).2⟩, hk.most, ?_⟩
  show (stop203 (send { clear { e with out := [] } with tries := 0 } (bare true 7 true))).out ++ [⟨9, fr0, ByteArray.empty, 200⟩] = _
  rw [stop203_out]
  unfold askOut
  simp
  rfl
/-- the timer is over: a try more -/
theorem try_more {e : St} {s : Int} {j : Nat} (h : Waits e s j) (hs : s = 5 ∨ s = 6) (hj : (j : Int) ≠ e.most) : Waits (timeout e 200) s (j + 1) ∧ (timeout e 200).most = e.most ∧ (timeout e 200).out = [⟨0, askF e (if s = 5 then 4 else 7), ByteArray.empty, 0⟩, ⟨9, fr0, ByteArray.empty, 200⟩] := by
  have hne : ¬ e.tries = e.most := by rw [h.tries]; exact hj
  have ht : ((j + 1 : Nat) : Int) = e.tries + 1 := by rw [h.tries]; omega
  unfold timeout
  simp only []
  rw [if_neg (by decide), if_pos ⟨trivial, h.t2⟩]
  rcases hs with rfl | rfl
  · rw [if_pos h.state, if_pos rfl]
    unfold again
    simp only []
    rw [if_neg hne]
    exact ⟨⟨h.state, ht.symm, rfl, h.t3⟩, rfl, rfl⟩
  · rw [if_neg (by rw [h.state]; decide), if_pos h.state, if_neg (by decide)]
    unfold again
    simp only []
    rw [if_neg hne]
    exact ⟨⟨h.state, ht.symm, rfl, h.t3⟩, rfl, rfl⟩
/-- and the last one -/
theorem try_last {e : St} {s : Int} {j : Nat} (h : Waits e s j) (hs : s = 5 ∨ s = 6) (hj : (j : Int) = e.most) : (timeout e 200).state = 4 ∧ (timeout e 200).t200 = false ∧ (timeout e 200).out = [⟨7, fr0, letter (if s = 5 then 71 else 72), 0⟩, ⟨if s = 5 then 3 else 4, fr0, ByteArray.empty, 0⟩] := by
  have he : e.tries = e.most := by rw [h.tries]; exact hj
  have h3 := h.t3
  unfold timeout
  simp only []
  rw [if_neg (by decide), if_pos ⟨trivial, h.t2⟩]
  rcases hs with rfl | rfl
  · rw [if_pos h.state, if_pos rfl, if_pos rfl]
    unfold again
    simp only []
    rw [if_pos he]
    refine ⟨rfl, (end_t _).1, ?_⟩
    rw [end_out]
    show _ ++ ((if false = true then _ else _) ++ (if e.t203 = true then _ else _)) = _
    rw [h3]
    rfl
  · rw [if_neg (by rw [h.state]; decide), if_pos h.state, if_neg (by decide), if_neg (by decide)]
    unfold again
    simp only []
    rw [if_pos he]
    refine ⟨rfl, (end_t _).1, ?_⟩
    rw [end_out]
    show _ ++ ((if false = true then _ else _) ++ (if e.t203 = true then _ else _)) = _
    rw [h3]
    rfl

/-! ### units that wait -/
def uiF (tei : Int) (s : ByteArray) : Fr := ⟨0, tei, true, 6, false, 0, 0, s⟩
theorem unitsOut_out : ∀ (l : List ByteArray) (e : St), (unitsOut e l).out = e.out ++ l.map (fun s => (⟨0, uiF e.tei s, ByteArray.empty, 0⟩ : Eff))
  | [], e => by simp [unitsOut]
  | s :: l, e => by
    show (unitsOut (unit e s) l).out = _
    rw [unitsOut_out l (unit e s)]
    show (e.out ++ [_]) ++ _ = _
    rw [List.append_assoc]
    rfl
/-- behind units that were asked for, and a call, if it was: state 1, 2 or 3 -/
def early (k n : Int) (l : List ByteArray) (c : Bool) : St := { new k n with units := l, state := if c then 3 else if l = [] then 1 else 2 }
theorem unit_early {k n : Int} {l : List ByteArray} (s : ByteArray) (hs : s.size ≤ 260) (hl : l.length < 256) : ask (early k n l false) 3 s = ({ early k n (l ++ [s]) false with out := if l = [] then [⟨8, fr0, ByteArray.empty, 0⟩] else [] }, 0) := by
  unfold ask
  simp only []
  rw [if_neg (by omega), if_neg (by omega), if_neg (by decide), if_neg (by decide), if_neg (by decide), if_pos trivial]
  unfold units
  have hst : (early k n l false).state = if l = [] then 1 else 2 := rfl
  have hne : ¬ (l ++ [s] = []) := by simp
  by_cases h0 : l = []
  · subst h0
    rfl
  · rw [if_neg (by show ¬ (4 : Int) ≤ if l = [] then 1 else 2; rw [if_neg h0]; decide), if_neg (by show ¬ l.length = 256; omega), if_neg (by show ¬ (if l = [] then (1 : Int) else 2) = 1; rw [if_neg h0]; decide), if_neg h0]
    show (_, (0 : Int)) = _
    unfold early
    simp [h0, new]
theorem unit_full {k n : Int} {l : List ByteArray} (s : ByteArray) (hs : s.size ≤ 260) (hl : l.length = 256) : ask (early k n l false) 3 s = ({ early k n l false with out := [] }, 10) := by
  unfold ask
  simp only []
  rw [if_neg (by omega), if_neg (by omega), if_neg (by decide), if_neg (by decide), if_neg (by decide), if_pos trivial]
  unfold units
  have h0 : ¬ l = [] := by intro h; rw [h] at hl; simp at hl
  rw [if_neg (by show ¬ (4 : Int) ≤ if l = [] then 1 else 2; rw [if_neg h0]; decide)]
  exact if_pos hl
theorem unit_long {e : St} (s : ByteArray) (hs : 260 < s.size) : ask e 3 s = ({ e with out := [] }, 5) := by
  unfold ask
  simp only []
  rw [if_neg (by omega), if_pos ⟨Or.inr trivial, hs⟩]
end Go.Proofs.YtidemohpngkedabGreatDoor.Em
