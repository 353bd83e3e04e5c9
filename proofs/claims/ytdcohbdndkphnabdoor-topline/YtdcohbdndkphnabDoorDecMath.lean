/-
  A decoder of bits between flags, plainly: its state, a bit, bits; what frames, flags and noise make of it. It imports nothing of the program.
-/
import Derived.Test.YtdcohbdndkphnabDoorHdlcMath
namespace Go.Proofs.YtdcohbdndkphnabDoor.Hm
open Go.RowKit
set_option linter.unusedVariables false
set_option linter.unusedSimpArgs false

structure St where
  ones : Nat
  inn : Bool
  cont : List Int

abbrev Ev := Int × ByteArray

/-- a bit into the content -/
def takeS (st : St) (b : Int) : St := if st.inn = true ∧ st.cont.length ≤ 2134 then ⟨st.ones, st.inn, st.cont ++ [b]⟩ else st
/-- what is met at a flag -/
def endedE (c : List Int) : List Ev :=
  if c.length ≤ 6 then [] else if 2128 < c.length - 6 ∨ (c.length - 6) % 8 ≠ 0 then [(2, ByteArray.empty)] else [(0, strOfNums (Bm.octs (c.take (c.length - 6))))]
def zeroS (st : St) : St × List Ev :=
  if st.ones = 6 then (⟨0, true, []⟩, endedE st.cont) else if st.ones = 5 then (⟨0, st.inn, st.cont⟩, []) else (takeS ⟨0, st.inn, st.cont⟩ 48, [])
def oneS (st : St) : St × List Ev :=
  if st.ones + 1 ≤ 5 then (takeS ⟨st.ones + 1, st.inn, st.cont⟩ 49, [])
  else if st.ones + 1 ≤ 6 ∨ st.inn = false then (⟨st.ones + 1, st.inn, st.cont⟩, []) else (⟨st.ones + 1, false, []⟩, [(1, ByteArray.empty)])
def stepS (st : St) (c : Int) : St × List Ev := if c = 48 then zeroS st else if c = 49 then oneS st else (st, [])
def feedS : St → List Int → St × List Ev
  | st, [] => (st, [])
  | st, c :: l => ((feedS (stepS st c).1 l).1, (stepS st c).2 ++ (feedS (stepS st c).1 l).2)
def init : St := ⟨0, false, []⟩

theorem feed_append (st : St) (a b : List Int) : feedS st (a ++ b) = ((feedS (feedS st a).1 b).1, (feedS st a).2 ++ (feedS (feedS st a).1 b).2) := by
  induction a generalizing st with
  | nil => rfl
  | cons c a ih => simp only [List.cons_append, feedS, ih, List.append_assoc]
theorem feed_one (st : St) (c : Int) : feedS st [c] = stepS st c := by simp [feedS]
theorem feed_snoc (st : St) (a : List Int) (c : Int) : feedS st (a ++ [c]) = ((stepS (feedS st a).1 c).1, (feedS st a).2 ++ (stepS (feedS st a).1 c).2) := by
  rw [feed_append, feed_one]

/-! ### what every state keeps -/
/-- the content is bits, and no longer than it needs to be; a decoder that hunts has none -/
structure Ok (st : St) : Prop where
  bits : bit st.cont
  len : st.cont.length ≤ 2135
  hunts : st.inn = false → st.cont = []

theorem bit_snoc {l : List Int} (h : bit l) (b : Int) (hb : b = 48 ∨ b = 49) : bit (l ++ [b]) := by
  intro x hx
  simp only [List.mem_append, List.mem_cons, List.not_mem_nil, or_false] at hx
  rcases hx with hx | rfl
  · exact h x hx
  · exact hb
theorem bit_nil : bit [] := fun x hx => by simp at hx

theorem Ok.take {st : St} (h : Ok st) (b : Int) (hb : b = 48 ∨ b = 49) : Ok (takeS st b) := by
  unfold takeS
  split
  · rename_i hc
    exact ⟨bit_snoc h.bits b hb, by simp; omega, fun hi => by rw [hc.1] at hi; cases hi⟩
  · exact h
theorem Ok.zero {st : St} (h : Ok st) : Ok (zeroS st).1 := by
  unfold zeroS
  split
  · exact ⟨bit_nil, by simp, fun hi => rfl⟩
  · split
    · exact ⟨h.bits, h.len, h.hunts⟩
    · exact Ok.take (st := ⟨0, st.inn, st.cont⟩) ⟨h.bits, h.len, h.hunts⟩ 48 (Or.inl rfl)
theorem Ok.one {st : St} (h : Ok st) : Ok (oneS st).1 := by
  unfold oneS
  split
  · exact Ok.take (st := ⟨st.ones + 1, st.inn, st.cont⟩) ⟨h.bits, h.len, h.hunts⟩ 49 (Or.inr rfl)
  · split
    · exact ⟨h.bits, h.len, h.hunts⟩
    · exact ⟨bit_nil, by simp, fun hi => rfl⟩
theorem Ok.step {st : St} (h : Ok st) (c : Int) : Ok (stepS st c).1 := by
  unfold stepS
  split
  · exact h.zero
  · split
    · exact h.one
    · exact h
theorem Ok.feed {st : St} (h : Ok st) (l : List Int) : Ok (feedS st l).1 := by
  induction l generalizing st with
  | nil => exact h
  | cons c l ih => exact ih (h.step c)
theorem Ok.init : Ok init := ⟨bit_nil, by simp [Hm.init], fun _ => rfl⟩

theorem take_ones (st : St) (b : Int) : (takeS st b).ones = st.ones := by unfold takeS; split <;> rfl
theorem take_inn (st : St) (b : Int) : (takeS st b).inn = st.inn := by unfold takeS; split <;> rfl
theorem zero_ones (st : St) : (zeroS st).1.ones = 0 := by
  unfold zeroS
  split
  · rfl
  · split
    · rfl
    · rw [take_ones]
theorem one_ones (st : St) : (oneS st).1.ones = st.ones + 1 := by
  unfold oneS
  split
  · rw [take_ones]
  · split <;> rfl
theorem step_ones (st : St) (c : Int) : (stepS st c).1.ones ≤ st.ones + 1 := by
  unfold stepS
  split
  · rw [zero_ones]; omega
  · split
    · rw [one_ones]; exact Nat.le_refl _
    · exact Nat.le_succ _
theorem feed_ones (st : St) (l : List Int) : (feedS st l).1.ones ≤ st.ones + l.length := by
  induction l generalizing st with
  | nil => exact Nat.le_refl _
  | cons c l ih =>
    have h1 := ih (stepS st c).1
    have h2 := step_ones st c
    simp only [feedS, List.length_cons]
    omega
theorem ended_length (c : List Int) : (endedE c).length ≤ 1 := by
  unfold endedE
  split
  · simp
  · split <;> simp
theorem step_length (st : St) (c : Int) : (stepS st c).2.length ≤ 1 := by
  unfold stepS
  split
  · unfold zeroS
    split
    · exact ended_length _
    · split <;> simp
  · split
    · unfold oneS
      split
      · simp
      · split <;> simp
    · simp
theorem feed_length (st : St) (l : List Int) : (feedS st l).2.length ≤ l.length := by
  induction l generalizing st with
  | nil => simp [feedS]
  | cons c l ih =>
    have h1 := ih (stepS st c).1
    have h2 := step_length st c
    simp only [feedS, List.length_append, List.length_cons]
    omega

/-! ### bits without six 1s in a row -/
/-- nothing is met, and a decoder stays where it is -/
theorem feed_quiet (st : St) (l : List Int) (hb : bit l) (hk : st.ones ≤ 5) (h6 : has6 st.ones l = false) :
    (feedS st l).2 = [] ∧ (feedS st l).1.inn = st.inn ∧ (feedS st l).1.ones = row st.ones l := by
  induction l generalizing st with
  | nil => exact ⟨rfl, rfl, rfl⟩
  | cons c l ih =>
    obtain ⟨hc, hl⟩ := bit_cons hb
    rcases hc with rfl | rfl
    · have e : stepS st 48 = zeroS st := by simp [stepS]
      have h6' : has6 (zeroS st).1.ones l = false := by rw [zero_ones]; simpa [has6] using h6
      obtain ⟨i1, i2, i3⟩ := ih (zeroS st).1 hl (by rw [zero_ones]; omega) h6'
      have hz : (zeroS st).2 = [] ∧ (zeroS st).1.inn = st.inn := by
        unfold zeroS
        rw [if_neg (by omega)]
        split
        · exact ⟨rfl, rfl⟩
        · exact ⟨rfl, take_inn _ _⟩
      simp only [feedS, e]
      refine ⟨by rw [hz.1, i1]; rfl, by rw [i2, hz.2], by rw [i3, zero_ones]; rfl⟩
    · have e : stepS st 49 = oneS st := by simp [stepS]
      have h5 : st.ones ≠ 5 := fun h => by simp [has6, h] at h6
      have h6' : has6 (oneS st).1.ones l = false := by rw [one_ones]; simpa [has6, h5] using h6
      obtain ⟨i1, i2, i3⟩ := ih (oneS st).1 hl (by rw [one_ones]; omega) h6'
      have hz : (oneS st).2 = [] ∧ (oneS st).1.inn = st.inn := by
        unfold oneS
        rw [if_pos (by omega)]
        exact ⟨rfl, take_inn _ _⟩
      simp only [feedS, e]
      refine ⟨by rw [hz.1, i1]; rfl, by rw [i2, hz.2], by rw [i3, one_ones]; rfl⟩

/-! ### stuffed bits within a frame -/
theorem takeK (C : List Int) (b : Int) (k : Nat) : takeS ⟨k, true, C.take 2135⟩ b = ⟨k, true, (C ++ [b]).take 2135⟩ := by
  unfold takeS
  by_cases h : C.length ≤ 2134
  · rw [if_pos ⟨rfl, by simp; omega⟩, List.take_of_length_le (by omega), List.take_of_length_le (by simp; omega)]
  · rw [if_neg (by simp; omega), List.take_append_of_le_length (by omega)]

theorem feed_stuff (k : Nat) (C b : List Int) (hb : bit b) (hk : k ≤ 4) :
    ∃ k', k' ≤ 4 ∧ feedS ⟨k, true, C.take 2135⟩ (stuff k b) = (⟨k', true, (C ++ b).take 2135⟩, []) := by
  induction b generalizing k C with
  | nil => exact ⟨k, hk, by simp [stuff, feedS]⟩
  | cons c b ih =>
    obtain ⟨hc, hl⟩ := bit_cons hb
    have e1 : ∀ st : St, stepS st 49 = oneS st := fun st => by simp [stepS]
    have e0 : ∀ st : St, stepS st 48 = zeroS st := fun st => by simp [stepS]
    rcases hc with rfl | rfl
    · obtain ⟨k', h1, h2⟩ := ih 0 (C ++ [48]) hl (by omega)
      refine ⟨k', h1, ?_⟩
      have es : stuff k (48 :: b) = 48 :: stuff 0 b := by simp [stuff]
      have ez : zeroS ⟨k, true, C.take 2135⟩ = (⟨0, true, (C ++ [48]).take 2135⟩, []) := by
        unfold zeroS
        rw [if_neg (by show ¬ k = 6; omega), if_neg (by show ¬ k = 5; omega), takeK]
      rw [es, feedS, e0, ez, h2]
      simp
    · by_cases h4 : k = 4
      · subst h4
        obtain ⟨k', h1, h2⟩ := ih 0 (C ++ [49]) hl (by omega)
        refine ⟨k', h1, ?_⟩
        have es : stuff 4 (49 :: b) = 49 :: 48 :: stuff 0 b := by simp [stuff]
        have eo : oneS ⟨4, true, C.take 2135⟩ = (⟨5, true, (C ++ [49]).take 2135⟩, []) := by
          unfold oneS
          rw [if_pos (by simp), takeK]
        have ez : zeroS ⟨5, true, (C ++ [49]).take 2135⟩ = (⟨0, true, (C ++ [49]).take 2135⟩, []) := by
          unfold zeroS
          rw [if_neg (by simp), if_pos rfl]
        rw [es, feedS, e1, eo, feedS, e0, ez, h2]
        simp
      · obtain ⟨k', h1, h2⟩ := ih (k + 1) (C ++ [49]) hl (by omega)
        refine ⟨k', h1, ?_⟩
        have es : stuff k (49 :: b) = 49 :: stuff (k + 1) b := by simp [stuff, h4]
        have eo : oneS ⟨k, true, C.take 2135⟩ = (⟨k + 1, true, (C ++ [49]).take 2135⟩, []) := by
          unfold oneS
          rw [if_pos (by show k + 1 ≤ 5; omega), takeK]
        rw [es, feedS, e1, eo, h2]
        simp

/-! ### flags -/
/-- the last seven bits of a flag, behind a 0 -/
theorem feed_tail (C : List Int) : feedS ⟨0, true, C.take 2135⟩ [49, 49, 49, 49, 49, 49, 48] = (⟨0, true, []⟩, endedE ((C ++ [49, 49, 49, 49, 49]).take 2135)) := by
  have e1 : ∀ st : St, stepS st 49 = oneS st := fun st => by simp [stepS]
  have e0 : ∀ st : St, stepS st 48 = zeroS st := fun st => by simp [stepS]
  have eo : ∀ k C, k + 1 ≤ 5 → oneS ⟨k, true, List.take 2135 C⟩ = (⟨k + 1, true, (C ++ [49]).take 2135⟩, []) := by
    intro k C hk
    unfold oneS
    rw [if_pos hk, takeK]
  have e6 : ∀ C, oneS ⟨5, true, C⟩ = (⟨6, true, C⟩, []) := by
    intro C
    unfold oneS
    rw [if_neg (by simp), if_pos (by simp)]
  have ez : ∀ C, zeroS ⟨6, true, C⟩ = (⟨0, true, []⟩, endedE C) := by
    intro C
    unfold zeroS
    rw [if_pos rfl]
  simp only [feedS, e1, e0, eo 0 _ (by decide), eo 1 _ (by decide), eo 2 _ (by decide), eo 3 _ (by decide), eo 4 _ (by decide), e6, ez]
  simp
theorem feed_tail_hunt : feedS ⟨0, false, []⟩ [49, 49, 49, 49, 49, 49, 48] = (⟨0, true, []⟩, []) := by
  simp [feedS, stepS, oneS, zeroS, takeS, endedE]

theorem feed_flag (k : Nat) (C : List Int) (hk : k ≤ 4) : feedS ⟨k, true, C.take 2135⟩ [48, 49, 49, 49, 49, 49, 49, 48] = (⟨0, true, []⟩, endedE ((C ++ [48, 49, 49, 49, 49, 49]).take 2135)) := by
  have ez : zeroS ⟨k, true, C.take 2135⟩ = (⟨0, true, (C ++ [48]).take 2135⟩, []) := by
    unfold zeroS
    rw [if_neg (by show ¬ k = 6; omega), if_neg (by show ¬ k = 5; omega), takeK]
  have e0 : stepS ⟨k, true, C.take 2135⟩ 48 = zeroS ⟨k, true, C.take 2135⟩ := by simp [stepS]
  have := feed_tail (C ++ [48])
  rw [feedS, e0, ez, this]
  simp
theorem feed_flag_hunt : feedS ⟨0, false, []⟩ [48, 49, 49, 49, 49, 49, 49, 48] = (⟨0, true, []⟩, []) := by
  simp [feedS, stepS, oneS, zeroS, takeS, endedE]

/-- ready: a 0 came, and there is no content -/
def Ready (st : St) : Prop := st.ones = 0 ∧ st.cont = []
theorem ready_cases {st : St} (h : Ready st) : st = ⟨0, false, []⟩ ∨ st = ⟨0, true, []⟩ := by
  obtain ⟨o, i, c⟩ := st
  obtain ⟨h1, h2⟩ := h
  simp at h1 h2
  subst h1; subst h2
  cases i
  · exact Or.inl rfl
  · exact Or.inr rfl

theorem flag_ready {st : St} (h : Ready st) : feedS st [48, 49, 49, 49, 49, 49, 49, 48] = (⟨0, true, []⟩, []) := by
  rcases ready_cases h with rfl | rfl
  · exact feed_flag_hunt
  · have := feed_flag 0 [] (by decide)
    simpa [endedE] using this
theorem tail_ready {st : St} (h : Ready st) : feedS st [49, 49, 49, 49, 49, 49, 48] = (⟨0, true, []⟩, []) := by
  rcases ready_cases h with rfl | rfl
  · exact feed_tail_hunt
  · have := feed_tail []
    simpa [endedE] using this

/-- what a frame of these octets is met as -/
def met (l : List Int) : List Ev := if l = [] then [] else if 266 < l.length then [(2, ByteArray.empty)] else [(0, strOfNums l)]

theorem ended_frame (l : List Int) (hr : ∀ n ∈ l, 0 ≤ n ∧ n ≤ 255) : endedE ((Bm.ofN l ++ [48, 49, 49, 49, 49, 49]).take 2135) = met l := by
  have hl := Bm.ofN_length l
  unfold met
  by_cases h0 : l = []
  · subst h0
    simp [Bm.ofN, endedE]
  · have hp : 0 < l.length := List.length_pos_iff.2 h0
    rw [if_neg h0]
    by_cases h1 : 266 < l.length
    · rw [if_pos h1, endedE]
      have e : ((Bm.ofN l ++ [48, 49, 49, 49, 49, 49]).take 2135).length = 2135 := by simp; omega
      rw [e, if_neg (by decide), if_pos (by decide)]
    · rw [if_neg h1, List.take_of_length_le (by simp; omega), endedE]
      have e : (Bm.ofN l ++ [48, 49, 49, 49, 49, 49]).length = 8 * l.length + 6 := by simp; omega
      rw [e, if_neg (by omega), if_neg (by omega), Nat.add_sub_cancel, ← hl, List.take_left, Bm.octs_ofN l hr]

/-- the bits of a frame behind its first flag, and the flag behind them -/
theorem feed_body (l : List Int) (hr : ∀ n ∈ l, 0 ≤ n ∧ n ≤ 255) : feedS ⟨0, true, []⟩ (stuff 0 (Bm.ofN l) ++ [48, 49, 49, 49, 49, 49, 49, 48]) = (⟨0, true, []⟩, met l) := by
  obtain ⟨k', h1, h2⟩ := feed_stuff 0 [] (Bm.ofN l) (Bm.ofN_01 l) (by decide)
  have h2' : feedS ⟨0, true, []⟩ (stuff 0 (Bm.ofN l)) = (⟨k', true, (Bm.ofN l).take 2135⟩, []) := by simpa using h2
  rw [feed_append, h2']
  simp only [feed_flag k' (Bm.ofN l) h1, ended_frame l hr, List.nil_append]

def flag : List Int := [48, 49, 49, 49, 49, 49, 49, 48]
/-- a whole frame, where a decoder is ready -/
theorem feed_frame {st : St} (h : Ready st) (l : List Int) (hr : ∀ n ∈ l, 0 ≤ n ∧ n ≤ 255) : feedS st (flag ++ stuff 0 (Bm.ofN l) ++ flag) = (⟨0, true, []⟩, met l) := by
  have hf : feedS st flag = (⟨0, true, []⟩, []) := flag_ready h
  rw [List.append_assoc, feed_append, hf]
  simp only [flag, feed_body l hr, List.nil_append]
/-- a frame whose first 0 was there already -/
theorem feed_frame_shared {st : St} (h : Ready st) (l : List Int) (hr : ∀ n ∈ l, 0 ≤ n ∧ n ≤ 255) : feedS st ((flag ++ stuff 0 (Bm.ofN l) ++ flag).drop 1) = (⟨0, true, []⟩, met l) := by
  have e : ∀ X : List Int, (flag ++ X ++ flag).drop 1 = [49, 49, 49, 49, 49, 49, 48] ++ (X ++ flag) := fun X => by simp [flag]
  rw [e, feed_append, tail_ready h]
  simp only [flag, feed_body l hr, List.nil_append]
theorem ready_in : Ready ⟨0, true, []⟩ := ⟨rfl, rfl⟩
theorem ready_init : Ready init := ⟨rfl, rfl⟩
/-- noise without six 1s in a row, and a 0 behind it: a decoder that hunts is ready still -/
theorem feed_noise (n : List Int) (hb : bit n) (h6 : has6 0 n = false) : feedS ⟨0, false, []⟩ (n ++ [48]) = (⟨0, false, []⟩, []) := by
  obtain ⟨h1, h2, h3⟩ := feed_quiet ⟨0, false, []⟩ n hb (by simp) h6
  have ok := Ok.feed (st := ⟨0, false, []⟩) Ok.init n
  rw [feed_snoc, h1]
  obtain ⟨st, hst⟩ : ∃ st, st = (feedS ⟨0, false, []⟩ n).1 := ⟨_, rfl⟩
  rw [← hst] at h2 h3 ok ⊢
  have hle : st.ones ≤ 5 := by rw [h3]; exact row_le 0 n (by omega) h6
  obtain ⟨o, i, c⟩ := st
  have hi : i = false := h2
  subst hi
  have hc : c = [] := ok.hunts rfl
  subst hc
  have hz : zeroS ⟨o, false, []⟩ = (⟨0, false, []⟩, []) := by
    unfold zeroS
    rw [if_neg (by have : o ≤ 5 := hle; show ¬ o = 6; omega)]
    split <;> simp [takeS]
  simp [stepS, hz]

/-! ### seven 1s -/
theorem oneS_lo (k : Nat) (C : List Int) (h : k + 1 ≤ 6) : ∃ C', oneS ⟨k, true, C⟩ = (⟨k + 1, true, C'⟩, []) := by
  unfold oneS
  by_cases h5 : k + 1 ≤ 5
  · rw [if_pos h5]
    refine ⟨(takeS ⟨k + 1, true, C⟩ 49).cont, ?_⟩
    have e1 := take_ones ⟨k + 1, true, C⟩ 49
    have e2 := take_inn ⟨k + 1, true, C⟩ 49
    obtain ⟨st, hst⟩ : ∃ st, st = takeS ⟨k + 1, true, C⟩ 49 := ⟨_, rfl⟩
    have e1' : st.ones = k + 1 := by rw [hst, e1]
    have e2' : st.inn = true := by rw [hst, e2]
    rw [← hst]
    obtain ⟨o, i, c⟩ := st
    simp only at e1' e2'
    subst e1'; subst e2'
    rfl
  · rw [if_neg h5, if_pos (Or.inl h)]
    exact ⟨C, rfl⟩
theorem oneS_hunt (k : Nat) : oneS ⟨k, false, []⟩ = (⟨k + 1, false, []⟩, []) := by
  unfold oneS
  split
  · simp [takeS]
  · rw [if_pos (Or.inr rfl)]
theorem oneS_abort (C : List Int) : oneS ⟨6, true, C⟩ = (⟨7, false, []⟩, [(1, ByteArray.empty)]) := by
  unfold oneS
  rw [if_neg (by simp), if_neg (by simp)]
/-- j 1s where a decoder hunts -/
theorem feed_ones_hunt (j k : Nat) : feedS ⟨k, false, []⟩ (List.replicate j 49) = (⟨k + j, false, []⟩, []) := by
  induction j generalizing k with
  | zero => rfl
  | succ j ih =>
    have e1 : stepS ⟨k, false, []⟩ 49 = oneS ⟨k, false, []⟩ := by simp [stepS]
    rw [List.replicate_succ, feedS, e1, oneS_hunt, ih]
    simp; omega
/-- 1s up to the seventh, and more -/
theorem feed_abort (m : Nat) : ∀ (k : Nat) (C : List Int) (j : Nat), k + m = 6 → m < j → feedS ⟨k, true, C⟩ (List.replicate j 49) = (⟨k + j, false, []⟩, [(1, ByteArray.empty)]) := by
  induction m with
  | zero =>
    intro k C j hk hj
    obtain rfl : k = 6 := by omega
    obtain ⟨j, rfl⟩ : ∃ i, j = i + 1 := ⟨j - 1, by omega⟩
    have e1 : stepS ⟨6, true, C⟩ 49 = oneS ⟨6, true, C⟩ := by simp [stepS]
    rw [List.replicate_succ, feedS, e1, oneS_abort, feed_ones_hunt]
    simp; omega
  | succ m ih =>
    intro k C j hk hj
    obtain ⟨j, rfl⟩ : ∃ i, j = i + 1 := ⟨j - 1, by omega⟩
    have e1 : stepS ⟨k, true, C⟩ 49 = oneS ⟨k, true, C⟩ := by simp [stepS]
    obtain ⟨C', hC⟩ := oneS_lo k C (by omega)
    rw [List.replicate_succ, feedS, e1, hC, ih (k + 1) C' j (by omega) (by omega)]
    simp; omega
end Go.Proofs.YtdcohbdndkphnabDoor.Hm
