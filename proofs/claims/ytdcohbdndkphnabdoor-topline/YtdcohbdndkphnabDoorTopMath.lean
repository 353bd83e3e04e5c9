/-
  Frames over a line of bits, as plain mathematics: what comes of each piece of the line, whether its frame was left as it was, broken off, or turned.
-/
import Derived.Test.YtdcohbdndkphnabDoorFrameMath
import Derived.Test.YtdcohbdndkphnabDoorEncMet
namespace Go.Proofs.YtdcohbdndkphnabDoor.Tm
open Go.RowKit
set_option linter.unusedVariables false
set_option linter.unusedSimpArgs false

/-- the frame that an event tells -/
def hear1 (y : Hm.Ev) : Option Xm.Fr := if y.1 = 0 ∧ (Xm.getRes y.2 false).2 = 0 then some (Xm.getRes y.2 false).1 else none
/-- the frames that events tell -/
def heard (l : List Hm.Ev) : List Xm.Fr := l.filterMap hear1
theorem heard_append (a b : List Hm.Ev) : heard (a ++ b) = heard a ++ heard b := by simp [heard]
theorem heard_nil : heard [] = [] := rfl
theorem heard_one (y : Hm.Ev) : heard [y] = (hear1 y).toList := by
  unfold heard
  cases h : hear1 y <;> simp [h]
theorem heard_abort (s : ByteArray) : heard [((1 : Int), s)] = [] := by
  rw [heard_one, hear1, if_neg (fun h => by have := h.1; omega)]; rfl
theorem heard_take (l : List Hm.Ev) (i : Nat) (h : i < l.length) : heard (l.take (i + 1)) = heard (l.take i) ++ (hear1 l[i]).toList := by
  rw [List.take_succ_eq_append_getElem h, heard_append, heard_one]

def ins : Hm.St := ⟨0, true, []⟩
theorem ready_ins : Hm.Ready ins := ⟨rfl, rfl⟩
/-- behind a flag a decoder is within a frame that has nothing yet, whatever was before -/
theorem step48 (s : Hm.St) : Hm.stepS s 48 = Hm.zeroS s := by simp [Hm.stepS]
theorem flag_last (X : Hm.St) (h : X.ones = 6) : (Hm.feedS X [48]).1 = ins := by
  rw [Hm.feed_one, step48, Hm.zeroS, if_pos h]; rfl
theorem flag_any (st : Hm.St) : (Hm.feedS st flagN).1 = ins := by
  have h : (Hm.feedS st [48, 49, 49, 49, 49, 49, 49]).1.ones = 6 := by
    simp [Hm.feedS, Hm.stepS, Hm.one_ones, Hm.zero_ones]
  have e := Hm.feed_append st [48, 49, 49, 49, 49, 49, 49] [48]
  have e2 : flagN = [48, 49, 49, 49, 49, 49, 49] ++ [48] := rfl
  rw [e2, e]
  generalize (Hm.feedS st [48, 49, 49, 49, 49, 49, 49]).1 = X at h
  exact flag_last X h
theorem flag_hunt (k : Nat) (hk : 7 ≤ k) : Hm.feedS ⟨k, false, []⟩ flagN = (ins, []) := by
  rw [show flagN = 48 :: [49, 49, 49, 49, 49, 49, 48] from rfl, Hm.feedS, show Hm.stepS ⟨k, false, []⟩ 48 = (⟨0, false, []⟩, []) from by
    rw [step48, Hm.zeroS, if_neg (by simp; omega), if_neg (by simp; omega), Hm.takeS, if_neg (by simp)]]
  simp only
  rw [Hm.feed_tail_hunt]
  rfl

def flagB : ByteArray := ⟨#[48, 49, 49, 49, 49, 49, 49, 48]⟩
def ones8 : ByteArray := ⟨#[49, 49, 49, 49, 49, 49, 49, 49]⟩
theorem nums_flag : Bm.nums flagB = flagN := rfl
theorem nums_ones : Bm.nums ones8 = List.replicate 8 49 := rfl

/-- one place of a frame's bits turned -/
def turned (T : ByteArray) (at0 : Int) : ByteArray := strOfNums (Bm.flips (Bm.nums (encB T)) [at0])

/-- a line up to a place between frames -/
structure Line (b : ByteArray) (gs : List Xm.Fr) : Prop where
  ex : ∃ st E, Hm.feedS Hm.init (Bm.nums b) = (st, E) ∧ Hm.Ready st ∧ heard E = gs
theorem line_nil : Line ByteArray.empty [] := ⟨Hm.init, [], rfl, Hm.ready_init, rfl⟩

theorem Line.step {b : ByteArray} {gs : List Xm.Fr} (h : Line b gs) (c : ByteArray) (hs : List Xm.Fr) (hc : ∀ st, Hm.Ready st → (Hm.feedS st (Bm.nums c)).1 = ins ∧ heard (Hm.feedS st (Bm.nums c)).2 = hs) : Line (b ++ (c ++ flagB)) (gs ++ hs) := by
  obtain ⟨st, E, e, hr, hE⟩ := h.ex
  obtain ⟨h1, h2⟩ := hc st hr
  refine ⟨ins, E ++ (Hm.feedS st (Bm.nums c)).2, ?_, ready_ins, by rw [heard_append, hE, h2]⟩
  rw [nums_app, nums_app, Hm.feed_append, e]
  simp only
  rw [Hm.feed_append, h1, nums_flag, show Hm.feedS ins flagN = (ins, []) from Hm.flag_ready ready_ins]
  simp

/-- a frame as it is -/
theorem whole {T : ByteArray} {f : Xm.Fr} (h1 : 0 < T.size) (h2 : T.size ≤ 266) (hg : Xm.getRes T false = (f, 0)) (st : Hm.St) (hr : Hm.Ready st) : (Hm.feedS st (Bm.nums (encB T))).1 = ins ∧ heard (Hm.feedS st (Bm.nums (encB T))).2 = [f] := by
  rw [feed_enc hr, metB, if_neg (by omega), if_neg (by omega)]
  refine ⟨rfl, ?_⟩
  rw [heard_one, hear1, hg, if_pos ⟨rfl, rfl⟩]; rfl

theorem enc_parts (T : ByteArray) : ∃ S, Bm.nums (encB T) = flagN ++ S ++ flagN ∧ Hm.bit S ∧ Hm.has6 0 S = false ∧ (encB T).size = S.length + 16 := by
  refine ⟨Hm.stuff 0 (Bm.ofN (Bm.nums T)), nums_enc T, Hm.stuff_bit _ _, Hm.stuff_has6 _ _ (by decide), ?_⟩
  rw [← Bm.nums_length, nums_enc, encN]; simp [flagN]

/-- a frame that is broken off -/
theorem broken {T : ByteArray} (j : Nat) (hj : j + 16 ≤ (encB T).size) (st : Hm.St) (hr : Hm.Ready st) :
    ∃ k, 7 ≤ k ∧ Hm.feedS st (Bm.nums ((encB T).extract 0 (8 + j) ++ ones8)) = (⟨k, false, []⟩, [((1 : Int), ByteArray.empty)]) := by
  obtain ⟨S, hS, hb, h6, hz⟩ := enc_parts T
  have e : Bm.nums ((encB T).extract 0 (8 + j)) = flagN ++ S.take j := by
    rw [show Bm.nums ((encB T).extract 0 (8 + j)) = (Bm.nums (encB T)).take (8 + j) from by simp [Bm.nums, ByteArray.data_extract, List.map_take], hS, List.append_assoc, show flagN ++ (S ++ flagN) = flagN ++ (S ++ flagN) from rfl,
      List.take_append, show flagN.length = 8 from rfl, List.take_of_length_le (by show (8 : Nat) ≤ _; omega), show 8 + j - 8 = j from by omega, List.take_append_of_le_length (by omega)]
  have hbt : Hm.bit (S.take j) := fun x hx => hb x (List.mem_of_mem_take hx)
  have h6t := Hm.has6_take 0 S j h6
  obtain ⟨q1, q2, q3⟩ := Hm.feed_quiet ins (S.take j) hbt (by decide) h6t
  have hrow := Hm.row_le 0 (S.take j) (by decide) h6t
  rw [nums_app, e, nums_ones, Hm.feed_append, Hm.feed_append, show Hm.feedS st flagN = (ins, []) from Hm.flag_ready hr]
  simp only
  obtain ⟨C, hC⟩ : ∃ C, (Hm.feedS ins (S.take j)).1 = ⟨Hm.row 0 (S.take j), true, C⟩ := by
    generalize hR : (Hm.feedS ins (S.take j)).1 = R at q2 q3
    obtain ⟨o, i, C⟩ := R
    simp only at q2 q3
    exact ⟨C, by rw [q2, q3]; rfl⟩
  rw [hC, Hm.feed_abort (6 - Hm.row 0 (S.take j)) _ C 8 (by omega) (by omega), q1]
  exact ⟨_, by omega, rfl⟩
theorem Line.broken {b : ByteArray} {gs : List Xm.Fr} (h : Line b gs) (T : ByteArray) (j : Nat) (hj : j + 16 ≤ (encB T).size) : Line (b ++ ((encB T).extract 0 (8 + j) ++ ones8 ++ flagB)) gs := by
  obtain ⟨st, E, e, hr, hE⟩ := h.ex
  obtain ⟨k, hk, hx⟩ := Tm.broken j hj st hr
  refine ⟨ins, E ++ [((1 : Int), ByteArray.empty)], ?_, ready_ins, by rw [heard_append, hE, heard_abort]; simp⟩
  rw [nums_app, nums_app, Hm.feed_append, e]
  simp only
  rw [Hm.feed_append, hx, nums_flag, flag_hunt k hk]
  simp

/-- a frame one of whose bits between the flags is turned -/
theorem turned_parts (T : ByteArray) (j : Nat) (hj : j + 16 < (encB T).size) : ∃ x, Bm.nums (turned T ((8 + j : Nat) : Int)) = flagN ++ (x ++ flagN) := by
  obtain ⟨S, hS, hb, h6, hz⟩ := enc_parts T
  have hr : ∀ n ∈ Bm.flips (Bm.nums (encB T)) [((8 + j : Nat) : Int)], 0 ≤ n ∧ n ≤ 255 := Bm.flips_range _ _ (Bm.nums_range _)
  have hl : (Bm.nums (encB T)).length = S.length + 16 := by rw [Bm.nums_length, hz]
  refine ⟨S.set j (97 - (Bm.nums (encB T)).getD (8 + j) 0), ?_⟩
  rw [turned, Bm.nums_str _ hr]
  show Bm.flip1 (Bm.nums (encB T)) ((8 + j : Nat) : Int) = _
  have hbit : Bm.isB ((Bm.nums (encB T)).getD (8 + j) 0) = true := by
    have hm : (Bm.nums (encB T)).getD (8 + j) 0 ∈ Bm.nums (encB T) := by
      rw [List.getD, List.getElem?_eq_getElem (by omega)]
      exact List.getElem_mem _
    rw [Bm.isB_iff]
    have hbb : Hm.bit (Bm.nums (encB T)) := by rw [nums_enc]; exact enc_bit _
    exact hbb _ hm
  rw [Bm.flip1_in _ (8 + j) (by omega) hbit]
  generalize 97 - (Bm.nums (encB T)).getD (8 + j) 0 = v
  have hf : flagN.length = 8 := rfl
  rw [hS, List.append_assoc, List.set_append, hf, if_neg (by omega), show 8 + j - 8 = j from by omega, List.set_append, if_pos (by omega)]
/-- what a new decoder meets of it is what any meets that stands between frames -/
theorem turned_same (T : ByteArray) (j : Nat) (hj : j + 16 < (encB T).size) (st : Hm.St) (hr : Hm.Ready st) :
    (Hm.feedS st (Bm.nums (turned T ((8 + j : Nat) : Int)))).1 = ins ∧ (Hm.feedS st (Bm.nums (turned T ((8 + j : Nat) : Int)))).2 = (Hm.feedS Hm.init (Bm.nums (turned T ((8 + j : Nat) : Int)))).2 := by
  obtain ⟨x, hx⟩ := turned_parts T j hj
  rw [hx]
  have e : ∀ st, Hm.Ready st → Hm.feedS st (flagN ++ (x ++ flagN)) = Hm.feedS ins (x ++ flagN) := by
    intro st hr
    rw [Hm.feed_append, show Hm.feedS st flagN = (ins, []) from Hm.flag_ready hr]; simp
  rw [e st hr, e Hm.init Hm.ready_init]
  have e3 : (Hm.feedS ins (x ++ flagN)).1 = (Hm.feedS (Hm.feedS ins x).1 flagN).1 := by rw [Hm.feed_append]
  exact ⟨e3.trans (flag_any _), rfl⟩
theorem turned_size (T : ByteArray) (p : Int) : (turned T p).size = (encB T).size := by
  rw [turned, strOfNums_size, Bm.flips_length, Bm.nums_length]

/-- the frame of a text -/
def kindOf (i : Nat) : Int := [0, 6, 1, 4].getD i 0
def cut100 (s : ByteArray) : ByteArray := s.extract 0 (min (s.size : Int) 100).toNat
theorem cut100_size (s : ByteArray) : (cut100 s).size ≤ 100 := by rw [cut100, ByteArray.size_extract]; omega
def madeF (i : Nat) (ns nr : Int) (pf : Bool) (info : ByteArray) : Xm.Fr :=
  ⟨0, 64, true, kindOf i, pf, if i = 0 then ns % 128 else 0, if i = 0 ∨ i = 2 then nr % 128 else 0, if i < 2 then cut100 info else ByteArray.empty⟩
theorem made_ok (i : Nat) (hi : i < 4) (ns nr : Int) (pf : Bool) (info : ByteArray) :
    ∃ T : ByteArray, Xm.putRes (madeF i ns nr pf info) false = (T, 0) ∧ 5 ≤ T.size ∧ T.size ≤ 106 ∧ Xm.getRes T false = (madeF i ns nr pf info, 0) := by
  have hcut := cut100_size info
  have hn0 : 0 ≤ ns % 128 ∧ ns % 128 ≤ 127 := by omega
  have hr0 : 0 ≤ nr % 128 ∧ nr % 128 ≤ 127 := by omega
  have hinfo : (madeF i ns nr pf info).info.size ≤ 100 := by
    show (if i < 2 then cut100 info else ByteArray.empty).size ≤ 100
    split
    · exact hcut
    · exact Nat.zero_le _
  have h4 : i = 0 ∨ i = 1 ∨ i = 2 ∨ i = 3 := by omega
  have hmay : Xm.mayB (madeF i ns nr pf info).k (madeF i ns nr pf info).c = true := by
    rcases h4 with rfl | rfl | rfl | rfl
    · show Xm.mayB 0 true = true; decide
    · show Xm.mayB 6 true = true; decide
    · show Xm.mayB 1 true = true; decide
    · show Xm.mayB 4 true = true; decide
  have hadr : (Xm.adr (madeF i ns nr pf info) false).2 = 0 := by
    show (Am.putRes 0 64 (true == false)).2 = 0
    decide
  have hctl : (Xm.ctl (madeF i ns nr pf info)).2 = 0 := by
    rcases h4 with rfl | rfl | rfl | rfl
    · show (Cm.putRes 0 pf (ns % 128) (nr % 128)).2 = 0
      rw [Cm.put_i pf _ _ hn0 hr0]
    · show (Cm.putRes ((6 : Nat) : Int) pf 0 0).2 = 0
      rw [Cm.put_high 6 pf 0 0 (by decide) (by decide)]
    · show (Cm.putRes ((1 : Nat) : Int) pf 0 (nr % 128)).2 = 0
      rw [Cm.put_s 1 pf 0 _ (by decide) (by decide) hr0]
    · show (Cm.putRes ((4 : Nat) : Int) pf 0 0).2 = 0
      rw [Cm.put_high 4 pf 0 0 (by decide) (by decide)]
  have hcar : Xm.carB (madeF i ns nr pf info).k ((madeF i ns nr pf info).info.size : Int) = true := by
    rcases h4 with rfl | rfl | rfl | rfl
    · show Xm.carB 0 ((cut100 info).size : Int) = true
      rw [Xm.carB, if_pos (by decide), decide_eq_true_eq]; omega
    · show Xm.carB 6 ((cut100 info).size : Int) = true
      rw [Xm.carB, if_pos (by decide), decide_eq_true_eq]; omega
    · show Xm.carB 1 ((ByteArray.empty).size : Int) = true
      decide
    · show Xm.carB 4 ((ByteArray.empty).size : Int) = true
      decide
  have hp := Xm.put_is hmay hctl hadr hcar
  have h0 : (Xm.putRes (madeF i ns nr pf info) false).2 = 0 := by rw [hp]
  have hs := (Xm.put_size h0).1
  have hc := Xm.ctl_size hctl
  have hb := Xm.back h0
  have hnorm : Xm.norm (madeF i ns nr pf info) = madeF i ns nr pf info := by
    rcases h4 with rfl | rfl | rfl | rfl <;> rfl
  rw [hnorm] at hb
  refine ⟨(Xm.putRes (madeF i ns nr pf info) false).1, by rw [hp], by omega, by omega, hb⟩
end Go.Proofs.YtdcohbdndkphnabDoor.Tm
