/-
  Frames: what May, Carries, Put and Get answer, as plain mathematics; a frame is read back from its octets, and octets that are read are just its own.
-/
import Derived.Test.YtfpdkdaoomakgaaDoorCtrlBackMath
import Derived.Test.YtfpdkdaoomakgaaDoorFcsCheckWalks
namespace Go.Proofs.YtfpdkdaoomakgaaDoor.Xm
open Go.RowKit
set_option linter.unusedVariables false
set_option linter.unusedSimpArgs false

/-- a frame -/
structure Fr where
  sapi : Int
  tei : Int
  c : Bool
  k : Int
  pf : Bool
  ns : Int
  nr : Int
  info : ByteArray
def zero : Fr := ⟨0, 0, false, 0, false, 0, 0, ByteArray.empty⟩

def cmdT : List Bool := [true, false, false, false, true, false, true, true, false, false]
def respT : List Bool := [false, false, false, false, false, true, false, false, true, true]
/-- P6.1 -/
def mayB (k : Int) (c : Bool) : Bool := Cm.kn k && !((if c then respT else cmdT).getD k.toNat false)
def carB (k n : Int) : Bool := if k = 0 ∨ k = 6 then decide (0 ≤ n ∧ n ≤ 260) else if k = 9 then decide (n = 5) else Cm.kn k && decide (n = 0)
theorem may_out {k : Int} (c : Bool) (h : ¬ Cm.known k) : mayB k c = false := by rw [mayB, Cm.kn_out h]; rfl
theorem may_known {k : Int} {c : Bool} (h : mayB k c = true) : Cm.known k := by
  rcases Decidable.em (Cm.known k) with h' | h'
  · exact h'
  · rw [may_out c h'] at h; exact absurd h (by decide)

/-- P6.2: the control field's and the address's answers -/
def ctl (f : Fr) : ByteArray × Int := Cm.putRes f.k f.pf f.ns f.nr
def adr (f : Fr) (net : Bool) : ByteArray × Int := Am.putRes f.sapi f.tei (f.c == net)
def body (f : Fr) (net : Bool) : ByteArray := (adr f net).1 ++ (ctl f).1 ++ f.info
def putRes (f : Fr) (net : Bool) : ByteArray × Int :=
  if mayB f.k f.c = false then (ByteArray.empty, 4)
  else if (ctl f).2 ≠ 0 then (ByteArray.empty, (ctl f).2)
  else if (adr f net).2 ≠ 0 then (ByteArray.empty, (adr f net).2)
  else if carB f.k (f.info.size : Int) = false then (ByteArray.empty, 5)
  else (Fm.sealB (body f net), 0)

/-- P6.3, of the octets ahead of the check sequence: those behind the address, the control field's answer, the information -/
def rest (o : ByteArray) : ByteArray := o.extract 2 o.size
def cget (o : ByteArray) : (Int × Bool × Int × Int) × Int × Int := Cm.getRes (rest o)
def infoOf (o : ByteArray) : ByteArray := (rest o).extract (cget o).2.1.toNat (rest o).size
def frOf (o : ByteArray) (net : Bool) : Fr := ⟨(Am.getRes o).1.1, (Am.getRes o).1.2.1, (Am.getRes o).1.2.2 == net, (cget o).1.1, (cget o).1.2.1, (cget o).1.2.2.1, (cget o).1.2.2.2, infoOf o⟩
def getO (o : ByteArray) (net : Bool) : Fr × Int :=
  if (Am.getRes o).2 ≠ 0 then (zero, (Am.getRes o).2)
  else if (cget o).2.2 ≠ 0 then (zero, (cget o).2.2)
  else if mayB (cget o).1.1 ((Am.getRes o).1.2.2 == net) = false then (zero, 4)
  else if carB (cget o).1.1 ((infoOf o).size : Int) = false then (zero, 5)
  else (frOf o net, 0)
def getRes (s : ByteArray) (net : Bool) : Fr × Int := if (checkRes s).2 ≠ 0 then (zero, 6) else getO (checkRes s).1 net

/-- the frame without the numbers that its kind hasn't -/
def norm (f : Fr) : Fr := { f with ns := if f.k = 0 then f.ns else 0, nr := if f.k < 4 then f.nr else 0 }

theorem put_ok {f : Fr} {net : Bool} (h : (putRes f net).2 = 0) : mayB f.k f.c = true ∧ (ctl f).2 = 0 ∧ (adr f net).2 = 0 ∧ carB f.k (f.info.size : Int) = true ∧ putRes f net = (Fm.sealB (body f net), 0) := by
  unfold putRes at h ⊢
  by_cases h1 : mayB f.k f.c = false
  · rw [if_pos h1] at h; exact absurd h (by decide)
  · rw [if_neg h1] at h ⊢
    by_cases h2 : (ctl f).2 ≠ 0
    · rw [if_pos h2] at h; exact absurd h h2
    · rw [if_neg h2] at h ⊢
      by_cases h3 : (adr f net).2 ≠ 0
      · rw [if_pos h3] at h; exact absurd h h3
      · rw [if_neg h3] at h ⊢
        by_cases h4 : carB f.k (f.info.size : Int) = false
        · rw [if_pos h4] at h; exact absurd h (by decide)
        · rw [if_neg h4]
          exact ⟨by simpa using h1, by simpa using h2, by simpa using h3, by simpa using h4, rfl⟩
theorem put_is {f : Fr} {net : Bool} (h1 : mayB f.k f.c = true) (h2 : (ctl f).2 = 0) (h3 : (adr f net).2 = 0) (h4 : carB f.k (f.info.size : Int) = true) : putRes f net = (Fm.sealB (body f net), 0) := by
  rw [putRes, if_neg (by rw [h1]; decide), if_neg (by simpa using h2), if_neg (by simpa using h3), if_neg (by rw [h4]; decide)]
/-- with an error there are no octets -/
theorem put_bad {f : Fr} {net : Bool} (h : (putRes f net).2 ≠ 0) : (putRes f net).1 = ByteArray.empty := by
  unfold putRes at h ⊢
  split
  · rfl
  · rename_i h1
    rw [if_neg h1] at h
    split
    · rfl
    · rename_i h2
      rw [if_neg h2] at h
      split
      · rfl
      · rename_i h3
        rw [if_neg h3] at h
        split
        · rfl
        · rename_i h4
          rw [if_neg h4] at h
          exact absurd rfl h

theorem get_is {o : ByteArray} {net : Bool} (h1 : (Am.getRes o).2 = 0) (h2 : (cget o).2.2 = 0) (h3 : mayB (cget o).1.1 ((Am.getRes o).1.2.2 == net) = true) (h4 : carB (cget o).1.1 ((infoOf o).size : Int) = true) : getO o net = (frOf o net, 0) := by
  rw [getO, if_neg (by simpa using h1), if_neg (by simpa using h2), if_neg (by rw [h3]; decide), if_neg (by rw [h4]; decide)]
theorem get_ok {o : ByteArray} {net : Bool} (h : (getO o net).2 = 0) : (Am.getRes o).2 = 0 ∧ (cget o).2.2 = 0 ∧ mayB (cget o).1.1 ((Am.getRes o).1.2.2 == net) = true ∧ carB (cget o).1.1 ((infoOf o).size : Int) = true ∧ getO o net = (frOf o net, 0) := by
  unfold getO at h ⊢
  by_cases h1 : (Am.getRes o).2 ≠ 0
  · rw [if_pos h1] at h; exact absurd h h1
  · rw [if_neg h1] at h ⊢
    by_cases h2 : (cget o).2.2 ≠ 0
    · rw [if_pos h2] at h; exact absurd h h2
    · rw [if_neg h2] at h ⊢
      by_cases h3 : mayB (cget o).1.1 ((Am.getRes o).1.2.2 == net) = false
      · rw [if_pos h3] at h; exact absurd h (by decide)
      · rw [if_neg h3] at h ⊢
        by_cases h4 : carB (cget o).1.1 ((infoOf o).size : Int) = false
        · rw [if_pos h4] at h; exact absurd h (by decide)
        · rw [if_neg h4]
          exact ⟨by simpa using h1, by simpa using h2, by simpa using h3, by simpa using h4, rfl⟩
theorem getO_bad {o : ByteArray} {net : Bool} (h : (getO o net).2 ≠ 0) : (getO o net).1 = zero := by
  unfold getO at h ⊢
  split
  · rfl
  · rename_i h1
    rw [if_neg h1] at h
    split
    · rfl
    · rename_i h2
      rw [if_neg h2] at h
      split
      · rfl
      · rename_i h3
        rw [if_neg h3] at h
        split
        · rfl
        · rename_i h4
          rw [if_neg h4] at h
          exact absurd rfl h
/-- with an error the frame is the zero one -/
theorem get_bad {s : ByteArray} {net : Bool} (h : (getRes s net).2 ≠ 0) : (getRes s net).1 = zero := by
  unfold getRes at h ⊢
  split
  · rfl
  · rename_i h1
    rw [if_neg h1] at h
    exact getO_bad h

/-- a control field that is put is read back, whatever follows -/
theorem ctl_back (k : Int) (pf : Bool) (ns nr : Int) (r : ByteArray) (h : (Cm.putRes k pf ns nr).2 = 0) :
    ∃ m : Nat, (Cm.putRes k pf ns nr).1.size = m ∧ 1 ≤ m ∧ m ≤ 2 ∧ Cm.getRes ((Cm.putRes k pf ns nr).1 ++ r) = ((k, pf, (if k = 0 then ns else 0), (if k < 4 then nr else 0)), (m : Int), 0) := by
  rcases Cm.put_ways k pf ns nr with ⟨e, hp, he⟩ | ⟨n, rfl, hn, h4⟩ | ⟨rfl, h1, h2⟩ | ⟨n, rfl, h0, h4, h2⟩
  · rw [hp] at h; exact absurd h he
  · rw [Cm.put_high n pf ns nr hn h4]
    refine ⟨1, by rw [strOfNums_size]; rfl, by decide, by decide, ?_⟩
    rw [Cm.back_high n pf r hn h4, if_neg (by omega), if_neg (by omega)]; rfl
  · rw [Cm.put_i pf ns nr h1 h2]
    refine ⟨2, by rw [strOfNums_size]; rfl, by decide, by decide, ?_⟩
    rw [Cm.back_i pf ns nr r h1 h2, if_pos rfl, if_pos (by decide)]; rfl
  · rw [Cm.put_s n pf ns nr h0 h4 h2]
    refine ⟨2, by rw [strOfNums_size]; rfl, by decide, by decide, ?_⟩
    rw [Cm.back_s n pf nr r h0 h4 h2, if_neg (by omega), if_pos (by omega)]; rfl

theorem nums_cut (s : ByteArray) (n : Nat) : Bm.nums (s.extract 0 n) = (Bm.nums s).take n := by simp [Bm.nums, ByteArray.data_extract, List.map_take]
theorem str_cut (s : ByteArray) (n : Nat) (l : List Int) (h : (Bm.nums s).take n = l) : strOfNums l = s.extract 0 n := by
  rw [← h, ← nums_cut, Bm.str_nums]

/-- a control field that is read is put as it was -/
theorem ctl_puts (r : ByteArray) (h : (Cm.getRes r).2.2 = 0) :
    ∃ (k : Int) (pf : Bool) (ns nr : Int) (m : Nat), Cm.getRes r = ((k, pf, ns, nr), (m : Int), 0) ∧ m ≤ r.size ∧ 1 ≤ m ∧ m ≤ 2 ∧ Cm.putRes k pf ns nr = (r.extract 0 m, 0) := by
  have hr := Bm.nums_range r
  have hl := Bm.nums_length r
  unfold Cm.getRes at h ⊢
  match hn : Bm.nums r with
  | [] => rw [hn] at h; exact absurd h (by decide)
  | x :: q =>
    rw [hn] at h hr hl
    have hx := hr x (by simp)
    cases hb : Cm.beg x with
    | none => rw [Cm.getN_none q hb] at h; exact absurd h (by decide)
    | some b =>
      obtain ⟨k, pf, ns⟩ := b
      obtain ⟨n, rfl, hn10, hc⟩ := Cm.beg_some hb
      by_cases h4 : 4 ≤ n
      · obtain ⟨_, rfl, hxf, _⟩ : 1 ≤ n ∧ ns = 0 ∧ x = Cm.foct n pf ∧ x % 2 = 1 := by
          rcases hc with h | h
          · omega
          · exact h
        refine ⟨(n : Int), pf, 0, 0, 1, by rw [Cm.getN_one q hb (by omega)]; rfl, by simp at hl; omega, by decide, by decide, ?_⟩
        rw [Cm.put_high n pf 0 0 hn10 h4, ← hxf, str_cut r 1 [x] (by rw [hn]; rfl)]
      · match q, hn with
        | [], _ => rw [Cm.getN_short hb (by omega)] at h; exact absurd h (by decide)
        | y :: t, hn =>
          have hy := hr y (by simp)
          have hsec : 2 * (y / 2) + Am.crN (y % 2 == 1) = y := by
            by_cases h : y % 2 = 1
            · rw [show (y % 2 == 1) = true from by simp [h], show Am.crN true = 1 from rfl]; omega
            · rw [show (y % 2 == 1) = false from by simp [h], show Am.crN false = 0 from rfl]; omega
          refine ⟨(n : Int), y % 2 == 1, ns, y / 2, 2, by rw [Cm.getN_two y t hb (by omega)]; rfl, by simp at hl; omega, by decide, by decide, ?_⟩
          rcases hc with ⟨rfl, _, rfl, he⟩ | ⟨h1, _, hxf, _⟩
          · rw [show ((0 : Nat) : Int) = 0 from rfl, Cm.put_i _ _ _ (by omega) (by omega), hsec, show 2 * (x / 2) = x from by omega, str_cut r 2 [x, y] (by rw [hn]; rfl)]
          · rw [Cm.put_s n _ _ _ (by omega) (by omega) (by omega), hsec, Cm.foct_low n (by omega) false, ← Cm.foct_low n (by omega) pf, ← hxf, str_cut r 2 [x, y] (by rw [hn]; rfl)]

theorem adr_ok {f : Fr} {net : Bool} (h : (adr f net).2 = 0) : Am.good f.sapi f.tei ∧ (adr f net).1 = strOfNums (Am.octs2 f.sapi f.tei (f.c == net)) := by
  unfold adr Am.putRes at h ⊢
  by_cases hg : Am.good f.sapi f.tei
  · rw [if_pos hg]; exact ⟨hg, rfl⟩
  · rw [if_neg hg] at h; exact absurd h (by decide)
theorem adr_size {f : Fr} {net : Bool} (h : (adr f net).2 = 0) : (adr f net).1.size = 2 := by rw [(adr_ok h).2, strOfNums_size]; rfl
theorem ctl_size {f : Fr} (h : (ctl f).2 = 0) : 1 ≤ (ctl f).1.size ∧ (ctl f).1.size ≤ 2 := by
  obtain ⟨m, h1, h2, h3, _⟩ := ctl_back f.k f.pf f.ns f.nr ByteArray.empty h
  unfold ctl; omega
theorem beq_twice (a b : Bool) : ((a == b) == b) = a := by cases a <;> cases b <;> rfl

theorem rest_body {f : Fr} {net : Bool} (h : (adr f net).2 = 0) : rest (body f net) = (ctl f).1 ++ f.info := by
  rw [rest, body, ByteArray.append_assoc]
  have e := adr_size h
  have : ((adr f net).1 ++ ((ctl f).1 ++ f.info)).extract (adr f net).1.size ((adr f net).1 ++ ((ctl f).1 ++ f.info)).size = (ctl f).1 ++ f.info := ByteArray.extract_append_eq_right rfl (by rw [ByteArray.size_append])
  rw [e] at this
  exact this
theorem cget_body {f : Fr} {net : Bool} (h : (adr f net).2 = 0) (h2 : (ctl f).2 = 0) : cget (body f net) = ((f.k, f.pf, (norm f).ns, (norm f).nr), ((ctl f).1.size : Int), 0) := by
  rw [cget, rest_body h]
  obtain ⟨m, h1, _, _, e⟩ := ctl_back f.k f.pf f.ns f.nr f.info h2
  rw [show (ctl f).1.size = m from h1]
  exact e
theorem info_body {f : Fr} {net : Bool} (h : (adr f net).2 = 0) (h2 : (ctl f).2 = 0) : infoOf (body f net) = f.info := by
  rw [infoOf, cget_body h h2, rest_body h]
  show ((ctl f).1 ++ f.info).extract ((ctl f).1.size : Int).toNat _ = _
  rw [Int.toNat_natCast]
  exact ByteArray.extract_append_eq_right rfl (by rw [ByteArray.size_append])
theorem aget_body {f : Fr} {net : Bool} (h : (adr f net).2 = 0) : Am.getRes (body f net) = ((f.sapi, f.tei, f.c == net), 0) := by
  obtain ⟨hg, e⟩ := adr_ok h
  rw [body, e, ByteArray.append_assoc]
  exact Am.get_back _ _ _ _ hg

/-- a frame that is put is read back by the other side -/
theorem back {f : Fr} {net : Bool} (h : (putRes f net).2 = 0) : getRes (putRes f net).1 net = (norm f, 0) := by
  obtain ⟨h1, h2, h3, h4, e⟩ := put_ok h
  rw [e]
  show getRes (Fm.sealB (body f net)) net = _
  rw [getRes, check_seal, if_neg (by simp)]
  have hc := cget_body h3 h2
  have ha := aget_body h3
  have hi := info_body h3 h2
  rw [get_is (by rw [ha]) (by rw [hc]) (by rw [hc, ha]; simpa [beq_twice] using h1) (by rw [hc, hi]; exact h4), frOf, hc, ha, hi]
  simp [norm, beq_twice]

/-- what Get says of a frame's octets that the other side is taken to have sent -/
theorem sides {f : Fr} {net : Bool} (h : (putRes f net).2 = 0) : getRes (putRes f net).1 (!net) = if mayB f.k (!f.c) = false then (zero, 4) else ({ norm f with c := !f.c }, 0) := by
  obtain ⟨h1, h2, h3, h4, e⟩ := put_ok h
  rw [e]
  show getRes (Fm.sealB (body f net)) (!net) = _
  have hx : ((f.c == net) == !net) = !f.c := by cases f.c <;> cases net <;> rfl
  rw [getRes, check_seal, if_neg (by simp)]
  have hc := cget_body h3 h2
  have ha := aget_body h3
  have hi := info_body h3 h2
  by_cases hm : mayB f.k (!f.c) = false
  · rw [if_pos hm]
    show getO (body f net) (!net) = _
    rw [getO, ha, hc, if_neg (by simp), if_neg (by simp), if_pos (by rw [hx]; exact hm)]
  · rw [if_neg hm]
    show getO (body f net) (!net) = _
    rw [get_is (by rw [ha]) (by rw [hc]) (by rw [hc, ha, hx]; simpa using hm) (by rw [hc, hi]; exact h4), frOf, hc, ha, hi, hx]
    rfl

theorem cut_join (s : ByteArray) (n : Nat) (h : n ≤ s.size) : s.extract 0 n ++ s.extract n s.size = s := by
  rw [ByteArray.extract_append_extract, Nat.min_eq_left (Nat.zero_le _), Nat.max_eq_right h]
  exact ByteArray.extract_zero_size

/-- octets that are read are just the frame's own -/
theorem puts {s : ByteArray} {net : Bool} (h : (getRes s net).2 = 0) : putRes (getRes s net).1 net = (s, 0) := by
  unfold getRes at h ⊢
  by_cases hk : (checkRes s).2 ≠ 0
  · rw [if_pos hk] at h; exact absurd h (by decide)
  · rw [if_neg hk] at h ⊢
    have hseal : Fm.sealB (checkRes s).1 = s := by
      unfold checkRes at hk ⊢
      by_cases h2 : s.size < 2
      · rw [if_pos h2] at hk; exact absurd (show ((3 : Int) ≠ 0) by decide) hk
      · rw [if_neg h2] at hk ⊢
        by_cases h3 : Fm.sealB (ahead s) = s
        · rw [if_pos h3]; exact h3
        · rw [if_neg h3] at hk; exact absurd (show ((6 : Int) ≠ 0) by decide) hk
    obtain ⟨o, ho⟩ : ∃ o, o = (checkRes s).1 := ⟨_, rfl⟩
    rw [← ho] at h hseal ⊢
    clear hk ho
    obtain ⟨h1, h2, h3, h4, e⟩ := get_ok h
    rw [e]
    obtain ⟨hg, hs2, ho2⟩ := Am.get_puts o h1
    obtain ⟨k, pf, ns, nr, m, hc, hm, _, _, hp⟩ := ctl_puts (rest o) h2
    have hcg : cget o = ((k, pf, ns, nr), (m : Int), 0) := hc
    have hadr : adr (frOf o net) net = (o.extract 0 2, 0) := by
      show Am.putRes (Am.getRes o).1.1 (Am.getRes o).1.2.1 (((Am.getRes o).1.2.2 == net) == net) = _
      rw [beq_twice, Am.putRes, if_pos hg, ho2]
    have hctl : ctl (frOf o net) = ((rest o).extract 0 m, 0) := by
      show Cm.putRes (cget o).1.1 (cget o).1.2.1 (cget o).1.2.2.1 (cget o).1.2.2.2 = _
      rw [hcg]; exact hp
    have hinfo : (frOf o net).info = (rest o).extract m (rest o).size := by
      show infoOf o = _
      rw [infoOf, hcg]; rfl
    have h3' : mayB (frOf o net).k (frOf o net).c = true := h3
    have h4' : carB (frOf o net).k ((frOf o net).info.size : Int) = true := h4
    have hk0 : (ctl (frOf o net)).2 = 0 := by rw [hctl]
    have ha0 : (adr (frOf o net) net).2 = 0 := by rw [hadr]
    rw [put_is h3' hk0 ha0 h4', body, hadr, hctl, hinfo, ByteArray.append_assoc]
    show (Fm.sealB (o.extract 0 2 ++ ((rest o).extract 0 m ++ (rest o).extract m (rest o).size)), (0 : Int)) = _
    rw [cut_join (rest o) m hm, rest, cut_join o 2 hs2, hseal]

/-- with a wrong check sequence there is no frame -/
theorem get_sum {s : ByteArray} (net : Bool) (h : (checkRes s).2 ≠ 0) : getRes s net = (zero, 6) := by rw [getRes, if_pos h]
theorem car_size {k n : Int} (h4 : carB k n = true) : n ≤ 260 := by
  unfold carB at h4
  split at h4
  · rw [decide_eq_true_eq] at h4; omega
  · split at h4
    · rw [decide_eq_true_eq] at h4; omega
    · rw [Bool.and_eq_true, decide_eq_true_eq] at h4; omega
theorem put_size {f : Fr} {net : Bool} (h : (putRes f net).2 = 0) : (putRes f net).1.size = f.info.size + (ctl f).1.size + 4 ∧ f.info.size ≤ 260 := by
  obtain ⟨h1, h2, h3, h4, e⟩ := put_ok h
  rw [e]
  refine ⟨?_, ?_⟩
  · show (Fm.sealB (body f net)).size = _
    rw [Fm.sealB_size, body, ByteArray.size_append, ByteArray.size_append, adr_size h3]; omega
  · have := car_size h4; omega
end Go.Proofs.YtfpdkdaoomakgaaDoor.Xm
