/-
  The walks of hdlc.Stuff and hdlc.Encode: they return the stuffed bits; nothing that was there is turned. (strings.ReplaceAll by the shelf's contract.)
-/
import Derived.Test.YtdcohbdndkphnabDoorOfWalks
import Derived.Test.YtdcohbdndkphnabDoorHdlcMath
import Derived.Test.YtdcohbdndkphnabDoorShelf
import Derived.Laws.IdiomStrings
namespace Go.Proofs.YtdcohbdndkphnabDoor
open Go.RowKit
set_option linter.unusedVariables false
set_option linter.unusedSimpArgs false

/-- the library's variable MaxLen holds some number -/
def MaxOk (w : World) : Prop := ∃ m, w.cell? ⟨3, 0, none⟩ = some (.int .i64 m)
theorem MaxOk.lt {w : World} (h : MaxOk w) : 3 < w.heap.size := by obtain ⟨m, h⟩ := h; exact cell_lt h
theorem MaxOk.later {w w' : World} {B : Nat} (h : MaxOk w) (hb : Below B w w') (hB : 3 < B) : MaxOk w' := by
  obtain ⟨m, h⟩ := h
  exact ⟨m, (hb.cell (p := ⟨3, 0, none⟩) hB).trans h⟩

/-- behind []byte(s): the bytes lie in the new block -/
theorem bytes_laid (w : World) (s : ByteArray) (c m : Nat) (hm : (bytesRow s c).size ≤ m) : BytesAt (w.alloc (.cells (bytesRow s c) 5 (m, m + 1))).drew w.heap.size (Bm.nums s) := by
  have hsz : s.size ≤ (bytesRow s c).size := by simp only [bytesRow, Array.size_append, Array.size_map]; show s.data.size ≤ _; omega
  have hh : (w.alloc (.cells (bytesRow s c) 5 (m, m + 1))).drew.heap[w.heap.size]? = some (.cells (bytesRow s c) 5 (m, m + 1)) := by
    show (w.heap.push _)[w.heap.size]? = _
    simp
  refine ⟨by simp, fun j hj => ?_, fun j hj => ?_⟩
  · rw [Bm.nums_length] at hj
    have hd : j < s.data.size := hj
    have e : (bytesRow s c)[j]? = some (.int .u8 ((Bm.nums s).getD j 0)) := by
      rw [bytesRow, Array.getElem?_append_left (by simpa using hd), Array.getElem?_map, Array.getElem?_eq_getElem hd, List.getD, List.getElem?_eq_getElem (by rw [Bm.nums_length]; exact hj), Bm.nums_get s j hj]
      rfl
    simp only [World.cell?, hh]
    simpa using e
  · rw [Bm.nums_length] at hj
    simp only [World.frozen?, hh]
    simp
    omega

theorem str_toU (xs : List Int) : (strOfNums xs).data.toList = Hm.toU xs := by rw [strOfNums_data]; rfl
theorem toU_str (xs : List Int) : (⟨(Hm.toU xs).toArray⟩ : ByteArray) = strOfNums xs := rfl

theorem all_stuff (xs : List Int) (hb : Hm.bit xs) : (⟨(Lib.replaceAll (strOfNums xs).data.toList (⟨#[49, 49, 49, 49, 49]⟩ : ByteArray).data.toList (⟨#[49, 49, 49, 49, 49, 48]⟩ : ByteArray).data.toList).toArray⟩ : ByteArray) = strOfNums (Hm.stuff 0 xs) := by
  rw [Hm.rep_all _ _ _ (by decide), str_toU]
  show (⟨(Hm.rep Hm.five Hm.fiveO (Hm.toU xs)).toArray⟩ : ByteArray) = _
  rw [Hm.rep_stuff _ xs (Nat.le_refl _) hb, toU_str]

theorem count_room (s old : ByteArray) (k : Nat) (hs : s.size ≤ 1000000) (h5 : 5 ≤ old.size) (hk : k ≤ 6) : s.size + Lib.countB s old * k ≤ 140737488355328 := by
  have h := Lib.countB_mul_le old (by omega) s.size s (Nat.le_refl _)
  have h1 : Lib.countB s old * 5 ≤ Lib.countB s old * old.size := Nat.mul_le_mul_left _ h5
  have h2 : Lib.countB s old * k ≤ Lib.countB s old * 6 := Nat.mul_le_mul_left _ hk
  omega

theorem replace_stuff (xs : List Int) (w : World) (hb : Hm.bit xs) (hs : xs.length ≤ 1000000) (hm : MaxOk w) :
    Calls Tryd.prog 43 #[.string (strOfNums xs), .string ⟨#[49, 49, 49, 49, 49]⟩, .string ⟨#[49, 49, 49, 49, 49, 48]⟩] w fun e w' => e = .returned (.string (strOfNums (Hm.stuff 0 xs))) ∧ Below w.heap.size w w' := by
  obtain ⟨m, hm⟩ := hm
  have hz : (strOfNums xs).size ≤ 1000000 := by rw [strOfNums_size]; exact hs
  refine (Tryd.strings_ReplaceAll (strOfNums xs) ⟨#[49, 49, 49, 49, 49]⟩ ⟨#[49, 49, 49, 49, 49, 48]⟩ m w (by omega) hm (by decide) (count_room _ _ _ hz (by decide) (by decide))).mono ?_
  rintro e w' ⟨rfl, h⟩
  exact ⟨by rw [all_stuff xs hb], h⟩

/-- the first i bytes as bits -/
def normB (c : Int) : Int := if c = 49 then 49 else 48
def normK (l : List Int) (i : Nat) : List Int := (l.take i).map normB ++ l.drop i
theorem normK_length (l : List Int) (i : Nat) : (normK l i).length = l.length := by simp [normK]; omega
theorem normK_get (l : List Int) (i : Nat) (h : i < l.length) : (normK l i).getD i 0 = l[i] := by
  rw [normK, List.getD, List.getElem?_append_right (by simp; omega)]
  simp [Nat.min_eq_left (Nat.le_of_lt h), h]
theorem normK_next (l : List Int) (i : Nat) (h : i < l.length) : normK l (i + 1) = (normK l i).set i (normB l[i]) := by
  have hl : ((l.take i).map normB).length = i := by simp; omega
  rw [normK, normK, List.set_append_right _ _ (by omega), hl, Nat.sub_self, List.take_succ_eq_append_getElem h, List.drop_eq_getElem_cons h, List.map_append, List.append_assoc]
  rfl
theorem normK_same (l : List Int) (i : Nat) (h : i < l.length) (h1 : l[i] = 49) : normK l (i + 1) = normK l i := by
  rw [normK, normK, List.take_succ_eq_append_getElem h, List.drop_eq_getElem_cons h, h1]
  simp [normB]
theorem normK_all (l : List Int) : normK l l.length = l.map normB := by simp [normK]
theorem norm_bit (l : List Int) : Hm.bit (l.map normB) := by
  intro x hx
  simp only [List.mem_map] at hx
  obtain ⟨c, _, rfl⟩ := hx
  unfold normB
  split <;> simp
theorem stuff_norm (k : Nat) (l : List Int) : Hm.stuff k (l.map normB) = Hm.stuff k l := by
  induction l generalizing k with
  | nil => rfl
  | cons c l ih =>
    rw [List.map_cons, Hm.stuff, Hm.stuff, ih, ih]
    by_cases h : c = 49
    · simp [normB, h]
    · simp [normB, h]

set_option maxHeartbeats 1000000 in
set_option maxRecDepth 100000 in
theorem stuff_any (s : ByteArray) (w : World) (hs : s.size ≤ 1000000) (hm : MaxOk w) :
    Calls Tryd.prog 28 #[.string s] w fun e w' => e = .returned (.string (strOfNums (Hm.stuff 0 (Bm.nums s)))) ∧ Below w.heap.size w w' := by
  have hcv := fun w => run_bytes_of_string (P := Tryd.prog) w 9 26 5 s Tryd.underlying9 Tryd.underlying26 Tryd.underlying5
  go_enter Tryd.func28, Tryd.ntmps28
  go_wp2
  clear hcv
  go_loopw [10] (fun c wr => ∃ i : Nat, i ≤ s.size ∧ c = .int .i64 i ∧ BytesAt wr w.heap.size (normK (Bm.nums s) i) ∧ Below w.heap.size w wr)
    (fun c _ => s.size - (intOf c).toNat)
  case atStart => exact ⟨0, Nat.zero_le _, rfl, by simpa [normK] using bytes_laid w s _ _ (Nat.le_refl _), ((Below.refl _ _).alloc (Nat.le_refl _) _).drew⟩
  case round =>
    obtain ⟨i, hik, rfl, hrow, hbel⟩ := hrel
    have HL : Hid ((normK (Bm.nums s) i).length = s.size) := by show (normK (Bm.nums s) i).length = s.size; rw [normK_length, Bm.nums_length]
    have HRW : Hid (BytesAt wr w.heap.size (normK (Bm.nums s) i)) := hrow
    by_cases hlt : i < s.size
    · have hl : i < (Bm.nums s).length := by rw [Bm.nums_length]; exact hlt
      have hcell : wr.cell? ⟨w.heap.size, i, none⟩ = some (.int .u8 (s[i].toNat : Int)) := by
        rw [hrow.2.1 i (by rw [HL.out]; exact hlt), normK_get _ i hl, Bm.nums_get s i hlt]
      have hfr : wr.frozen? ⟨w.heap.size, i, none⟩ = false := hrow.2.2 i (by rw [HL.out]; exact hlt)
      clear hrow
      by_cases h1 : (s[i].toNat : Int) = 49
      · have ht : ((s[i].toNat : Int) != 49) = false := by simp [h1]
        have HR : Hid (BytesAt wr w.heap.size (normK (Bm.nums s) (i + 1))) := by
          show BytesAt wr w.heap.size (normK (Bm.nums s) (i + 1))
          rw [normK_same _ i hl (by rw [Bm.nums_get s i hlt]; exact h1)]; exact HRW.out
        clear h1 hl
        go_wp2
        go_roundw
        case rel => exact ⟨i + 1, by omega, by go_num, HR.out, hbel⟩
        case measure => simp [intOf]; omega
      · have ht : ((s[i].toNat : Int) != 49) = true := by simpa using h1
        have HR : Hid (BytesAt (wr.setCell ⟨w.heap.size, i, none⟩ (.int .u8 48)) w.heap.size (normK (Bm.nums s) (i + 1))) := by
          show BytesAt (wr.setCell ⟨w.heap.size, i, none⟩ (.int .u8 48)) w.heap.size (normK (Bm.nums s) (i + 1))
          rw [normK_next _ i hl, Bm.nums_get s i hlt, normB, if_neg h1]
          exact HRW.out.set i (by rw [HL.out]; exact hlt) _
        clear h1 hl
        go_wp2
        go_roundw
        case rel => exact ⟨i + 1, by omega, by go_num, HR.out, hbel.setCell (Nat.le_refl _) _⟩
        case measure => simp [intOf]; omega
    · have hback := hrow.conv (grownCap w s.size 0 5) s.size HL.out.symm
      have hi : i = s.size := by omega
      subst hi
      have e : normK (Bm.nums s) s.size = (Bm.nums s).map normB := by rw [← Bm.nums_length s]; exact normK_all _
      rw [e] at hback
      clear hrow
      have hmx := hm.later hbel hm.lt
      go_wp2_with (go_at_call 43; refine (replace_stuff _ _ (norm_bit _) (by rw [List.length_map, Bm.nums_length]; exact hs) hmx).mono ?_; rintro e w' ⟨rfl, hb2⟩)
      go_ret
      exact ⟨ret_str (by rw [stuff_norm]), hbel.trans (hb2.mono hbel.size)⟩

/-- P3.1: the flag, the stuffed bits, the flag -/
def flagN : List Int := [48, 49, 49, 49, 49, 49, 49, 48]
def encN (l : List Int) : List Int := flagN ++ Hm.stuff 0 (Bm.ofN l) ++ flagN
def encB (s : ByteArray) : ByteArray := strOfNums (encN (Bm.nums s))
theorem str_app (xs ys : List Int) : strOfNums (xs ++ ys) = strOfNums xs ++ strOfNums ys := by
  apply ByteArray.ext
  simp [strOfNums]
theorem flag_str : strOfNums flagN = ⟨#[48, 49, 49, 49, 49, 49, 49, 48]⟩ := rfl
theorem enc_eq (s : ByteArray) : (⟨#[48, 49, 49, 49, 49, 49, 49, 48]⟩ : ByteArray) ++ strOfNums (Hm.stuff 0 (Bm.ofN (Bm.nums s))) ++ ⟨#[48, 49, 49, 49, 49, 49, 49, 48]⟩ = encB s := by
  rw [encB, encN, str_app, str_app, flag_str]
theorem nums_of (l : List Int) : Bm.nums (strOfNums (Bm.ofN l)) = Bm.ofN l := Bm.nums_str _ (Bm.ofN_range l)
theorem bit_range {l : List Int} (h : Hm.bit l) : ∀ n ∈ l, 0 ≤ n ∧ n ≤ 255 := fun n hn => by rcases h n hn with h | h <;> omega
theorem enc_bit (l : List Int) : Hm.bit (encN l) := by
  intro x hx
  simp only [encN, List.mem_append] at hx
  rcases hx with (hx | hx) | hx
  · simp only [flagN, List.mem_cons, List.not_mem_nil, or_false] at hx; omega
  · exact Hm.stuff_bit _ _ x hx
  · simp only [flagN, List.mem_cons, List.not_mem_nil, or_false] at hx; omega
theorem nums_enc (s : ByteArray) : Bm.nums (encB s) = encN (Bm.nums s) := Bm.nums_str _ (bit_range (enc_bit _))
theorem stuffed_size (s : ByteArray) : (strOfNums (Hm.stuff 0 (Bm.ofN (Bm.nums s)))).size ≤ 16 * s.size := by
  rw [strOfNums_size]
  have := Hm.stuff_length 0 (Bm.ofN (Bm.nums s))
  rw [Bm.ofN_length, Bm.nums_length] at this
  omega
theorem enc_size (s : ByteArray) : 16 + 8 * s.size ≤ (encB s).size ∧ (encB s).size ≤ 16 + 16 * s.size := by
  rw [encB, strOfNums_size, encN, List.length_append, List.length_append]
  have := Hm.stuff_length 0 (Bm.ofN (Bm.nums s))
  rw [Bm.ofN_length, Bm.nums_length] at this
  simp only [flagN, List.length_cons, List.length_nil]
  omega

set_option maxHeartbeats 400000 in
set_option maxRecDepth 100000 in
theorem encode_any (s : ByteArray) (w : World) (hs : s.size ≤ 100000) (hm : MaxOk w) :
    Calls Tryd.prog 13 #[.string s] w fun e w' => e = .returned (.string (encB s)) ∧ Below w.heap.size w w' := by
  have hz := stuffed_size s
  go_enter Tryd.func13, Tryd.ntmps13
  go_wp2_with fail
  refine (of_any s _ (by omega)).mono ?_
  rintro e w1 ⟨rfl, hb1⟩
  have hm1 := hm.later hb1 hm.lt
  have hst := stuff_any (strOfNums (Bm.ofN (Bm.nums s))) w1 (by rw [strOfNums_size, Bm.ofN_length, Bm.nums_length]; omega) hm1
  rw [nums_of] at hst
  go_wp2_with fail
  refine hst.mono ?_
  rintro e w2 ⟨rfl, hb2⟩
  clear hst
  have H := enc_eq s
  have HE : Hid ((⟨#[48, 49, 49, 49, 49, 49, 49, 48]⟩ : ByteArray) ++ strOfNums (Hm.stuff 0 (Bm.ofN (Bm.nums s))) ++ ⟨#[48, 49, 49, 49, 49, 49, 49, 48]⟩ = encB s) := H
  clear H
  go_wp2
  go_ret
  exact ⟨ret_str HE.out, hb1.trans (hb2.mono hb1.size)⟩
end Go.Proofs.YtdcohbdndkphnabDoor
