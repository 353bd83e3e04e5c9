/-
  The walk of the law HdlcLong: it returns true.
-/
import Derived.Test.YtoakkfmebdglhabDoorWakesWalks
import Derived.Deep.RegionWith
import Derived.Deep.RegionHeld3
namespace Go.Proofs.YtoakkfmebdglhabDoor
open Go.RowKit
set_option linter.unusedVariables false
set_option linter.unusedSimpArgs false

/-- make([]byte, n): a new row of n noughts -/
theorem make_bytes (n : Nat) (hn : n ≤ 1000000) : ∃ M : Array Value, M.size = n ∧ (∀ j, j < n → M[j]? = some (.int .u8 0)) ∧
    ∀ W : World, (Instr.makeSlice 22 (.int .i64 (n : Int)) (.int .i64 (n : Int))).run Tryd.prog W = .ok (.slice (some ⟨W.heap.size, 0, none⟩) n n) (W.alloc (.cells M 5)) := by
  obtain ⟨i0, hi, hz0, hz1, hz2⟩ := info_parts byte5
  refine ⟨madeCells (Value.int .u8 0).cells ((n : Int).toNat * i0.size), ?_, ?_, fun W => ?_⟩
  · rw [size_madeCells, hz1]; simp
  · intro j hj
    have e : (madeCells (Value.int .u8 0).cells ((n : Int).toNat * i0.size)).toList = List.replicate n (Value.int .u8 0) := by
      rw [hz1]
      simp only [Value.cells, Int.toNat_natCast, Nat.mul_one]
      rw [toList_madeCells_one]
    rw [← Array.getElem?_toList, e, List.getElem?_replicate, if_pos hj]
  · have h := run_make (P := Tryd.prog) W 22 5 i0 (.int .u8 0) Tryd.underlying22 hi hz0 .i64 .i64 (n : Int) (n : Int) (by omega) (by omega) (by rw [hz2]; omega) (by omega)
    simpa using h
/-- such a row as a text -/
theorem made_conv (w : World) (M : Array Value) (n : Nat) (hM2 : ∀ j, j < n → M[j]? = some (.int .u8 0)) (k : Nat) :
    (convert 22 9 (.slice (some ⟨w.heap.size, 0, none⟩) n n)).run Tryd.prog ((w.alloc (.cells M 5)).drewN k) = .ok (.string (strOfNums (List.replicate n 0))) ((w.alloc (.cells M 5)).drewN k) := by
  refine run_convert_bytes_arg _ 22 5 Tryd.underlying22 Tryd.underlying5 w.heap.size 0 n n (List.replicate n 0) (by simp) (fun i hi => ?_) 9 Tryd.underlying9
  have hh : ((w.alloc (.cells M 5)).drewN k).heap[w.heap.size]? = some (.cells M 5 (0, 0)) := by
    show (w.heap.push _)[w.heap.size]? = _
    simp
  simp only [World.cell?, hh]
  simpa [hi] using hM2 i hi

/-- what is kept while bits are encoded -/
structure Held (w0 : World) (base D : Nat) (w : World) : Prop where
  max : MaxOk w
  dec : Dec w base D (.slice none 0 0) Hm.init
  bel : Below base w0 w
  le : base ≤ w0.heap.size
  pos : 0 < base

theorem Held.drew {w0 w : World} {base D : Nat} (h : Held w0 base D w) : Held w0 base D w.drew :=
  ⟨h.max, h.dec.kept (T := fun _ => False) ((Kept.refl _ _).drew) (fun x => x) (fun _ _ x => x), h.bel.drew, h.le, h.pos⟩
theorem encode_held {w0 : World} {base D : Nat} (s : ByteArray) (w : World) (hs : s.size ≤ 100000) (h : Held w0 base D w) :
    Calls Tryd.prog 8 #[.string s] w fun e w' => e = .returned (.string (encB s)) ∧ Held w0 base D w' := by
  refine (encode_any s w hs h.max).mono ?_
  rintro e w' ⟨rfl, hb⟩
  have := h.bel.size
  have := h.le
  exact ⟨rfl, h.max.later hb h.max.lt, h.dec.below hb (Nat.le_refl _), h.bel.trans (hb.mono (by omega)), h.le, h.pos⟩

theorem row_two {w : World} {B : Nat} {x : Value} {k k' : Int} {o o' : ByteArray} (h : w.ownsRow B 31 2 x 2 (evCells [(k, o), (k', o')])) :
    ∃ g cap, x = .slice (some ⟨g, 0, none⟩) 2 cap ∧ w.cell? ⟨g, 0, none⟩ = some (.int .i64 k) ∧ w.cell? ⟨g, 1, none⟩ = some (.string o) ∧ w.cell? ⟨g, 2, none⟩ = some (.int .i64 k') ∧ w.cell? ⟨g, 3, none⟩ = some (.string o') ∧ B ≤ g ∧ g < w.heap.size := by
  obtain ⟨g, cap, rfl⟩ : ∃ g cap, x = .slice (some ⟨g, 0, none⟩) 2 cap := by
    rcases h.2 with ⟨_, h0⟩ | ⟨g, cap, cur, h, _⟩
    · omega
    · exact ⟨g, cap, h⟩
  exact ⟨g, cap, rfl, h.cellAt 0 (by omega), h.cellAt 1 (by omega), h.cellAt 2 (by omega), h.cellAt 3 (by omega), (h.lt g rfl).1, (h.lt g rfl).2⟩

theorem feed_held {w0 : World} {base D : Nat} (L Z : ByteArray) (w : World) (hL : L.size ≤ 400) (hL2 : 266 < L.size) (hZ : 0 < Z.size) (hZ2 : Z.size ≤ 266) (h : Held w0 base D w) :
    Calls Tryd.prog 7 #[.pointer (some ⟨D, 0, none⟩), .string (encB L ++ encB Z)] w fun e w' => ∃ g cap, e = .returned (.slice (some ⟨g, 0, none⟩) 2 cap) ∧
      w'.cell? ⟨g, 0, none⟩ = some (.int .i64 2) ∧ w'.cell? ⟨g, 1, none⟩ = some (.string ByteArray.empty) ∧ w'.cell? ⟨g, 2, none⟩ = some (.int .i64 0) ∧ w'.cell? ⟨g, 3, none⟩ = some (.string Z) ∧ g < w'.heap.size ∧ Below base w0 w' ∧ MaxOk w' := by
  have z1 := (enc_size L).2
  have z2 := (enc_size Z).2
  have hsz : (encB L ++ encB Z).size ≤ 20000 := by rw [ByteArray.size_append]; omega
  have hle := h.bel.size
  have hle2 := h.le
  have hf : Hm.feedS Hm.init (Bm.nums (encB L ++ encB Z)) = (⟨0, true, []⟩, [(2, ByteArray.empty), (0, Z)]) := by
    rw [nums_app, Hm.feed_append, feed_enc Hm.ready_init, feed_enc Hm.ready_in, metB, metB, if_neg (by omega), if_pos hL2, if_neg (by omega), if_neg (by omega)]
    rfl
  have := feed_any (encB L ++ encB Z) _ base D _ w h.dec (by omega) (by omega) (by show 0 + _ ≤ _; omega)
  rw [hf] at this
  refine this.mono ?_
  rintro e w' ⟨x, v', rfl, hF⟩
  obtain ⟨g, cap, rfl, q0, q1, q2, q3, hg1, hg2⟩ := row_two hF.row
  have hb : Below base w w' := hF.kept.below (by omega) (fun k hk => by rcases hk with rfl | hk; exact h.dec.ge; simp [Value.ownBlock] at hk)
  have hD := h.dec.lt
  have hm : MaxOk w' := by
    obtain ⟨m, hm⟩ := h.max
    refine ⟨m, (hF.kept.cell (p := ⟨0, 0, none⟩) (cell_lt hm) (fun hx => ?_)).trans hm⟩
    rcases hx with hx | hx
    · have hx' : 0 = D := hx
      have := h.dec.ge
      have := h.pos
      omega
    · simp [Value.ownBlock] at hx
  exact ⟨g, cap, rfl, q0, q1, q2, q3, hg2, h.bel.trans hb, hm⟩

theorem wakes_met {w0 : World} {base g : Nat} {Z : ByteArray} (w : World) (q0 : w.cell? ⟨g, 0, none⟩ = some (.int .i64 2)) (q1 : w.cell? ⟨g, 1, none⟩ = some (.string ByteArray.empty)) (q2 : w.cell? ⟨g, 2, none⟩ = some (.int .i64 0)) (q3 : w.cell? ⟨g, 3, none⟩ = some (.string Z))
    (hg : g < w.heap.size) (hb : Below base w0 w) (hm : MaxOk w) (hle : base ≤ w0.heap.size) :
    Calls Tryd.prog 9 #[] w.drew fun e w' => e = .returned (.bool true) ∧ w'.cell? ⟨g, 0, none⟩ = some (.int .i64 2) ∧ w'.cell? ⟨g, 1, none⟩ = some (.string ByteArray.empty) ∧ w'.cell? ⟨g, 2, none⟩ = some (.int .i64 0) ∧ w'.cell? ⟨g, 3, none⟩ = some (.string Z) ∧ g < w'.heap.size ∧ Below base w0 w' := by
  have hmd : MaxOk w.drew := hm
  refine (wakes_any w.drew hmd).mono ?_
  rintro e w' ⟨rfl, h0⟩
  have h : Below w.heap.size w w' := (Below.refl w.heap.size w).drew.trans h0
  have h1 := hb.size
  have h2 := h.size
  exact ⟨rfl, (h.cell (p := ⟨g, 0, none⟩) hg).trans q0, (h.cell (p := ⟨g, 1, none⟩) hg).trans q1, (h.cell (p := ⟨g, 2, none⟩) hg).trans q2, (h.cell (p := ⟨g, 3, none⟩) hg).trans q3, by omega, hb.trans (h.mono (by omega))⟩

set_option maxHeartbeats 8000000 in
theorem walk_HdlcLong (s : ByteArray) (more : Int) (t : ByteArray) (w : World) (hs : s.size ≤ 140737488351232) (h1 : -9223372036854775808 ≤ more ∧ more ≤ 9223372036854775807) (ht : t.size ≤ 140737488351232) (hm : MaxOk w) :
    Calls Tryd.prog 3 #[.string s, .int .i64 more, .string t] w fun e w' => e = .returned (.bool true) ∧ Below w.heap.size w w' := by
  obtain ⟨h11, h12⟩ := h1
  obtain ⟨N, hN, hN1⟩ : ∃ N : Nat, max 0 more % 50 = (N : Int) ∧ N < 50 := ⟨(max 0 more % 50).toNat, by omega, by omega⟩
  have hp0 : (0 : Int) ≤ max 0 more := by omega
  obtain ⟨p, hp, hp1, hp2⟩ : ∃ p : Nat, min (s.size : Int) (267 + (N : Int)) = (p : Int) ∧ p ≤ s.size ∧ p ≤ 267 + N := ⟨(min (s.size : Int) (267 + (N : Int))).toNat, by omega, by omega, by omega⟩
  obtain ⟨q, hq, hq1⟩ : ∃ q : Nat, 267 + (N : Int) - (p : Int) = (q : Int) ∧ p + q = 267 + N := ⟨267 + N - p, by omega, by omega⟩
  obtain ⟨M, hM1, hM2, hmk⟩ := make_bytes q (by omega)
  have hcv : (convert 22 9 (.slice (some ⟨w.heap.size, 0, none⟩) q q)).run Tryd.prog (w.alloc (.cells M 5)).drew = .ok (.string (strOfNums (List.replicate q 0))) (w.alloc (.cells M 5)).drew := made_conv w M q hM2 1
  have hez : (s.extract 0 p).size = p := by rw [ByteArray.size_extract]; omega
  have hez2 : (s.extract 0 p).size ≤ 400 := by omega
  have hzz : (strOfNums (List.replicate q 0)).size ≤ 400 := by rw [strOfNums_size]; simp; omega
  have HL : Hid ((s.extract 0 p ++ strOfNums (List.replicate q 0)).size = 267 + N) := by show _ = _; rw [ByteArray.size_append, hez, strOfNums_size, List.length_replicate]; exact hq1
  have hpp : (p : Int) ≤ (s.size : Int) := by omega
  clear hez
  go_enter Tryd.func3, Tryd.ntmps3
  go_wp2
  go_region
  have fB : Below w.heap.size w (w.alloc (.cells M 5)).drew := ((Below.refl _ _).alloc (Nat.le_refl _) _).drew
  have fM : MaxOk (w.alloc (.cells M 5)).drew := hm.later fB hm.lt
  clear hcv hmk hM2 hM1
  generalize (w.alloc (.cells M 5)).drew = W0 at fB fM ⊢
  obtain ⟨L, hL⟩ : ∃ L, L = s.extract 0 p ++ strOfNums (List.replicate q 0) := ⟨_, rfl⟩
  rw [← hL] at HL ⊢
  have hL1 : L.size ≤ 400 := by have := HL.out; omega
  have hL2 : 266 < L.size := by have := HL.out; omega
  clear hL HL hq hq1 hp hp1 hp2 hez2 hzz hpp
  have hs0 : w.heap.size ≤ W0.heap.size := fB.size
  go_wp2_with fail
  refine (new_any _).mono ?_
  rintro e w1 ⟨rfl, hdn, hb1⟩
  have hH : Held w w.heap.size W0.heap.size w1 := ⟨fM.later hb1 fM.lt, hdn _ hs0, fB.trans (hb1.mono hs0), Nat.le_refl _, hm.lt⟩
  clear hdn hb1 fM
  obtain ⟨b, hb, hbz⟩ : ∃ b, b = s.extract 0 0 ∧ True := ⟨_, rfl, trivial⟩
  clear hb hbz
  obtain ⟨k, hk, hk1, hk2⟩ : ∃ k : Nat, min (t.size : Int) 100 = (k : Int) ∧ k ≤ t.size ∧ k ≤ 100 := ⟨(min (t.size : Int) 100).toNat, by omega, by omega, by omega⟩
  have hkk : (k : Int) ≤ (t.size : Int) := by omega
  have htz : (t.extract 0 k).size ≤ 100 := by rw [ByteArray.size_extract]; omega
  obtain ⟨Z, hZ⟩ : ∃ Z, Z = (⟨#[122]⟩ : ByteArray) ++ t.extract 0 k := ⟨_, rfl⟩
  have hZ1 : Z.size = 1 + (t.extract 0 k).size := by rw [hZ, ByteArray.size_append]; rfl
  have hZ2 : Z.size ≤ 266 := by omega
  have hZ3 : 0 < Z.size := by omega
  have hZs : (⟨#[122]⟩ : ByteArray) ++ t.extract 0 k = Z := hZ.symm
  clear hZ1 hZ
  have hHd := hH.drew
  have z1 : (encB L).size ≤ 6416 := by have := (enc_size L).2; omega
  have z2 : (encB Z).size ≤ 6416 := by have := (enc_size Z).2; omega
  go_wp2
  go_region_with (first | (go_at_call 8; refine (encode_held _ _ ?_ ‹_›).mono ?_; (first | omega); rintro e w' ⟨rfl, hH2⟩) | (go_at_call 7; refine (feed_held L Z _ hL1 hL2 hZ3 hZ2 ‹_›).mono ?_; rintro e w' ⟨g, cap, rfl, q0, q1, q2, q3, hg, hbw, hmw⟩))
  all_goals
    clear hH hHd z1 z2
    go_wp2
    go_region_held3 (fun wz => wz.cell? ⟨g, 0, none⟩ = some (.int .i64 2) ∧ wz.cell? ⟨g, 1, none⟩ = some (.string ByteArray.empty) ∧ wz.cell? ⟨g, 2, none⟩ = some (.int .i64 0) ∧ wz.cell? ⟨g, 3, none⟩ = some (.string Z)) (go_keep) (first | (go_at_call 9; refine (wakes_met (w0 := w) (base := w.heap.size) (g := g) (Z := Z) _ q0 q1 q2 q3 hg hbw hmw (Nat.le_refl _)).mono ?_; rintro e w9 ⟨rfl, p0, p1, p2, p3, hg9, hb9⟩))
    go_wp2
    go_ret
    exact ⟨by simp, hb9⟩
end Go.Proofs.YtoakkfmebdglhabDoor
