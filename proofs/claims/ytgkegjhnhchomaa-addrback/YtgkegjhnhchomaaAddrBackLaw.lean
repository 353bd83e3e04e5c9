/-
  The walk of the law AddrBack: it returns true.
-/
import Derived.Test.YtgkegjhnhchomaaPutWalks
import Derived.Test.YtgkegjhnhchomaaGetWalks
import Derived.Test.YtgkegjhnhchomaaMakeWalks
namespace Go.Proofs.Ytgkegjhnhchomaa
open Go.RowKit
set_option linter.unusedVariables false
set_option linter.unusedSimpArgs false

theorem u8_mask (x : Int) (m : Nat) (hm : m < 256) (h0 : 0 ≤ x) (h1 : x ≤ 255) : 0 ≤ bits .and .u8 x (m : Int) ∧ bits .and .u8 x (m : Int) ≤ (m : Int) := by
  obtain ⟨n, rfl⟩ : ∃ n : Nat, x = (n : Int) := ⟨x.toNat, by omega⟩
  have e : bits .and .u8 (n : Int) (m : Int) = ((n &&& m : Nat) : Int) := by
    rw [Go.u8_and _ _ h0 (by omega) (by omega) (by omega), Int.toNat_natCast, Int.toNat_natCast]
  rw [e]
  have := @Nat.and_le_right n m
  omega

/-- the link, and the two Booleans that are gone through, lie where they were put -/
structure Bk (w : World) (a b : Int) (wr : World) : Prop where
  bel : Below w.heap.size w wr
  lt : w.heap.size + 1 < wr.heap.size
  l0 : wr.cell? ⟨w.heap.size, 0, none⟩ = some (.int .i64 a)
  l1 : wr.cell? ⟨w.heap.size, 1, none⟩ = some (.int .i64 b)
  c0 : wr.cell? ⟨w.heap.size + 1, 0, none⟩ = some (.bool false)
  c1 : wr.cell? ⟨w.heap.size + 1, 1, none⟩ = some (.bool true)
theorem Bk.later {w wr wq : World} {a b : Int} (h : Bk w a b wr) (hb : Below wr.heap.size wr wq) : Bk w a b wq :=
  have hl := h.lt
  ⟨h.bel.trans (hb.mono h.bel.size), Nat.lt_of_lt_of_le h.lt hb.size, (hb.cell (p := ⟨w.heap.size, 0, none⟩) (by show w.heap.size < _; omega)).trans h.l0, (hb.cell (p := ⟨w.heap.size, 1, none⟩) (by show w.heap.size < _; omega)).trans h.l1,
    (hb.cell (p := ⟨w.heap.size + 1, 0, none⟩) hl).trans h.c0, (hb.cell (p := ⟨w.heap.size + 1, 1, none⟩) hl).trans h.c1⟩
theorem Bk.at {w wr : World} {a b : Int} (h : Bk w a b wr) (i : Nat) (hi : i < 2) : ∃ c, wr.cell? ⟨w.heap.size + 1, i, none⟩ = some (.bool c) := by
  have : i = 0 ∨ i = 1 := by omega
  rcases this with rfl | rfl
  · exact ⟨_, h.c0⟩
  · exact ⟨_, h.c1⟩
theorem Bk.start (w : World) (a b : Int) : Bk w a b ((w.alloc (.cells #[.int .i64 a, .int .i64 b] 33)).alloc (.cells #[.bool false, .bool true] 4)) := by
  have e1 : (w.alloc (.cells #[.int .i64 a, .int .i64 b] 33)).heap.size = w.heap.size + 1 := by simp
  have d1 : Below (w.alloc (.cells #[.int .i64 a, .int .i64 b] 33)).heap.size (w.alloc (.cells #[.int .i64 a, .int .i64 b] 33)) ((w.alloc (.cells #[.int .i64 a, .int .i64 b] 33)).alloc (.cells #[.bool false, .bool true] 4)) := (Below.refl _ _).alloc (Nat.le_refl _) _
  refine ⟨((Below.refl _ _).alloc (Nat.le_refl _) _).alloc (by simp) _, by simp, ?_, ?_, by rw [← e1]; simp, by rw [← e1]; simp⟩
  · exact (d1.cell (p := ⟨w.heap.size, 0, none⟩) (by simp)).trans (by simp)
  · exact (d1.cell (p := ⟨w.heap.size, 1, none⟩) (by simp)).trans (by simp)
/-- the inner row of two Booleans -/
def Two2 (wr : World) (B : Nat) : Prop := B < wr.heap.size ∧ wr.cell? ⟨B, 0, none⟩ = some (.bool false) ∧ wr.cell? ⟨B, 1, none⟩ = some (.bool true)
theorem Two2.later {wr wq : World} {B : Nat} (h : Two2 wr B) (hb : Below wr.heap.size wr wq) : Two2 wq B :=
  ⟨Nat.lt_of_lt_of_le h.1 hb.size, (hb.cell (p := ⟨B, 0, none⟩) h.1).trans h.2.1, (hb.cell (p := ⟨B, 1, none⟩) h.1).trans h.2.2⟩
theorem Two2.at {wr : World} {B : Nat} (h : Two2 wr B) (i : Nat) (hi : i < 2) : ∃ c, wr.cell? ⟨B, i, none⟩ = some (.bool c) := by
  have : i = 0 ∨ i = 1 := by omega
  rcases this with rfl | rfl
  · exact ⟨_, h.2.1⟩
  · exact ⟨_, h.2.2⟩

theorem put_good (a b : Int) (c : Bool) (h : Am.good a b) : Am.putRes a b c = (strOfNums (Am.octs2 a b c), 0) := by rw [Am.putRes, if_pos h]
theorem put_size (a b : Int) (c : Bool) : (strOfNums (Am.octs2 a b c)).size = 2 := by rw [strOfNums_size]; rfl

set_option maxHeartbeats 1000000 in
theorem walk_AddrBack (sapi tei : Int) (rest : ByteArray) (w : World) (h1 : 0 ≤ sapi ∧ sapi ≤ 255) (h2 : 0 ≤ tei ∧ tei ≤ 255) (hs : rest.size ≤ 140737488351232) :
    Calls Try.prog 7 #[.int .u8 sapi, .int .u8 tei, .string rest] w fun e w' => e = .returned (.bool true) ∧ Below w.heap.size w w' := by
  obtain ⟨h10, h11⟩ := h1
  obtain ⟨h20, h21⟩ := h2
  obtain ⟨a, ha, ha0, ha1⟩ : ∃ a : Int, bits .and .u8 sapi 63 = a ∧ 0 ≤ a ∧ a ≤ 63 := ⟨_, rfl, u8_mask sapi 63 (by decide) h10 h11⟩
  obtain ⟨b, hb, hb0, hb1⟩ : ∃ b : Int, bits .and .u8 tei 127 = b ∧ 0 ≤ b ∧ b ≤ 127 := ⟨_, rfl, u8_mask tei 127 (by decide) h20 h21⟩
  have HG : Hid (Am.good a b) := ⟨⟨ha0, ha1⟩, hb0, hb1⟩
  go_enter Try.func7, Try.ntmps7
  go_wp2
  have hstart := Bk.start w a b
  clear ha hb ha0 ha1 hb0 hb1 h10 h11 h20 h21
  go_loopw [29] (fun c wr => ∃ i : Nat, i ≤ 2 ∧ c = .int .i64 i ∧ Bk w a b wr) (fun c _ => 2 - (intOf c).toNat)
  case atStart => exact ⟨0, Nat.zero_le _, rfl, hstart⟩
  case round =>
    obtain ⟨i, hi2, rfl, hB⟩ := hrel
    clear hstart
    by_cases hlt : i < 2
    · obtain ⟨cm, hcm⟩ := hB.at i hlt
      have hB1 := hB.lt
      go_wp2
      rw [show decide ((i : Int) < 2) = true from by simp; omega]
      go_loopw [35] (fun c wq => ∃ j : Nat, j ≤ 2 ∧ c = .int .i64 j ∧ Bk w a b wq ∧ Two2 wq wr.heap.size) (fun c _ => 2 - (intOf c).toNat)
      case atStart => exact ⟨0, Nat.zero_le _, rfl, hB.later ((Below.refl _ _).alloc (Nat.le_refl _) _), ⟨by simp, by simp, by simp⟩⟩
      case round =>
        obtain ⟨j, hj2, rfl, hB', hT⟩ := hrel
        clear hB hB1 hcm
        by_cases hlt2 : j < 2
        · obtain ⟨nm, hnm⟩ := hT.at j hlt2
          have hB1 := hB'.lt
          have hl0 := hB'.l0
          have hl1 := hB'.l1
          obtain ⟨m, hm⟩ : ∃ m, m = (cm == nm) := ⟨_, rfl⟩
          have hback : (!((m == nm) == cm)) = false := by rw [hm]; cases cm <;> cases nm <;> rfl
          go_wp2_with fail
          refine (make_any a b cm nm _).mono ?_
          rintro e w1 ⟨rfl, hb1⟩
          rw [← hm]
          clear hm
          go_wp2_with fail
          refine (put_any a b m _).mono ?_
          rintro e w2 ⟨rfl, hb2⟩
          rw [put_good a b m HG.out]
          obtain ⟨S, hS⟩ : ∃ S, S = strOfNums (Am.octs2 a b m) := ⟨_, rfl⟩
          have hS1 : S.size = 2 := by rw [hS]; exact put_size a b m
          have hR : Am.getRes (S ++ rest) = ((a, b, m), 0) := by rw [hS]; exact Am.get_back a b m rest HG.out
          rw [← hS]
          clear hS
          have hz : (S ++ rest).size ≤ 140737488355328 := by rw [ByteArray.size_append]; omega
          have hget := get_any (S ++ rest) w2 hz
          rw [hR] at hget
          clear hR hz
          have hq2 := hb1.trans (hb2.mono hb1.size)
          have hB2 := hB'.later hq2
          have hT2 := hT.later hq2
          clear hq2 hb1 hb2 hB' hT hnm hl0 hl1
          have hS2 : ((S.size : Int) != 2) = false := by rw [hS1]; rfl
          have hS3 : S.size ≤ 2 := by omega
          go_wp2_with fail
          refine hget.mono ?_
          rintro e w3 ⟨rfl, hb3⟩
          have hB3 := hB2.later hb3
          have hT3 := hT2.later hb3
          clear hB2 hT2 hb3 hget hS1
          have hl0 := hB3.l0
          have hl1 := hB3.l1
          have hlt3 : w.heap.size < w3.heap.size := by have := hB3.lt; omega
          go_wp2
          go_roundw
          case rel =>
            have hfin : Below w3.heap.size w3 ((w3.alloc (.cells #[.int .i64 a, .int .i64 b, .bool m] 35)).alloc (.cells #[.int .i64 a, .int .i64 b, .bool m] 35)) := ((Below.refl _ _).alloc (Nat.le_refl _) _).alloc (by simp) _
            exact ⟨j + 1, by omega, by go_num, hB3.later hfin, hT3.later hfin⟩
          case measure => simp [intOf]; omega
        · go_wp2
          go_roundw
          case rel => exact ⟨i + 1, by omega, by go_num, hB'⟩
          case measure => simp [intOf]; omega
    · have hget := get_any rest wr (by omega)
      have hbel := hB.bel
      have hz := hbel.size
      clear hB
      generalize hR : Am.getRes rest = R at hget
      obtain ⟨⟨x, y, z⟩, f⟩ := R
      go_wp2_with fail
      refine hget.mono ?_
      rintro e w1 ⟨rfl, hb1⟩
      have hq := hbel.trans (hb1.mono hz)
      by_cases hf : f = 0
      · subst hf
        have hp := Am.get_puts rest (by rw [hR])
        rw [hR] at hp
        obtain ⟨hg, hsz, hput⟩ := hp
        have hput' : strOfNums (Am.octs2 x y z) = rest.extract 0 2 := hput
        clear hR hget hput
        have hsz2 : (2 : Int) ≤ (rest.size : Int) := by omega
        go_wp2_with fail
        refine (put_any x y z _).mono ?_
        rintro e w2 ⟨rfl, hb2⟩
        rw [put_good x y z hg, hput']
        go_wp2
        go_ret
        exact ⟨by simp, (hq.alloc hq.size _).trans (hb2.mono (by have := hq.size; simp; omega))⟩
      · have tf : (f != 0) = true := by simpa using hf
        have h0 : (x, y, z) = (0, 0, false) := by
          unfold Am.getRes Am.getN at hR
          split at hR
          · exact (congrArg Prod.fst hR).symm
          · split at hR
            · exact (congrArg Prod.fst hR).symm
            · exact absurd (congrArg Prod.snd hR).symm hf
        simp only [Prod.mk.injEq] at h0
        obtain ⟨rfl, rfl, rfl⟩ := h0
        clear hR hget
        go_wp2
        go_ret
        exact ⟨by simp, hq.alloc hq.size _⟩
end Go.Proofs.Ytgkegjhnhchomaa
