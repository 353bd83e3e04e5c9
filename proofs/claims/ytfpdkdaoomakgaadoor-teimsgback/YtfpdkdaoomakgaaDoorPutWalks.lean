/-
  The walks of addr.bit and addr.Put: Put answers 'putRes'. Nothing that was there is turned.
-/
import Derived.Test.YtfpdkdaoomakgaaDoorPackWalks
import Derived.Test.YtfpdkdaoomakgaaDoorAddrMath
import Derived.Deep.RegionWith
import Derived.Deep.RegionHeld3
namespace Go.Proofs.YtfpdkdaoomakgaaDoor
open Go.RowKit
set_option linter.unusedVariables false
set_option linter.unusedSimpArgs false

set_option maxHeartbeats 400000 in
theorem bit_any (c : Bool) (w : World) :
    Calls Tryd.prog 34 #[.bool c] w fun e w' => e = .returned (.int .i64 (Am.crN c)) ∧ w = w' := by
  cases c
  · go_enter Tryd.func34, Tryd.ntmps34
    go_wp2
    go_ret
    exact ⟨rfl, rfl⟩
  · go_enter Tryd.func34, Tryd.ntmps34
    go_wp2
    go_ret
    exact ⟨rfl, rfl⟩

/-- the address lies where it was put, behind whatever was made since -/
def Adr (w : World) (B : Nat) (a b : Int) (c : Bool) : Prop :=
  B < w.heap.size ∧ w.cell? ⟨B, 0, none⟩ = some (.int .i64 a) ∧ w.cell? ⟨B, 1, none⟩ = some (.int .i64 b) ∧ w.cell? ⟨B, 2, none⟩ = some (.bool c)
theorem Adr.later {w w' : World} {B : Nat} {a b : Int} {c : Bool} (h : Adr w B a b c) (hb : Below w.heap.size w w') : Adr w' B a b c :=
  ⟨Nat.lt_of_lt_of_le h.1 hb.size, (hb.cell (p := ⟨B, 0, none⟩) h.1).trans h.2.1, (hb.cell (p := ⟨B, 1, none⟩) h.1).trans h.2.2.1, (hb.cell (p := ⟨B, 2, none⟩) h.1).trans h.2.2.2⟩

theorem three_row (w : World) (x y : Int) : ∀ i, i < 3 → ((w.alloc (.cells #[.int .i64 1, .int .i64 0, .int .i64 1, .int .i64 x, .int .i64 6, .int .i64 y] 48)).drew).cell? ⟨w.heap.size, 0 + i * 2, none⟩ = some (.int .i64 ([(1, 0), (1, x), (6, y)].getD i (0, 0) : Int × Int).1) ∧
    ((w.alloc (.cells #[.int .i64 1, .int .i64 0, .int .i64 1, .int .i64 x, .int .i64 6, .int .i64 y] 48)).drew).cell? ⟨w.heap.size, 0 + i * 2 + 1, none⟩ = some (.int .i64 ([(1, 0), (1, x), (6, y)].getD i (0, 0) : Int × Int).2) := by
  intro i hi
  have : i = 0 ∨ i = 1 ∨ i = 2 := by omega
  rcases this with rfl | rfl | rfl <;> simp
theorem two_row (w : World) (y : Int) : ∀ i, i < 2 → (w.alloc (.cells #[.int .i64 1, .int .i64 1, .int .i64 7, .int .i64 y] 48)).cell? ⟨w.heap.size, 0 + i * 2, none⟩ = some (.int .i64 ([(1, 1), (7, y)].getD i (0, 0) : Int × Int).1) ∧
    (w.alloc (.cells #[.int .i64 1, .int .i64 1, .int .i64 7, .int .i64 y] 48)).cell? ⟨w.heap.size, 0 + i * 2 + 1, none⟩ = some (.int .i64 ([(1, 1), (7, y)].getD i (0, 0) : Int × Int).2) := by
  intro i hi
  have : i = 0 ∨ i = 1 := by omega
  rcases this with rfl | rfl <;> simp

theorem conv_two (w : World) (x y : Int) : (convert 50 9 (.slice (some ⟨w.heap.size, 0, none⟩) 2 2)).run Tryd.prog (w.alloc (.cells #[.int .u8 x, .int .u8 y] 5)) = .ok (.string (strOfNums [x, y])) (w.alloc (.cells #[.int .u8 x, .int .u8 y] 5)) := by
  refine run_convert_bytes_arg _ 50 5 Tryd.underlying50 Tryd.underlying5 w.heap.size 0 2 2 [x, y] rfl (fun i hi => ?_) 9 Tryd.underlying9
  have : i = 0 ∨ i = 1 := by omega
  rcases this with rfl | rfl <;> simp

/-- the second Pack of Put -/
theorem put_second (w : World) (b : Int) :
    Calls Tryd.prog 14 #[.slice (some ⟨w.heap.size, 0, none⟩) 2 2] (w.alloc (.cells #[.int .i64 1, .int .i64 1, .int .i64 7, .int .i64 b] 48)) fun e w' =>
      e = .returned (.tuple #[.int .u8 (Bm.packRes [(1, 1), (7, b)]).1, .int .i64 (Bm.packRes [(1, 1), (7, b)]).2]) ∧ Below w.heap.size w w' := by
  refine (pack_some w.heap.size 0 2 2 [(1, 1), (7, b)] _ (by simp) rfl (by decide) (two_row w b)).mono ?_
  rintro e w' ⟨rfl, hb⟩
  exact ⟨rfl, ((Below.refl _ _).alloc (Nat.le_refl _) _).trans (hb.mono (by simp))⟩

/-- the first Pack of Put -/
theorem put_first (w : World) (a b : Int) (c : Bool) :
    Calls Tryd.prog 14 #[.slice (some ⟨w.heap.size + 1, 0, none⟩) 3 3] ((w.alloc (.cells #[.int .i64 a, .int .i64 b, .bool c] 59)).alloc (.cells #[.int .i64 1, .int .i64 0, .int .i64 1, .int .i64 (Am.crN c), .int .i64 6, .int .i64 a] 48)).drew fun e w' =>
      e = .returned (.tuple #[.int .u8 (Bm.packRes [(1, 0), (1, Am.crN c), (6, a)]).1, .int .i64 (Bm.packRes [(1, 0), (1, Am.crN c), (6, a)]).2]) ∧ Adr w' w.heap.size a b c ∧ Below w.heap.size w w' := by
  have h0 : Adr (w.alloc (.cells #[.int .i64 a, .int .i64 b, .bool c] 59)) w.heap.size a b c := ⟨by simp, by simp, by simp, by simp⟩
  have hr := three_row (w.alloc (.cells #[.int .i64 a, .int .i64 b, .bool c] 59)) (Am.crN c) a
  have e1 : (w.alloc (.cells #[.int .i64 a, .int .i64 b, .bool c] 59)).heap.size = w.heap.size + 1 := by simp
  rw [e1] at hr
  refine (pack_some (w.heap.size + 1) 0 3 3 [(1, 0), (1, Am.crN c), (6, a)] _ (by simp) rfl (by decide) hr).mono ?_
  rintro e w' ⟨rfl, hb⟩
  have q1 : Below (w.alloc (.cells #[.int .i64 a, .int .i64 b, .bool c] 59)).heap.size (w.alloc (.cells #[.int .i64 a, .int .i64 b, .bool c] 59)) w' :=
    (((Below.refl _ _).alloc (Nat.le_refl _) _).drew).trans (hb.mono (by simp))
  exact ⟨rfl, h0.later q1, ((Below.refl _ _).alloc (Nat.le_refl _) _).trans (q1.mono (by simp))⟩

set_option maxHeartbeats 1000000 in
theorem put_any (a b : Int) (c : Bool) (w : World) :
    Calls Tryd.prog 19 #[.agg #[.int .i64 a, .int .i64 b, .bool c]] w fun e w' => e = .returned (.tuple #[.string (Am.putRes a b c).1, .int .i64 (Am.putRes a b c).2]) ∧ Below w.heap.size w w' := by
  have HP : Hid (Am.putRes a b c = if Am.good a b then (strOfNums (Am.octs2 a b c), 0) else (ByteArray.empty, 2)) := rfl
  have HF := put_first w a b c
  rw [Am.pack_first] at HF
  by_cases ha : 0 ≤ a ∧ a ≤ 63
  · rw [if_pos ha] at HF
    obtain ⟨ha0, ha1⟩ := ha
    have hc0 := (Am.crN_bd c).1
    have hc1 := (Am.crN_bd c).2
    go_enter Tryd.func19, Tryd.ntmps19
    go_wp2
    go_region_with (first | (go_at_call 34; refine (bit_any _ _).mono ?_; rintro e w' ⟨rfl, rfl⟩) | (go_at_call 14; refine HF.mono ?_; rintro e w1 ⟨rfl, hA, hb1⟩))
    all_goals
      clear HF
      obtain ⟨hlt, k0, k1, k2⟩ := hA
      have HS := put_second w1 b
      rw [Am.pack_second] at HS
      by_cases hb : 0 ≤ b ∧ b ≤ 127
      · rw [if_pos hb] at HS
        have HP2 : Hid (Am.putRes a b c = (strOfNums [4 * a + 2 * Am.crN c, 2 * b + 1], 0)) := by show _ = _; rw [HP.out, if_pos ⟨⟨ha0, ha1⟩, hb⟩]; rfl
        clear hb
        go_wp2_with fail
        refine HS.mono ?_
        rintro e w2 ⟨rfl, hb2⟩
        have hcv := conv_two w2 (4 * a + 2 * Am.crN c) (2 * b + 1)
        clear HS
        go_wp2
        go_ret2
        rw [HP2.out]
        exact ⟨rfl, (hb1.trans (hb2.mono hb1.size)).alloc (hb1.trans (hb2.mono hb1.size)).size _⟩
      · rw [if_neg hb] at HS
        have HP2 : Hid (Am.putRes a b c = (ByteArray.empty, 2)) := by show _ = _; rw [HP.out, if_neg (fun h => hb h.2)]
        clear hb
        go_wp2_with fail
        refine HS.mono ?_
        rintro e w2 ⟨rfl, hb2⟩
        clear HS
        go_wp2
        go_ret2
        rw [HP2.out]
        exact ⟨rfl, hb1.trans (hb2.mono hb1.size)⟩
  · rw [if_neg ha] at HF
    have HP2 : Hid (Am.putRes a b c = (ByteArray.empty, 2)) := by show _ = _; rw [HP.out, if_neg (fun h => ha h.1)]
    clear HP ha
    go_enter Tryd.func19, Tryd.ntmps19
    go_wp2
    go_region_with (first | (go_at_call 34; refine (bit_any _ _).mono ?_; rintro e w' ⟨rfl, rfl⟩) | (go_at_call 14; refine HF.mono ?_; rintro e w1 ⟨rfl, hA, hb1⟩))
    all_goals
      clear HF
      go_wp2
      go_ret2
      rw [HP2.out]
      exact ⟨rfl, hb1⟩
end Go.Proofs.YtfpdkdaoomakgaaDoor
