/-
  The walks of a clock's small methods: New, Runs, Stop, Start. A clock lies in a block of its own, its timers in a map, or nowhere.
-/
import Derived.Test.YtalpfcckdjipoaaKeyMap
import Derived.Carry
namespace Go.Proofs.Ytalpfcckdjipoaa
open Go.RowKit Go.Maps
set_option linter.unusedVariables false
set_option linter.unusedSimpArgs false

/-- a clock whose timers are L -/
structure Clk (w : World) (C : Nat) (m : Option Nat) (n : Nat) (L : List Km.Tmr) : Prop where
  lt : C < w.heap.size
  c : w.cell? ⟨C, 0, none⟩ = some (.map m)
  f : w.frozen? ⟨C, 0, none⟩ = false
  ok : Km.Ok L
  map : (m = none ∧ L = []) ∨ ∃ B, m = some B ∧ B ≠ C ∧ MapIs w B n L

/-- what a clock's methods may turn -/
def tch (C : Nat) (m : Option Nat) (k : Nat) : Prop := k = C ∨ m = some k

theorem Clk.kept {w w' : World} {C n : Nat} {m : Option Nat} {L : List Km.Tmr} {T : Nat → Prop} (h : Clk w C m n L) (hk : Kept w w' T) (hC : ¬ T C) (hm : ∀ B, m = some B → ¬ T B) : Clk w' C m n L := by
  refine ⟨Nat.lt_of_lt_of_le h.lt hk.size, (hk.cell (p := ⟨C, 0, none⟩) h.lt hC).trans h.c, (hk.frozen (p := ⟨C, 0, none⟩) h.lt hC).trans h.f, h.ok, ?_⟩
  rcases h.map with h' | ⟨B, h1, h2, h3⟩
  · exact Or.inl h'
  · exact Or.inr ⟨B, h1, h2, h3.kept hk (hm B h1)⟩
theorem Clk.below {w w' : World} {C n : Nat} {m : Option Nat} {L : List Km.Tmr} (h : Clk w C m n L) (hb : Below w.heap.size w w') : Clk w' C m n L :=
  h.kept (T := fun _ => False) (Kept.of_below hb (fun k hk h' => by omega)) (fun x => x) (fun _ _ x => x)

/-- a clock that was is now one with the timers L', and nothing else is turned -/
def Mvd (w w' : World) (C : Nat) (m : Option Nat) (n' : Nat) (L' : List Km.Tmr) : Prop :=
  ∃ m', Clk w' C m' n' L' ∧ Kept w w' (tch C m) ∧ ∀ B, m' = some B → m = some B ∨ w.heap.size ≤ B

theorem new_clk (w : World) (T : TypeId) : Clk (w.alloc (.cells #[.map none] T)) w.heap.size none 0 [] :=
  ⟨by simp, by simp, by simp, Km.ok_nil, Or.inl ⟨rfl, rfl⟩⟩

set_option maxHeartbeats 400000 in
theorem new_any (w : World) : Calls Try.prog 8 #[] w fun e w' => e = .returned (.pointer (some ⟨w.heap.size, 0, none⟩)) ∧ Clk w' w.heap.size none 0 [] ∧ Below w.heap.size w w' := by
  go_enter Try.func8, Try.ntmps8
  go_wp2
  go_ret
  exact ⟨rfl, new_clk w _, (Below.refl _ _).alloc (Nat.le_refl _) _⟩

theorem look_none (k : Int × Int) (hk : InK k) (w : World) : (Instr.lookup 52 (.map none) (keyV k) true).run Try.prog w = .ok (.tuple #[.int .i64 0, .bool false]) w :=
  Maps.look_nil true klaw Try.underlying52 (zeroI64 w) (key_of hk)
theorem Clk.look {w : World} {C n : Nat} {m : Option Nat} {L : List Km.Tmr} (h : Clk w C m n L) {k : Int × Int} (hk : InK k) : (Instr.lookup 52 (.map m) (keyV k) true).run Try.prog w = .ok (.tuple #[.int .i64 (Km.till L k), .bool (Km.runs L k)]) w := by
  rcases h.map with ⟨rfl, rfl⟩ | ⟨B, rfl, _, hM⟩
  · exact look_none k hk w
  · exact hM.look_ok h.ok hk

set_option maxHeartbeats 400000 in
theorem runs_any (C n : Nat) (m : Option Nat) (L : List Km.Tmr) (k : Int × Int) (w : World) (h : Clk w C m n L) (hk : InK k) :
    Calls Try.prog 18 #[.pointer (some ⟨C, 0, none⟩), keyV k] w fun e w' => e = .returned (.tuple #[.int .i64 (Km.till L k), .bool (Km.runs L k)]) ∧ Below w.heap.size w w' := by
  have hq : Below w.heap.size w (w.alloc (.cells #[.int .i64 k.1, .int .i64 k.2] 33)) := (Below.refl _ _).alloc (Nat.le_refl _) _
  have h2 := (h.below hq).below (Below.refl _ _).drew
  have hl := h2.look hk
  have hc := h2.c
  have hlt := h2.lt
  have hcl := h.lt
  unfold keyV at hl ⊢
  clear h h2
  go_enter Try.func18, Try.ntmps18
  go_wp2
  go_region
  go_wp2
  go_ret2
  exact ⟨rfl, hq.drew⟩

/-- the map of a clock is turned -/
theorem Clk.turned {w w' : World} {C n n' B : Nat} {L L' : List Km.Tmr} (h : Clk w C (some B) n L) (ht : w.mapTurned w' B) (hM : MapIs w' B n' L') (hL : Km.Ok L') : Mvd w w' C (some B) n' L' := by
  have hne : B ≠ C := by
    rcases h.map with ⟨h', _⟩ | ⟨B', h1, h2, _⟩
    · cases h'
    · injection h1 with h1; subst h1; exact h2
  have hk : Kept w w' (fun k => k = B) := Kept.of_grown ht.grown (fun k e => by injection e with e; exact e.symm)
  exact ⟨some B, ⟨Nat.lt_of_lt_of_le h.lt hk.size, (hk.cell (p := ⟨C, 0, none⟩) h.lt (fun e => hne e.symm)).trans h.c, (hk.frozen (p := ⟨C, 0, none⟩) h.lt (fun e => hne e.symm)).trans h.f, hL, Or.inr ⟨B, rfl, hne, hM⟩⟩,
    hk.mono (fun k _ e => Or.inr (by rw [e])), fun B' h' => Or.inl h'⟩
theorem Clk.same {w w' : World} {C n : Nat} {m : Option Nat} {L : List Km.Tmr} (h : Clk w C m n L) (hb : Below w.heap.size w w') : Mvd w w' C m n L :=
  ⟨m, h.below hb, Kept.of_below hb (fun k hk h' => by omega), fun B hB => Or.inl hB⟩
theorem Mvd.ahead {w w1 w2 : World} {C n : Nat} {m : Option Nat} {L : List Km.Tmr} (hb : Below w.heap.size w w1) (h : Mvd w1 w2 C m n L) : Mvd w w2 C m n L := by
  obtain ⟨m', hc, hk, hf⟩ := h
  refine ⟨m', hc, (Kept.of_below (T := tch C m) hb (fun k hk h' => by omega)).trans hk (fun k _ h => h), fun B hB => ?_⟩
  rcases hf B hB with h' | h'
  · exact Or.inl h'
  · exact Or.inr (Nat.le_trans hb.size h')
theorem Mvd.then {w w1 w2 : World} {C n : Nat} {m : Option Nat} {L : List Km.Tmr} (h : Mvd w w1 C m n L) (hb : Below w1.heap.size w1 w2) : Mvd w w2 C m n L := by
  obtain ⟨m', hc, hk, hf⟩ := h
  exact ⟨m', hc.below hb, hk.trans (T' := fun _ => False) (Kept.of_below hb (fun k hk h' => by omega)) (fun _ _ h => h.elim), hf⟩
theorem Clk.some_of_runs {w : World} {C n : Nat} {m : Option Nat} {L : List Km.Tmr} (h : Clk w C m n L) {k : Int × Int} (hr : Km.runs L k = true) : ∃ B, m = some B ∧ MapIs w B n L := by
  rcases h.map with ⟨_, rfl⟩ | ⟨B, h1, _, h3⟩
  · cases hr
  · exact ⟨B, h1, h3⟩

set_option maxHeartbeats 400000 in
theorem stop_any (C n : Nat) (m : Option Nat) (L : List Km.Tmr) (k : Int × Int) (w : World) (h : Clk w C m n L) (hk : InK k) :
    Calls Try.prog 10 #[.pointer (some ⟨C, 0, none⟩), keyV k] w fun e w' => e = .returned (.bool (Km.runs L k)) ∧ Mvd w w' C m n (Km.rem k L) := by
  have hq : Below w.heap.size w (w.alloc (.cells #[.int .i64 k.1, .int .i64 k.2] 33)) := (Below.refl _ _).alloc (Nat.le_refl _) _
  have h1 := h.below hq
  have hR := runs_any C n m L k _ h1 hk
  obtain ⟨k1, k2⟩ := k
  have b0 : (w.alloc (.cells #[.int .i64 k1, .int .i64 k2] 33)).cell? ⟨w.heap.size, 0, none⟩ = some (.int .i64 k1) := by simp
  have b1 : (w.alloc (.cells #[.int .i64 k1, .int .i64 k2] 33)).cell? ⟨w.heap.size, 1, none⟩ = some (.int .i64 k2) := by simp
  have bl : w.heap.size < (w.alloc (.cells #[.int .i64 k1, .int .i64 k2] 33)).heap.size := by simp
  unfold keyV at hR ⊢
  go_enter Try.func10, Try.ntmps10
  go_wp2_with fail
  refine hR.mono ?_
  rintro e w2 ⟨rfl, hb⟩
  clear hR
  have h2 := h1.below hb
  have b0' := (hb.cell (p := ⟨w.heap.size, 0, none⟩) bl).trans b0
  have b1' := (hb.cell (p := ⟨w.heap.size, 1, none⟩) bl).trans b1
  have hq2 : Below w.heap.size w w2 := hq.trans (hb.mono (by simp))
  cases hr : Km.runs L (k1, k2) with
  | false =>
    have HM : Hid (Mvd w w2 C m n (Km.rem (k1, k2) L)) := by rw [Km.not_runs hr]; exact h.same hq2
    have HR : Hid (Km.runs L (k1, k2) = false) := hr
    clear h h1 h2 hb b0 b1 b0' b1' hr
    go_wp2
    go_ret
    exact ⟨by rw [HR.out]; rfl, HM.out⟩
  | true =>
    obtain ⟨B, rfl, hM⟩ := h2.some_of_runs hr
    have h3 : Clk w2.drew C (some B) n L := h2.below (Below.refl _ _).drew
    obtain ⟨w3, hrun, hM3, ht⟩ := hM.drew.drop h3.ok hk 0
    have HM : Hid (Mvd w w3 C (some B) n (Km.rem (k1, k2) L)) := Mvd.ahead hq2.drew (h3.turned ht hM3 (h3.ok.rem _))
    have hc := h2.c
    have hl2 := h2.lt
    have bl2 : w.heap.size < w2.heap.size := Nat.lt_of_lt_of_le bl hb.size
    unfold keyV at hrun
    have HR : Hid (Km.runs L (k1, k2) = true) := hr
    clear h h1 h2 h3 hb b0 b1 hM hM3 ht hr hq2
    go_wp2
    go_region
    go_wp2
    go_ret
    exact ⟨by rw [HR.out]; rfl, HM.out⟩

theorem map_eq0 (w : World) : (binOp .eql 52 (.map none) (.map none)).run Try.prog w = .ok (.bool true) w := by kernel_rfl
theorem map_eq1 (B : Nat) (w : World) : (binOp .eql 52 (.map (some B)) (.map none)).run Try.prog w = .ok (.bool false) w := by kernel_rfl

/-- may it be started so? -/
def startN (now period : Int) : Int := if Km.good now period then 0 else 2
def startT (k : Int × Int) (now period : Int) (L : List Km.Tmr) : List Km.Tmr := if Km.good now period then Km.startL k (now + period) L else L
theorem good_in {k : Int × Int} {now period : Int} (hk : InK k) (h : Km.good now period) : Km.InT (now + period, k) := by
  obtain ⟨⟨h1, h2⟩, h3, h4⟩ := h
  exact ⟨by simp; omega, by simp; omega, hk.1, hk.2⟩
theorem startT_ok {k : Int × Int} {now period : Int} {L : List Km.Tmr} (hk : InK k) (hL : Km.Ok L) : Km.Ok (startT k now period L) := by
  unfold startT
  split
  · rename_i h; exact hL.start (good_in hk h)
  · exact hL

set_option maxHeartbeats 1000000 in
theorem start_any (C n : Nat) (m : Option Nat) (L : List Km.Tmr) (k : Int × Int) (now period : Int) (w : World) (h : Clk w C m n L) (hk : InK k) (hn : n < 9223372036854775807) (hnow : Km.In now) (hper : Km.In period) :
    Calls Try.prog 16 #[.pointer (some ⟨C, 0, none⟩), keyV k, .int .i64 now, .int .i64 period] w fun e w' => e = .returned (.int .i64 (startN now period)) ∧ Mvd w w' C m (n + 1) (startT k now period L) := by
  have hq : Below w.heap.size w (w.alloc (.cells #[.int .i64 k.1, .int .i64 k.2] 33)) := (Below.refl _ _).alloc (Nat.le_refl _) _
  have h1 := h.below hq
  obtain ⟨hn1, hn2⟩ := hnow
  obtain ⟨hp1, hp2⟩ := hper
  obtain ⟨k1, k2⟩ := k
  have bl : w.heap.size < (w.alloc (.cells #[.int .i64 k1, .int .i64 k2] 33)).heap.size := by simp
  have hc := h1.c
  have hf := h1.f
  have hl := h.lt
  by_cases hg : Km.good now period
  · have hI := good_in hk hg
    have HR : Hid (startN now period = 0) := by unfold startN; rw [if_pos hg]; rfl
    have HT : Hid (startT (k1, k2) now period L = Km.startL (k1, k2) (now + period) L) := by unfold startT; rw [if_pos hg]; rfl
    obtain ⟨⟨g1, g2⟩, g3, g4⟩ := hg
    rcases h.map with ⟨rfl, rfl⟩ | ⟨B, rfl, hne, hM⟩
    · unfold keyV
      have hmm := @run_makeMap Try.prog
      have heq := map_eq0
      go_enter Try.func16, Try.ntmps16
      go_wp2
      obtain ⟨w0, hw0⟩ : ∃ w0, w0 = w.setCell ⟨C, 0, none⟩ (.map (some (w.heap.size + 1))) := ⟨_, rfl⟩
      obtain ⟨W, hW⟩ : ∃ W, W = (w0.alloc (.cells #[.int .i64 k1, .int .i64 k2] 33)).alloc (.map #[] 0) := ⟨_, rfl⟩
      rw [← hw0, ← hW]
      have e0 : w0.heap.size = w.heap.size := by rw [hw0]; simp
      have e1 : (w0.alloc (.cells #[.int .i64 k1, .int .i64 k2] 33)).heap.size = w.heap.size + 1 := by simp [e0]
      have qW : Below w0.heap.size w0 W := by rw [hW]; exact ((Below.refl _ _).alloc (Nat.le_refl _) _).alloc (by simp) _
      have kW : Kept w W (tch C none) := by rw [hW, hw0]; exact (((Kept.refl w _).setCell (p := ⟨C, 0, none⟩) (fun _ => Or.inl rfl) _).alloc _).alloc _
      have cW : W.cell? ⟨C, 0, none⟩ = some (.map (some (w.heap.size + 1))) := by
        refine (qW.cell (p := ⟨C, 0, none⟩) (by show C < _; rw [e0]; omega)).trans ?_
        rw [hw0]; exact World.cell?_setCell_same' _ ⟨C, 0, none⟩ _ (by rw [h.c]; rfl)
      have fW : W.frozen? ⟨C, 0, none⟩ = false := by
        refine (qW.frozen (p := ⟨C, 0, none⟩) (by show C < _; rw [e0]; omega)).trans ?_
        rw [hw0, World.frozen?_setCell]; exact h.f
      have mW : MapIs W (w.heap.size + 1) 0 [] := by rw [hW, ← e1]; exact mapIs_made _
      have sW : W.heap.size = w.heap.size + 2 := by rw [hW]; simp [e0]
      have b0 : W.cell? ⟨w.heap.size, 0, none⟩ = some (.int .i64 k1) := by
        rw [hW, ← e0]
        exact (((Below.refl _ _).alloc (Nat.le_refl _) _).cell (p := ⟨w0.heap.size, 0, none⟩) (by simp)).trans (by simp)
      have b1 : W.cell? ⟨w.heap.size, 1, none⟩ = some (.int .i64 k2) := by
        rw [hW, ← e0]
        exact (((Below.refl _ _).alloc (Nat.le_refl _) _).cell (p := ⟨w0.heap.size, 1, none⟩) (by simp)).trans (by simp)
      have h2 : Clk W.drew C (some (w.heap.size + 1)) 0 [] := ⟨by show C < W.heap.size; omega, cW, fW, Km.ok_nil, Or.inr ⟨_, rfl, by omega, mW.drew⟩⟩
      obtain ⟨w3, hrun, hM3, ht⟩ := mW.drew.store Km.ok_nil (by decide) hI
      have HM : Hid (Mvd w w3 C none (n + 1) (startT (k1, k2) now period [])) := by
        rw [HT.out]
        obtain ⟨m', c', kk', ff'⟩ := h2.turned ht hM3 (Km.ok_nil.start hI)
        refine ⟨m', ⟨c'.lt, c'.c, c'.f, c'.ok, ?_⟩, kW.drew.trans kk' (fun k hk hx => ?_), fun B hB => ?_⟩
        · rcases c'.map with h' | ⟨B, q1, q2, q3⟩
          · exact Or.inl h'
          · exact Or.inr ⟨B, q1, q2, q3.mono (by omega)⟩
        · rcases hx with rfl | hx
          · exact Or.inl rfl
          · injection hx with hx; omega
        · rcases ff' B hB with h' | h'
          · injection h' with h'; exact Or.inr (by omega)
          · exact Or.inr (by have : W.drew.heap.size = W.heap.size := rfl; omega)
      unfold keyV at hrun
      have hCW : C < W.heap.size := by omega
      have hbW : w.heap.size < W.heap.size := by omega
      clear h h1 hW hw0 qW kW mW h2 hM3 ht hI HT hc hf fW bl hmm heq e1 e0
      go_region
      go_wp2
      go_ret
      exact ⟨by rw [HR.out]; rfl, HM.out⟩
    · have h2 : Clk ((w.alloc (.cells #[.int .i64 k1, .int .i64 k2] 33)).drew) C (some B) n L := h1.below (Below.refl _ _).drew
      have hM2 := (hM.below hq hM.lt).drew
      obtain ⟨w3, hrun, hM3, ht⟩ := hM2.store h.ok (by unfold maxLen; omega) hI
      have HM : Hid (Mvd w w3 C (some B) (n + 1) (startT (k1, k2) now period L)) := by rw [HT.out]; exact Mvd.ahead hq.drew (h2.turned ht hM3 (h.ok.start hI))
      unfold keyV at hrun ⊢
      have heq := map_eq1 B
      clear h h1 h2 hM hM2 hM3 ht hI HT
      go_enter Try.func16, Try.ntmps16
      go_wp2
      go_region
      go_wp2
      go_ret
      exact ⟨by rw [HR.out]; rfl, HM.out⟩
  · have HR : Hid (startN now period = 2) := by unfold startN; rw [if_neg hg]; rfl
    have HM : Hid (Mvd w (w.alloc (.cells #[.int .i64 k1, .int .i64 k2] 33)) C m (n + 1) (startT (k1, k2) now period L)) := by
      unfold startT; rw [if_neg hg]
      obtain ⟨m', c', r'⟩ := h.same hq
      refine ⟨m', ⟨c'.lt, c'.c, c'.f, c'.ok, ?_⟩, r'⟩
      rcases c'.map with h' | ⟨B, e1, e2, e3⟩
      · exact Or.inl h'
      · exact Or.inr ⟨B, e1, e2, e3.mono (Nat.le_succ _)⟩
    have hg' : now < 0 ∨ 9007199254740992 < now ∨ period < 1 ∨ 1048576 < period := by unfold Km.good at hg; omega
    unfold keyV
    clear h h1 hg
    rcases hg' with g | g | g | g
    all_goals
      go_enter Try.func16, Try.ntmps16
      go_wp2
      all_goals
        go_ret
        exact ⟨by rw [HR.out]; rfl, HM.out⟩
end Go.Proofs.Ytalpfcckdjipoaa
