/-
  A user in the world: its block, its source; what a call leaves of it; the effects that a call hands out.
-/
import Derived.Test.YtdnhcpkpajbhoaaUsrMath
import Derived.Test.YtdnhcpkpajbhoaaDrawWalks
import Derived.Maps.AppendAt
import Derived.Laws.OwnMore
import Derived.Deep.AppendLies
namespace Go.Proofs.Ytdnhcpkpajbhoaa
open Go.RowKit
set_option linter.unusedVariables false
set_option linter.unusedSimpArgs false
set_option maxRecDepth 100000

/-! ### the effects that a call hands out -/
def uefV (x : Um.Ef) : Value := .agg #[.int .i64 x.k, .int .i64 x.ty, .int .i64 x.ri, .int .i64 x.ai, .int .i64 x.tei]
def uefL (x : Um.Ef) : List Value := [.int .i64 x.k, .int .i64 x.ty, .int .i64 x.ri, .int .i64 x.ai, .int .i64 x.tei]
def uefsL (l : List Um.Ef) : List Value := l.flatMap uefL
theorem uefsL_len : ∀ l : List Um.Ef, (uefsL l).length = l.length * 5
  | [] => rfl
  | x :: l => by
    show (uefL x ++ uefsL l).length = _
    rw [List.length_append, uefsL_len l]
    simp [uefL]; omega
theorem uef_at : ∀ (l : List Um.Ef) (i : Nat) (x : Um.Ef), l[i]? = some x → ∀ j u, (uefL x)[j]? = some u → (uefsL l)[i * 5 + j]? = some u
  | [], i, x, h, _, _, _ => by simp at h
  | y :: l, i, x, h, j, u, hj => by
    have hl : j < 5 := (List.getElem?_eq_some_iff.1 hj).1
    show (uefL y ++ uefsL l)[i * 5 + j]? = some u
    cases i with
    | zero =>
      simp at h
      subst h
      rw [List.getElem?_append_left (by show 0 * 5 + j < 5; omega), Nat.zero_mul, Nat.zero_add]
      exact hj
    | succ i =>
      rw [List.getElem?_append_right (by show 5 ≤ (i + 1) * 5 + j; omega), show (i + 1) * 5 + j - (uefL y).length = i * 5 + j from by show (i + 1) * 5 + j - 5 = _; omega]
      exact uef_at l i x (by simpa using h) j u hj
/-- what is handed out: a slice of the call's own, or nil -/
structure UOut (b : Nat) (w : World) (v : Value) (l : List Um.Ef) : Prop where
  own' : w.ownsRow b 55 5 v l.length (uefsL l)
  nil' : l = [] → v = .slice none 0 0
theorem uout_nil (b : Nat) (w : World) : UOut b w (.slice none 0 0) [] := ⟨World.ownsRow_nil _ _ _ _, fun _ => rfl⟩
theorem UOut.kept {b : Nat} {w w' : World} {v : Value} {l : List Um.Ef} {T : Nat → Prop} (h : UOut b w v l) (hk : Kept w w' T) (hT : ∀ k, b ≤ k → k < w.heap.size → ¬ T k) : UOut b w' v l :=
  ⟨hk.owns h.own' (fun B hB => by
    rcases h.own'.2 with ⟨rfl, _⟩ | ⟨g, cap, cur, rfl, hb, hgg, _⟩
    · cases hB
    · have : g = B := by simpa [Value.ownBlock] using hB
      subst this
      exact hT g hb (Array.getElem?_eq_some_iff.1 hgg).1), h.nil'⟩
theorem UOut.up {b b2 : Nat} {w : World} {v : Value} {l : List Um.Ef} (h : UOut b w v l) (hb : b2 ≤ b) : UOut b2 w v l := by
  refine ⟨⟨h.own'.1, ?_⟩, h.nil'⟩
  rcases h.own'.2 with h' | ⟨g, cap, cur, rfl, hg, r⟩
  · exact Or.inl h'
  · exact Or.inr ⟨g, cap, cur, rfl, Nat.le_trans hb hg, r⟩
theorem UOut.form {b : Nat} {w : World} {v : Value} {l : List Um.Ef} (h : UOut b w v l) : ∃ a cap, v = .slice a l.length cap := by
  rcases h.own'.2 with ⟨rfl, h0⟩ | ⟨g, cap, cur, rfl, _⟩
  · exact ⟨none, 0, by rw [h0]⟩
  · exact ⟨_, cap, rfl⟩
theorem uout_made {b : Nat} (w : World) {cs : Array Value} (l : List Um.Ef) (hb : b ≤ w.heap.size) (hc : cs = (uefsL l).toArray) (hl : l.length ≤ 1000000) (hn : 0 < l.length := by simp) : UOut b (w.alloc (.cells cs 55)) (.slice (some ⟨w.heap.size, 0, none⟩) l.length l.length) l := by
  refine ⟨⟨uefsL_len l, Or.inr ⟨w.heap.size, l.length, cs, rfl, hb, heap_alloc_new w _, Nat.le_refl _, by unfold maxLen; omega, by rw [hc]; simp [uefsL_len], ?_⟩⟩, fun e => by rw [e] at hn; simp at hn⟩
  rw [hc]
  show (uefsL l).take (l.length * 5) = uefsL l
  rw [List.take_of_length_le (by rw [uefsL_len]; omega)]
theorem UOut.bel {b : Nat} {w w' : World} {v : Value} {l : List Um.Ef} (h : UOut b w v l) (hb : Below w.heap.size w w') : UOut b w' v l :=
  h.kept (T := fun k => w.heap.size ≤ k ∧ False) (Kept.of_below hb (fun k hk h' => by omega)) (fun _ _ _ x => x.2)
/-- what was handed out, told by places -/
theorem UOut.own {b : Nat} {w : World} {l : List Um.Ef} {a : Option Addr} {cap : Nat} (h : UOut b w (.slice a l.length cap) l) (hn : 0 < l.length) : ∃ g, a = some ⟨g, 0, none⟩ ∧ b ≤ g ∧ g < w.heap.size ∧ l.length ≤ cap ∧ ∀ k u, (uefsL l)[k]? = some u → w.cell? ⟨g, k, none⟩ = some u := by
  obtain ⟨g, c, hv, hb, hg⟩ := World.ownsRow.form h.own' hn
  injection hv with e1 _ e2
  subst e1 e2
  refine ⟨g, rfl, hb, hg, ?_, fun k u hk => ?_⟩
  · rcases h.own'.2 with ⟨h1, h2⟩ | ⟨g', c', cur, hv, _, _, hle, _⟩
    · omega
    · injection hv with _ _ e
      omega
  · have hlt : k < (uefsL l).length := (List.getElem?_eq_some_iff.1 hk).1
    rw [uefsL_len] at hlt
    exact (World.ownsRow.cellAt h.own' k hlt).trans hk

theorem udrewN_blw {B : Nat} {a b : World} (h : Below B a b) : ∀ n, Below B a (b.drewN n)
  | 0 => h
  | n + 1 => (udrewN_blw h n).drew

theorem quiet_more {P : Program} {f : FuncId} {args : Array Value} {w : World} {k n : Nat} {v : Value} (h : Calls P f args (w.drewN (k + n)) fun e w' => e = .returned v ∧ w' = w.drewN (k + n)) : Calls P f args (w.drewN (k + n)) fun e w'' => e = .returned v ∧ ∃ m, w'' = w.drewN (k + m) :=
  h.mono fun _ _ ⟨he, hm⟩ => ⟨he, n, hm⟩

/-! ### a user -/
/-- its source's pointer -/
def dp (nil : Bool) (D : Nat) : Option Addr := if nil then none else some ⟨D, 0, none⟩
def nextV (nil : Bool) (D : Nat) : Value := .func (.func 23) #[.pointer (dp nil D)] #[]
theorem next_some (nil : Bool) (D : Nat) (w : World) : (binOp .neq 61 (nextV nil D) Value.nilFunc).run Try.prog w = .ok (.bool true) w := by
  unfold nextV
  kernel_rfl
theorem next_guard (nil : Bool) (D : Nat) (w : World) : (eqGuard .neq 61 (.tmp 9) (.const Value.nilFunc) (nextV nil D) Value.nilFunc).run Try.prog w = .ok () w := by
  unfold nextV
  kernel_rfl
structure Us (w : World) (C D : Nat) (G : Option Nat) (s : Um.St) : Prop where
  lt : C < w.heap.size
  c0 : w.cell? ⟨C, 0, none⟩ = some (.int .i64 s.most)
  c1 : w.cell? ⟨C, 1, none⟩ = some (nextV s.nil D)
  c2 : w.cell? ⟨C, 2, none⟩ = some (.int .i64 s.tei)
  c3 : w.cell? ⟨C, 3, none⟩ = some (.bool s.asks)
  c4 : w.cell? ⟨C, 4, none⟩ = some (.int .i64 s.ri)
  c5 : w.cell? ⟨C, 5, none⟩ = some (.int .i64 s.tries)
  fz : ∀ j, j < 6 → w.frozen? ⟨C, j, none⟩ = false
  src : s.nil = false → Src w D G s.L s.x
  dl : D < w.heap.size
  ne : s.nil = false → C ≠ D
  gc : G ≠ some C
  gl : ∀ B, G = some B → B < w.heap.size
  ok : Um.Ok s
/-- what a call leaves -/
def Mvu (w w' : World) (C D : Nat) (G : Option Nat) (s' : Um.St) : Prop := Us w' C D G s' ∧ Kept w w' (fun k => k = C ∨ k = D)
section
variable {w w' : World} {C D : Nat} {G : Option Nat} {s : Um.St}
theorem Us.kept {T : Nat → Prop} (h : Us w C D G s) (hk : Kept w w' T) (h1 : ¬ T C) (h2 : ¬ T D) (h3 : ∀ B, G = some B → ¬ T B) : Us w' C D G s :=
  ⟨Nat.lt_of_lt_of_le h.lt hk.size, (hk.cell (p := ⟨C, 0, none⟩) h.lt h1).trans h.c0, (hk.cell (p := ⟨C, 1, none⟩) h.lt h1).trans h.c1, (hk.cell (p := ⟨C, 2, none⟩) h.lt h1).trans h.c2, (hk.cell (p := ⟨C, 3, none⟩) h.lt h1).trans h.c3,
    (hk.cell (p := ⟨C, 4, none⟩) h.lt h1).trans h.c4, (hk.cell (p := ⟨C, 5, none⟩) h.lt h1).trans h.c5, fun j hj => (hk.frozen (p := ⟨C, j, none⟩) h.lt h1).trans (h.fz j hj), fun hn => (h.src hn).kept hk h2 h3, Nat.lt_of_lt_of_le h.dl hk.size, h.ne, h.gc, fun B hB => Nat.lt_of_lt_of_le (h.gl B hB) hk.size, h.ok⟩
theorem Us.below (h : Us w C D G s) (hb : Below w.heap.size w w') : Us w' C D G s :=
  h.kept (T := fun _ => False) (Kept.of_below hb (fun k hk h' => by omega)) (fun x => x) (fun x => x) (fun _ _ x => x)
theorem Us.same (h : Us w C D G s) (hb : Below w.heap.size w w') : Mvu w w' C D G s := ⟨h.below hb, Kept.of_below hb (fun k hk h' => by omega)⟩
theorem Mvu.on {w1 : World} {s' : Um.St} (hk : Kept w w1 (fun k => k = C ∨ k = D)) (h : Mvu w1 w' C D G s') : Mvu w w' C D G s' := ⟨h.1, hk.trans h.2 (fun k _ x => x)⟩
theorem Mvu.ahead {w1 : World} {s' : Um.St} (hb : Below w.heap.size w w1) (h : Mvu w1 w' C D G s') : Mvu w w' C D G s' := Mvu.on (Kept.of_below hb (fun k hk h' => by omega)) h
theorem Mvu.then {w1 : World} {s' : Um.St} (h : Mvu w w1 C D G s') (hb : Below w1.heap.size w1 w') : Mvu w w' C D G s' := ⟨h.1.below hb, h.2.trans (Kept.of_below (T := fun k => k = C ∨ k = D) hb (fun k hk h' => by omega)) (fun k _ x => x)⟩
/-- what it has is laid down anew -/
theorem Us.set {tei ri tries : Int} {asks : Bool} (h : Us w C D G s) (hok : Um.Ok (Um.has s tei asks ri tries)) :
    Mvu w ((((w.setCell ⟨C, 2, none⟩ (.int .i64 tei)).setCell ⟨C, 3, none⟩ (.bool asks)).setCell ⟨C, 4, none⟩ (.int .i64 ri)).setCell ⟨C, 5, none⟩ (.int .i64 tries)) C D G (Um.has s tei asks ri tries) := by
  have hk : Kept w ((((w.setCell ⟨C, 2, none⟩ (.int .i64 tei)).setCell ⟨C, 3, none⟩ (.bool asks)).setCell ⟨C, 4, none⟩ (.int .i64 ri)).setCell ⟨C, 5, none⟩ (.int .i64 tries)) (fun k => k = C) :=
    ((((Kept.refl w (fun k => k = C)).setCell (p := ⟨C, 2, none⟩) (fun _ => rfl) _).setCell (p := ⟨C, 3, none⟩) (fun _ => rfl) _).setCell (p := ⟨C, 4, none⟩) (fun _ => rfl) _).setCell (p := ⟨C, 5, none⟩) (fun _ => rfl) _
  have h2 := h.c2
  have h3 := h.c3
  have h4 := h.c4
  have h5 := h.c5
  refine ⟨⟨Nat.lt_of_lt_of_le h.lt hk.size, ?_, ?_, ?_, ?_, ?_, ?_, fun j hj => ?_, fun hn => (h.src hn).kept hk (fun e => h.ne hn e.symm) (fun B hB e => h.gc (by rw [hB, e])), Nat.lt_of_lt_of_le h.dl hk.size, h.ne, h.gc, fun B hB => Nat.lt_of_lt_of_le (h.gl B hB) hk.size, hok⟩, hk.mono (fun k _ x => Or.inl x)⟩
  · repeat rw [World.cell?_setCell_other _ _ _ _ (fun h => by injection h with _ h2; omega)]
    exact h.c0
  · repeat rw [World.cell?_setCell_other _ _ _ _ (fun h => by injection h with _ h2; omega)]
    exact h.c1
  · rw [World.cell?_setCell_other _ _ _ _ (fun h => by injection h with _ h2; omega), World.cell?_setCell_other _ _ _ _ (fun h => by injection h with _ h2; omega), World.cell?_setCell_other _ _ _ _ (fun h => by injection h with _ h2; omega)]
    exact World.cell?_setCell_same' _ ⟨C, 2, none⟩ _ (by rw [h2]; rfl)
  · rw [World.cell?_setCell_other _ _ _ _ (fun h => by injection h with _ h2; omega), World.cell?_setCell_other _ _ _ _ (fun h => by injection h with _ h2; omega)]
    exact World.cell?_setCell_same' _ ⟨C, 3, none⟩ _ (by rw [World.cell?_setCell_other _ _ _ _ (fun h => by injection h with _ h2; omega), h3]; rfl)
  · rw [World.cell?_setCell_other _ _ _ _ (fun h => by injection h with _ h2; omega)]
    exact World.cell?_setCell_same' _ ⟨C, 4, none⟩ _ (by rw [World.cell?_setCell_other _ _ _ _ (fun h => by injection h with _ h2; omega), World.cell?_setCell_other _ _ _ _ (fun h => by injection h with _ h2; omega), h4]; rfl)
  · exact World.cell?_setCell_same' _ ⟨C, 5, none⟩ _ (by rw [World.cell?_setCell_other _ _ _ _ (fun h => by injection h with _ h2; omega), World.cell?_setCell_other _ _ _ _ (fun h => by injection h with _ h2; omega), World.cell?_setCell_other _ _ _ _ (fun h => by injection h with _ h2; omega), h5]; rfl)
  · rw [World.frozen?_setCell, World.frozen?_setCell, World.frozen?_setCell, World.frozen?_setCell]; exact h.fz j hj
/-- its source's next number -/
theorem unext_any (h : Us w C D G s) : Calls Try.prog 23 #[.pointer (dp s.nil D)] w fun e w' => e = .returned (.int .i64 (Um.nx s)) ∧ Mvu w w' C D G (Um.on s) := by
  cases hn : s.nil with
  | true =>
    have e1 : Um.nx s = 0 := by unfold Um.nx; rw [hn]; rfl
    have e2 : Um.on s = s := by unfold Um.on; rw [hn]; rfl
    rw [e1, e2]
    refine (dnext_nil w).mono ?_
    rintro r w' ⟨rfl, rfl⟩
    exact ⟨rfl, h, Kept.refl _ _⟩
  | false =>
    have e1 : Um.nx s = Dm.nx s.L s.x := by unfold Um.nx; rw [hn]; rfl
    have e2 : Um.on s = { s with L := s.L.tail, x := Dm.nX s.L s.x } := by unfold Um.on; rw [hn]; rfl
    have hok := Um.on_ok h.ok
    rw [e1, e2] at *
    refine (dnext_any D G s.L s.x w (h.src hn)).mono ?_
    rintro r w' ⟨rfl, h1, hk⟩
    have hne := h.ne hn
    exact ⟨rfl, ⟨Nat.lt_of_lt_of_le h.lt hk.size, (hk.cell (p := ⟨C, 0, none⟩) h.lt hne).trans h.c0, (hk.cell (p := ⟨C, 1, none⟩) h.lt hne).trans h.c1, (hk.cell (p := ⟨C, 2, none⟩) h.lt hne).trans h.c2, (hk.cell (p := ⟨C, 3, none⟩) h.lt hne).trans h.c3,
      (hk.cell (p := ⟨C, 4, none⟩) h.lt hne).trans h.c4, (hk.cell (p := ⟨C, 5, none⟩) h.lt hne).trans h.c5, fun j hj => (hk.frozen (p := ⟨C, j, none⟩) h.lt hne).trans (h.fz j hj), fun _ => h1, Nat.lt_of_lt_of_le h.dl hk.size, h.ne, h.gc, fun B hB => Nat.lt_of_lt_of_le (h.gl B hB) hk.size, hok⟩, hk.mono (fun k _ x => Or.inr x)⟩
end
end Go.Proofs.Ytdnhcpkpajbhoaa
