/-
  The walk of a clock's Next: when the first one is over, whatever order the map is gone through in.
-/
import Derived.Test.YtalpfcckdjipoaaClkWalks
import Derived.Handy
namespace Go.Proofs.Ytalpfcckdjipoaa
open Go.RowKit Go.Maps
set_option linter.unusedVariables false
set_option linter.unusedSimpArgs false

theorem range_nil (w : World) : (Instr.range 52 (.map none)).run Try.prog w = .ok (.pointer (some ⟨w.heap.size, 0, none⟩)) (w.alloc (.mapIter none 0 #[] 0)) := by kernel_rfl
theorem next_nil (w : World) (ty : TypeId) : (Instr.next (.pointer (some ⟨w.heap.size, 0, none⟩)) false ty).run Try.prog (w.alloc (.mapIter none 0 #[] 0)) = .ok (.tuple #[.bool false]) (w.alloc (.mapIter none 0 #[] 0)) := by
  have h : (w.alloc (.mapIter none 0 #[] 0)).heap[w.heap.size]? = some (.mapIter none 0 #[] 0) := (MapKept.heap_alloc w _).1
  generalize w.alloc (.mapIter none 0 #[] 0) = W at h ⊢
  have hg : (getObj w.heap.size).run Try.prog W = .ok (.mapIter none 0 #[] 0) W := by unfold getObj Sem.run; rw [h]; rfl
  refine (Sem.run_bind Try.prog W (getObj w.heap.size) _).trans ?_
  rw [hg]
  rfl

theorem invK (key : Value) (l : Lit) (h : keyOf Try.prog 33 key = some l) : ∃ x, key = keyV x := by obtain ⟨k, h, _⟩ := key_inv h; exact ⟨k, h⟩
theorem invV (v : Value) (y : DataW Unit × List MemPlace) (h : plainElem Try.prog 2 v = some y) : ∃ c, v = Value.int .i64 c := by obtain ⟨a, h, _⟩ := plainElem_int_inv Try.underlying2 h; exact ⟨a, h⟩
/-- an entry that has come is one of the timers -/
theorem entry_in {D : DataW Unit} {L : List Km.Tmr} (hR : Rep D L) (hL : Km.Ok L) {x : Int × Int} {c : Int} {l : Lit} {y : DataW Unit × List MemPlace} (hkey : keyOf Try.prog 33 (keyV x) = some l) (hv : plainElem Try.prog 2 (Value.int .i64 c) = some y) (hat : ∀ z, D.atKey l z = y.1) :
    InK x ∧ l = kl x ∧ (c, x) ∈ L := by
  obtain ⟨k, hk1, hin, rfl⟩ := key_inv hkey
  have e : x = k := by
    unfold keyV at hk1
    injection hk1 with hk1
    have h1 := congrArg (fun a : Array Value => a[0]?) hk1
    have h2 := congrArg (fun a : Array Value => a[1]?) hk1
    simp at h1 h2
    exact Prod.ext h1 h2
  subst e
  obtain ⟨a, ha, rfl, _⟩ := plainElem_int_inv Try.underlying2 hv
  injection ha with _ ha
  subst ha
  have hh := hR.has x hin
  rw [has_true_of_atKey hat] at hh
  obtain ⟨e, he, _⟩ := runs_mem hh.symm
  have h2 := hR.val _ he .nil
  rw [hat] at h2
  injection h2 with h2
  injection h2 with _ h2
  exact ⟨hin, rfl, by rw [h2]; exact he⟩

/-- the step of a range over a map of timers: nothing is left, or one of the timers has come -/
theorem next_keys {ops : Array Oper} {rest : List Oper} {o : Oper} {a : Act} {Q : Exit → Act → World → Prop} (w : World) (hg : o.guard = none) (it : Operand) (hop : o.op = Op.next it false) (B r n : Nat) (D : DataW Unit) (left : Lit → Bool) (cnt : Nat) (L : List Km.Tmr)
    (hit : a.eval it = .pointer (some ⟨r, 0, none⟩)) (h : w.ranges Try.prog 33 (plainElem Try.prog 2) B r n D left cnt) (hR : Rep D L) (hL : Km.Ok L)
    (hDone : (∀ l, left l = false) → wpList Try.prog ops Q rest (a.put o.dst (.tuple #[.bool false])) w)
    (hMore : ∀ (x1 x2 c : Int) (w' : World) (cnt' : Nat), Hid (InK (x1, x2)) → Hid ((c, x1, x2) ∈ L) → Hid (left (kl (x1, x2)) = true) → Hid (w'.ranges Try.prog 33 (plainElem Try.prog 2) B r n D (fun z => left z && !z.sameKey (kl (x1, x2))) cnt') → Hid (cnt' < cnt) →
      Hid (w.grownBy w' (some r)) → (Instr.entry (.pointer (some ⟨r, 0, none⟩))).run Try.prog w' = .ok (.tuple #[.agg #[.int .i64 x1, .int .i64 x2], .int .i64 c]) w' → wpList Try.prog ops Q rest (a.put o.dst (.tuple #[.bool true, .agg #[.int .i64 x1, .int .i64 x2], .int .i64 c])) w') :
    wpList Try.prog ops Q (o :: rest) a w := by
  refine wpList_next_ranges w hg it hop 33 klaw _ keyV (Value.int .i64) invK invV B r n D left cnt hit h (fun _ hl => hDone hl) ?_
  intro x c l y w' cnt' hkey hlk hv hat hrg hlt hgr hsz hen
  obtain ⟨hin, rfl, hm⟩ := entry_in hR hL hkey hv hat
  exact hMore x.1 x.2 c w' cnt' hin hm hlk hrg hlt hgr hen

/-- what is known behind some of them -/
def NextI (L : List Km.Tmr) (left : Lit → Bool) (f : Int) (r : Bool) : Prop :=
  (r = false → f = 0 ∧ ∀ a ∈ L, left (kl a.2) = true) ∧ (r = true → (∃ a ∈ L, a.1 = f) ∧ ∀ a ∈ L, left (kl a.2) = false → f ≤ a.1)

theorem nextI_end {L : List Km.Tmr} (hL : Km.Ok L) {left : Lit → Bool} {f : Int} {r : Bool} (h : NextI L left f r) (hl : ∀ l, left l = false) : f = Km.nextN L ∧ r = Km.nextB L := by
  cases r with
  | false =>
    obtain ⟨h0, ha⟩ := h.1 rfl
    cases L with
    | nil => exact ⟨h0, rfl⟩
    | cons a _ => have := ha a (by simp); rw [hl] at this; cases this
  | true =>
    obtain ⟨⟨a, ha, hf⟩, hm⟩ := h.2 rfl
    obtain ⟨h1, h2⟩ := Km.next_found hL ha hf (fun b hb => hm b hb (hl _))
    exact ⟨h1.symm, h2.symm⟩
theorem nextI_take {L : List Km.Tmr} (hL : Km.Ok L) {left : Lit → Bool} {f : Int} {r : Bool} (h : NextI L left f r) {c : Int} {x : Int × Int} (hm : (c, x) ∈ L) (ht : r = false ∨ c < f) : NextI L (fun z => left z && !z.sameKey (kl x)) c true := by
  refine ⟨fun e => (by cases e), fun _ => ⟨⟨(c, x), hm, rfl⟩, fun a ha hl => ?_⟩⟩
  simp only [Bool.and_eq_false_iff, Bool.not_eq_false'] at hl
  have hka := In.key (hL.inn a ha)
  have hkx : InK x := In.key (hL.inn _ hm)
  rcases hl with hl | hl
  · rcases ht with rfl | ht
    · have := (h.1 rfl).2 a ha; rw [hl] at this; cases this
    · cases r with
      | false => have := (h.1 rfl).2 a ha; rw [hl] at this; cases this
      | true => have := (h.2 rfl).2 a ha hl; omega
  · rw [kl_sameKey hka hkx] at hl
    have e : a = (c, x) := hL.one ha hm (by simpa using hl)
    rw [e]; exact Int.le_refl _
theorem nextI_pass {L : List Km.Tmr} (hL : Km.Ok L) {left : Lit → Bool} {f : Int} (h : NextI L left f true) {c : Int} {x : Int × Int} (hm : (c, x) ∈ L) (ht : f ≤ c) : NextI L (fun z => left z && !z.sameKey (kl x)) f true := by
  refine ⟨fun e => (by cases e), fun _ => ⟨(h.2 rfl).1, fun a ha hl => ?_⟩⟩
  simp only [Bool.and_eq_false_iff, Bool.not_eq_false'] at hl
  have hka := In.key (hL.inn a ha)
  have hkx : InK x := In.key (hL.inn _ hm)
  rcases hl with hl | hl
  · exact (h.2 rfl).2 a ha hl
  · rw [kl_sameKey hka hkx] at hl
    have e : a = (c, x) := hL.one ha hm (by simpa using hl)
    rw [e]; exact ht

set_option maxHeartbeats 1000000 in
set_option maxRecDepth 100000 in
theorem next_any (C n : Nat) (m : Option Nat) (L : List Km.Tmr) (w : World) (h : Clk w C m n L) :
    Calls Try.prog 20 #[.pointer (some ⟨C, 0, none⟩)] w fun e w' => e = .returned (.tuple #[.int .i64 (Km.nextN L), .bool (Km.nextB L)]) ∧ Below w.heap.size w w' := by
  have hc := h.c
  have hlt := h.lt
  have HL : Hid (Km.Ok L) := h.ok
  rcases h.map with ⟨rfl, rfl⟩ | ⟨B, rfl, hne, D, hown, hR⟩
  · clear h
    have hrn := range_nil w
    have hnn := next_nil w
    go_enter Try.func20, Try.ntmps20
    go_wp2
    refine wp_loop_rounds 1 ?_
    rw [rounds_succ]
    go_wp2
    go_ret2
    exact ⟨rfl, (Below.refl _ _).alloc (Nat.le_refl _) _⟩
  · have HR : Hid (Rep D L) := hR
    clear h hR
    go_enter Try.func20, Try.ntmps20
    go_wp2_with (at_range; refine wpList_range_own _ rfl _ 52 rfl 33 2 klaw Try.underlying52 _ B n D rfl hown ?_; intro w6 hrg0 hg0 hs0)
    go_frame
    have hbel6 : Below w.heap.size w w6 := (Below.refl _ _).grown hg0 (Nat.le_refl _) (fun j hj => by cases hj)
    clear hg0 hown
    go_loopw [4, 5] (fun vf vr wq => ∃ (left : Lit → Bool) (cnt : Nat) (f : Int) (r : Bool), vf = .int .i64 f ∧ vr = .bool r ∧ wq.ranges Try.prog 33 (plainElem Try.prog 2) B w.heap.size n D left cnt ∧ Hid (NextI L left f r) ∧ Below w.heap.size w wq) (fun _ _ wq => wq.rangeLeft B w.heap.size)
    case atStart =>
      refine ⟨_, _, 0, false, rfl, rfl, hrg0, ?_, hbel6⟩
      exact ⟨fun _ => ⟨rfl, fun a ha => by rw [HR.out.has a.2 (In.key (HL.out.inn a ha))]; exact runs_of HL.out ha⟩, fun e => by cases e⟩
    case round =>
      obtain ⟨left, cnt, f, r, rfl, rfl, hrg, HI, hbelq⟩ := hrel
      clear hrg0 hbel6
      go_wp2_with (at_next; refine next_keys _ rfl _ rfl B w.heap.size n D left cnt L rfl hrg HR.out HL.out ?_ ?_)
      · intro hl0
        obtain ⟨e1, e2⟩ := nextI_end HL.out HI.out hl0
        subst e1 e2
        clear hl0
        go_wp2
        go_ret2
        exact ⟨rfl, hbelq⟩
      · intro x1 x2 c w7 cnt1 hin HM hlk HG hltc hg1 hen
        have hrg1 := HG.out
        have hbel7 : Below w.heap.size w w7 := hbelq.grown hg1.out hbelq.size (fun j hj => by cases hj; exact Nat.le_refl _)
        have HC : Hid (cnt1 < cnt) := hltc
        clear hlk hg1 HG hltc
        by_cases ht : r = false ∨ c < f
        · have HT : Hid _ := nextI_take HL.out HI.out HM.out ht
          rcases ht with rfl | ht
          · go_wp2
            go_roundw
            case rel => exact ⟨_, cnt1, c, true, rfl, rfl, hrg1, HT.out, hbel7⟩
            case measure => rw [hrg1.left_eq, hrg.left_eq]; exact HC.out
          · cases r <;>
            · go_wp2
              go_roundw
              case rel => exact ⟨_, cnt1, c, true, rfl, rfl, hrg1, HT.out, hbel7⟩
              case measure => rw [hrg1.left_eq, hrg.left_eq]; exact HC.out
        · obtain rfl : r = true := by cases r <;> simp_all
          have hfc : f ≤ c := by simp at ht; exact ht
          have HT : Hid _ := nextI_pass HL.out HI.out HM.out hfc
          clear ht
          go_wp2
          go_roundw
          case rel => exact ⟨_, cnt1, f, true, rfl, rfl, hrg1, HT.out, hbel7⟩
          case measure => rw [hrg1.left_eq, hrg.left_eq]; exact HC.out
end Go.Proofs.Ytalpfcckdjipoaa
