/-
  The walk of a clock's Drop: none of somebody's timers runs any more, whatever order the map is gone through in.
-/
import Derived.Test.YtalpfcckdjipoaaNextWalks
namespace Go.Proofs.Ytalpfcckdjipoaa
open Go.RowKit Go.Maps
set_option linter.unusedVariables false
set_option linter.unusedSimpArgs false

theorem dropAt_congr {o : Int} {f g : Int × Int → Bool} {L : List Km.Tmr} (h : ∀ a ∈ L, f a.2 = g a.2) : Km.dropAt o f L = Km.dropAt o g L := by
  unfold Km.dropAt
  exact List.filter_congr (fun a ha => by rw [h a ha])
theorem dropAt_ok {o : Int} {f : Int × Int → Bool} {L : List Km.Tmr} (h : Km.Ok L) : Km.Ok (Km.dropAt o f L) := h.filter _
theorem left_step {L : List Km.Tmr} (hL : Km.Ok L) {left : Lit → Bool} {x : Int × Int} (hx : InK x) : ∀ a ∈ L, (fun k => left (kl k) && !(kl k).sameKey (kl x)) a.2 = (fun k => left (kl k) && !decide (k = x)) a.2 := by
  intro a ha
  show (left (kl a.2) && !(kl a.2).sameKey (kl x)) = _
  rw [kl_sameKey (In.key (hL.inn a ha)) hx]

/-- what is known behind some of them -/
structure DropI (L : List Km.Tmr) (o : Int) (left : Lit → Bool) (D : DataW Unit) (ran : Nat) : Prop where
  rep : Rep D (Km.dropAt o (fun k => left (kl k)) L)
  cnt : ran + (Km.dropAt o (fun k => left (kl k)) L).length = L.length

theorem dropI_start {L : List Km.Tmr} (hL : Km.Ok L) {D : DataW Unit} (hR : Rep D L) (o : Int) : DropI L o (Maps.has D) D 0 := by
  have e : Km.dropAt o (fun k => Maps.has D (kl k)) L = L := Km.dropAt_start (fun a ha => by rw [hR.has a.2 (In.key (hL.inn a ha))]; exact runs_of hL ha)
  exact ⟨by rw [e]; exact hR, by rw [e]; omega⟩
theorem dropI_end {L : List Km.Tmr} {o : Int} {left : Lit → Bool} {D : DataW Unit} {ran : Nat} (h : DropI L o left D ran) (hl : ∀ l, left l = false) : Rep D (Km.dropL o L) ∧ (ran : Int) = (L.length : Int) - (Km.dropL o L).length := by
  have e : Km.dropAt o (fun k => left (kl k)) L = Km.dropL o L := Km.dropAt_end (fun a _ => hl _)
  have h1 := h.rep
  have h2 := h.cnt
  rw [e] at h1 h2
  exact ⟨h1, by omega⟩
theorem dropI_hit {L : List Km.Tmr} (hL : Km.Ok L) {o : Int} {left : Lit → Bool} {D : DataW Unit} {ran : Nat} (h : DropI L o left D ran) {c : Int} {x : Int × Int} (hx : InK x) (ho : x.1 = o) (hm : (c, x) ∈ Km.dropAt o (fun k => left (kl k)) L) :
    DropI L o (fun z => left z && !z.sameKey (kl x)) (D.del (kl x)) (ran + 1) := by
  have hok := dropAt_ok (o := o) (f := fun k => left (kl k)) hL
  have e : Km.dropAt o (fun k => left (kl k) && !(kl k).sameKey (kl x)) L = Km.rem x (Km.dropAt o (fun k => left (kl k)) L) := by
    rw [dropAt_congr (g := fun k => left (kl k) && !decide (k = x)) (left_step hL hx)]; exact Km.dropAt_hit (left := fun k => left (kl k)) ho
  refine ⟨?_, ?_⟩
  · show Rep (D.del (kl x)) (Km.dropAt o (fun k => left (kl k) && !(kl k).sameKey (kl x)) L)
    rw [e]; exact h.rep.del hok hx
  · show ran + 1 + (Km.dropAt o (fun k => left (kl k) && !(kl k).sameKey (kl x)) L).length = L.length
    have h1 := Km.rem_length hok hm
    have h2 := h.cnt
    rw [e]
    simp only at h1
    omega
theorem dropI_pass {L : List Km.Tmr} (hL : Km.Ok L) {o : Int} {left : Lit → Bool} {D : DataW Unit} {ran : Nat} (h : DropI L o left D ran) {x : Int × Int} (hx : InK x) (ho : x.1 ≠ o) : DropI L o (fun z => left z && !z.sameKey (kl x)) D ran := by
  have e : Km.dropAt o (fun k => left (kl k) && !(kl k).sameKey (kl x)) L = Km.dropAt o (fun k => left (kl k)) L := by
    rw [dropAt_congr (g := fun k => left (kl k) && !decide (k = x)) (left_step hL hx)]; exact Km.dropAt_other (left := fun k => left (kl k)) ho
  refine ⟨?_, ?_⟩
  · show Rep D (Km.dropAt o (fun k => left (kl k) && !(kl k).sameKey (kl x)) L)
    rw [e]; exact h.rep
  · show ran + (Km.dropAt o (fun k => left (kl k) && !(kl k).sameKey (kl x)) L).length = L.length
    rw [e]; exact h.cnt

/-- how many of that Owner ran -/
def dropN (o : Int) (L : List Km.Tmr) : Int := (L.length : Int) - (Km.dropL o L).length

set_option maxHeartbeats 2000000 in
set_option maxRecDepth 100000 in
theorem drop_any (C n : Nat) (m : Option Nat) (L : List Km.Tmr) (o : Int) (w : World) (h : Clk w C m n L) (hlen : L.length ≤ 1000000) :
    Calls Try.prog 12 #[.pointer (some ⟨C, 0, none⟩), .int .i64 o] w fun e w' => e = .returned (.int .i64 (dropN o L)) ∧ Mvd w w' C m n (Km.dropL o L) := by
  have hc := h.c
  have hlt := h.lt
  have hfz := h.f
  have HL : Hid (Km.Ok L) := h.ok
  rcases h.map with ⟨rfl, rfl⟩ | ⟨B, rfl, hne, D, hown, hR⟩
  · have hrn := range_nil w
    have hnn := next_nil w
    have HM : Hid (Mvd w (w.alloc (.mapIter none 0 #[] 0)) C none n (Km.dropL o [])) := h.same ((Below.refl _ _).alloc (Nat.le_refl _) _)
    clear h hfz
    go_enter Try.func12, Try.ntmps12
    go_wp2
    refine wp_loop_rounds 1 ?_
    rw [rounds_succ]
    go_wp2
    go_ret
    exact ⟨rfl, HM.out⟩
  · have HR : Hid (Rep D L) := hR
    clear h hR
    go_enter Try.func12, Try.ntmps12
    go_wp2_with (at_range; refine wpList_range_own _ rfl _ 52 rfl 33 2 klaw Try.underlying52 _ B n D rfl hown ?_; intro w6 hrg0 hg0 hs0)
    go_frame
    have hk6 : Kept w w6 (fun k => k = B) := Kept.of_grown hg0 (fun k e => by cases e)
    clear hg0 hown
    go_loopw [5] (fun vr wq => ∃ (left : Lit → Bool) (cnt ran : Nat) (D' : DataW Unit), vr = .int .i64 ran ∧ Hid (wq.ranges Try.prog 33 (plainElem Try.prog 2) B w.heap.size n D' left cnt) ∧ Hid (DropI L o left D' ran) ∧ Hid (Kept w wq (fun k => k = B))) (fun _ wq => wq.rangeLeft B w.heap.size)
    case atStart => exact ⟨_, _, 0, D, rfl, hrg0, dropI_start HL.out HR.out o, hk6⟩
    case round =>
      obtain ⟨left, cnt, ran, D', rfl, HG, HI, HK⟩ := hrel
      clear hrg0 hk6
      have hran : ran ≤ 1000000 := by have := HI.out.cnt; omega
      go_wp2_with (at_next; refine next_keys _ rfl _ rfl B w.heap.size n D' left cnt _ rfl HG.out HI.out.rep (dropAt_ok HL.out) ?_ ?_)
      · intro hl0
        obtain ⟨r1, r2⟩ := dropI_end HI.out hl0
        have HN : Hid ((ran : Int) = dropN o L) := r2
        have ho := HG.out.owns
        have HM : Hid (Mvd w wr C (some B) n (Km.dropL o L)) := by
          have hk := HK.out
          exact ⟨some B, ⟨Nat.lt_of_lt_of_le hlt hk.size, (hk.cell (p := ⟨C, 0, none⟩) hlt (fun e => hne e.symm)).trans hc, (hk.frozen (p := ⟨C, 0, none⟩) hlt (fun e => hne e.symm)).trans hfz, HL.out.drop o, Or.inr ⟨B, rfl, hne, D', ho, r1⟩⟩, hk.mono (fun k _ e => Or.inr (by rw [e])), fun B' h' => Or.inl h'⟩
        clear hl0 r1 r2 ho
        go_wp2
        go_ret
        exact ⟨by rw [← HN.out]; rfl, HM.out⟩
      · intro x1 x2 c w7 cnt1 hin HM hlk HG1 hltc hg1 hen
        have hk7 : Kept w w7 (fun k => k = B) := HK.out.trans (T' := fun k => k = w.heap.size) (Kept.of_grown hg1.out (fun k e => by injection e with e; exact e.symm)) (fun k hk e => by omega)
        have hlt7 : C < w7.heap.size := Nat.lt_of_lt_of_le hlt hk7.size
        have hc7 := (hk7.cell (p := ⟨C, 0, none⟩) hlt (fun e => hne e.symm)).trans hc
        have qa : Below w7.heap.size w7 (w7.alloc (.cells #[.int .i64 x1, .int .i64 x2] 33)) := (Below.refl _ _).alloc (Nat.le_refl _) _
        have hk8 : Kept w (w7.alloc (.cells #[.int .i64 x1, .int .i64 x2] 33)) (fun k => k = B) := hk7.alloc _
        have hc8 := (qa.cell (p := ⟨C, 0, none⟩) hlt7).trans hc7
        have hrg8 := HG1.out.alloc (.cells #[.int .i64 x1, .int .i64 x2] 33)
        by_cases ho : x1 = o
        · subst ho
          have HI2 : Hid _ := dropI_hit HL.out HI.out hin.out (x := (x1, x2)) rfl HM.out
          have hrg8d : ((w7.alloc (.cells #[.int .i64 x1, .int .i64 x2] 33)).drew).ranges Try.prog 33 (plainElem Try.prog 2) B w.heap.size n D' (fun z => left z && !z.sameKey (kl (x1, x2))) cnt1 := hrg8
          obtain ⟨w9, cnt9, hrun, hrg9, hle, hturn⟩ := hrg8d.drop klaw Try.underlying52 (key_of hin.out) 0
          rw [Maps.strike_twice] at hrg9
          have HK9 : Hid (Kept w w9 (fun k => k = B)) := hk8.drew.trans (T' := fun k => k = B) (Kept.of_grown hturn.grown (fun k e => by injection e with e; exact e.symm)) (fun k _ e => e)
          have hcc : w9.rangeLeft B w.heap.size < wr.rangeLeft B w.heap.size := by have h1 := hltc.out; rw [hrg9.left_eq, HG.out.left_eq]; omega
          have HC : Hid (w9.rangeLeft B w.heap.size < wr.rangeLeft B w.heap.size) := hcc
          have HG9 : Hid (w9.ranges Try.prog 33 (plainElem Try.prog 2) B w.heap.size n (D'.del (kl (x1, x2))) (fun z => left z && !z.sameKey (kl (x1, x2))) cnt9) := hrg9
          unfold keyV at hrun
          clear hcc hrg8 hrg8d hrg9 hle hturn hk7 hk8 hg1 hlk hltc HG1 HM HK HI hc7 hc
          go_wp2
          go_region
          go_wp2
          go_roundw
          case rel => exact ⟨_, cnt9, ran + 1, _, by go_num, HG9, HI2, HK9⟩
          case measure => exact HC.out
        · have HI2 : Hid _ := dropI_pass HL.out HI.out hin.out (x := (x1, x2)) ho
          have t0 : (x1 == o) = false := by simpa using ho
          have HC : Hid ((w7.alloc (.cells #[.int .i64 x1, .int .i64 x2] 33)).rangeLeft B w.heap.size < wr.rangeLeft B w.heap.size) := by rw [hrg8.left_eq, HG.out.left_eq]; exact hltc.out
          have HG9 : Hid ((w7.alloc (.cells #[.int .i64 x1, .int .i64 x2] 33)).ranges Try.prog 33 (plainElem Try.prog 2) B w.heap.size n D' (fun z => left z && !z.sameKey (kl (x1, x2))) cnt1) := hrg8
          have HK9 : Hid _ := hk8
          clear hrg8 hk7 hk8 hg1 hlk hltc HG1 HM HK HI hc7 hc
          go_wp2
          go_roundw
          case rel => exact ⟨_, cnt1, ran, _, by go_num, HG9, HI2, HK9⟩
          case measure => exact HC.out
end Go.Proofs.Ytalpfcckdjipoaa
