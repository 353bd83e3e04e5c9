/-
  The walk of a clock's Due: those that are over, in order; they run no more.
-/
import Derived.Test.YtalpfcckdjipoaaDueMath
import Derived.Test.YtalpfcckdjipoaaSortNone
import Derived.Test.YtalpfcckdjipoaaNextWalks
namespace Go.Proofs.Ytalpfcckdjipoaa
open Go.RowKit Go.Maps
set_option linter.unusedVariables false
set_option linter.unusedSimpArgs false

/-- what is known behind some of them -/
structure DueI (L : List Km.Tmr) (now : Int) (left : Lit → Bool) (ks : List KeyIn) : Prop where
  mem : ∀ k, k ∈ ks.map (·.1) ↔ ∃ a ∈ L, a.2 = k ∧ a.1 ≤ now ∧ left (kl a.2) = false
  nodup : (ks.map (·.1)).Nodup

theorem dueI_start {L : List Km.Tmr} (hL : Km.Ok L) {D : DataW Unit} (hR : Rep D L) (now : Int) : DueI L now (Maps.has D) [] := by
  refine ⟨fun k => ⟨fun h => by simp at h, ?_⟩, List.nodup_nil⟩
  rintro ⟨a, ha, _, _, hl⟩
  rw [hR.has a.2 (In.key (hL.inn a ha)), runs_of hL ha] at hl
  cases hl
theorem dueI_take {L : List Km.Tmr} (hL : Km.Ok L) {now : Int} {left : Lit → Bool} {ks : List KeyIn} (h : DueI L now left ks) {c : Int} {x : Int × Int} (hx : InK x) (hm : (c, x) ∈ L) (hl : left (kl x) = true) (hc : c ≤ now) :
    DueI L now (fun z => left z && !z.sameKey (kl x)) (ks ++ [⟨x, hx⟩]) := by
  have hnot : x ∉ ks.map (·.1) := by
    intro hin
    obtain ⟨a, ha, he, _, hf⟩ := (h.mem x).1 hin
    rw [he, hl] at hf; cases hf
  refine ⟨fun k => ?_, ?_⟩
  · rw [List.map_append, List.mem_append, h.mem k]
    constructor
    · rintro (⟨a, ha, rfl, h2, h3⟩ | h1)
      · exact ⟨a, ha, rfl, h2, by show (left (kl a.2) && _) = false; rw [h3]; rfl⟩
      · have e : k = x := by simpa using h1
        exact ⟨(c, x), hm, e.symm, hc, by show (left (kl x) && !(kl x).sameKey (kl x)) = false; rw [kl_same]; simp⟩
    · rintro ⟨a, ha, rfl, h2, h3⟩
      have h3' : (left (kl a.2) && !(kl a.2).sameKey (kl x)) = false := h3
      rw [kl_sameKey (In.key (hL.inn a ha)) hx] at h3'
      by_cases e : a.2 = x
      · exact Or.inr (by simp [e])
      · simp [e] at h3'
        exact Or.inl ⟨a, ha, rfl, h2, h3'⟩
  · rw [List.map_append, List.nodup_append]
    refine ⟨h.nodup, by simp, ?_⟩
    intro a ha b hb
    have : b = x := by simpa using hb
    subst this
    intro e; subst e; exact hnot ha
theorem dueI_pass {L : List Km.Tmr} (hL : Km.Ok L) {now : Int} {left : Lit → Bool} {ks : List KeyIn} (h : DueI L now left ks) {c : Int} {x : Int × Int} (hx : InK x) (hm : (c, x) ∈ L) (hc : now < c) : DueI L now (fun z => left z && !z.sameKey (kl x)) ks := by
  refine ⟨fun k => ?_, h.nodup⟩
  rw [h.mem k]
  constructor
  · rintro ⟨a, ha, rfl, h2, h3⟩
    exact ⟨a, ha, rfl, h2, by show (left (kl a.2) && _) = false; rw [h3]; rfl⟩
  · rintro ⟨a, ha, rfl, h2, h3⟩
    have h3' : (left (kl a.2) && !(kl a.2).sameKey (kl x)) = false := h3
    rw [kl_sameKey (In.key (hL.inn a ha)) hx] at h3'
    by_cases e : a.2 = x
    · have := hL.one ha hm e
      rw [this] at h2; simp at h2; omega
    · simp [e] at h3'
      exact ⟨a, ha, rfl, h2, h3'⟩
theorem dueI_end {L : List Km.Tmr} {now : Int} {left : Lit → Bool} {ks : List KeyIn} (h : DueI L now left ks) (hl : ∀ l, left l = false) : ∀ k, k ∈ ks.map (·.1) ↔ ∃ a ∈ L, a.2 = k ∧ a.1 ≤ now := by
  intro k
  rw [h.mem k]
  constructor
  · rintro ⟨a, h1, h2, h3, _⟩; exact ⟨a, h1, h2, h3⟩
  · rintro ⟨a, h1, h2, h3⟩; exact ⟨a, h1, h2, h3, hl _⟩

theorem key_info : (Try.prog.info? 33).map (fun i => (i.zero, i.size, i.bytes)) = some (some (.agg #[.int .i64 0, .int .i64 0]), 2, 16) := by kernel_rfl

/-- the keys of those over -/
def flatDue (ks : List (Int × Int)) : List Value := ks.flatMap fun k => [.int .i64 k.1, .int .i64 k.2]
theorem flatDue_eq (ks : List KeyIn) : flatKs ks = flatDue (ks.map (·.1)) := by
  unfold flatKs flatDue encK
  rw [List.flatMap_map]

/-- the first loop's end: the keys of those over, in a row of its own -/
structure DueR (w wq : World) (L : List Km.Tmr) (now : Int) (B n : Nat) (v : Value) (ks : List KeyIn) : Prop where
  own : wq.ownsRow (w.heap.size + 1) 33 2 v ks.length (flatKs ks)
  bel : Below w.heap.size w wq
  map : MapIs wq B n L
  mem : ∀ k, k ∈ ks.map (·.1) ↔ ∃ a ∈ L, a.2 = k ∧ a.1 ≤ now
  nodup : (ks.map (·.1)).Nodup
  len : ks.length ≤ n
  base : w.heap.size + 1 ≤ wq.heap.size

theorem row_off {w : World} {base : Nat} {e : TypeId} {size : Nat} {v : Value} {n : Nat} {xs : List Value} (h : w.ownsRow base e size v n xs) {b : Nat} (hb : b < base) : some b ≠ v.ownBlock := fun e1 => by
  have := own_base h b e1.symm; omega
theorem due_new {w : World} (a b : Int) (g : Nat) (hg : g = w.heap.size) : ∀ (j : Nat) (u : Value), [Value.int .i64 a, Value.int .i64 b][j]? = some u → (w.alloc (.cells #[.int .i64 a, .int .i64 b] 33)).cell? ((⟨g, 0, none⟩ : Addr).add j) = some u := by
  subst hg
  intro j u hu
  match j, hu with
  | 0, hu => simp at hu; subst hu; simp [Addr.add]
  | 1, hu => simp at hu; subst hu; simp [Addr.add]
theorem due_one (a b : Int) : ∀ u ∈ [Value.int .i64 a, Value.int .i64 b], u.oneCell' = true := by
  intro u hu; simp at hu; rcases hu with rfl | rfl <;> rfl

theorem addr_at (g j : Nat) : (⟨g, 0, none⟩ : Addr).add j = ⟨g, j, none⟩ := by
  unfold Addr.add
  split <;> simp_all
theorem own_down {w : World} {base base' : Nat} {e : TypeId} {size : Nat} {v : Value} {n : Nat} {xs : List Value} (h : w.ownsRow base e size v n xs) (hb : base' ≤ base) : w.ownsRow base' e size v n xs := by
  refine ⟨h.1, ?_⟩
  rcases h.2 with h' | ⟨g, cap, cur, he, hbase, rest⟩
  · exact Or.inl h'
  · exact Or.inr ⟨g, cap, cur, he, Nat.le_trans hb hbase, rest⟩
/-- the keys of those over, sorted by a clock's order -/
theorem sort_due (C B n b : Nat) (L : List Km.Tmr) (now : Int) (v : Value) (ks : List KeyIn) (w : World) (hCb : C < b) (hBb : B < b) (hC : w.cell? ⟨C, 0, none⟩ = some (.map (some B))) (hCw : C < w.heap.size) (hM : MapIs w B n L) (hL : Km.Ok L)
    (hrow : w.ownsRow b 33 2 v ks.length (flatKs ks)) (hmem : ∀ k, k ∈ ks.map (·.1) ↔ ∃ a ∈ L, a.2 = k ∧ a.1 ≤ now) (hnd : (ks.map (·.1)).Nodup) (hlen : ks.length ≤ 1000000) :
    Calls Try.prog 22 #[v, .func (.func 23) #[.pointer (some ⟨C, 0, none⟩)] #[]] w fun e w' =>
      e = .returned (.tuple #[]) ∧ ∃ ks' : List KeyIn, ks'.map (·.1) = (Km.dueL now L).map (·.2) ∧ ks'.length = ks.length ∧ w'.ownsRow b 33 2 v ks'.length (flatKs ks') ∧ Kept w w' (fun k => b ≤ k) := by
  letI : Inhabited KeyIn := ⟨key0⟩
  have hrow0 := hrow
  rcases hrow.2 with ⟨rfl, h0⟩ | ⟨g, cap, cur, rfl, hb, hgg, rest⟩
  · have hk0 : ks = [] := by
      have := hrow.1
      have h1 : (flatKs ks).length = 0 := by simp_all
      rw [flatKs_length] at h1
      cases ks with
      | nil => rfl
      | cons a r => simp at h1
    subst hk0
    refine (sort_none _ _).mono ?_
    rintro e w' ⟨rfl, rfl⟩
    refine ⟨rfl, [], ?_, rfl, hrow, Kept.refl _ _⟩
    exact Km.due_of_keys hL hmem List.Pairwise.nil
  · have hgl := (Array.getElem?_eq_some_iff.1 hgg).1
    have h1 := sort_any C B n L g 0 cap ks.toArray w hCw hC hM hL (by omega) (by omega) (holds_of_own hrow) hgl (by simp; omega)
    refine h1.mono ?_
    rintro e w' ⟨rfl, d', m, os, hP, hS, rfl⟩
    obtain ⟨hk, hd⟩ := sorted_keys hL hmem hnd hP hS
    refine ⟨rfl, d'.toList, hk, by simpa using hd, ?_, (sw_kept encK 2 w g 0 m d' os).mono (fun k _ e => by rw [e]; exact hb)⟩
    have h2 := own_of_sort hrow m d' os hd
    have e : d'.toList.length = ks.length := by simpa using hd
    rw [e]
    exact h2

set_option maxHeartbeats 2000000 in
set_option maxRecDepth 100000 in
theorem due_any (C n : Nat) (m : Option Nat) (L : List Km.Tmr) (now : Int) (w : World) (h : Clk w C m n L) (hn : n ≤ 1000000) :
    Calls Try.prog 14 #[.pointer (some ⟨C, 0, none⟩), .int .i64 now] w fun e w' => ∃ v, e = .returned v ∧ w'.ownsRow w.heap.size 33 2 v ((Km.dueL now L).map (·.2)).length (flatDue ((Km.dueL now L).map (·.2))) ∧ Clk w' C m n (Km.restL now L) ∧ Kept w w' (tch C m) := by
  have hc := h.c
  have hlt := h.lt
  have hfz := h.f
  have HL : Hid (Km.Ok L) := h.ok
  obtain ⟨i0, hi, hz0, hz1, hz2⟩ := info_parts key_info
  rcases h.map with ⟨rfl, rfl⟩ | ⟨B, rfl, hne, D, hown, hR⟩
  · have hrn := range_nil w
    have hnn := next_nil w
    have hb1 : Below w.heap.size w (w.alloc (.mapIter none 0 #[] 0)) := (Below.refl _ _).alloc (Nat.le_refl _) _
    have HE : Hid (Clk (w.alloc (.mapIter none 0 #[] 0)) C none n (Km.restL now []) ∧ Kept w (w.alloc (.mapIter none 0 #[] 0)) (tch C none)) := ⟨h.below hb1, Kept.of_below hb1 (fun k hk h' => by omega)⟩
    have HO : Hid ((w.alloc (.mapIter none 0 #[] 0)).ownsRow w.heap.size 33 2 (.slice none 0 0) ((Km.dueL now []).map (·.2)).length (flatDue ((Km.dueL now []).map (·.2)))) := World.ownsRow_nil _ _ _ _
    clear h hfz hi hz0 hz1 hz2 hb1
    go_enter Try.func14, Try.ntmps14
    go_wp2
    refine wp_loop_rounds 1 ?_
    rw [rounds_succ]
    go_wp2_with fail
    refine (sort_none _ _).mono ?_
    rintro e w1 ⟨rfl, rfl⟩
    go_wp2
    refine wp_loop_rounds 1 ?_
    rw [rounds_succ]
    go_wp2
    go_ret
    exact ⟨_, rfl, HO.out, HE.out⟩
  · have HR : Hid (Rep D L) := hR
    clear h hR
    go_enter Try.func14, Try.ntmps14
    go_wp2_with (at_range; refine wpList_range_own _ rfl _ 52 rfl 33 2 klaw Try.underlying52 _ B n D rfl hown ?_; intro w6 hrg0 hg0 hs0)
    go_frame
    have hbel6 : Below w.heap.size w w6 := (Below.refl _ _).grown hg0 (Nat.le_refl _) (fun j hj => by cases hj)
    have hsz := hown.size_le
    have HBl : Hid (B < w.heap.size) := hown.lt
    clear hg0
    go_loopw [5] (fun v wq => ∃ (left : Lit → Bool) (cnt : Nat) (ks : List KeyIn), Hid (wq.ranges Try.prog 33 (plainElem Try.prog 2) B w.heap.size n D left cnt) ∧ wq.ownsRow (w.heap.size + 1) 33 2 v ks.length (flatKs ks) ∧ Hid (DueI L now left ks) ∧ ks.length + cnt ≤ n ∧ w.heap.size + 1 ≤ wq.heap.size ∧ Hid (Below w.heap.size w wq)) (fun _ wq => wq.rangeLeft B w.heap.size)
    case atStart => exact ⟨_, _, [], hrg0, World.ownsRow_nil _ _ _ _, dueI_start HL.out HR.out now, by simpa using hsz, by omega, hbel6⟩
    case round =>
      obtain ⟨left, cnt, ks, HG, hrow, HI, hcn, hws, HB⟩ := hrel
      clear hrg0 hbel6 hown
      go_wp2_with (at_next; refine next_keys _ rfl _ rfl B w.heap.size n D left cnt _ rfl HG.out HR.out HL.out ?_ ?_)
      · intro hl0
        have hbelr := HB.out
        have hBlt : B < w.heap.size := HBl.out
        have hCr := (hbelr.cell (p := ⟨C, 0, none⟩) hlt).trans hc
        have hCl : C < wr.heap.size := Nat.lt_of_lt_of_le hlt hbelr.size
        have hfr := (hbelr.frozen (p := ⟨C, 0, none⟩) hlt).trans hfz
        have hMr : MapIs wr B n L := ⟨D, HG.out.owns, HR.out⟩
        have hS := sort_due C B n (w.heap.size + 1) L now _ ks wr (by omega) (by omega) hCr hCl hMr HL.out hrow (dueI_end HI.out hl0) HI.out.nodup (by omega)
        clear hl0 hc HG HI
        go_wp2_with fail
        refine hS.mono ?_
        rintro e w1 ⟨rfl, ks', hke, hlen', hrow1, hkp⟩
        have hk1 : Kept w w1 (fun _ => False) := (Kept.of_below hbelr (fun k hk h' => by omega)).trans hkp (fun k hk h' => by omega)
        have hM1 : MapIs w1 B n L := hMr.kept hkp (by omega)
        have hC1 := (hkp.cell (p := ⟨C, 0, none⟩) hCl (by show ¬ _; simp only; omega)).trans hCr
        have hf1 := (hkp.frozen (p := ⟨C, 0, none⟩) hCl (by show ¬ _; simp only; omega)).trans hfr
        have hCl1 : C < w1.heap.size := Nat.lt_of_lt_of_le hCl hkp.size
        have hBl1 : B < w1.heap.size := hM1.lt
        clear hS hrow hkp hCr hfr hMr hbelr HB
        rcases hrow1.2 with ⟨rfl, h0⟩ | ⟨g, cap, cur, rfl, hb, hgg, rest⟩
        · have hk0 : ks' = [] := List.eq_nil_of_length_eq_zero h0
          subst hk0
          have hke' : (Km.dueL now L).map (·.2) = [] := hke.symm
          have hre : Km.restL now L = L := by rw [← Km.remAll_due HL.out, hke', Km.remAll_nil]
          have HE : Hid (Clk w1 C (some B) n (Km.restL now L) ∧ Kept w w1 (tch C (some B))) := by
            rw [hre]; exact ⟨⟨hCl1, hC1, hf1, HL.out, Or.inr ⟨B, rfl, hne, hM1⟩⟩, hk1.mono (fun k _ e => e.elim)⟩
          have HO : Hid (w1.ownsRow w.heap.size 33 2 (.slice none 0 0) ((Km.dueL now L).map (·.2)).length (flatDue ((Km.dueL now L).map (·.2)))) := by rw [hke']; exact World.ownsRow_nil _ _ _ _
          clear hke hke' hre hk1 hrow1 h0
          go_wp2
          refine wp_loop_rounds 1 ?_
          rw [rounds_succ]
          go_wp2
          go_ret
          exact ⟨_, rfl, HO.out, HE.out⟩
        · have hgl := (Array.getElem?_eq_some_iff.1 hgg).1
          have HR1 : Hid (w1.ownsRow (w.heap.size + 1) 33 2 (.slice (some ⟨g, 0, none⟩) ks'.length cap) ks'.length (flatKs ks')) := hrow1
          have hcap : ks'.length ≤ cap := rest.1
          have HK1 : Hid (Kept w w1 (fun _ => False)) := hk1
          have HKE : Hid (ks'.map (·.1) = (Km.dueL now L).map (·.2)) := hke
          have hl1 : ks'.length ≤ 1000000 := by omega
          clear rest hgg hrow1 hk1 hke
          go_wp2
          go_loopw [35] (fun vi wq => ∃ i : Nat, i ≤ ks'.length ∧ vi = .int .i64 i ∧ Hid (MapIs wq B n (Km.remAll ((ks'.map (·.1)).take i) L)) ∧ Hid (Kept w1 wq (fun k => k = B))) (fun vi _ => ks'.length - (intOf vi).toNat)
          case atStart => exact ⟨0, Nat.zero_le _, rfl, by show MapIs _ _ _ _; rw [List.take_zero, Km.remAll_nil]; exact hM1, Kept.refl _ _⟩
          case round =>
            obtain ⟨i, hi, rfl, HM, HK⟩ := hrel
            by_cases hil : i < ks'.length
            · have hkq := HK.out
              have hx : Hid (InK ks'[i].1) := ks'[i].2
              obtain ⟨⟨x1, x2⟩, hxe⟩ : ∃ x, ks'[i].1 = x := ⟨_, rfl⟩
              rw [hxe] at hx
              have hrq := hkq.owns HR1.out (fun k hk e => by simp [Value.ownBlock] at hk; omega)
              letI : Inhabited KeyIn := ⟨key0⟩
              have hfx : ks'[i]! = ks'[i] := getElem!_pos ks' i hil
              have hq0 : wr.cell? ⟨g, i * 2, none⟩ = some (.int .i64 x1) := by
                have h1 := flatKs_at ks' (i * 2) (by omega)
                have h2 := hrq.cells (g := g) rfl (i * 2) _ h1
                have e1 : i * 2 / 2 = i := by omega
                have e2 : i * 2 % 2 = 0 := by omega
                rw [e1, e2, hfx] at h2
                rw [addr_at] at h2
                simpa [encK, hxe] using h2
              have hq1 : wr.cell? ⟨g, i * 2 + 1, none⟩ = some (.int .i64 x2) := by
                have h1 := flatKs_at ks' (i * 2 + 1) (by omega)
                have h2 := hrq.cells (g := g) rfl (i * 2 + 1) _ h1
                have e1 : (i * 2 + 1) / 2 = i := by omega
                have e2 : (i * 2 + 1) % 2 = 1 := by omega
                rw [e1, e2, hfx] at h2
                rw [addr_at] at h2
                simpa [encK, hxe] using h2
              have hlq : g < wr.heap.size := Nat.lt_of_lt_of_le hgl hkq.size
              have hClq : C < wr.heap.size := Nat.lt_of_lt_of_le hCl1 hkq.size
              have qa : Below wr.heap.size wr (wr.alloc (.cells #[.int .i64 x1, .int .i64 x2] 33)) := (Below.refl _ _).alloc (Nat.le_refl _) _
              have hCq := (hkq.cell (p := ⟨C, 0, none⟩) hCl1 (fun e => hne e.symm)).trans hC1
              have hCa := (qa.cell (p := ⟨C, 0, none⟩) hClq).trans hCq
              have hOk : Km.Ok (Km.remAll ((ks'.map (·.1)).take i) L) := HL.out.filter _
              obtain ⟨w9, hrun, hM9, ht⟩ := ((HM.out.below qa HM.out.lt).drew).drop hOk hx.out 0
              have HM9 : Hid (MapIs w9 B n (Km.remAll ((ks'.map (·.1)).take (i + 1)) L)) := by
                have e : (ks'.map (·.1)).take (i + 1) = (ks'.map (·.1)).take i ++ [(x1, x2)] := by
                  rw [List.take_succ_eq_append_getElem (by simpa using hil)]; simp [hxe]
                rw [e, Km.remAll_snoc]; exact hM9
              have HK9 : Hid (Kept w1 w9 (fun k => k = B)) := (hkq.alloc _).drew.trans (T' := fun k => k = B) (Kept.of_grown ht.grown (fun k e => by injection e with e; exact e.symm)) (fun k _ e => e)
              unfold keyV at hrun
              clear qa hCq hOk hM9 ht hrq hfx hkq HM HK hxe hx
              go_wp2
              go_region
              go_wp2
              go_roundw
              case rel => exact ⟨i + 1, by omega, by go_num, HM9, HK9⟩
              case measure => simp [intOf]; omega
            · have hie : i = ks'.length := by omega
              subst hie
              have hkq := HK.out
              have hkw : Kept w wr (fun k => k = B) := (HK1.out.mono (fun k _ e => e.elim)).trans (T' := fun k => k = B) hkq (fun k _ e => e)
              have hrq := hkq.owns HR1.out (fun k hk e => by simp [Value.ownBlock] at hk; omega)
              have hMe : MapIs wr B n (Km.restL now L) := by
                have h1 := HM.out
                rw [List.take_of_length_le (by simp), HKE.out, Km.remAll_due HL.out] at h1
                exact h1
              have HE : Hid (Clk wr C (some B) n (Km.restL now L) ∧ Kept w wr (tch C (some B))) :=
                ⟨⟨Nat.lt_of_lt_of_le hlt hkw.size, (hkq.cell (p := ⟨C, 0, none⟩) hCl1 (fun e => hne e.symm)).trans hC1, (hkq.frozen (p := ⟨C, 0, none⟩) hCl1 (fun e => hne e.symm)).trans hf1, HL.out.filter _, Or.inr ⟨B, rfl, hne, hMe⟩⟩, hkw.mono (fun k _ e => Or.inr (by rw [e]))⟩
              have HO : Hid (wr.ownsRow w.heap.size 33 2 (.slice (some ⟨g, 0, none⟩) ks.length cap) ((Km.dueL now L).map (·.2)).length (flatDue ((Km.dueL now L).map (·.2)))) := by
                rw [← HKE.out, ← flatDue_eq, List.length_map, ← hlen']
                exact own_down hrq (Nat.le_succ _)
              clear hkq hkw hrq hMe HM HK
              go_wp2
              go_ret
              refine ⟨_, rfl, ?_, HE.out⟩
              have ho := HO.out
              rw [List.length_map] at ho
              exact ho
      · intro x1 x2 c w7 cnt1 hin HM hlk HG1 hltc hg1 hen
        have hg1' := hg1.out
        have hrow7 := hrow.kept hg1' (Or.inr (row_off hrow (Nat.lt_succ_self _)).symm)
        have HB7 : Hid (Below w.heap.size w w7) := HB.out.grown hg1' HB.out.size (fun j hj => by cases hj; exact Nat.le_refl _)
        have hs7 := hg1'.size
        have HC : Hid (cnt1 < cnt) := hltc
        by_cases ht : c ≤ now
        · clear hg1 hg1' hltc hrow hc
          have HT : Hid (DueI L now (fun z => left z && !z.sameKey (kl (x1, x2))) (ks ++ [⟨(x1, x2), hin.out⟩])) := dueI_take HL.out HI.out hin.out HM.out hlk.out ht
          have hBlt : B < w.heap.size := HBl.out
          go_wp2_with (at_builtin; refine wpList_append_own _ rfl _ _ 38 rfl (w.heap.size + 1) 33 i0 (.agg #[.int .i64 0, .int .i64 0]) 2 16 Try.underlying38 hi hz0 hz1 hz2 rfl (by decide) _ _ _ rfl ((hrow7.alloc _).alloc _) ⟨w7.heap.size + 1, 0, none⟩ 1 1 [.int .i64 x1, .int .i64 x2] rfl rfl (due_new x1 x2 _ (by simp)) (due_one _ _) ?c3 ?c4 ?c5 ?_)
          case c3 => unfold maxLen; omega
          case c4 => omega
          case c5 => simp; omega
          intro v' w8 hown' hgrow _
          have hrow8 : w8.ownsRow (w.heap.size + 1) 33 2 v' (ks ++ [(⟨(x1, x2), hin.out⟩ : KeyIn)]).length (flatKs (ks ++ [⟨(x1, x2), hin.out⟩])) := by rw [flatKs_snoc, List.length_append]; exact hown'
          have HB8 : Hid (Below w.heap.size w w8) := ((HB7.out.alloc HB7.out.size _).alloc (by have := HB7.out.size; simp; omega) _).grown hgrow (by have := HB7.out.size; simp; omega) (fun k hk => by have := own_base hrow7 k hk; omega)
          have HG8 : Hid (w8.ranges Try.prog 33 (plainElem Try.prog 2) B w.heap.size n D (fun z => left z && !z.sameKey (kl (x1, x2))) cnt1) := ((HG1.out.alloc _).alloc _).kept hgrow (row_off hrow7 (by omega)) (row_off hrow7 (Nat.lt_succ_self _))
          have hs8 := hgrow.size
          simp at hs8
          clear hown' hgrow hrow7 HB7 HG1
          go_wp2
          go_roundw
          case rel => exact ⟨_, cnt1, _, HG8, hrow8, HT, by have := HC.out; simp; omega, by omega, HB8⟩
          case measure => rw [HG8.out.left_eq, HG.out.left_eq]; exact HC.out
        · have hct : now < c := by omega
          have HT : Hid _ := dueI_pass HL.out HI.out hin.out HM.out hct
          clear ht hg1 hg1' hltc hrow hc
          go_wp2
          go_roundw
          case rel => exact ⟨_, cnt1, ks, HG1.out.alloc _, hrow7.alloc _, HT, by have := HC.out; omega, by simp; omega, HB7.out.alloc HB7.out.size _⟩
          case measure => rw [(HG1.out.alloc _).left_eq, HG.out.left_eq]; exact HC.out
end Go.Proofs.Ytalpfcckdjipoaa
