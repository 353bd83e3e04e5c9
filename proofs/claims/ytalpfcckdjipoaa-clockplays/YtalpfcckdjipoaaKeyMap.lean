/-
  A map whose keys are timers' keys (structs of two integers): how a key reads, what the map holds ('Rep': just the timers of a list), the look-up, the store, the delete.
-/
import Derived.Test.YtalpfcckdjipoaaClockMath
import Derived.Test.YtalpfcckdjipoaaKept
import Derived.Maps.OwnSet
import Derived.Maps.RangeWalk
import Derived.Maps.Ext
import Derived.DeepKeys4
namespace Go.Proofs.Ytalpfcckdjipoaa
open Go.RowKit Go.Maps Go.WideMaps
set_option linter.unusedVariables false
set_option linter.unusedSimpArgs false

theorem laidKey : laidOutB Try.prog = true := by kernel_rfl
theorem wideKey : (match Try.prog.underlying 33 with | some (.array _ _) | some (.struct _) => true | _ => false) = true := by rw [Try.underlying33]
theorem klaw : Keyed Try.prog 33 := Keyed.of_law (deep_law_laid laidKey (m := 2) (by omega) (of_decide_eq_true (by kernel_rfl)) (by kernel_rfl) wideKey)
theorem zeroI64 (w : World) : (zeroValue 2).run Try.prog w = .ok (.int .i64 0) w := by kernel_rfl

def keyV (k : Int × Int) : Value := .agg #[.int .i64 k.1, .int .i64 k.2]
def kl (k : Int × Int) : Lit := .string (keyBytes [.int .i64 k.1, .int .i64 k.2])
def InK (k : Int × Int) : Prop := Km.In k.1 ∧ Km.In k.2

theorem wf_in {n : Int} : (Lit.int .i64 n).wf = true ↔ Km.In n := by
  unfold Km.In
  simp [Lit.wf, IntKind.min, IntKind.max, IntKind.signed, IntKind.bits]
theorem key_cells : Try.prog.cellsOf 33 = 2 := by kernel_rfl
theorem int_cells : Try.prog.cellsOf 3 = 1 := by kernel_rfl
theorem key_type : Try.prog.keyType 33 = true := by kernel_rfl
theorem key_depth : ∃ d, Try.prog.types.size + 1 = d + 1 + 1 := ⟨Try.prog.types.size - 1, by have : 0 < Try.prog.types.size := of_decide_eq_true (by kernel_rfl); omega⟩

theorem key_lits (d : Nat) (a b : Value) : Try.prog.keyLits (d + 1 + 1) 33 [a, b] = (Try.prog.keyLits (d + 1) 3 [a]).bind fun x => (Try.prog.keyLits (d + 1) 3 [b]).map fun y => x ++ y := by
  obtain ⟨X, hX⟩ : ∃ X, Try.prog.keyLits (d + 1) 3 [a] = X := ⟨_, rfl⟩
  obtain ⟨Y, hY⟩ : ∃ Y, Try.prog.keyLits (d + 1) 3 [b] = Y := ⟨_, rfl⟩
  rw [hX, hY]
  unfold Program.keyLits
  rw [Try.underlying33]
  simp [key_cells, int_cells, hX, hY]
  cases X with
  | none => rfl
  | some x =>
    cases Y with
    | none => rfl
    | some y => simp
theorem int_lits (d : Nat) (v : Value) : Try.prog.keyLits (d + 1) 3 [v] = match v with | .int q n => if q = .i64 ∧ (Lit.int .i64 n).wf = true then some [.int .i64 n] else none | _ => none := by
  unfold Program.keyLits
  rw [Try.underlying3]
  cases v <;> rfl

theorem key_of {k : Int × Int} (h : InK k) : keyOf Try.prog 33 (keyV k) = some (kl k) := by
  obtain ⟨d, hd⟩ := key_depth
  have h1 := wf_in.2 h.1
  have h2 := wf_in.2 h.2
  unfold keyOf
  rw [Try.underlying33, hd]
  have hf : (keyV k).formed Try.prog 33 = true := by simp [keyV, Value.formed, Try.underlying33, key_cells]
  simp only [key_type, hf, Bool.and_self, if_true]
  show ((Try.prog.keyLits (d + 1 + 1) 33 [.int .i64 k.1, .int .i64 k.2]).map _) = _
  rw [key_lits, int_lits, int_lits]
  simp [h1, h2, kl]
theorem int_lit_inv {d : Nat} {v : Value} {x : List Lit} (h : Try.prog.keyLits (d + 1) 3 [v] = some x) : ∃ n, v = .int .i64 n ∧ Km.In n ∧ x = [.int .i64 n] := by
  rw [int_lits] at h
  split at h
  · split at h
    · rename_i q n hc
      obtain ⟨rfl, hw⟩ := hc
      injection h with h
      exact ⟨n, rfl, wf_in.1 hw, h.symm⟩
    · cases h
  · cases h
theorem key_inv {v : Value} {l : Lit} (h : keyOf Try.prog 33 v = some l) : ∃ k, v = keyV k ∧ InK k ∧ l = kl k := by
  obtain ⟨d, hd⟩ := key_depth
  unfold keyOf at h
  rw [Try.underlying33, hd] at h
  simp only at h
  split at h
  · rename_i hc
    simp only [Bool.and_eq_true] at hc
    have hf := hc.2
    cases v <;> simp [Value.formed, Try.underlying33, key_cells] at hf
    rename_i cs
    obtain ⟨l0⟩ := cs
    match l0, hf with
    | [a, b], _ =>
      have e : (Value.agg ⟨[a, b]⟩).cells.toList = [a, b] := rfl
      rw [e, key_lits] at h
      obtain ⟨ls, h1, rfl⟩ := Option.map_eq_some_iff.1 h
      obtain ⟨x, hx, h2⟩ := Option.bind_eq_some_iff.1 h1
      obtain ⟨y, hy, rfl⟩ := Option.map_eq_some_iff.1 h2
      obtain ⟨n, rfl, hn, rfl⟩ := int_lit_inv hx
      obtain ⟨m, rfl, hm, rfl⟩ := int_lit_inv hy
      exact ⟨(n, m), rfl, ⟨hn, hm⟩, rfl⟩
  · cases h
theorem kl_inj {k k' : Int × Int} (h : InK k) (h' : InK k') (e : kl k = kl k') : k = k' := by
  have := klaw.inj (key_of h) (e ▸ key_of h')
  unfold keyV at this
  injection this with this
  have h1 := congrArg (fun a : Array Value => a[0]?) this
  have h2 := congrArg (fun a : Array Value => a[1]?) this
  simp at h1 h2
  exact Prod.ext h1 h2
theorem kl_key (k : Int × Int) : WideAt.IsKeyLit (kl k) := trivial
theorem kl_same (k : Int × Int) : (kl k).sameKey (kl k) = true := WideAt.sameKey_self (kl_key k)
theorem kl_ne {k k' : Int × Int} (h : InK k) (h' : InK k') (hne : k ≠ k') : kl k ≠ kl k' := fun e => hne (kl_inj h h' e)
theorem kl_sameKey {k k' : Int × Int} (h : InK k) (h' : InK k') : (kl k).sameKey (kl k') = decide (k = k') := by
  by_cases e : k = k'
  · subst e; rw [kl_same]; simp
  · rw [sameKey_ne (kl_ne h h' e)]; simp [e]

theorem In.key {a : Km.Tmr} (h : Km.InT a) : InK a.2 := ⟨h.ow, h.ti⟩

/-- the map holds just those timers -/
structure Rep (D : DataW Unit) (L : List Km.Tmr) : Prop where
  isMap : IsMap D
  has : ∀ k, InK k → Maps.has D (kl k) = Km.runs L k
  val : ∀ a ∈ L, ∀ z, D.atKey (kl a.2) z = .lit (.int .i64 a.1)

theorem rep_nil : Rep (.map []) [] := ⟨isMap_empty, fun k _ => rfl, fun a h => by simp at h⟩
theorem runs_of {L : List Km.Tmr} (hL : Km.Ok L) {a : Km.Tmr} (h : a ∈ L) : Km.runs L a.2 = true := by unfold Km.runs; rw [Km.look_of hL (e := a.1) (k := a.2) h]; rfl
theorem runs_mem {L : List Km.Tmr} {k : Int × Int} (h : Km.runs L k = true) : ∃ e, (e, k) ∈ L ∧ Km.look L k = some e := by
  unfold Km.runs at h
  cases hl : Km.look L k with
  | none => rw [hl] at h; simp at h
  | some e => exact ⟨e, Km.look_some hl, rfl⟩
theorem runs_not {L : List Km.Tmr} {k : Int × Int} (h : ∀ a ∈ L, a.2 ≠ k) : Km.runs L k = false := by unfold Km.runs; rw [Km.look_of_none h]; rfl
theorem runs_iff_mem {L : List Km.Tmr} (hL : Km.Ok L) (k : Int × Int) : Km.runs L k = true ↔ ∃ a ∈ L, a.2 = k := by
  constructor
  · intro h; obtain ⟨e, he, _⟩ := runs_mem h; exact ⟨_, he, rfl⟩
  · rintro ⟨a, ha, rfl⟩; exact runs_of hL ha

theorem Rep.put {D : DataW Unit} {L : List Km.Tmr} (h : Rep D L) (hL : Km.Ok L) {k : Int × Int} {e : Int} (hx : Km.InT (e, k)) : Rep (D.put (kl k) (.lit (.int .i64 e))) (Km.startL k e L) := by
  have hk : InK k := ⟨hx.ow, hx.ti⟩
  have hL' := hL.start hx
  refine ⟨h.isMap.put _ _, fun k' hk' => ?_, fun a ha z => ?_⟩
  · by_cases ek : k' = k
    · subst ek
      rw [has_put_same h.isMap (kl_key k')]
      exact (runs_of hL' (a := (e, k')) (Km.mem_start.2 (Or.inl rfl))).symm
    · rw [has_put_other (kl_ne hk' hk ek), h.has k' hk', Bool.eq_iff_iff, runs_iff_mem hL, runs_iff_mem hL']
      constructor
      · rintro ⟨a, ha, rfl⟩; exact ⟨a, Km.mem_start.2 (Or.inr ⟨ha, ek⟩), rfl⟩
      · rintro ⟨a, ha, rfl⟩
        rcases Km.mem_start.1 ha with rfl | ⟨ha, _⟩
        · exact absurd rfl ek
        · exact ⟨a, ha, rfl⟩
  · rcases Km.mem_start.1 ha with rfl | ⟨ha', hne⟩
    · exact atKey_put_same h.isMap (kl_key k) _ z
    · rw [atKey_put_other (kl_ne (In.key (hL.inn a ha')) hk hne)]
      exact h.val a ha' z
theorem Rep.del {D : DataW Unit} {L : List Km.Tmr} (h : Rep D L) (hL : Km.Ok L) {k : Int × Int} (hk : InK k) : Rep (D.del (kl k)) (Km.rem k L) := by
  have hL' := hL.rem k
  refine ⟨h.isMap.del _, fun k' hk' => ?_, fun a ha z => ?_⟩
  · by_cases ek : k' = k
    · subst ek
      rw [has_del_same]
      exact (runs_not (fun a ha => (Km.mem_rem.1 ha).2)).symm
    · rw [has_del_other (kl_ne hk' hk ek), h.has k' hk', Bool.eq_iff_iff, runs_iff_mem hL, runs_iff_mem hL']
      constructor
      · rintro ⟨a, ha, rfl⟩; exact ⟨a, Km.mem_rem.2 ⟨ha, ek⟩, rfl⟩
      · rintro ⟨a, ha, rfl⟩; exact ⟨a, (Km.mem_rem.1 ha).1, rfl⟩
  · obtain ⟨ha', hne⟩ := Km.mem_rem.1 ha
    rw [atKey_del_other (kl_ne (In.key (hL.inn a ha')) hk hne)]
    exact h.val a ha' z

/-- block B is a map of at most n entries that holds just those timers -/
def MapIs (w : World) (B n : Nat) (L : List Km.Tmr) : Prop := ∃ D, w.ownsMap Try.prog 33 (plainElem Try.prog 2) B n D ∧ Rep D L

theorem MapIs.lt {w : World} {B n : Nat} {L : List Km.Tmr} (h : MapIs w B n L) : B < w.heap.size := by obtain ⟨D, h, _⟩ := h; exact h.lt
theorem MapIs.of_block {w w' : World} {B n : Nat} {L : List Km.Tmr} (h : MapIs w B n L) (hb : w'.heap[B]? = w.heap[B]?) : MapIs w' B n L := by
  obtain ⟨D, ⟨es, clock, h1, F, hs, hD⟩, hR⟩ := h
  exact ⟨D, ⟨es, clock, hb.trans h1, F, hs, hD⟩, hR⟩
theorem MapIs.below {w w' : World} {B n b : Nat} {L : List Km.Tmr} (h : MapIs w B n L) (hb : Below b w w') (hB : B < b) : MapIs w' B n L := h.of_block (hb.block B hB)
theorem MapIs.kept {w w' : World} {B n : Nat} {L : List Km.Tmr} {T : Nat → Prop} (h : MapIs w B n L) (hk : Kept w w' T) (hT : ¬ T B) : MapIs w' B n L := h.of_block (hk.block B h.lt hT)
theorem MapIs.drew {w : World} {B n : Nat} {L : List Km.Tmr} (h : MapIs w B n L) : MapIs w.drew B n L := h.of_block rfl
theorem MapIs.mono {w : World} {B n n' : Nat} {L : List Km.Tmr} (h : MapIs w B n L) (hn : n ≤ n') : MapIs w B n' L := by obtain ⟨D, h, hR⟩ := h; exact ⟨D, h.mono hn, hR⟩
theorem mapIs_made (w : World) : MapIs (w.alloc (.map #[] 0)) w.heap.size 0 [] := ⟨.map [], World.ownsMap_made _ _ _ _, rep_nil⟩

theorem MapIs.look_ok {w : World} {B n : Nat} {L : List Km.Tmr} (h : MapIs w B n L) (hL : Km.Ok L) {k : Int × Int} (hk : InK k) :
    (Instr.lookup 52 (.map (some B)) (keyV k) true).run Try.prog w = .ok (.tuple #[.int .i64 (Km.till L k), .bool (Km.runs L k)]) w := by
  obtain ⟨D, ho, hR⟩ := h
  obtain ⟨v, ps, hrun, hv⟩ := ho.look_ok (t := 52) klaw Try.underlying52 (zeroI64 w) (plainElem_int Try.underlying2 (by decide)) (key_of hk)
  obtain ⟨a, rfl, hz, _⟩ := plainElem_int_inv Try.underlying2 hv
  rw [hrun, hR.has k hk]
  injection hz with hz _
  have : a = Km.till L k := by
    cases hr : Km.runs L k with
    | true =>
      obtain ⟨e, he, hl⟩ := runs_mem hr
      rw [hR.val _ he] at hz
      injection hz with hz
      injection hz with _ hz
      rw [← hz, Km.till, hl]; rfl
    | false =>
      rw [atKey_of_not_has (by rw [hR.has k hk, hr])] at hz
      injection hz with hz
      injection hz with _ hz
      unfold Km.runs at hr
      cases hl : Km.look L k with
      | none => rw [← hz, Km.till, hl]; rfl
      | some e => rw [hl] at hr; simp at hr
  rw [this]
theorem MapIs.look {w : World} {B n : Nat} {L : List Km.Tmr} (h : MapIs w B n L) (hL : Km.Ok L) {k : Int × Int} (hk : InK k) :
    (Instr.lookup 52 (.map (some B)) (keyV k) false).run Try.prog w = .ok (.int .i64 (Km.till L k)) w := by
  obtain ⟨D, ho, hR⟩ := h
  obtain ⟨a, hrun, hz, _⟩ := ho.lookup_int klaw Try.underlying52 Try.underlying2 (zeroI64 w) (key_of hk)
  rw [hrun]
  have : a = Km.till L k := by
    cases hr : Km.runs L k with
    | true =>
      obtain ⟨e, he, hl⟩ := runs_mem hr
      rw [hR.val _ he] at hz
      injection hz with hz
      injection hz with _ hz
      rw [← hz, Km.till, hl]; rfl
    | false =>
      rw [atKey_of_not_has (by rw [hR.has k hk, hr])] at hz
      injection hz with hz
      injection hz with _ hz
      unfold Km.runs at hr
      cases hl : Km.look L k with
      | none => rw [← hz, Km.till, hl]; rfl
      | some e => rw [hl] at hr; simp at hr
  rw [this]
theorem MapIs.store {w : World} {B n : Nat} {L : List Km.Tmr} (h : MapIs w B n L) (hL : Km.Ok L) (hn : n < maxLen) {k : Int × Int} {e : Int} (hx : Km.InT (e, k)) :
    ∃ w', (Instr.mapUpdate 52 (.map (some B)) (keyV k) (.int .i64 e)).run Try.prog w = .ok () w' ∧ MapIs w' B (n + 1) (Km.startL k e L) ∧ w.mapTurned w' B := by
  obtain ⟨D, ho, hR⟩ := h
  have hwe : (Lit.int .i64 e).wf = true := wf_in.2 ⟨by have := hx.lo; simp at this; omega, by have := hx.hi; simp at this; omega⟩
  obtain ⟨w', hrun, ho', ht⟩ := ho.store klaw Try.underlying52 hn (key_of ⟨hx.ow, hx.ti⟩) (plainElem_int Try.underlying2 hwe)
  exact ⟨w', hrun, ⟨_, ho', hR.put hL hx⟩, ht⟩
theorem MapIs.drop {w : World} {B n : Nat} {L : List Km.Tmr} (h : MapIs w B n L) (hL : Km.Ok L) {k : Int × Int} (hk : InK k) (ty : TypeId) :
    ∃ w', (Builtin.delete_ #[52, 33] ty #[.map (some B), keyV k]).run Try.prog w = .ok (.tuple #[]) w' ∧ MapIs w' B n (Km.rem k L) ∧ w.mapTurned w' B := by
  obtain ⟨D, ho, hR⟩ := h
  obtain ⟨w', hrun, ho', ht⟩ := ho.drop klaw Try.underlying52 (key_of hk) ty
  exact ⟨w', hrun, ⟨_, ho', hR.del hL hk⟩, ht⟩
/-- no timers, no entries -/
theorem MapIs.len0 {w : World} {B n : Nat} (h : MapIs w B n []) (ty : TypeId) : (Builtin.len_ #[52] ty #[.map (some B)]).run Try.prog w = .ok (.int .i64 0) w := by
  obtain ⟨D, ho, hR⟩ := h
  have hlen := ho.len (t := 52) Try.underlying52 ty
  have h0 : Maps.size D = 0 := by
    obtain ⟨es, clock, hb, F, hs, rfl⟩ := ho
    cases hl : es.toList with
    | nil => simp [Maps.size, hl]
    | cons x r =>
      obtain ⟨y, hy⟩ := F.reads x (by rw [hl]; simp)
      have hk := WideElems.rd_key hy
      obtain ⟨k, _, hin, hkl⟩ := key_inv hk
      have h1 := hR.has k hin
      rw [show Km.runs [] k = false from rfl] at h1
      have h2 : Maps.has (H := Unit) (DataW.map ((es.toList.map (WideElems.rg Try.prog 33 (plainElem (H := Unit) Try.prog 2))).foldr DataW.insert [])) (kl k) = true := by
        refine List.any_eq_true.2 ⟨WideElems.rg Try.prog 33 (plainElem Try.prog 2) x, mem_sorted.2 (List.mem_map.2 ⟨x, by rw [hl]; simp, rfl⟩), ?_⟩
        rw [WideElems.rg_of hy, hkl]; exact kl_same k
      rw [h1] at h2; cases h2
  rw [h0] at hlen
  exact hlen
end Go.Proofs.Ytalpfcckdjipoaa
