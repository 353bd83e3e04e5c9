/-
  A map from octets to addresses that the call makes: how its elements read, what is kept of it (each key is its element's own octets), the look-up and the store at the operation. And a slice of pairs of bytes that came in.
-/
import Derived.Test.YtgkegjhnhchomaaPutWalks
import Derived.Maps.OwnSet
import Derived.Deep.Slices
namespace Go.Proofs.Ytgkegjhnhchomaa
open Go.RowKit Go.Maps Go.WideMaps
set_option linter.unusedVariables false
set_option linter.unusedSimpArgs false

theorem mlaw : Keyed Try.prog 9 := string_keyed Try.underlying9
theorem zeroAdr (w : World) : (zeroValue 35).run Try.prog w = .ok (.agg #[.int .i64 0, .int .i64 0, .bool false]) w := by kernel_rfl

def datum (a b : Int) (c : Bool) : DataW Unit := .agg [.lit (.int .i64 a), .lit (.int .i64 b), .lit (.bool c)]
theorem datum_inj {a b a' b' : Int} {c c' : Bool} (h : datum a b c = datum a' b' c') : a = a' ∧ b = b' ∧ c = c' := by
  unfold datum at h
  injection h with h
  injection h with h1 h
  injection h with h2 h
  injection h with h3 h
  injection h1 with h1
  injection h2 with h2
  injection h3 with h3
  injection h1 with _ h1
  injection h2 with _ h2
  injection h3 with h3
  exact ⟨h1, h2, h3⟩

/-- how an address reads -/
def adrElem (v : Value) : Option (DataW Unit × List MemPlace) :=
  match v with
  | .agg cs =>
    match cs.toList with
    | [.int .i64 a, .int .i64 b, .bool c] => some (datum a b c, [])
    | _ => none
  | _ => none
theorem adrElem_mk (a b : Int) (c : Bool) : adrElem (.agg #[.int .i64 a, .int .i64 b, .bool c]) = some (datum a b c, []) := rfl
theorem adrElem_inv {v : Value} {z : DataW Unit × List MemPlace} (h : adrElem v = some z) : ∃ a b c, v = .agg #[.int .i64 a, .int .i64 b, .bool c] ∧ z = (datum a b c, []) := by
  unfold adrElem at h
  split at h
  · rename_i cs
    split at h
    · rename_i a b c hl
      refine ⟨a, b, c, ?_, ?_⟩
      · congr 1
        exact Array.toList_inj.1 hl
      · injection h with h
        exact h.symm
    · exact absurd h (by simp)
  · exact absurd h (by simp)

/-- the key of an address: its octets -/
def keyL (a b : Int) (c : Bool) : Lit := .string (strOfNums (Am.octs2 a b c)).data.toList
theorem keyL_inj {a b a' b' : Int} {c c' : Bool} (h : Am.good a b) (h' : Am.good a' b') (e : keyL a b c = keyL a' b' c') : a = a' ∧ b = b' ∧ c = c' := by
  unfold keyL at e
  injection e with e
  refine Am.octs2_inj h h' ?_
  have e2 := Array.toList_inj.1 e
  cases hx : strOfNums (Am.octs2 a b c)
  cases hy : strOfNums (Am.octs2 a' b' c')
  rw [hx, hy] at e2
  exact congrArg ByteArray.mk e2
theorem key_of (a b : Int) (c : Bool) : keyOf Try.prog 9 (.string (strOfNums (Am.octs2 a b c))) = some (keyL a b c) :=
  keyOf_string_mk Try.underlying9 (by rw [strOfNums_size]; show 2 ≤ maxLen; decide)
theorem key_lit (a b : Int) (c : Bool) : WideAt.IsKeyLit (keyL a b c) := by unfold keyL; exact trivial

/-- each key is its element's own octets -/
def MapInv (D : DataW Unit) : Prop := ∀ kl, has D kl = true → ∃ a b c, Am.good a b ∧ kl = keyL a b c ∧ ∀ z, D.atKey kl z = datum a b c
theorem mapInv_start : MapInv (.map []) := fun kl h => by simp [has] at h
theorem mapInv_put {D : DataW Unit} (h : MapInv D) (hD : IsMap D) (a b : Int) (c : Bool) (hg : Am.good a b) : MapInv (D.put (keyL a b c) (datum a b c)) := by
  intro kl hk
  by_cases e : kl = keyL a b c
  · subst e
    exact ⟨a, b, c, hg, rfl, fun z => atKey_put_same hD (key_lit a b c) _ z⟩
  · rw [has_put_other e] at hk
    obtain ⟨a', b', c', g', e', h'⟩ := h kl hk
    exact ⟨a', b', c', g', e', fun z => by rw [atKey_put_other e]; exact h' z⟩

/-- 'b, was := met[s]': if it was there, it is the very address -/
theorem lookup_adr (w : World) {ops : Array Oper} {rest : List Oper} {o : Oper} {act : Act} {Q : Exit → Act → World → Prop}
    (hg : o.guard = none) (m x : Operand) (hop : o.op = Op.lookup 54 m x true) (B n : Nat) (D : DataW Unit)
    (hm : act.eval m = .map (some B)) (hown : w.ownsMap Try.prog 9 adrElem B n D) (hI : MapInv D) (a b : Int) (c : Bool) (hgd : Am.good a b)
    (hx : act.eval x = .string (strOfNums (Am.octs2 a b c)))
    (h1 : wpList Try.prog ops Q rest (act.put o.dst (.tuple #[.agg #[.int .i64 a, .int .i64 b, .bool c], .bool true])) w)
    (h2 : ∀ a' b' c', wpList Try.prog ops Q rest (act.put o.dst (.tuple #[.agg #[.int .i64 a', .int .i64 b', .bool c'], .bool false])) w) :
    wpList Try.prog ops Q (o :: rest) act w := by
  refine wpList_lookup_own_ok w hg m x 54 hop 9 35 mlaw Try.underlying54 adrElem (zeroAdr w) (datum 0 0 false) [] rfl B n D hm hown _ (keyL a b c) hx (key_of a b c) ?_
  intro v ps hv
  obtain ⟨a', b', c', rfl, hz⟩ := adrElem_inv hv
  injection hz with hz _
  cases hh : has D (keyL a b c)
  · exact h2 a' b' c'
  · obtain ⟨a2, b2, c2, g2, e2, f2⟩ := hI _ hh
    rw [f2] at hz
    obtain ⟨rfl, rfl, rfl⟩ := datum_inj hz
    obtain ⟨rfl, rfl, rfl⟩ := keyL_inj hgd g2 e2
    exact h1

theorem own_map_later {w w' : World} {P : Program} {k : TypeId} {R : Value → Option (DataW Unit × List MemPlace)} {b n : Nat} {D : DataW Unit} (h : w.ownsMap P k R b n D) (hb : Below w.heap.size w w') : w'.ownsMap P k R b n D := by
  have hlt := h.lt
  obtain ⟨es, clock, h1, F, hs, hD⟩ := h
  exact ⟨es, clock, (hb.block b hlt).trans h1, F, hs, hD⟩

/-- A slice of pairs of bytes that came in: its elements ps, one behind the other. -/
def RowB (w : World) (a : Option Addr) (len cap : Nat) (ps : List (Int × Int)) : Prop :=
  ps.length = len ∧ len ≤ cap ∧ cap ≤ maxLen ∧ (∀ q ∈ ps, (0 ≤ q.1 ∧ q.1 ≤ 255) ∧ (0 ≤ q.2 ∧ q.2 ≤ 255)) ∧
  (len = 0 ∨ ∃ b off, a = some ⟨b, off, none⟩ ∧ b < w.heap.size ∧ ∀ i, i < len → w.cell? ⟨b, off + i * 2, none⟩ = some (.int .u8 (ps.getD i (0, 0)).1) ∧ w.cell? ⟨b, off + i * 2 + 1, none⟩ = some (.int .u8 (ps.getD i (0, 0)).2))
theorem RowB.at {w : World} {a : Option Addr} {len cap : Nat} {ps : List (Int × Int)} (h : RowB w a len cap ps) (i : Nat) (hi : i < len) :
    ∃ b off x y, a = some ⟨b, off, none⟩ ∧ b < w.heap.size ∧ w.cell? ⟨b, off + i * 2, none⟩ = some (.int .u8 x) ∧ w.cell? ⟨b, off + i * 2 + 1, none⟩ = some (.int .u8 y) ∧ (0 ≤ x ∧ x ≤ 255) ∧ (0 ≤ y ∧ y ≤ 255) := by
  obtain ⟨h1, h2, h3, h4, h5⟩ := h
  rcases h5 with h0 | ⟨b, off, e, hlt, hc⟩
  · omega
  · have hm : ps.getD i (0, 0) ∈ ps := by
      rw [List.getD, List.getElem?_eq_getElem (by omega)]
      exact List.getElem_mem _
    exact ⟨b, off, _, _, e, hlt, (hc i hi).1, (hc i hi).2, (h4 _ hm).1, (h4 _ hm).2⟩

theorem add_plain (b off i : Nat) : (⟨b, off, none⟩ : Addr).add i = ⟨b, off + i, none⟩ := by unfold Addr.add; split <;> simp_all

set_option maxRecDepth 100000 in
theorem open_AddrOne0 {H : Type} {enc : TypeId × Value → H} {w : World} {a : Option Addr} {len cap : Nat} {d : DataW H} {p : List MemPlace}
    (h : DataW.Trod enc Try.prog w 0 (fun _ => true) true 53 (.slice a len cap) d p) : ∃ ps, RowB w a len cap ps := by
  obtain ⟨fuel, hf⟩ := h
  have ce : Try.prog.cellsOf 55 = 2 := by kernel_rfl
  have ci : Try.prog.cellsOf 5 = 1 := by kernel_rfl
  rcases Deep.open_slice Try.underlying53 hf with ⟨hcs, _⟩ | ⟨x, l, c, m, n, D, Pl, hcs, _, hl, hm, hmm, _, hx⟩
  · simp [Value.cells] at hcs
    obtain ⟨rfl, rfl, rfl⟩ := hcs
    exact ⟨[], rfl, Nat.le_refl _, Nat.zero_le _, fun q h => by simp at h, Or.inl rfl⟩
  · simp [Value.cells] at hcs
    obtain ⟨rfl, rfl, rfl⟩ := hcs
    have hmc : m = cap := by rw [hmm]; rfl
    subst hmc
    rw [ce] at hx
    have each : ∀ i, i < m → ∃ q : Int × Int, (w.cell? (x.add (i * 2)) = some (.int .u8 q.1) ∧ w.cell? (x.add (i * 2 + 1)) = some (.int .u8 q.2)) ∧ (Lit.int .u8 q.1).wf = true ∧ (Lit.int .u8 q.2).wf = true := by
      intro i hi
      obtain ⟨cs', h1, h2⟩ := hx i hi
      obtain ⟨_, hlen, hcell⟩ := World.cells?_some h1
      obtain ⟨xs, k, hk, hxy, _, hxl, hfe⟩ := DataW.trod_array Try.underlying55 h2
      match xs, hxl, cs', hlen with
      | [y0, y1], _, [v0, v1], _ =>
        have g0 := hfe 0 (by decide)
        have g1 := hfe 1 (by decide)
        simp [ci] at g0 g1
        have e0 := hcell 0 (by decide)
        have e1 := hcell 1 (by decide)
        rw [Deep.add_add] at e0 e1
        obtain ⟨a0, ea, _, wa⟩ := DataW.trod_int Try.underlying5 g0
        obtain ⟨a1, eb, _, wb⟩ := DataW.trod_int Try.underlying5 g1
        simp at ea eb
        subst ea eb
        exact ⟨(a0, a1), ⟨by simpa using e0, by simpa using e1⟩, wa, wb⟩
    obtain ⟨q, hq⟩ := Deep.choose_lt each
    refine ⟨(List.range len).map q, by simp, hl, hm, ?_, ?_⟩
    · intro z hz
      simp only [List.mem_map, List.mem_range] at hz
      obtain ⟨i, hi, rfl⟩ := hz
      exact ⟨bounds_u8 (hq i (by omega)).2.1, bounds_u8 (hq i (by omega)).2.2⟩
    · by_cases h0 : len = 0
      · exact Or.inl h0
      · obtain ⟨b, off, spot⟩ := x
        have hc := (hq 0 (by omega)).1.1
        have hspot : spot = none := by simpa [Addr.add] using World.cell?_spot hc
        subst hspot
        have hadd : ∀ i, (⟨b, off, none⟩ : Addr).add i = ⟨b, off + i, none⟩ := add_plain b off
        refine Or.inr ⟨b, off, rfl, cell_lt (by rw [hadd] at hc; exact hc), fun i hi => ?_⟩
        have h1 := (hq i (by omega)).1
        rw [hadd, hadd] at h1
        have e : ((List.range len).map q).getD i (0, 0) = q i := by simp [List.getD, hi]
        rw [e]
        exact h1
end Go.Proofs.Ytgkegjhnhchomaa
