/-
  slices.SortFunc of timers' keys with the method value of a clock's order: the keys of the row, in order. Nothing else that was there is turned.
-/
import Derived.Test.YtalpfcckdjipoaaSortLays
import Derived.Test.YtalpfcckdjipoaaOrdWalks
import Derived.Test.YtalpfcckdjipoaaKeyMap
namespace Go.Proofs.Ytalpfcckdjipoaa
open Go.RowKit Go.Shelf Go.Lib
open Go.Sort (grow PermIn SortedIn SWO putRowK HoldsK)
set_option linter.unusedVariables false
set_option linter.unusedSimpArgs false

/-- a key whose numbers are ints -/
abbrev KeyIn := { k : Int × Int // InK k }
def key0 : KeyIn := ⟨(0, 0), by unfold InK Km.In; decide⟩
def encK (k : KeyIn) : List Value := [.int .i64 k.1.1, .int .i64 k.1.2]
def cfK (L : List Km.Tmr) (x y : KeyIn) : Int := Km.cf L x.1 y.1

theorem ltK (L : List Km.Tmr) (x y : KeyIn) : ltOf (cfK L) x y = Km.lt (Km.till L x.1, x.1) (Km.till L y.1, y.1) := Km.cf_lt L x.1 y.1
theorem swoK (L : List Km.Tmr) : SWO (ltOf (cfK L)) where
  irrefl x := by rw [ltK]; exact Km.lt_irrefl _
  trans x y z h1 h2 := by rw [ltK] at *; exact Km.lt_trans h1 h2
  ntrans x y z h1 h2 := by
    rw [ltK] at *
    cases h : Km.lt (Km.till L x.1, x.1) (Km.till L z.1, z.1) with
    | false => rfl
    | true =>
      have h3 := (Km.lt_iff _ _).1 h
      have h1' : ¬ _ := fun e => by rw [(Km.lt_iff _ _).2 e] at h1; cases h1
      have h2' : ¬ _ := fun e => by rw [(Km.lt_iff _ _).2 e] at h2; cases h2
      simp only at h3 h1' h2'
      omega

theorem heap_put {w : World} {blk off j : Nat} {F : Array Value} (h : j ≠ blk) : (Go.Sort.putRow id w blk off F).heap[j]? = w.heap[j]? := by
  unfold Go.Sort.putRow Go.Sort.mapBlock
  simp [Array.getElem?_modify, Ne.symm h]
theorem sw_heap (enc : KeyIn → List Value) (k : Nat) (w : World) (blk off m : Nat) (d : Array KeyIn) (os : Array Obj) (j : Nat) (hj : j < w.heap.size) (hne : j ≠ blk) [Inhabited KeyIn] : (sortWorldK enc k w blk off m d os).heap[j]? = w.heap[j]? := by
  unfold sortWorldK putRowK
  show ((Go.Sort.putRow id (Go.Sort.ahead w m) blk off _).heap ++ os)[j]? = _
  rw [Array.getElem?_append_left (by simpa [Go.Sort.ahead] using hj), heap_put hne]
  rfl
theorem sw_size (enc : KeyIn → List Value) (k : Nat) (w : World) (blk off m : Nat) (d : Array KeyIn) (os : Array Obj) [Inhabited KeyIn] : (sortWorldK enc k w blk off m d os).heap.size = w.heap.size + os.size := by
  unfold sortWorldK putRowK grow
  simp [Go.Sort.ahead]
/-- but for the row, what was there is as it was -/
theorem sw_kept (enc : KeyIn → List Value) (k : Nat) (w : World) (blk off m : Nat) (d : Array KeyIn) (os : Array Obj) [Inhabited KeyIn] : Kept w (sortWorldK enc k w blk off m d os) (fun j => j = blk) :=
  ⟨rfl, rfl, rfl, by rw [sw_size]; omega, fun j hj hn => sw_heap enc k w blk off m d os j hj hn⟩

theorem ordX_name : ((ordX Try.f23).name == "runtime.NumGoroutine") = false := by kernel_rfl
theorem ordX_body : ∃ c, (ordX Try.f23).body = some c := ⟨_, rfl⟩
theorem side_e23 (args : Array Value) (w : World) : (callFunc 23 args).run (beside Try.prog) w = .ok (.enter 23 args) w := by
  obtain ⟨c, hc⟩ := ordX_body
  have hf := side_ord.f23
  generalize beside Try.prog = Q at hf ⊢
  exact call_enters hf ordX_name hc args w

theorem agg24 (w : World) : (isAgg (sortRen.t 24)).run (beside Try.prog) w = .ok true w := side_ord.a33 w
theorem size24 (w : World) : (Go.sizeOf (sortRen.t 24)).run (beside Try.prog) w = .ok 2 w := side_ord.z33 w
theorem enc_len (x : KeyIn) : (encK x).length = 2 := rfl
theorem enc_one (x : KeyIn) (v : Value) (hv : v ∈ encK x) : v.oneCell' = true := by simp [encK] at hv; rcases hv with rfl | rfl <;> rfl

theorem sort_cmp [Inhabited KeyIn] (C B n : Nat) (L : List Km.Tmr) (blk off size : Nat) (w : World) (hCl : C < w.heap.size) (hC : w.cell? ⟨C, 0, none⟩ = some (.map (some B))) (hM : MapIs w B n L) (hL : Km.Ok L) (hneC : C ≠ blk) (hneB : B ≠ blk) :
    CmpLays (beside Try.prog) 23 #[.pointer (some ⟨C, 0, none⟩)] encK 2 (cfK L) blk off size w := by
  intro m os dk hs x y
  have hk := sw_kept encK 2 w blk off m dk os
  have hlk : ∀ (z : KeyIn) (W' : World), Below (sortWorldK encK 2 w blk off m dk os).heap.size (sortWorldK encK 2 w blk off m dk os) W' → (Instr.lookup 52 (.map (some B)) (.agg #[.int .i64 z.1.1, .int .i64 z.1.2]) false).run (beside Try.prog) W' = .ok (.int .i64 (Km.till L z.1)) W' := by
    intro z W' hb
    have h1 := ((hM.kept hk hneB).below hb (Nat.lt_of_lt_of_le hM.lt hk.size)).look hL z.2
    have h2 := blind_run Try.prog (besideF Try.prog) _ W' (blind_lookup Try.prog (besideF Try.prog) 52 (.map (some B)) (keyV z.1) false)
    exact h2.trans h1
  have h := ord_any side_ord C (.map (some B)) x.1 y.1 (Km.till L x.1) (Km.till L y.1) (sortWorldK encK 2 w blk off m dk os) (Nat.lt_of_lt_of_le hCl hk.size) ((hk.cell (p := ⟨C, 0, none⟩) hCl hneC).trans hC) (hlk x) (hlk y)
  exact h

theorem sort_side [Inhabited KeyIn] (C B n : Nat) (L : List Km.Tmr) (blk off cap : Nat) (d : Array KeyIn) (w : World) (hCl : C < w.heap.size) (hC : w.cell? ⟨C, 0, none⟩ = some (.map (some B))) (hM : MapIs w B n L) (hL : Km.Ok L)
    (hneC : C ≠ blk) (hneB : B ≠ blk) (hH : HoldsK encK 2 w blk off d) (hblk : blk < w.heap.size) (hsz : d.size < 4611686018427387904) :
    Calls (beside Try.prog) 22 #[.slice (some ⟨blk, off, none⟩) d.size cap, .func (.func 23) #[] #[.pointer (some ⟨C, 0, none⟩)]] w fun e w' =>
      e = .returned (.tuple #[]) ∧ ∃ d' m os, PermIn 0 d.size d d' ∧ SortedIn (ltOf (cfK L)) 0 d.size d' ∧ w' = sortWorldK encK 2 w blk off m d' os :=
  AnyQ.slices_SortFunc sortLays 2 agg24 size24 encK enc_len enc_one (cfK L) (swoK L) 23 #[.pointer (some ⟨C, 0, none⟩)] blk off cap d w side_e23 (sort_cmp C B n L blk off d.size w hCl hC hM hL hneC hneB) hH hblk hsz

theorem fam_sort : plan.fam 22 = true := by kernel_rfl
theorem fs_sort0 : plan.fs 22 0 = false := by kernel_rfl
theorem fs_sort1 : plan.fs 22 1 = true := by kernel_rfl
theorem n_sort : 2 ≤ plan.n 22 := by decide

theorem sort_any [Inhabited KeyIn] (C B n : Nat) (L : List Km.Tmr) (blk off cap : Nat) (d : Array KeyIn) (w : World) (hCl : C < w.heap.size) (hC : w.cell? ⟨C, 0, none⟩ = some (.map (some B))) (hM : MapIs w B n L) (hL : Km.Ok L)
    (hneC : C ≠ blk) (hneB : B ≠ blk) (hH : HoldsK encK 2 w blk off d) (hblk : blk < w.heap.size) (hsz : d.size < 4611686018427387904) :
    Calls Try.prog 22 #[.slice (some ⟨blk, off, none⟩) d.size cap, .func (.func 23) #[.pointer (some ⟨C, 0, none⟩)] #[]] w fun e w' =>
      e = .returned (.tuple #[]) ∧ ∃ d' m os, PermIn 0 d.size d d' ∧ SortedIn (ltOf (cfK L)) 0 d.size d' ∧ w' = sortWorldK encK 2 w blk off m d' os := by
  have hcon := sort_side C B n L blk off cap d w hCl hC hM hL hneC hneB hH hblk hsz
  have hfs := fs_sort0
  have hfs1 := fs_sort1
  have hn := n_sort
  have key := calls_over (p := .pointer (some ⟨C, 0, none⟩)) setup fam_sort #[.slice (some ⟨blk, off, none⟩) d.size cap, .func (.func 23) #[] #[.pointer (some ⟨C, 0, none⟩)]] #[.slice (some ⟨blk, off, none⟩) d.size cap, .func (.func 23) #[.pointer (some ⟨C, 0, none⟩)] #[]] rfl hn
    (fun i hi => by
      match i, hi with
      | 0, _ => unfold SlotR; rw [hfs]; simp
      | 1, _ => unfold SlotR; rw [hfs1]; exact Or.inl ⟨rfl, rfl⟩) w (hcon.mono (fun e w' h => ⟨⟨_, h.1⟩, h⟩))
  exact key
end Go.Proofs.Ytalpfcckdjipoaa
