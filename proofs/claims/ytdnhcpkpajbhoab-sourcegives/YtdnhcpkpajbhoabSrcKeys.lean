/-
  The library's slices.Sorted(maps.Keys(..)) at this program's numbers: what Checks leans on (the shelf's contracts, laid by hand; wip/tools/srckeys.py).
-/
import Derived.Shelf.SlIterI.Nil
import Derived.Shelf.SlIterI.Sorted
import Derived.Shelf.SortM.SortNone
import Derived.Shelf.SortM.Plain
import Derived.Test.YtdnhcpkpajbhoabRows
import Derived.WalkKit
namespace Go.Proofs.Ytdnhcpkpajbhoab
open Go.RowKit Go.Maps Go.Sort Go.Shelf
set_option linter.unusedVariables false

/-- the numbers of the iterator's names in this program -/
def keysRen : Ren := ⟨fun | 6 => 30 | 7 => 31 | 8 => 54 | 9 => 55 | 10 => 56 | 11 => 62 | n => n, fun | 0 => 0 | 3 => 44 | 4 => 4 | 23 => 67 | 24 => 31 | 26 => 3 | 27 => 81 | 28 => 82 | 33 => 84 | n => n, fun n => n⟩
set_option maxRecDepth 100000 in
theorem keysLays : SlLaysZI.n7 Try.prog keysRen := {
  mixed := by kernel_rfl
  f7 := ⟨"maps.Keys[map[int]lapwing/source.Check,int,lapwing/source.Check]", by decide, Try.func31.trans (congrArg some (by kernel_rfl))⟩
  f10 := ⟨"maps.Keys[map[int]lapwing/source.Check,int,lapwing/source.Check]$1", by decide, Try.func56.trans (congrArg some (by kernel_rfl))⟩
  t0 := by kernel_rfl
  a0 := fun _ => by rfl
  z0 := fun _ => by rfl
  v0 := fun _ => by rfl
  t4 := by kernel_rfl
  a4 := fun _ => by rfl
  z4 := fun _ => by rfl
  v4 := fun _ => by rfl
  t23 := by kernel_rfl
  a23 := fun _ => by rfl
  z23 := fun _ => by rfl
  v23 := fun _ => by rfl
  t26 := by kernel_rfl
  a26 := fun _ => by rfl
  z26 := fun _ => by rfl
  v26 := fun _ => by rfl
  t27 := by kernel_rfl
  a27 := fun _ => by rfl
  z27 := fun _ => by rfl
  v27 := fun _ => by rfl
  t28 := by kernel_rfl
  a28 := fun _ => by rfl
  z28 := fun _ => by rfl
  v28 := fun _ => by rfl
  t33 := by kernel_rfl
  a33 := fun _ => by rfl
  z33 := fun _ => by rfl
  v33 := fun _ => by rfl }
set_option maxRecDepth 100000 in
theorem sortedLays : SlLaysZI.n6 Try.prog keysRen := {
  mixed := by kernel_rfl
  f6 := ⟨"slices.Sorted[int]", by decide, Try.func30.trans (congrArg some (by kernel_rfl))⟩
  f8 := ⟨"slices.Collect[int]", by decide, Try.func54.trans (congrArg some (by kernel_rfl))⟩
  f11 := ⟨"slices.AppendSeq[[]int,int]", by decide, Try.func62.trans (congrArg some (by kernel_rfl))⟩
  t0 := by kernel_rfl
  a0 := fun _ => by rfl
  z0 := fun _ => by rfl
  v0 := fun _ => by rfl
  t24 := by kernel_rfl
  a24 := fun _ => by rfl
  z24 := fun _ => by rfl
  v24 := fun _ => by rfl
  t26 := by kernel_rfl
  a26 := fun _ => by rfl
  z26 := fun _ => by rfl
  v26 := fun _ => by rfl
  t28 := by kernel_rfl
  a28 := fun _ => by rfl
  z28 := fun _ => by rfl
  v28 := fun _ => by rfl
  i26 := by kernel_rfl }
/-- the numbers of the sort's names in this program -/
def sortRen : Ren := ⟨fun | 5 => 55 | 7 => 63 | 8 => 64 | 10 => 67 | 11 => 68 | 12 => 69 | 13 => 70 | 14 => 71 | 15 => 72 | 16 => 73 | 17 => 74 | 18 => 75 | 19 => 76 | 20 => 77 | 30 => 79 | 31 => 80 | 32 => 81 | 33 => 82 | 34 => 83 | 35 => 84 | 40 => 85 | n => n, fun | 0 => 0 | 3 => 3 | 4 => 4 | 5 => 5 | 9 => 9 | 22 => 31 | 23 => 31 | 25 => 3 | 32 => 113 | 35 => 118 | 36 => 119 | 41 => 124 | 44 => 127 | 46 => 129 | 53 => 131 | 57 => 135 | 63 => 137 | 64 => 102 | n => n, fun n => n⟩
set_option maxRecDepth 100000 in
theorem sortLays : SlLaysM.n5 Try.prog sortRen := {
  mixed := by kernel_rfl
  f5 := ⟨"slices.Sort[[]int,int]", by decide, Try.func55.trans (congrArg some (by kernel_rfl))⟩
  f7 := ⟨"slices.pdqsortOrdered[int]", by decide, Try.func63.trans (congrArg some (by kernel_rfl))⟩
  f8 := Try.func64.trans (congrArg some (by kernel_rfl))
  f10 := ⟨"slices.insertionSortOrdered[int]", by decide, Try.func67.trans (congrArg some (by kernel_rfl))⟩
  f11 := ⟨"slices.heapSortOrdered[int]", by decide, Try.func68.trans (congrArg some (by kernel_rfl))⟩
  f12 := ⟨"slices.breakPatternsOrdered[int]", by decide, Try.func69.trans (congrArg some (by kernel_rfl))⟩
  f13 := ⟨"slices.choosePivotOrdered[int]", by decide, Try.func70.trans (congrArg some (by kernel_rfl))⟩
  f14 := ⟨"slices.reverseRangeOrdered[int]", by decide, Try.func71.trans (congrArg some (by kernel_rfl))⟩
  f15 := ⟨"slices.partialInsertionSortOrdered[int]", by decide, Try.func72.trans (congrArg some (by kernel_rfl))⟩
  f16 := ⟨"cmp.Less[int]", by decide, Try.func73.trans (congrArg some (by kernel_rfl))⟩
  f17 := ⟨"slices.partitionEqualOrdered[int]", by decide, Try.func74.trans (congrArg some (by kernel_rfl))⟩
  f18 := ⟨"slices.partitionOrdered[int]", by decide, Try.func75.trans (congrArg some (by kernel_rfl))⟩
  f19 := Try.func76.trans (congrArg some (by kernel_rfl))
  f20 := Try.func77.trans (congrArg some (by kernel_rfl))
  f30 := ⟨"slices.siftDownOrdered[int]", by decide, Try.func79.trans (congrArg some (by kernel_rfl))⟩
  f31 := Try.func80.trans (congrArg some (by kernel_rfl))
  f32 := Try.func81.trans (congrArg some (by kernel_rfl))
  f33 := ⟨"slices.medianAdjacentOrdered[int]", by decide, Try.func82.trans (congrArg some (by kernel_rfl))⟩
  f34 := ⟨"slices.medianOrdered[int]", by decide, Try.func83.trans (congrArg some (by kernel_rfl))⟩
  f35 := ⟨"cmp.isNaN[int]", by decide, Try.func84.trans (congrArg some (by kernel_rfl))⟩
  f40 := ⟨"slices.order2Ordered[int]", by decide, Try.func85.trans (congrArg some (by kernel_rfl))⟩
  t0 := by kernel_rfl
  a0 := fun _ => by rfl
  z0 := fun _ => by rfl
  v0 := fun _ => by rfl
  t3 := by kernel_rfl
  a3 := fun _ => by rfl
  z3 := fun _ => by rfl
  v3 := fun _ => by rfl
  t4 := by kernel_rfl
  a4 := fun _ => by rfl
  z4 := fun _ => by rfl
  v4 := fun _ => by rfl
  t5 := by kernel_rfl
  a5 := fun _ => by rfl
  z5 := fun _ => by rfl
  v5 := fun _ => by rfl
  t9 := by kernel_rfl
  a9 := fun _ => by rfl
  z9 := fun _ => by rfl
  v9 := fun _ => by rfl
  t22 := by kernel_rfl
  a22 := fun _ => by rfl
  z22 := fun _ => by rfl
  v22 := fun _ => by rfl
  t23 := by kernel_rfl
  a23 := fun _ => by rfl
  z23 := fun _ => by rfl
  v23 := fun _ => by rfl
  t25 := by kernel_rfl
  a25 := fun _ => by rfl
  z25 := fun _ => by rfl
  v25 := fun _ => by rfl
  t32 := by kernel_rfl
  a32 := fun _ => by rfl
  z32 := fun _ => by rfl
  v32 := fun _ => by rfl
  t35 := by kernel_rfl
  a35 := fun _ => by rfl
  z35 := fun _ => by rfl
  v35 := fun _ => by rfl
  t36 := by kernel_rfl
  a36 := fun _ => by rfl
  z36 := fun _ => by rfl
  v36 := fun _ => by rfl
  t41 := by kernel_rfl
  a41 := fun _ => by rfl
  z41 := fun _ => by rfl
  v41 := fun _ => by rfl
  t44 := by kernel_rfl
  a44 := fun _ => by rfl
  z44 := fun _ => by rfl
  v44 := fun _ => by rfl
  t46 := by kernel_rfl
  a46 := fun _ => by rfl
  z46 := fun _ => by rfl
  v46 := fun _ => by rfl
  t53 := by kernel_rfl
  a53 := fun _ => by rfl
  z53 := fun _ => by rfl
  v53 := fun _ => by rfl
  t57 := by kernel_rfl
  a57 := fun _ => by rfl
  z57 := fun _ => by rfl
  v57 := fun _ => by rfl
  t63 := by kernel_rfl
  a63 := fun _ => by rfl
  z63 := fun _ => by rfl
  v63 := fun _ => by rfl
  t64 := by kernel_rfl
  a64 := fun _ => by rfl
  z64 := fun _ => by rfl
  v64 := fun _ => by rfl }
/-- slices.Sort's two contracts, at the fence that asks nothing -/
theorem sorts_here (m : Nat) : AnyZI.SortsIn Try.prog keysRen Fence.wide m :=
  ⟨fun blk off cap ss W hH hblk hsz => callsIn_wide.2 (AnyM.slices_Sort_int sortLays blk off cap ss W hH hblk hsz),
   fun p cap W => callsIn_wide.2 (AnyM.slices_Sort_int_none sortLays p cap W)⟩
theorem keys_any (mb : Option Nat) (W : World) (n : Nat) : CallsIn Fence.wide n Try.prog 31 #[.map mb] W fun e w' => e = .returned (.func (.func 56) #[] #[.pointer (some ⟨W.heap.size, 0, none⟩)]) ∧ w' = W.alloc (.cells #[.map mb] 67) :=
  AnyZI.keys_in keysLays Fence.wide n trivial rfl mb W
/-- the keys of a map, sorted: a row of the call's own -/
theorem sorted_any {H : Type} (b nn : Nat) (D0 : DataW H) (R : Value → Option (DataW H × List MemPlace)) (w : World) (hown : w.ownsMap Try.prog 3 R b nn D0) (hmax : Maps.size D0 ≤ maxLen) (hbytes : Maps.size D0 * 8 ≤ 140737488355328) :
    CallsIn Fence.wide 5 Try.prog 30 #[.func (.func 56) #[] #[.pointer (some ⟨w.heap.size, 0, none⟩)]] (w.alloc (.cells #[.map (some b)] 67)) fun e w' => ∃ (v : Value) (ss : List Int), e = .returned v ∧ ss.Perm (intKeys D0) ∧
      w'.ownsRow (w.alloc (.cells #[.map (some b)] 67)).heap.size 3 1 v ss.length ((ss.mergeSort (fun x y => decide (x ≤ y))).map encZ) ∧ (v = .slice none 0 0 ↔ ss = []) ∧ Below (w.alloc (.cells #[.map (some b)] 67)).heap.size (w.alloc (.cells #[.map (some b)] 67)) w' := by
  have hbl := hown.lt
  have hseq : SeqGives Fence.wide 2 Try.prog 56 #[.pointer (some ⟨w.heap.size, 0, none⟩)] encZ (fun ss => ss.Perm (intKeys D0)) (Maps.size D0) (w.alloc (.cells #[.map (some b)] 67)) :=
    AnyZI.keys_gives (ρ := keysRen) { keysLays with } Fence.wide _ trivial rfl (by omega) w.heap.size b nn D0 _ (by simp) (by simp) (by
      obtain ⟨es, clock, hb, Ft, hs, hD⟩ := hown
      exact ⟨es, clock, (Below.heap_alloc _ _ b hbl).trans hb, Ft, hs, hD⟩)
  exact AnyZI.sorted_in sortedLays Fence.wide 5 trivial trivial trivial trivial rfl (by omega) (sorts_here _) (enters_of Try.func55 (by kernel_rfl) rfl) 56 #[.pointer (some ⟨w.heap.size, 0, none⟩)] trivial (enters_of Try.func56 (by kernel_rfl) rfl) _ _ hmax hbytes _ hseq
theorem keys_calls (mb : Option Nat) (W : World) : Calls Try.prog 31 #[.map mb] W fun e w' => e = .returned (.func (.func 56) #[] #[.pointer (some ⟨W.heap.size, 0, none⟩)]) ∧ w' = W.alloc (.cells #[.map mb] 67) :=
  (callsIn_wide (n := 5)).1 (keys_any mb W 5)
theorem sorted_calls {H : Type} (b nn : Nat) (D0 : DataW H) (R : Value → Option (DataW H × List MemPlace)) (w : World) (hown : w.ownsMap Try.prog 3 R b nn D0) (hmax : Maps.size D0 ≤ maxLen) (hbytes : Maps.size D0 * 8 ≤ 140737488355328) :
    Calls Try.prog 30 #[.func (.func 56) #[] #[.pointer (some ⟨w.heap.size, 0, none⟩)]] (w.alloc (.cells #[.map (some b)] 67)) fun e w' => ∃ (v : Value) (ss : List Int), e = .returned v ∧ ss.Perm (intKeys D0) ∧
      w'.ownsRow (w.alloc (.cells #[.map (some b)] 67)).heap.size 3 1 v ss.length ((ss.mergeSort (fun x y => decide (x ≤ y))).map encZ) ∧ (v = .slice none 0 0 ↔ ss = []) ∧ Below (w.alloc (.cells #[.map (some b)] 67)).heap.size (w.alloc (.cells #[.map (some b)] 67)) w' :=
  (callsIn_wide (n := 5)).1 (sorted_any b nn D0 R w hown hmax hbytes)
end Go.Proofs.Ytdnhcpkpajbhoab
