/-
  What several walks of this seat share: a slice of bytes that the call made, turned into a text; one byte of a text.
-/
import Derived.Test.YtdnhcpkpajbhoabBase
namespace Go.Proofs.Ytdnhcpkpajbhoab
open Go.RowKit
set_option linter.unusedVariables false
set_option linter.unusedSimpArgs false

theorem byte5 : (Try.prog.info? 5).map (fun i => (i.zero, i.size, i.bytes)) = some (some (.int .u8 0), 1, 1) := by kernel_rfl

theorem empty_str : strOfNums [] = ByteArray.empty := rfl

/-- A slice of bytes of the call's own, as a text. -/
theorem conv_own {w : World} {base : Nat} {v : Value} {n : Nat} {xs : List Int} (h : w.ownsRow base 5 1 v n (xs.map (Value.int .u8))) :
    (convert 109 9 v).run Try.prog w = .ok (.string (strOfNums xs)) w := by
  have hl : xs.length = n := by have := h.1; simpa using this
  rcases h.2 with ⟨rfl, rfl⟩ | ⟨g, cap, cur, rfl, _⟩
  · have : xs = [] := List.eq_nil_of_length_eq_zero hl
    subst this
    exact run_convert_bytes_nil w 109 5 Try.underlying109 Try.underlying5 0 0 9 Try.underlying9
  · refine run_convert_bytes_arg w 109 5 Try.underlying109 Try.underlying5 g 0 n cap xs hl (fun i hi => ?_) 9 Try.underlying9
    have := h.cellAt i (by omega)
    rw [Nat.zero_add, this]
    simp [List.getD, List.getElem?_eq_getElem (show i < xs.length by omega)]

/-- one more byte, appended: the cell that the walk lays for it -/
theorem one_new {w : World} (n : Int) : ∀ (j : Nat) (u : Value), [Value.int .u8 n][j]? = some u → (w.alloc (.cells #[.int .u8 n] 5)).cell? ((⟨w.heap.size, 0, none⟩ : Addr).add j) = some u := by
  intro j u hj
  match j, hj with
  | 0, hj => simp at hj; subst hj; simp [Addr.add]
theorem one_one (n : Int) : ∀ u ∈ [Value.int .u8 n], u.oneCell' = true := by
  intro u hu; simp at hu; subst hu; rfl
/-- one byte of a text, wherever its place is reckoned -/
theorem index_str (W : World) (s : ByteArray) (i : Int) (n : Nat) (hi : i = (n : Int)) (h : n < s.size) :
    (Instr.index 9 (.string s) (.int .i64 i)).run Try.prog W = .ok (.int .u8 (s[n].toNat : Int)) W := by
  subst hi
  rw [run_index_string W 9 s .i64 n Try.underlying9]
  simp [h]

theorem BytesAt.conv {w : World} {B : Nat} {xs : List Int} (h : BytesAt w B xs) (cap : Nat) (n : Nat) (hn : n = xs.length) :
    (convert 109 9 (.slice (some ⟨B, 0, none⟩) n cap)).run Try.prog w = .ok (.string (strOfNums xs)) w := by
  subst hn
  refine run_convert_bytes_arg w 109 5 Try.underlying109 Try.underlying5 B 0 xs.length cap xs rfl (fun i hi => ?_) 9 Try.underlying9
  rw [Nat.zero_add]; exact h.2.1 i hi
end Go.Proofs.Ytdnhcpkpajbhoab
