/-
  What single operations of a frame do hangs on a program's tables alone.
-/
import Derived.Test.YtalpfcckdjipoaaBlind
namespace Go.Proofs.Ytalpfcckdjipoaa
set_option linter.unusedVariables false
set_option linter.unusedSimpArgs false
section
variable (P : Program) (F : Array Func)

theorem blind_intArith (op : BinOp) (k : IntKind) (x y : Int) : Blind P F (Op.intArith op k x y) := by unfold Op.intArith; split <;> trivial
theorem blind_intBits (op : BinOp) (k : IntKind) (x y : Int) : Blind P F (Op.intBits op k x y) := by unfold Op.intBits; dsimp only; split <;> trivial
theorem blind_unary (op : UnOp) (x : Value) : Blind P F (Op.unary op x) := by
  unfold Op.unary
  split <;> first | exact True.intro | with_reducible exact blind_intArith P F _ _ _ _ | with_reducible exact blind_intBits P F _ _ _ _
theorem blind_intCmp (op : BinOp) (x y : Int) : Blind P F (Op.intCmp op x y) := by unfold Op.intCmp; split <;> trivial
theorem blind_intDiv (op : BinOp) (k : IntKind) (x y : Int) : Blind P F (Op.intDiv op k x y) := by
  unfold Op.intDiv
  repeat' first
    | exact True.intro
    | with_reducible exact blind_underlying P F _
    | with_reducible exact blind_typeInfo P F _
    | with_reducible exact blind_shape P F _
    | with_reducible exact blind_viewAt P F _
    | with_reducible exact blind_numberAt P F _
    | with_reducible exact blind_behind P F _
    | with_reducible exact blind_asNumber P F _ _
    | with_reducible exact blind_asInt P F _
    | with_reducible exact blind_byteOf P F _
    | with_reducible exact blind_runtimePanic P F _
    | with_reducible exact blind_unsup P F _
    | with_reducible exact blind_stuck P F _
    | with_reducible refine blind_prog P F rfl ?_
    | with_reducible refine blind_then P F ?_ (fun _ => ?_)
    | split
    | dsimp only
theorem blind_shift (op : BinOp) (k : IntKind) (x : Int) (k' : IntKind) (y : Int) : Blind P F (Op.shift op k x k' y) := by
  unfold Op.shift
  repeat' first
    | exact True.intro
    | with_reducible exact blind_underlying P F _
    | with_reducible exact blind_typeInfo P F _
    | with_reducible exact blind_shape P F _
    | with_reducible exact blind_viewAt P F _
    | with_reducible exact blind_numberAt P F _
    | with_reducible exact blind_behind P F _
    | with_reducible exact blind_asNumber P F _ _
    | with_reducible exact blind_asInt P F _
    | with_reducible exact blind_byteOf P F _
    | with_reducible exact blind_runtimePanic P F _
    | with_reducible exact blind_unsup P F _
    | with_reducible exact blind_stuck P F _
    | with_reducible refine blind_prog P F rfl ?_
    | with_reducible refine blind_then P F ?_ (fun _ => ?_)
    | split
    | dsimp only
theorem blind_twoPlaces (a b : Addr) : Blind P F (Op.twoPlaces a b) := by
  unfold Op.twoPlaces
  repeat' first
    | exact True.intro
    | with_reducible exact blind_underlying P F _
    | with_reducible exact blind_typeInfo P F _
    | with_reducible exact blind_shape P F _
    | with_reducible exact blind_viewAt P F _
    | with_reducible exact blind_numberAt P F _
    | with_reducible exact blind_behind P F _
    | with_reducible exact blind_asNumber P F _ _
    | with_reducible exact blind_asInt P F _
    | with_reducible exact blind_byteOf P F _
    | with_reducible exact blind_runtimePanic P F _
    | with_reducible exact blind_unsup P F _
    | with_reducible exact blind_stuck P F _
    | with_reducible refine blind_prog P F rfl ?_
    | with_reducible refine blind_then P F ?_ (fun _ => ?_)
    | split
    | dsimp only
theorem blind_addrSub (k : IntKind) (a b : Addr) : Blind P F (Op.addrSub k a b) := blind_then P F (blind_twoPlaces P F a b) fun _ => trivial
theorem blind_addrCmp (op : BinOp) (a b : Addr) : Blind P F (Op.addrCmp op a b) := by
  refine blind_then P F (blind_twoPlaces P F a b) fun _ => ?_
  dsimp only
  split <;> trivial
theorem blind_addrMod (k : IntKind) (a : Addr) (n : Int) : Blind P F (Op.addrMod k a n) := by
  unfold Op.addrMod
  repeat' first
    | exact True.intro
    | with_reducible exact blind_underlying P F _
    | with_reducible exact blind_typeInfo P F _
    | with_reducible exact blind_shape P F _
    | with_reducible exact blind_viewAt P F _
    | with_reducible exact blind_numberAt P F _
    | with_reducible exact blind_behind P F _
    | with_reducible exact blind_asNumber P F _ _
    | with_reducible exact blind_asInt P F _
    | with_reducible exact blind_byteOf P F _
    | with_reducible exact blind_runtimePanic P F _
    | with_reducible exact blind_unsup P F _
    | with_reducible exact blind_stuck P F _
    | with_reducible refine blind_prog P F rfl ?_
    | with_reducible refine blind_then P F ?_ (fun _ => ?_)
    | split
    | dsimp only
theorem blind_unsafeAdd (ts : Array TypeId) (t : TypeId) (a b : Value) : Blind P F (Builtin.unsafeAdd_ ts t #[a, b]) := by
  unfold Builtin.unsafeAdd_
  cases a
  all_goals first
    | exact True.intro
    | refine blind_then P F (blind_asInt P F _) (fun n => ?_)
  repeat' first
    | exact True.intro
    | with_reducible exact blind_underlying P F _
    | with_reducible exact blind_typeInfo P F _
    | with_reducible exact blind_shape P F _
    | with_reducible exact blind_viewAt P F _
    | with_reducible exact blind_numberAt P F _
    | with_reducible exact blind_behind P F _
    | with_reducible exact blind_asNumber P F _ _
    | with_reducible exact blind_asInt P F _
    | with_reducible exact blind_byteOf P F _
    | with_reducible exact blind_runtimePanic P F _
    | with_reducible exact blind_unsup P F _
    | with_reducible exact blind_stuck P F _
    | with_reducible refine blind_prog P F (by simp only [wf_cells, wf_depth, wf_cellAtBytes]) ?_
    | with_reducible refine blind_then P F ?_ (fun _ => ?_)
    | split
    | dsimp only
theorem blind_movedNumber (t : TypeId) (x y : Value) : Blind P F (movedNumber t x y) := by
  unfold movedNumber
  repeat' first
    | exact True.intro
    | with_reducible exact blind_underlying P F _
    | with_reducible exact blind_typeInfo P F _
    | with_reducible exact blind_shape P F _
    | with_reducible exact blind_viewAt P F _
    | with_reducible exact blind_numberAt P F _
    | with_reducible exact blind_behind P F _
    | with_reducible exact blind_asNumber P F _ _
    | with_reducible exact blind_asInt P F _
    | with_reducible exact blind_byteOf P F _
    | with_reducible exact blind_runtimePanic P F _
    | with_reducible exact blind_unsup P F _
    | with_reducible exact blind_stuck P F _
    | with_reducible exact blind_unsafeAdd P F _ _ _ _
    | with_reducible refine blind_then P F ?_ (fun _ => ?_)
    | split
    | dsimp only
theorem blind_movedPointer (t : TypeId) (x y : Value) : Blind P F (movedPointer t x y) := by
  unfold movedPointer
  repeat' first
    | exact True.intro
    | with_reducible exact blind_underlying P F _
    | with_reducible exact blind_typeInfo P F _
    | with_reducible exact blind_shape P F _
    | with_reducible exact blind_viewAt P F _
    | with_reducible exact blind_numberAt P F _
    | with_reducible exact blind_behind P F _
    | with_reducible exact blind_asNumber P F _ _
    | with_reducible exact blind_asInt P F _
    | with_reducible exact blind_byteOf P F _
    | with_reducible exact blind_runtimePanic P F _
    | with_reducible exact blind_unsup P F _
    | with_reducible exact blind_stuck P F _
    | with_reducible exact blind_unsafeAdd P F _ _ _ _
    | with_reducible refine blind_then P F ?_ (fun _ => ?_)
    | split
    | dsimp only

/-! ### a loop over a list -/
theorem blind_forIn {β σ : Type} (f : β → σ → Sem (ForInStep σ)) (h : ∀ b s, Blind P F (f b s)) : ∀ (l : List β) (s : σ), Blind P F (forIn l s f)
  | [], s => True.intro
  | b :: r, s => by
    rw [List.forIn_cons]
    refine blind_then P F (h b s) (fun x => ?_)
    split
    · exact True.intro
    · exact blind_forIn f h r _
theorem blind_forInA {β σ : Type} (f : β → σ → Sem (ForInStep σ)) (h : ∀ b s, Blind P F (f b s)) (l : Array β) (s : σ) : Blind P F (forIn l s f) := by
  rw [← Array.forIn_toList]
  exact blind_forIn P F f h _ _
theorem blind_forInR {σ : Type} (f : Nat → σ → Sem (ForInStep σ)) (h : ∀ b s, Blind P F (f b s)) (n : Nat) (s : σ) : Blind P F (forIn [0:n] s f) := by
  rw [Std.Legacy.Range.forIn_eq_forIn_range']
  exact blind_forIn P F f h _ _

theorem blind_noView' (a : Addr) : Blind P F (noView a) := blind_noView P F a
theorem blind_stringish (a : Addr) : Blind P F (stringish a) := by
  unfold stringish
  repeat' first
    | exact True.intro
    | with_reducible exact blind_underlying P F _
    | with_reducible exact blind_typeInfo P F _
    | with_reducible exact blind_sizeOf P F _
    | with_reducible exact blind_isAgg P F _
    | with_reducible exact blind_zeroValue P F _
    | with_reducible exact blind_shape P F _
    | with_reducible exact blind_getObj P F _
    | with_reducible exact blind_viewAt P F _
    | with_reducible exact blind_numberAt P F _
    | with_reducible exact blind_behind P F _
    | with_reducible exact blind_asNumber P F _ _
    | with_reducible exact blind_asInt P F _
    | with_reducible exact blind_asIntOf P F _
    | with_reducible exact blind_asBool P F _
    | with_reducible exact blind_byteOf P F _
    | with_reducible exact blind_part P F _ _ _
    | with_reducible exact blind_loadVar P F _ _
    | with_reducible exact blind_storeVar P F _ _ _
    | with_reducible exact blind_newVar P F _ _
    | with_reducible exact blind_newRow P F _ _
    | with_reducible exact blind_choose P F _
    | with_reducible exact blind_runtimePanic P F _
    | with_reducible exact blind_boundsPanic P F _ _ _ _
    | with_reducible exact blind_unsup P F _
    | with_reducible exact blind_stuck P F _
    | with_reducible exact blind_frozen P F _
    | with_reducible refine blind_then P F ?_ (fun _ => ?_)
    | split
    | dsimp only
theorem blind_mayBeOne (a b : Addr) : Blind P F (mayBeOne a b) := by
  unfold mayBeOne
  repeat' first
    | exact True.intro
    | with_reducible exact blind_underlying P F _
    | with_reducible exact blind_typeInfo P F _
    | with_reducible exact blind_sizeOf P F _
    | with_reducible exact blind_isAgg P F _
    | with_reducible exact blind_zeroValue P F _
    | with_reducible exact blind_shape P F _
    | with_reducible exact blind_getObj P F _
    | with_reducible exact blind_viewAt P F _
    | with_reducible exact blind_numberAt P F _
    | with_reducible exact blind_behind P F _
    | with_reducible exact blind_asNumber P F _ _
    | with_reducible exact blind_asInt P F _
    | with_reducible exact blind_asIntOf P F _
    | with_reducible exact blind_asBool P F _
    | with_reducible exact blind_byteOf P F _
    | with_reducible exact blind_part P F _ _ _
    | with_reducible exact blind_loadVar P F _ _
    | with_reducible exact blind_storeVar P F _ _ _
    | with_reducible exact blind_newVar P F _ _
    | with_reducible exact blind_newRow P F _ _
    | with_reducible exact blind_choose P F _
    | with_reducible exact blind_runtimePanic P F _
    | with_reducible exact blind_boundsPanic P F _ _ _ _
    | with_reducible exact blind_unsup P F _
    | with_reducible exact blind_stuck P F _
    | with_reducible exact blind_frozen P F _
    | with_reducible exact blind_stringish P F _
    | with_reducible refine blind_then P F ?_ (fun _ => ?_)
    | split
    | dsimp only
theorem blind_sameAddr (a b : Addr) : Blind P F (sameAddr a b) := by
  unfold sameAddr
  repeat' first
    | exact True.intro
    | with_reducible exact blind_underlying P F _
    | with_reducible exact blind_typeInfo P F _
    | with_reducible exact blind_sizeOf P F _
    | with_reducible exact blind_isAgg P F _
    | with_reducible exact blind_zeroValue P F _
    | with_reducible exact blind_shape P F _
    | with_reducible exact blind_getObj P F _
    | with_reducible exact blind_viewAt P F _
    | with_reducible exact blind_numberAt P F _
    | with_reducible exact blind_behind P F _
    | with_reducible exact blind_asNumber P F _ _
    | with_reducible exact blind_asInt P F _
    | with_reducible exact blind_asIntOf P F _
    | with_reducible exact blind_asBool P F _
    | with_reducible exact blind_byteOf P F _
    | with_reducible exact blind_part P F _ _ _
    | with_reducible exact blind_loadVar P F _ _
    | with_reducible exact blind_storeVar P F _ _ _
    | with_reducible exact blind_newVar P F _ _
    | with_reducible exact blind_newRow P F _ _
    | with_reducible exact blind_choose P F _
    | with_reducible exact blind_runtimePanic P F _
    | with_reducible exact blind_boundsPanic P F _ _ _ _
    | with_reducible exact blind_unsup P F _
    | with_reducible exact blind_stuck P F _
    | with_reducible exact blind_frozen P F _
    | with_reducible exact blind_noView P F _
    | with_reducible exact blind_mayBeOne P F _ _
    | with_reducible refine blind_then P F ?_ (fun _ => ?_)
    | split
    | dsimp only
theorem blind_samePointer (a b : Option Addr) : Blind P F (samePointer a b) := by
  unfold samePointer
  repeat' first
    | exact True.intro
    | with_reducible exact blind_underlying P F _
    | with_reducible exact blind_typeInfo P F _
    | with_reducible exact blind_sizeOf P F _
    | with_reducible exact blind_isAgg P F _
    | with_reducible exact blind_zeroValue P F _
    | with_reducible exact blind_shape P F _
    | with_reducible exact blind_getObj P F _
    | with_reducible exact blind_viewAt P F _
    | with_reducible exact blind_numberAt P F _
    | with_reducible exact blind_behind P F _
    | with_reducible exact blind_asNumber P F _ _
    | with_reducible exact blind_asInt P F _
    | with_reducible exact blind_asIntOf P F _
    | with_reducible exact blind_asBool P F _
    | with_reducible exact blind_byteOf P F _
    | with_reducible exact blind_part P F _ _ _
    | with_reducible exact blind_loadVar P F _ _
    | with_reducible exact blind_storeVar P F _ _ _
    | with_reducible exact blind_newVar P F _ _
    | with_reducible exact blind_newRow P F _ _
    | with_reducible exact blind_choose P F _
    | with_reducible exact blind_runtimePanic P F _
    | with_reducible exact blind_boundsPanic P F _ _ _ _
    | with_reducible exact blind_unsup P F _
    | with_reducible exact blind_stuck P F _
    | with_reducible exact blind_sameAddr P F _ _
    | with_reducible refine blind_then P F ?_ (fun _ => ?_)
    | split
    | dsimp only
theorem blind_typeStr (t : TypeId) : Blind P F (typeStr t) := by
  unfold typeStr
  repeat' first
    | exact True.intro
    | with_reducible exact blind_underlying P F _
    | with_reducible exact blind_typeInfo P F _
    | with_reducible exact blind_sizeOf P F _
    | with_reducible exact blind_isAgg P F _
    | with_reducible exact blind_zeroValue P F _
    | with_reducible exact blind_shape P F _
    | with_reducible exact blind_getObj P F _
    | with_reducible exact blind_viewAt P F _
    | with_reducible exact blind_numberAt P F _
    | with_reducible exact blind_behind P F _
    | with_reducible exact blind_asNumber P F _ _
    | with_reducible exact blind_asInt P F _
    | with_reducible exact blind_asIntOf P F _
    | with_reducible exact blind_asBool P F _
    | with_reducible exact blind_byteOf P F _
    | with_reducible exact blind_part P F _ _ _
    | with_reducible exact blind_loadVar P F _ _
    | with_reducible exact blind_storeVar P F _ _ _
    | with_reducible exact blind_newVar P F _ _
    | with_reducible exact blind_newRow P F _ _
    | with_reducible exact blind_choose P F _
    | with_reducible exact blind_runtimePanic P F _
    | with_reducible exact blind_boundsPanic P F _ _ _ _
    | with_reducible exact blind_unsup P F _
    | with_reducible exact blind_stuck P F _
    | with_reducible refine blind_then P F ?_ (fun _ => ?_)
    | split
    | dsimp only

set_option maxHeartbeats 1000000 in
theorem blind_equalIn : ∀ (d : Nat) (t : TypeId) (x y : Value), Blind P F (Op.equalIn d t x y)
  | 0, _, _, _ => True.intro
  | d + 1, t, x, y => by
    have ih := blind_equalIn d
    unfold Op.equalIn
    refine blind_then P F (blind_underlying P F t) fun td => ?_
    repeat' first
      | exact True.intro
      | with_reducible exact blind_underlying P F _
      | with_reducible exact blind_typeInfo P F _
      | with_reducible exact blind_sizeOf P F _
      | with_reducible exact blind_isAgg P F _
      | with_reducible exact blind_zeroValue P F _
      | with_reducible exact blind_shape P F _
      | with_reducible exact blind_getObj P F _
      | with_reducible exact blind_viewAt P F _
      | with_reducible exact blind_numberAt P F _
      | with_reducible exact blind_behind P F _
      | with_reducible exact blind_asNumber P F _ _
      | with_reducible exact blind_asInt P F _
      | with_reducible exact blind_asIntOf P F _
      | with_reducible exact blind_asBool P F _
      | with_reducible exact blind_byteOf P F _
      | with_reducible exact blind_part P F _ _ _
      | with_reducible exact blind_loadVar P F _ _
      | with_reducible exact blind_storeVar P F _ _ _
      | with_reducible exact blind_newVar P F _ _
      | with_reducible exact blind_newRow P F _ _
      | with_reducible exact blind_choose P F _
      | with_reducible exact blind_runtimePanic P F _
      | with_reducible exact blind_boundsPanic P F _ _ _ _
      | with_reducible exact blind_unsup P F _
      | with_reducible exact blind_stuck P F _
      | with_reducible exact ih _ _ _
      | with_reducible exact blind_sameAddr P F _ _
      | with_reducible exact blind_samePointer P F _ _
      | with_reducible exact blind_typeStr P F _
      | with_reducible refine blind_forInA P F _ (fun _ _ => ?_) _ _
      | with_reducible refine blind_forInR P F _ (fun _ _ => ?_) _ _
      | with_reducible refine blind_prog P F ?_ ?_
      | (show @Eq (Sem _) _ _; simp only [wf_globals, wf_depth, wf_holdsPacked, wf_stoodInHeld]; done)
      | (show @Eq (Sem _) _ _; simp only [wf_globals, wf_depth, wf_holdsPacked, wf_stoodInHeld]; rfl)
      | with_reducible refine blind_then P F ?_ (fun _ => ?_)
      | split
      | dsimp only
end
end Go.Proofs.Ytalpfcckdjipoaa
