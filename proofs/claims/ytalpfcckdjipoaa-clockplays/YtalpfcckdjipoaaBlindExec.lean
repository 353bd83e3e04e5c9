/-
  An operation of a frame that calls no function hangs on a program's tables alone.
-/
import Derived.Test.YtalpfcckdjipoaaBlindOps
namespace Go.Proofs.Ytalpfcckdjipoaa
set_option linter.unusedVariables false
set_option linter.unusedSimpArgs false
section
variable (P : Program) (F : Array Func)

theorem blind_sureAddr (v : Value) : Blind P F (Instr.sureAddr v) := by unfold Instr.sureAddr; split <;> exact True.intro
theorem blind_eqGuardIn : ∀ (d : Nat) (t : TypeId) (x y : Value), Blind P F (Op.eqGuardIn d t x y)
  | 0, _, _, _ => True.intro
  | d + 1, t, x, y => by
    have ih := blind_eqGuardIn d
    unfold Op.eqGuardIn
    repeat' first
      | exact True.intro
      | with_reducible exact blind_underlying P F _
      | with_reducible exact blind_typeInfo P F _
      | with_reducible exact blind_sizeOf P F _
      | with_reducible exact blind_isAgg P F _
      | with_reducible exact blind_zeroValue P F _
      | with_reducible exact blind_shape P F _
      | with_reducible exact blind_getObj P F _
      | with_reducible exact blind_behind P F _
      | with_reducible exact blind_asInt P F _
      | with_reducible exact blind_asIntOf P F _
      | with_reducible exact blind_asBool P F _
      | with_reducible exact blind_byteOf P F _
      | with_reducible exact blind_part P F _ _ _
      | with_reducible exact blind_loadVar P F _ _
      | with_reducible exact blind_storeVar P F _ _ _
      | with_reducible exact blind_newVar P F _ _
      | with_reducible exact blind_newRow P F _ _
      | with_reducible exact blind_choose P F _
      | with_reducible exact blind_runtimePanic P F _
      | with_reducible exact blind_boundsPanic P F _ _ _ _
      | with_reducible exact blind_unsup P F _
      | with_reducible exact blind_stuck P F _
      | with_reducible exact ih _ _ _
      | with_reducible refine blind_forInA P F _ (fun _ _ => ?_) _ _
      | with_reducible refine blind_forInR P F _ (fun _ _ => ?_) _ _
      | with_reducible refine blind_then P F ?_ (fun _ => ?_)
      | split
      | dsimp only
theorem blind_eqGuard (op : BinOp) (t : TypeId) (x y : Operand) (a b : Value) : Blind P F (eqGuard op t x y a b) := by
  unfold eqGuard
  repeat' first
    | exact True.intro
    | with_reducible exact blind_underlying P F _
    | with_reducible exact blind_typeInfo P F _
    | with_reducible exact blind_sizeOf P F _
    | with_reducible exact blind_isAgg P F _
    | with_reducible exact blind_zeroValue P F _
    | with_reducible exact blind_shape P F _
    | with_reducible exact blind_getObj P F _
    | with_reducible exact blind_behind P F _
    | with_reducible exact blind_asInt P F _
    | with_reducible exact blind_asIntOf P F _
    | with_reducible exact blind_asBool P F _
    | with_reducible exact blind_byteOf P F _
    | with_reducible exact blind_part P F _ _ _
    | with_reducible exact blind_loadVar P F _ _
    | with_reducible exact blind_storeVar P F _ _ _
    | with_reducible exact blind_newVar P F _ _
    | with_reducible exact blind_newRow P F _ _
    | with_reducible exact blind_choose P F _
    | with_reducible exact blind_runtimePanic P F _
    | with_reducible exact blind_boundsPanic P F _ _ _ _
    | with_reducible exact blind_unsup P F _
    | with_reducible exact blind_stuck P F _
    | with_reducible exact blind_eqGuardIn P F _ _ _ _
    | with_reducible refine blind_prog P F ?_ ?_
    | (show @Eq (Sem _) _ _; simp only [wf_depth, wf_eqGuardType]; done)
    | (show @Eq (Sem _) _ _; simp only [wf_depth, wf_eqGuardType]; rfl)
    | with_reducible refine blind_forInA P F _ (fun _ _ => ?_) _ _
    | with_reducible refine blind_forInR P F _ (fun _ _ => ?_) _ _
    | with_reducible refine blind_then P F ?_ (fun _ => ?_)
    | split
    | dsimp only
theorem blind_floatArith (op : BinOp) (k : FloatKind) (a b : Nat) : Blind P F (Op.floatArith op k a b) := by
  unfold Op.floatArith
  repeat' first
    | exact True.intro
    | with_reducible exact blind_underlying P F _
    | with_reducible exact blind_typeInfo P F _
    | with_reducible exact blind_sizeOf P F _
    | with_reducible exact blind_isAgg P F _
    | with_reducible exact blind_zeroValue P F _
    | with_reducible exact blind_shape P F _
    | with_reducible exact blind_getObj P F _
    | with_reducible exact blind_behind P F _
    | with_reducible exact blind_asInt P F _
    | with_reducible exact blind_asIntOf P F _
    | with_reducible exact blind_asBool P F _
    | with_reducible exact blind_byteOf P F _
    | with_reducible exact blind_part P F _ _ _
    | with_reducible exact blind_loadVar P F _ _
    | with_reducible exact blind_storeVar P F _ _ _
    | with_reducible exact blind_newVar P F _ _
    | with_reducible exact blind_newRow P F _ _
    | with_reducible exact blind_choose P F _
    | with_reducible exact blind_runtimePanic P F _
    | with_reducible exact blind_boundsPanic P F _ _ _ _
    | with_reducible exact blind_unsup P F _
    | with_reducible exact blind_stuck P F _
    | with_reducible refine blind_forInA P F _ (fun _ _ => ?_) _ _
    | with_reducible refine blind_forInR P F _ (fun _ _ => ?_) _ _
    | with_reducible refine blind_then P F ?_ (fun _ => ?_)
    | split
    | dsimp only
theorem blind_floatCmp (op : BinOp) (k : FloatKind) (a b : Nat) : Blind P F (Op.floatCmp op k a b) := by
  unfold Op.floatCmp
  repeat' first
    | exact True.intro
    | with_reducible exact blind_underlying P F _
    | with_reducible exact blind_typeInfo P F _
    | with_reducible exact blind_sizeOf P F _
    | with_reducible exact blind_isAgg P F _
    | with_reducible exact blind_zeroValue P F _
    | with_reducible exact blind_shape P F _
    | with_reducible exact blind_getObj P F _
    | with_reducible exact blind_behind P F _
    | with_reducible exact blind_asInt P F _
    | with_reducible exact blind_asIntOf P F _
    | with_reducible exact blind_asBool P F _
    | with_reducible exact blind_byteOf P F _
    | with_reducible exact blind_part P F _ _ _
    | with_reducible exact blind_loadVar P F _ _
    | with_reducible exact blind_storeVar P F _ _ _
    | with_reducible exact blind_newVar P F _ _
    | with_reducible exact blind_newRow P F _ _
    | with_reducible exact blind_choose P F _
    | with_reducible exact blind_runtimePanic P F _
    | with_reducible exact blind_boundsPanic P F _ _ _ _
    | with_reducible exact blind_unsup P F _
    | with_reducible exact blind_stuck P F _
    | with_reducible refine blind_forInA P F _ (fun _ _ => ?_) _ _
    | with_reducible refine blind_forInR P F _ (fun _ _ => ?_) _ _
    | with_reducible refine blind_then P F ?_ (fun _ => ?_)
    | split
    | dsimp only
theorem blind_floatToFloat (a : FloatKind) (n : Nat) (b : FloatKind) : Blind P F (Conv.floatToFloat a n b) := by
  unfold Conv.floatToFloat
  repeat' first
    | exact True.intro
    | with_reducible exact blind_underlying P F _
    | with_reducible exact blind_typeInfo P F _
    | with_reducible exact blind_sizeOf P F _
    | with_reducible exact blind_isAgg P F _
    | with_reducible exact blind_zeroValue P F _
    | with_reducible exact blind_shape P F _
    | with_reducible exact blind_getObj P F _
    | with_reducible exact blind_behind P F _
    | with_reducible exact blind_asInt P F _
    | with_reducible exact blind_asIntOf P F _
    | with_reducible exact blind_asBool P F _
    | with_reducible exact blind_byteOf P F _
    | with_reducible exact blind_part P F _ _ _
    | with_reducible exact blind_loadVar P F _ _
    | with_reducible exact blind_storeVar P F _ _ _
    | with_reducible exact blind_newVar P F _ _
    | with_reducible exact blind_newRow P F _ _
    | with_reducible exact blind_choose P F _
    | with_reducible exact blind_runtimePanic P F _
    | with_reducible exact blind_boundsPanic P F _ _ _ _
    | with_reducible exact blind_unsup P F _
    | with_reducible exact blind_stuck P F _
    | with_reducible refine blind_forInA P F _ (fun _ _ => ?_) _ _
    | with_reducible refine blind_forInR P F _ (fun _ _ => ?_) _ _
    | with_reducible refine blind_then P F ?_ (fun _ => ?_)
    | split
    | dsimp only
theorem blind_carith (op : BinOp) (k : FloatKind) (a b : Nat) : Blind P F (Op.Complex.arith op k a b) := by
  unfold Op.Complex.arith
  repeat' first
    | exact True.intro
    | with_reducible exact blind_underlying P F _
    | with_reducible exact blind_typeInfo P F _
    | with_reducible exact blind_sizeOf P F _
    | with_reducible exact blind_isAgg P F _
    | with_reducible exact blind_zeroValue P F _
    | with_reducible exact blind_shape P F _
    | with_reducible exact blind_getObj P F _
    | with_reducible exact blind_behind P F _
    | with_reducible exact blind_asInt P F _
    | with_reducible exact blind_asIntOf P F _
    | with_reducible exact blind_asBool P F _
    | with_reducible exact blind_byteOf P F _
    | with_reducible exact blind_part P F _ _ _
    | with_reducible exact blind_loadVar P F _ _
    | with_reducible exact blind_storeVar P F _ _ _
    | with_reducible exact blind_newVar P F _ _
    | with_reducible exact blind_newRow P F _ _
    | with_reducible exact blind_choose P F _
    | with_reducible exact blind_runtimePanic P F _
    | with_reducible exact blind_boundsPanic P F _ _ _ _
    | with_reducible exact blind_unsup P F _
    | with_reducible exact blind_stuck P F _
    | with_reducible exact blind_floatArith P F _ _ _ _
    | with_reducible refine blind_forInA P F _ (fun _ _ => ?_) _ _
    | with_reducible refine blind_forInR P F _ (fun _ _ => ?_) _ _
    | with_reducible refine blind_then P F ?_ (fun _ => ?_)
    | split
    | dsimp only
theorem blind_ccmp (op : BinOp) (k : FloatKind) (a b : Nat) : Blind P F (Op.Complex.cmp op k a b) := by
  unfold Op.Complex.cmp
  repeat' first
    | exact True.intro
    | with_reducible exact blind_underlying P F _
    | with_reducible exact blind_typeInfo P F _
    | with_reducible exact blind_sizeOf P F _
    | with_reducible exact blind_isAgg P F _
    | with_reducible exact blind_zeroValue P F _
    | with_reducible exact blind_shape P F _
    | with_reducible exact blind_getObj P F _
    | with_reducible exact blind_behind P F _
    | with_reducible exact blind_asInt P F _
    | with_reducible exact blind_asIntOf P F _
    | with_reducible exact blind_asBool P F _
    | with_reducible exact blind_byteOf P F _
    | with_reducible exact blind_part P F _ _ _
    | with_reducible exact blind_loadVar P F _ _
    | with_reducible exact blind_storeVar P F _ _ _
    | with_reducible exact blind_newVar P F _ _
    | with_reducible exact blind_newRow P F _ _
    | with_reducible exact blind_choose P F _
    | with_reducible exact blind_runtimePanic P F _
    | with_reducible exact blind_boundsPanic P F _ _ _ _
    | with_reducible exact blind_unsup P F _
    | with_reducible exact blind_stuck P F _
    | with_reducible exact blind_floatCmp P F _ _ _ _
    | with_reducible refine blind_forInA P F _ (fun _ _ => ?_) _ _
    | with_reducible refine blind_forInR P F _ (fun _ _ => ?_) _ _
    | with_reducible refine blind_then P F ?_ (fun _ => ?_)
    | split
    | dsimp only
theorem blind_cconv (k : FloatKind) (a : Nat) (k' : FloatKind) : Blind P F (Op.Complex.conv k a k') := by
  unfold Op.Complex.conv
  repeat' first
    | exact True.intro
    | with_reducible exact blind_underlying P F _
    | with_reducible exact blind_typeInfo P F _
    | with_reducible exact blind_sizeOf P F _
    | with_reducible exact blind_isAgg P F _
    | with_reducible exact blind_zeroValue P F _
    | with_reducible exact blind_shape P F _
    | with_reducible exact blind_getObj P F _
    | with_reducible exact blind_behind P F _
    | with_reducible exact blind_asInt P F _
    | with_reducible exact blind_asIntOf P F _
    | with_reducible exact blind_asBool P F _
    | with_reducible exact blind_byteOf P F _
    | with_reducible exact blind_part P F _ _ _
    | with_reducible exact blind_loadVar P F _ _
    | with_reducible exact blind_storeVar P F _ _ _
    | with_reducible exact blind_newVar P F _ _
    | with_reducible exact blind_newRow P F _ _
    | with_reducible exact blind_choose P F _
    | with_reducible exact blind_runtimePanic P F _
    | with_reducible exact blind_boundsPanic P F _ _ _ _
    | with_reducible exact blind_unsup P F _
    | with_reducible exact blind_stuck P F _
    | with_reducible exact blind_floatToFloat P F _ _ _
    | with_reducible refine blind_forInA P F _ (fun _ _ => ?_) _ _
    | with_reducible refine blind_forInR P F _ (fun _ _ => ?_) _ _
    | with_reducible refine blind_then P F ?_ (fun _ => ?_)
    | split
    | dsimp only
theorem blind_cadd (a b : Nat) : Blind P F (Op.Complex.add a b) := blind_carith P F _ _ a b
theorem blind_csub (a b : Nat) : Blind P F (Op.Complex.sub a b) := blind_carith P F _ _ a b
theorem blind_cmul (a b : Nat) : Blind P F (Op.Complex.mul a b) := blind_carith P F _ _ a b
theorem blind_cquo (a b : Nat) : Blind P F (Op.Complex.quo a b) := blind_carith P F _ _ a b
theorem blind_cproduct (a b c d : Nat) : Blind P F (Op.Complex.product a b c d) := by
  unfold Op.Complex.product
  repeat' first
    | exact True.intro
    | with_reducible exact blind_underlying P F _
    | with_reducible exact blind_typeInfo P F _
    | with_reducible exact blind_sizeOf P F _
    | with_reducible exact blind_isAgg P F _
    | with_reducible exact blind_zeroValue P F _
    | with_reducible exact blind_shape P F _
    | with_reducible exact blind_getObj P F _
    | with_reducible exact blind_behind P F _
    | with_reducible exact blind_asInt P F _
    | with_reducible exact blind_asIntOf P F _
    | with_reducible exact blind_asBool P F _
    | with_reducible exact blind_byteOf P F _
    | with_reducible exact blind_part P F _ _ _
    | with_reducible exact blind_loadVar P F _ _
    | with_reducible exact blind_storeVar P F _ _ _
    | with_reducible exact blind_newVar P F _ _
    | with_reducible exact blind_newRow P F _ _
    | with_reducible exact blind_choose P F _
    | with_reducible exact blind_runtimePanic P F _
    | with_reducible exact blind_boundsPanic P F _ _ _ _
    | with_reducible exact blind_unsup P F _
    | with_reducible exact blind_stuck P F _
    | with_reducible exact blind_cadd P F _ _
    | with_reducible exact blind_csub P F _ _
    | with_reducible exact blind_cmul P F _ _
    | with_reducible refine blind_forInA P F _ (fun _ _ => ?_) _ _
    | with_reducible refine blind_forInR P F _ (fun _ _ => ?_) _ _
    | with_reducible refine blind_then P F ?_ (fun _ => ?_)
    | split
    | dsimp only
theorem blind_ccorrected (s a b c d : Nat) : Blind P F (Op.Complex.corrected s a b c d) := by
  unfold Op.Complex.corrected
  repeat' first
    | exact True.intro
    | with_reducible exact blind_underlying P F _
    | with_reducible exact blind_typeInfo P F _
    | with_reducible exact blind_sizeOf P F _
    | with_reducible exact blind_isAgg P F _
    | with_reducible exact blind_zeroValue P F _
    | with_reducible exact blind_shape P F _
    | with_reducible exact blind_getObj P F _
    | with_reducible exact blind_behind P F _
    | with_reducible exact blind_asInt P F _
    | with_reducible exact blind_asIntOf P F _
    | with_reducible exact blind_asBool P F _
    | with_reducible exact blind_byteOf P F _
    | with_reducible exact blind_part P F _ _ _
    | with_reducible exact blind_loadVar P F _ _
    | with_reducible exact blind_storeVar P F _ _ _
    | with_reducible exact blind_newVar P F _ _
    | with_reducible exact blind_newRow P F _ _
    | with_reducible exact blind_choose P F _
    | with_reducible exact blind_runtimePanic P F _
    | with_reducible exact blind_boundsPanic P F _ _ _ _
    | with_reducible exact blind_unsup P F _
    | with_reducible exact blind_stuck P F _
    | with_reducible exact blind_cadd P F _ _
    | with_reducible exact blind_csub P F _ _
    | with_reducible exact blind_cmul P F _ _
    | with_reducible refine blind_forInA P F _ (fun _ _ => ?_) _ _
    | with_reducible refine blind_forInR P F _ (fun _ _ => ?_) _ _
    | with_reducible refine blind_then P F ?_ (fun _ => ?_)
    | split
    | dsimp only
theorem blind_cquotient (a b c d : Nat) : Blind P F (Op.Complex.quotient a b c d) := by
  unfold Op.Complex.quotient
  repeat' first
    | exact True.intro
    | with_reducible exact blind_underlying P F _
    | with_reducible exact blind_typeInfo P F _
    | with_reducible exact blind_sizeOf P F _
    | with_reducible exact blind_isAgg P F _
    | with_reducible exact blind_zeroValue P F _
    | with_reducible exact blind_shape P F _
    | with_reducible exact blind_getObj P F _
    | with_reducible exact blind_behind P F _
    | with_reducible exact blind_asInt P F _
    | with_reducible exact blind_asIntOf P F _
    | with_reducible exact blind_asBool P F _
    | with_reducible exact blind_byteOf P F _
    | with_reducible exact blind_part P F _ _ _
    | with_reducible exact blind_loadVar P F _ _
    | with_reducible exact blind_storeVar P F _ _ _
    | with_reducible exact blind_newVar P F _ _
    | with_reducible exact blind_newRow P F _ _
    | with_reducible exact blind_choose P F _
    | with_reducible exact blind_runtimePanic P F _
    | with_reducible exact blind_boundsPanic P F _ _ _ _
    | with_reducible exact blind_unsup P F _
    | with_reducible exact blind_stuck P F _
    | with_reducible exact blind_cadd P F _ _
    | with_reducible exact blind_csub P F _ _
    | with_reducible exact blind_cmul P F _ _
    | with_reducible exact blind_cquo P F _ _
    | with_reducible exact blind_ccmp P F _ _ _ _
    | with_reducible exact blind_ccorrected P F _ _ _ _ _
    | with_reducible refine blind_forInA P F _ (fun _ _ => ?_) _ _
    | with_reducible refine blind_forInR P F _ (fun _ _ => ?_) _ _
    | with_reducible refine blind_then P F ?_ (fun _ => ?_)
    | split
    | dsimp only
theorem blind_complexOp (op : BinOp) (k : FloatKind) (a b c d : Nat) : Blind P F (Op.complexOp op k a b c d) := by
  unfold Op.complexOp
  repeat' first
    | exact True.intro
    | with_reducible exact blind_underlying P F _
    | with_reducible exact blind_typeInfo P F _
    | with_reducible exact blind_sizeOf P F _
    | with_reducible exact blind_isAgg P F _
    | with_reducible exact blind_zeroValue P F _
    | with_reducible exact blind_shape P F _
    | with_reducible exact blind_getObj P F _
    | with_reducible exact blind_behind P F _
    | with_reducible exact blind_asInt P F _
    | with_reducible exact blind_asIntOf P F _
    | with_reducible exact blind_asBool P F _
    | with_reducible exact blind_byteOf P F _
    | with_reducible exact blind_part P F _ _ _
    | with_reducible exact blind_loadVar P F _ _
    | with_reducible exact blind_storeVar P F _ _ _
    | with_reducible exact blind_newVar P F _ _
    | with_reducible exact blind_newRow P F _ _
    | with_reducible exact blind_choose P F _
    | with_reducible exact blind_runtimePanic P F _
    | with_reducible exact blind_boundsPanic P F _ _ _ _
    | with_reducible exact blind_unsup P F _
    | with_reducible exact blind_stuck P F _
    | with_reducible exact blind_carith P F _ _ _ _
    | with_reducible exact blind_ccmp P F _ _ _ _
    | with_reducible exact blind_cconv P F _ _ _
    | with_reducible exact blind_cproduct P F _ _ _ _
    | with_reducible exact blind_cquotient P F _ _ _ _
    | with_reducible refine blind_forInA P F _ (fun _ _ => ?_) _ _
    | with_reducible refine blind_forInR P F _ (fun _ _ => ?_) _ _
    | with_reducible refine blind_then P F ?_ (fun _ => ?_)
    | split
    | dsimp only
theorem blind_stringOp (op : BinOp) (a b : ByteArray) : Blind P F (Op.stringOp op a b) := by
  unfold Op.stringOp
  repeat' first
    | exact True.intro
    | with_reducible exact blind_underlying P F _
    | with_reducible exact blind_typeInfo P F _
    | with_reducible exact blind_sizeOf P F _
    | with_reducible exact blind_isAgg P F _
    | with_reducible exact blind_zeroValue P F _
    | with_reducible exact blind_shape P F _
    | with_reducible exact blind_getObj P F _
    | with_reducible exact blind_behind P F _
    | with_reducible exact blind_asInt P F _
    | with_reducible exact blind_asIntOf P F _
    | with_reducible exact blind_asBool P F _
    | with_reducible exact blind_byteOf P F _
    | with_reducible exact blind_part P F _ _ _
    | with_reducible exact blind_loadVar P F _ _
    | with_reducible exact blind_storeVar P F _ _ _
    | with_reducible exact blind_newVar P F _ _
    | with_reducible exact blind_newRow P F _ _
    | with_reducible exact blind_choose P F _
    | with_reducible exact blind_runtimePanic P F _
    | with_reducible exact blind_boundsPanic P F _ _ _ _
    | with_reducible exact blind_unsup P F _
    | with_reducible exact blind_stuck P F _
    | with_reducible refine blind_forInA P F _ (fun _ _ => ?_) _ _
    | with_reducible refine blind_forInR P F _ (fun _ _ => ?_) _ _
    | with_reducible refine blind_then P F ?_ (fun _ => ?_)
    | split
    | dsimp only
theorem blind_equal (t : TypeId) (x y : Value) : Blind P F (Op.equal t x y) := blind_equalIn P F _ t x y
theorem blind_binOp (op : BinOp) (t : TypeId) (x y : Value) : Blind P F (binOp op t x y) := by
  unfold binOp
  repeat' first
    | exact True.intro
    | with_reducible exact blind_underlying P F _
    | with_reducible exact blind_typeInfo P F _
    | with_reducible exact blind_sizeOf P F _
    | with_reducible exact blind_isAgg P F _
    | with_reducible exact blind_zeroValue P F _
    | with_reducible exact blind_shape P F _
    | with_reducible exact blind_getObj P F _
    | with_reducible exact blind_behind P F _
    | with_reducible exact blind_asInt P F _
    | with_reducible exact blind_asIntOf P F _
    | with_reducible exact blind_asBool P F _
    | with_reducible exact blind_byteOf P F _
    | with_reducible exact blind_part P F _ _ _
    | with_reducible exact blind_loadVar P F _ _
    | with_reducible exact blind_storeVar P F _ _ _
    | with_reducible exact blind_newVar P F _ _
    | with_reducible exact blind_newRow P F _ _
    | with_reducible exact blind_choose P F _
    | with_reducible exact blind_runtimePanic P F _
    | with_reducible exact blind_boundsPanic P F _ _ _ _
    | with_reducible exact blind_unsup P F _
    | with_reducible exact blind_stuck P F _
    | with_reducible exact blind_shift P F _ _ _ _ _
    | with_reducible exact blind_intArith P F _ _ _ _
    | with_reducible exact blind_intDiv P F _ _ _ _
    | with_reducible exact blind_intBits P F _ _ _ _
    | with_reducible exact blind_intCmp P F _ _ _
    | with_reducible exact blind_floatArith P F _ _ _ _
    | with_reducible exact blind_floatCmp P F _ _ _ _
    | with_reducible exact blind_complexOp P F _ _ _ _ _ _
    | with_reducible exact blind_stringOp P F _ _ _
    | with_reducible exact blind_equal P F _ _ _
    | with_reducible exact blind_movedPointer P F _ _ _
    | with_reducible exact blind_movedNumber P F _ _ _
    | with_reducible exact blind_addrSub P F _ _ _
    | with_reducible exact blind_addrCmp P F _ _ _
    | with_reducible exact blind_addrMod P F _ _ _
    | with_reducible refine blind_forInA P F _ (fun _ _ => ?_) _ _
    | with_reducible refine blind_forInR P F _ (fun _ _ => ?_) _ _
    | with_reducible refine blind_then P F ?_ (fun _ => ?_)
    | split
    | dsimp only
theorem blind_under_at {α : Type} {t : TypeId} {d : TypeDesc} {f : TypeDesc → Sem α} (h : P.underlying t = some d) (hf : Blind P F (f d)) : Blind P F (underlying t >>= f) := by
  refine ⟨rfl, ?_⟩
  show Blind P F (((match P.underlying t with | some d => pure d | none => stuck "no such type") : Sem TypeDesc).bind f)
  rw [h]
  exact hf
theorem blind_convert (s d : TypeId) (a b : IntKind) (hs : P.underlying s = some (.int a)) (hd : P.underlying d = some (.int b)) (x : Value) : Blind P F (convert s d x) := by
  unfold convert
  refine blind_under_at P F hs (blind_under_at P F hd ?_)
  cases x
  case pointer p => cases p <;> first | exact True.intro | exact blind_unsup P F _
  case float k n =>
    show Blind P F (Conv.floatToInt k n b)
    unfold Conv.floatToInt
    dsimp only
    repeat' first
      | exact True.intro
      | with_reducible exact blind_choose P F _
      | with_reducible refine blind_then P F ?_ (fun _ => ?_)
      | split
  all_goals first | exact True.intro | exact blind_unsup P F _
theorem blind_extract (v : Value) (i : Nat) : Blind P F (Instr.extract v i) := by
  unfold Instr.extract
  repeat' first
    | exact True.intro
    | with_reducible exact blind_underlying P F _
    | with_reducible exact blind_typeInfo P F _
    | with_reducible exact blind_sizeOf P F _
    | with_reducible exact blind_isAgg P F _
    | with_reducible exact blind_zeroValue P F _
    | with_reducible exact blind_shape P F _
    | with_reducible exact blind_getObj P F _
    | with_reducible exact blind_behind P F _
    | with_reducible exact blind_asInt P F _
    | with_reducible exact blind_asIntOf P F _
    | with_reducible exact blind_asBool P F _
    | with_reducible exact blind_byteOf P F _
    | with_reducible exact blind_part P F _ _ _
    | with_reducible exact blind_loadVar P F _ _
    | with_reducible exact blind_storeVar P F _ _ _
    | with_reducible exact blind_newVar P F _ _
    | with_reducible exact blind_newRow P F _ _
    | with_reducible exact blind_choose P F _
    | with_reducible exact blind_runtimePanic P F _
    | with_reducible exact blind_boundsPanic P F _ _ _ _
    | with_reducible exact blind_unsup P F _
    | with_reducible exact blind_stuck P F _
    | with_reducible refine blind_forInA P F _ (fun _ _ => ?_) _ _
    | with_reducible refine blind_forInR P F _ (fun _ _ => ?_) _ _
    | with_reducible refine blind_then P F ?_ (fun _ => ?_)
    | split
    | dsimp only
theorem blind_index (t : TypeId) (x i : Value) : Blind P F (Instr.index t x i) := by
  unfold Instr.index
  repeat' first
    | exact True.intro
    | with_reducible exact blind_underlying P F _
    | with_reducible exact blind_typeInfo P F _
    | with_reducible exact blind_sizeOf P F _
    | with_reducible exact blind_isAgg P F _
    | with_reducible exact blind_zeroValue P F _
    | with_reducible exact blind_shape P F _
    | with_reducible exact blind_getObj P F _
    | with_reducible exact blind_behind P F _
    | with_reducible exact blind_asInt P F _
    | with_reducible exact blind_asIntOf P F _
    | with_reducible exact blind_asBool P F _
    | with_reducible exact blind_byteOf P F _
    | with_reducible exact blind_part P F _ _ _
    | with_reducible exact blind_loadVar P F _ _
    | with_reducible exact blind_storeVar P F _ _ _
    | with_reducible exact blind_newVar P F _ _
    | with_reducible exact blind_newRow P F _ _
    | with_reducible exact blind_choose P F _
    | with_reducible exact blind_runtimePanic P F _
    | with_reducible exact blind_boundsPanic P F _ _ _ _
    | with_reducible exact blind_unsup P F _
    | with_reducible exact blind_stuck P F _
    | with_reducible refine blind_forInA P F _ (fun _ _ => ?_) _ _
    | with_reducible refine blind_forInR P F _ (fun _ _ => ?_) _ _
    | with_reducible refine blind_then P F ?_ (fun _ => ?_)
    | split
    | dsimp only
theorem blind_indexAt (t : TypeId) (x i : Value) : Blind P F (Instr.indexAt t x i) := by
  unfold Instr.indexAt
  repeat' first
    | exact True.intro
    | with_reducible exact blind_underlying P F _
    | with_reducible exact blind_typeInfo P F _
    | with_reducible exact blind_sizeOf P F _
    | with_reducible exact blind_isAgg P F _
    | with_reducible exact blind_zeroValue P F _
    | with_reducible exact blind_shape P F _
    | with_reducible exact blind_getObj P F _
    | with_reducible exact blind_behind P F _
    | with_reducible exact blind_asInt P F _
    | with_reducible exact blind_asIntOf P F _
    | with_reducible exact blind_asBool P F _
    | with_reducible exact blind_byteOf P F _
    | with_reducible exact blind_part P F _ _ _
    | with_reducible exact blind_loadVar P F _ _
    | with_reducible exact blind_storeVar P F _ _ _
    | with_reducible exact blind_newVar P F _ _
    | with_reducible exact blind_newRow P F _ _
    | with_reducible exact blind_choose P F _
    | with_reducible exact blind_runtimePanic P F _
    | with_reducible exact blind_boundsPanic P F _ _ _ _
    | with_reducible exact blind_unsup P F _
    | with_reducible exact blind_stuck P F _
    | with_reducible exact blind_sureAddr P F _
    | with_reducible refine blind_forInA P F _ (fun _ _ => ?_) _ _
    | with_reducible refine blind_forInR P F _ (fun _ _ => ?_) _ _
    | with_reducible refine blind_then P F ?_ (fun _ => ?_)
    | split
    | dsimp only
theorem blind_loadAt (t : TypeId) (x : Value) : Blind P F (Instr.loadAt t x) := blind_then P F (blind_sureAddr P F x) fun _ => blind_loadVar P F _ _
theorem blind_storeAt (t : TypeId) (x v : Value) : Blind P F (Instr.storeAt t x v) := blind_then P F (blind_sureAddr P F x) fun _ => blind_storeVar P F _ _ _
theorem blind_partAt (a : Addr) (c b : Nat) : Blind P F (partAt a c b) := by
  unfold partAt
  repeat' first
    | exact True.intro
    | with_reducible exact blind_underlying P F _
    | with_reducible exact blind_typeInfo P F _
    | with_reducible exact blind_sizeOf P F _
    | with_reducible exact blind_isAgg P F _
    | with_reducible exact blind_zeroValue P F _
    | with_reducible exact blind_shape P F _
    | with_reducible exact blind_getObj P F _
    | with_reducible exact blind_behind P F _
    | with_reducible exact blind_asInt P F _
    | with_reducible exact blind_asIntOf P F _
    | with_reducible exact blind_asBool P F _
    | with_reducible exact blind_byteOf P F _
    | with_reducible exact blind_part P F _ _ _
    | with_reducible exact blind_loadVar P F _ _
    | with_reducible exact blind_storeVar P F _ _ _
    | with_reducible exact blind_newVar P F _ _
    | with_reducible exact blind_newRow P F _ _
    | with_reducible exact blind_choose P F _
    | with_reducible exact blind_runtimePanic P F _
    | with_reducible exact blind_boundsPanic P F _ _ _ _
    | with_reducible exact blind_unsup P F _
    | with_reducible exact blind_stuck P F _
    | with_reducible refine blind_forInA P F _ (fun _ _ => ?_) _ _
    | with_reducible refine blind_forInR P F _ (fun _ _ => ?_) _ _
    | with_reducible refine blind_then P F ?_ (fun _ => ?_)
    | split
    | dsimp only
theorem blind_fieldAt (t : TypeId) (x : Value) (i : Nat) : Blind P F (Instr.fieldAt t x i) := by
  unfold Instr.fieldAt fieldPlace
  repeat' first
    | exact True.intro
    | with_reducible exact blind_underlying P F _
    | with_reducible exact blind_typeInfo P F _
    | with_reducible exact blind_sizeOf P F _
    | with_reducible exact blind_isAgg P F _
    | with_reducible exact blind_zeroValue P F _
    | with_reducible exact blind_shape P F _
    | with_reducible exact blind_getObj P F _
    | with_reducible exact blind_behind P F _
    | with_reducible exact blind_asInt P F _
    | with_reducible exact blind_asIntOf P F _
    | with_reducible exact blind_asBool P F _
    | with_reducible exact blind_byteOf P F _
    | with_reducible exact blind_part P F _ _ _
    | with_reducible exact blind_loadVar P F _ _
    | with_reducible exact blind_storeVar P F _ _ _
    | with_reducible exact blind_newVar P F _ _
    | with_reducible exact blind_newRow P F _ _
    | with_reducible exact blind_choose P F _
    | with_reducible exact blind_runtimePanic P F _
    | with_reducible exact blind_boundsPanic P F _ _ _ _
    | with_reducible exact blind_unsup P F _
    | with_reducible exact blind_stuck P F _
    | with_reducible exact blind_sureAddr P F _
    | with_reducible exact blind_partAt P F _ _ _
    | with_reducible refine blind_forInA P F _ (fun _ _ => ?_) _ _
    | with_reducible refine blind_forInR P F _ (fun _ _ => ?_) _ _
    | with_reducible refine blind_then P F ?_ (fun _ => ?_)
    | split
    | dsimp only
theorem blind_alloc (t : TypeId) (b : Bool) (v : Value) : Blind P F (Instr.alloc t b v) := by
  unfold Instr.alloc
  repeat' first
    | exact True.intro
    | with_reducible exact blind_underlying P F _
    | with_reducible exact blind_typeInfo P F _
    | with_reducible exact blind_sizeOf P F _
    | with_reducible exact blind_isAgg P F _
    | with_reducible exact blind_zeroValue P F _
    | with_reducible exact blind_shape P F _
    | with_reducible exact blind_getObj P F _
    | with_reducible exact blind_behind P F _
    | with_reducible exact blind_asInt P F _
    | with_reducible exact blind_asIntOf P F _
    | with_reducible exact blind_asBool P F _
    | with_reducible exact blind_byteOf P F _
    | with_reducible exact blind_part P F _ _ _
    | with_reducible exact blind_loadVar P F _ _
    | with_reducible exact blind_storeVar P F _ _ _
    | with_reducible exact blind_newVar P F _ _
    | with_reducible exact blind_newRow P F _ _
    | with_reducible exact blind_choose P F _
    | with_reducible exact blind_runtimePanic P F _
    | with_reducible exact blind_boundsPanic P F _ _ _ _
    | with_reducible exact blind_unsup P F _
    | with_reducible exact blind_stuck P F _
    | with_reducible refine blind_forInA P F _ (fun _ _ => ?_) _ _
    | with_reducible refine blind_forInR P F _ (fun _ _ => ?_) _ _
    | with_reducible refine blind_then P F ?_ (fun _ => ?_)
    | split
    | dsimp only
theorem blind_box (t : TypeId) (v : Value) : Blind P F (Instr.box t v) := blind_then P F (blind_newVar P F _ _) fun _ => True.intro
theorem blind_buildSlice (t : TypeId) (n : Nat) (ps : Array (Nat × Value)) : Blind P F (Instr.buildSlice t n ps) := by
  unfold Instr.buildSlice
  repeat' first
    | exact True.intro
    | with_reducible exact blind_underlying P F _
    | with_reducible exact blind_typeInfo P F _
    | with_reducible exact blind_sizeOf P F _
    | with_reducible exact blind_isAgg P F _
    | with_reducible exact blind_zeroValue P F _
    | with_reducible exact blind_shape P F _
    | with_reducible exact blind_getObj P F _
    | with_reducible exact blind_behind P F _
    | with_reducible exact blind_asInt P F _
    | with_reducible exact blind_asIntOf P F _
    | with_reducible exact blind_asBool P F _
    | with_reducible exact blind_byteOf P F _
    | with_reducible exact blind_part P F _ _ _
    | with_reducible exact blind_loadVar P F _ _
    | with_reducible exact blind_storeVar P F _ _ _
    | with_reducible exact blind_newVar P F _ _
    | with_reducible exact blind_newRow P F _ _
    | with_reducible exact blind_choose P F _
    | with_reducible exact blind_runtimePanic P F _
    | with_reducible exact blind_boundsPanic P F _ _ _ _
    | with_reducible exact blind_unsup P F _
    | with_reducible exact blind_stuck P F _
    | with_reducible refine blind_forInA P F _ (fun _ _ => ?_) _ _
    | with_reducible refine blind_forInR P F _ (fun _ _ => ?_) _ _
    | with_reducible refine blind_then P F ?_ (fun _ => ?_)
    | split
    | dsimp only
theorem blind_checkKey (e : Bool) : ∀ (n : Nat) (t : TypeId) (v : Value), Blind P F (Instr.checkKey e n t v)
  | 0, _, _ => True.intro
  | n + 1, t, v => by
    have ih := blind_checkKey e n
    unfold Instr.checkKey
    repeat' first
      | exact True.intro
      | with_reducible exact blind_underlying P F _
      | with_reducible exact blind_typeInfo P F _
      | with_reducible exact blind_sizeOf P F _
      | with_reducible exact blind_isAgg P F _
      | with_reducible exact blind_zeroValue P F _
      | with_reducible exact blind_shape P F _
      | with_reducible exact blind_getObj P F _
      | with_reducible exact blind_behind P F _
      | with_reducible exact blind_asInt P F _
      | with_reducible exact blind_asIntOf P F _
      | with_reducible exact blind_asBool P F _
      | with_reducible exact blind_byteOf P F _
      | with_reducible exact blind_part P F _ _ _
      | with_reducible exact blind_loadVar P F _ _
      | with_reducible exact blind_storeVar P F _ _ _
      | with_reducible exact blind_newVar P F _ _
      | with_reducible exact blind_newRow P F _ _
      | with_reducible exact blind_choose P F _
      | with_reducible exact blind_runtimePanic P F _
      | with_reducible exact blind_boundsPanic P F _ _ _ _
      | with_reducible exact blind_unsup P F _
      | with_reducible exact blind_stuck P F _
      | with_reducible exact ih _ _
      | with_reducible exact blind_typeStr P F _
      | with_reducible refine blind_forInA P F _ (fun _ _ => ?_) _ _
      | with_reducible refine blind_forInR P F _ (fun _ _ => ?_) _ _
      | with_reducible refine blind_then P F ?_ (fun _ => ?_)
      | split
      | dsimp only
theorem blind_findAsking (t : TypeId) (v : Value) : ∀ (es : List MapEntry) (i : Nat), Blind P F (Instr.findAsking t v es i)
  | [], _ => True.intro
  | e :: es, i => by
    have ih := blind_findAsking t v es
    unfold Instr.findAsking
    repeat' first
      | exact True.intro
      | with_reducible exact blind_underlying P F _
      | with_reducible exact blind_typeInfo P F _
      | with_reducible exact blind_sizeOf P F _
      | with_reducible exact blind_isAgg P F _
      | with_reducible exact blind_zeroValue P F _
      | with_reducible exact blind_shape P F _
      | with_reducible exact blind_getObj P F _
      | with_reducible exact blind_behind P F _
      | with_reducible exact blind_asInt P F _
      | with_reducible exact blind_asIntOf P F _
      | with_reducible exact blind_asBool P F _
      | with_reducible exact blind_byteOf P F _
      | with_reducible exact blind_part P F _ _ _
      | with_reducible exact blind_loadVar P F _ _
      | with_reducible exact blind_storeVar P F _ _ _
      | with_reducible exact blind_newVar P F _ _
      | with_reducible exact blind_newRow P F _ _
      | with_reducible exact blind_choose P F _
      | with_reducible exact blind_runtimePanic P F _
      | with_reducible exact blind_boundsPanic P F _ _ _ _
      | with_reducible exact blind_unsup P F _
      | with_reducible exact blind_stuck P F _
      | with_reducible exact ih _
      | with_reducible exact blind_equal P F _ _ _
      | with_reducible refine blind_forInA P F _ (fun _ _ => ?_) _ _
      | with_reducible refine blind_forInR P F _ (fun _ _ => ?_) _ _
      | with_reducible refine blind_then P F ?_ (fun _ => ?_)
      | split
      | dsimp only
theorem blind_findKey (t : TypeId) (v : Value) (es : List MapEntry) : Blind P F (Instr.findKey t v es) := by
  unfold Instr.findKey
  repeat' first
    | exact True.intro
    | with_reducible exact blind_underlying P F _
    | with_reducible exact blind_typeInfo P F _
    | with_reducible exact blind_sizeOf P F _
    | with_reducible exact blind_isAgg P F _
    | with_reducible exact blind_zeroValue P F _
    | with_reducible exact blind_shape P F _
    | with_reducible exact blind_getObj P F _
    | with_reducible exact blind_behind P F _
    | with_reducible exact blind_asInt P F _
    | with_reducible exact blind_asIntOf P F _
    | with_reducible exact blind_asBool P F _
    | with_reducible exact blind_byteOf P F _
    | with_reducible exact blind_part P F _ _ _
    | with_reducible exact blind_loadVar P F _ _
    | with_reducible exact blind_storeVar P F _ _ _
    | with_reducible exact blind_newVar P F _ _
    | with_reducible exact blind_newRow P F _ _
    | with_reducible exact blind_choose P F _
    | with_reducible exact blind_runtimePanic P F _
    | with_reducible exact blind_boundsPanic P F _ _ _ _
    | with_reducible exact blind_unsup P F _
    | with_reducible exact blind_stuck P F _
    | with_reducible exact blind_findAsking P F _ _ _ _
    | with_reducible refine blind_forInA P F _ (fun _ _ => ?_) _ _
    | with_reducible refine blind_forInR P F _ (fun _ _ => ?_) _ _
    | with_reducible refine blind_then P F ?_ (fun _ => ?_)
    | split
    | dsimp only
theorem blind_lookup (t : TypeId) (x i : Value) (b : Bool) : Blind P F (Instr.lookup t x i b) := by
  unfold Instr.lookup
  repeat' first
    | exact True.intro
    | with_reducible exact blind_underlying P F _
    | with_reducible exact blind_typeInfo P F _
    | with_reducible exact blind_sizeOf P F _
    | with_reducible exact blind_isAgg P F _
    | with_reducible exact blind_zeroValue P F _
    | with_reducible exact blind_shape P F _
    | with_reducible exact blind_getObj P F _
    | with_reducible exact blind_behind P F _
    | with_reducible exact blind_asInt P F _
    | with_reducible exact blind_asIntOf P F _
    | with_reducible exact blind_asBool P F _
    | with_reducible exact blind_byteOf P F _
    | with_reducible exact blind_part P F _ _ _
    | with_reducible exact blind_loadVar P F _ _
    | with_reducible exact blind_storeVar P F _ _ _
    | with_reducible exact blind_newVar P F _ _
    | with_reducible exact blind_newRow P F _ _
    | with_reducible exact blind_choose P F _
    | with_reducible exact blind_runtimePanic P F _
    | with_reducible exact blind_boundsPanic P F _ _ _ _
    | with_reducible exact blind_unsup P F _
    | with_reducible exact blind_stuck P F _
    | with_reducible exact blind_checkKey P F _ _ _ _
    | with_reducible exact blind_findKey P F _ _ _
    | with_reducible refine blind_forInA P F _ (fun _ _ => ?_) _ _
    | with_reducible refine blind_forInR P F _ (fun _ _ => ?_) _ _
    | with_reducible refine blind_then P F ?_ (fun _ => ?_)
    | split
    | dsimp only
theorem blind_len (ts : Array TypeId) (t : TypeId) (x : Value) (u : TypeId) : Blind P F (Builtin.len_ #[u] t #[x]) := by
  unfold Builtin.len_
  show Blind P F (underlying u >>= _)
  repeat' first
    | exact True.intro
    | with_reducible exact blind_underlying P F _
    | with_reducible exact blind_typeInfo P F _
    | with_reducible exact blind_sizeOf P F _
    | with_reducible exact blind_isAgg P F _
    | with_reducible exact blind_zeroValue P F _
    | with_reducible exact blind_shape P F _
    | with_reducible exact blind_getObj P F _
    | with_reducible exact blind_behind P F _
    | with_reducible exact blind_asInt P F _
    | with_reducible exact blind_asIntOf P F _
    | with_reducible exact blind_asBool P F _
    | with_reducible exact blind_byteOf P F _
    | with_reducible exact blind_part P F _ _ _
    | with_reducible exact blind_loadVar P F _ _
    | with_reducible exact blind_storeVar P F _ _ _
    | with_reducible exact blind_newVar P F _ _
    | with_reducible exact blind_newRow P F _ _
    | with_reducible exact blind_choose P F _
    | with_reducible exact blind_runtimePanic P F _
    | with_reducible exact blind_boundsPanic P F _ _ _ _
    | with_reducible exact blind_unsup P F _
    | with_reducible exact blind_stuck P F _
    | with_reducible refine blind_forInA P F _ (fun _ _ => ?_) _ _
    | with_reducible refine blind_forInR P F _ (fun _ _ => ?_) _ _
    | with_reducible refine blind_then P F ?_ (fun _ => ?_)
    | split
    | dsimp only
theorem blind_followBlind : ∀ (l : List FieldStep) (t : TypeId) (x : Option Value), Blind P F (followBlind l t x)
  | [], _, _ => True.intro
  | s :: r, t, x => by
    have ih := blind_followBlind r
    unfold followBlind
    repeat' first
      | exact True.intro
      | with_reducible exact blind_underlying P F _
      | with_reducible exact blind_typeInfo P F _
      | with_reducible exact blind_sizeOf P F _
      | with_reducible exact blind_isAgg P F _
      | with_reducible exact blind_zeroValue P F _
      | with_reducible exact blind_shape P F _
      | with_reducible exact blind_getObj P F _
      | with_reducible exact blind_behind P F _
      | with_reducible exact blind_asInt P F _
      | with_reducible exact blind_asIntOf P F _
      | with_reducible exact blind_asBool P F _
      | with_reducible exact blind_byteOf P F _
      | with_reducible exact blind_part P F _ _ _
      | with_reducible exact blind_loadVar P F _ _
      | with_reducible exact blind_storeVar P F _ _ _
      | with_reducible exact blind_newVar P F _ _
      | with_reducible exact blind_newRow P F _ _
      | with_reducible exact blind_choose P F _
      | with_reducible exact blind_runtimePanic P F _
      | with_reducible exact blind_boundsPanic P F _ _ _ _
      | with_reducible exact blind_unsup P F _
      | with_reducible exact blind_stuck P F _
      | with_reducible exact ih _ _
      | with_reducible refine blind_forInA P F _ (fun _ _ => ?_) _ _
      | with_reducible refine blind_forInR P F _ (fun _ _ => ?_) _ _
      | with_reducible refine blind_then P F ?_ (fun _ => ?_)
      | split
      | dsimp only
theorem blind_nilAhead : ∀ (n : Nat) (t : TypeId) (v : Value) (s : String), Blind P F (nilAhead n t v s)
  | 0, _, _, _ => True.intro
  | n + 1, t, v, s => by
    have ih := blind_nilAhead n
    unfold nilAhead
    repeat' first
      | exact True.intro
      | with_reducible exact blind_underlying P F _
      | with_reducible exact blind_typeInfo P F _
      | with_reducible exact blind_sizeOf P F _
      | with_reducible exact blind_isAgg P F _
      | with_reducible exact blind_zeroValue P F _
      | with_reducible exact blind_shape P F _
      | with_reducible exact blind_getObj P F _
      | with_reducible exact blind_behind P F _
      | with_reducible exact blind_asInt P F _
      | with_reducible exact blind_asIntOf P F _
      | with_reducible exact blind_asBool P F _
      | with_reducible exact blind_byteOf P F _
      | with_reducible exact blind_part P F _ _ _
      | with_reducible exact blind_loadVar P F _ _
      | with_reducible exact blind_storeVar P F _ _ _
      | with_reducible exact blind_newVar P F _ _
      | with_reducible exact blind_newRow P F _ _
      | with_reducible exact blind_choose P F _
      | with_reducible exact blind_runtimePanic P F _
      | with_reducible exact blind_boundsPanic P F _ _ _ _
      | with_reducible exact blind_unsup P F _
      | with_reducible exact blind_stuck P F _
      | with_reducible exact ih _ _ _
      | with_reducible exact blind_followBlind P F _ _ _
      | with_reducible refine blind_forInA P F _ (fun _ _ => ?_) _ _
      | with_reducible refine blind_forInR P F _ (fun _ _ => ?_) _ _
      | with_reducible refine blind_then P F ?_ (fun _ => ?_)
      | split
      | dsimp only

/-- is it an integer's type? -/
def isIntT (t : TypeId) : Bool := match P.underlying t with | some (.int _) => true | _ => false
theorem isIntT_at {t : TypeId} (h : isIntT P t = true) : ∃ k, P.underlying t = some (.int k) := by
  unfold isIntT at h
  split at h
  · rename_i k hk; exact ⟨k, hk⟩
  · cases h

/-- the operations that this text speaks of: none calls a function -/
def plainOp (op : Op) : Bool :=
  match op with
  | .move _ | .assign _ | .pick .. | .alloc _ | .box .. | .buildSlice .. | .load .. | .store .. | .nilCheck _ | .binOp .. | .unOp .. | .fieldAddr .. | .indexAddr .. | .index .. | .lookup .. | .extract .. => true
  | .convert s d _ => isIntT P s && isIntT P d
  | .call { callee := .builtin .len, args, argTypes } => args.size == 1 && argTypes.size == 1
  | _ => false

theorem blind_value {s : Sem Value} (h : Blind P F s) : Blind P F (do pure (Next.value (← s))) := blind_then P F h fun _ => True.intro
theorem blind_unit {s : Sem Unit} (h : Blind P F s) : Blind P F (do s; pure Next.skip) := blind_then P F h fun _ => True.intro

theorem blind_exec (ρ : Operand → Value) (o : Oper) (h : plainOp P o.op = true) : Blind P F (execOp ρ o) := by
  obtain ⟨dst, op, type, pos, after, guard⟩ := o
  unfold execOp
  cases op with
  | move x => exact True.intro
  | assign x => exact True.intro
  | pick c a b => exact blind_then P F (blind_asBool P F _) fun _ => True.intro
  | alloc t => exact blind_value P F (blind_alloc P F _ _ _)
  | box t x => exact blind_value P F (blind_box P F _ _)
  | buildSlice t n ps => exact blind_value P F (blind_buildSlice P F _ _ _)
  | load t a => exact blind_value P F (blind_loadAt P F _ _)
  | store t a x => exact blind_unit P F (blind_storeAt P F _ _ _)
  | binOp op t x y u => exact blind_value P F (blind_then P F (blind_eqGuard P F _ _ _ _ _ _) fun _ => blind_binOp P F _ _ _ _)
  | unOp op t x => exact blind_value P F (blind_unary P F _ _)
  | convert s d x =>
    simp only [plainOp, Bool.and_eq_true] at h
    obtain ⟨a, ha⟩ := isIntT_at P h.1
    obtain ⟨b, hb⟩ := isIntT_at P h.2
    exact blind_value P F (blind_convert P F s d a b ha hb _)
  | fieldAddr t x i => exact blind_value P F (blind_fieldAt P F _ _ _)
  | indexAddr t x i => exact blind_value P F (blind_indexAt P F _ _ _)
  | index t x i => exact blind_value P F (blind_index P F _ _ _)
  | lookup t x i b => exact blind_value P F (blind_lookup P F _ _ _ _)
  | extract x i => exact blind_value P F (blind_extract P F _ _)
  | nilCheck x =>
    dsimp only
    split
    · exact blind_runtimePanic P F _
    · exact blind_runtimePanic P F _
    · exact blind_runtimePanic P F _
    · split
      · exact blind_runtimePanic P F _
      · refine blind_prog P F rfl ?_
        refine blind_then P F (blind_nilAhead P F _ _ _ _) fun _ => ?_
        split <;> exact True.intro
      · exact True.intro
    · exact True.intro
  | call c =>
    obtain ⟨callee, args, argTypes⟩ := c
    cases callee with
    | builtin b =>
      cases b <;> simp [plainOp] at h
      obtain ⟨h1, h2⟩ := h
      obtain ⟨x, rfl⟩ : ∃ x, args = #[x] := ⟨args[0], by apply Array.ext (by simpa using h1); intro i hi1 hi2; simp at hi2; subst hi2; rfl⟩
      obtain ⟨u, rfl⟩ : ∃ x, argTypes = #[x] := ⟨argTypes[0], by apply Array.ext (by simpa using h2); intro i hi1 hi2; simp at hi2; subst hi2; rfl⟩
      refine blind_value P F ?_
      have e : (#[x] : Array Operand).map ρ = #[ρ x] := by simp
      show Blind P F (Builtin.len_ #[u] type ((#[x] : Array Operand).map ρ))
      rw [e]
      exact blind_len P F #[] _ _ _
    | value f => simp [plainOp] at h
    | invoke r n => simp [plainOp] at h
  | _ => simp [plainOp] at h
end
end Go.Proofs.Ytalpfcckdjipoaa
