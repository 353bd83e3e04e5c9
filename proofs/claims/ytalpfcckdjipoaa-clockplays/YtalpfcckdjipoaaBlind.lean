/-
  What an operation does hangs on a program's tables alone, not on its functions: two programs with the same tables run it alike.
-/
import Derived.Calls
namespace Go.Proofs.Ytalpfcckdjipoaa
set_option linter.unusedVariables false
set_option linter.unusedSimpArgs false

/-- the program with other functions -/
def withF (P : Program) (F : Array Func) : Program := { P with funcs := F }

section
variable (P : Program) (F : Array Func)

theorem wf_info (t : TypeId) : (withF P F).info? t = P.info? t := rfl
theorem wf_under (t : TypeId) : (withF P F).underlying t = P.underlying t := rfl
theorem wf_cells (t : TypeId) : (withF P F).cellsOf t = P.cellsOf t := rfl
theorem wf_bytes (t : TypeId) : (withF P F).bytesOf t = P.bytesOf t := rfl
theorem wf_depth : (withF P F).depth = P.depth := rfl
theorem wf_globals : (withF P F).globals = P.globals := rfl
theorem wf_rt : (withF P F).rt = P.rt := rfl

theorem wf_byteOfCell : ∀ (d : Nat) (t : TypeId) (o : Nat), byteOfCell (withF P F) d t o = byteOfCell P d t o
  | 0, _, _ => rfl
  | d + 1, t, o => by
    unfold byteOfCell
    rw [wf_under]
    simp only [wf_cells, wf_bytes, wf_byteOfCell d]
    try rfl
theorem wf_cellHolding : ∀ (d : Nat) (t : TypeId) (o : Nat), cellHolding (withF P F) d t o = cellHolding P d t o
  | 0, _, _ => rfl
  | d + 1, t, o => by
    unfold cellHolding
    rw [wf_under]
    simp only [wf_cells, wf_bytes, wf_cellHolding d]
    try rfl
theorem wf_plainCell : ∀ (d : Nat) (t : TypeId) (o : Nat), plainCell (withF P F) d t o = plainCell P d t o
  | 0, _, _ => rfl
  | d + 1, t, o => by
    unfold plainCell
    rw [wf_under]
    simp only [wf_cells, wf_bytes, wf_plainCell d]
    try rfl
theorem wf_tight : ∀ (d : Nat) (t : TypeId), tight (withF P F) d t = tight P d t
  | 0, _ => rfl
  | d + 1, t => by
    unfold tight
    rw [wf_under]
    simp only [wf_cells, wf_bytes, wf_tight d]
    try rfl
theorem wf_seenCells (c : Array Value) (e : TypeId) : ∀ (f x stop : Nat), seenCells (withF P F) c e f x stop = seenCells P c e f x stop
  | 0, _, _ => rfl
  | f + 1, x, stop => by
    unfold seenCells
    simp only [wf_cells, wf_bytes, wf_depth, wf_cellHolding, wf_seenCells c e f]
    try rfl
theorem wf_seen (w : World) (at_ : Addr) (u : TypeId) (k : Addr) (b : Bool) : w.seen (withF P F) at_ u k b = w.seen P at_ u k b := by
  unfold World.seen
  simp only [wf_cells, wf_bytes, wf_depth, wf_plainCell, wf_byteOfCell, wf_seenCells]
  try rfl
theorem wf_farLoad (w : World) (a : Addr) (b : Bool) : w.farLoad (withF P F) a b = w.farLoad P a b := by
  unfold World.farLoad World.viewLoad
  simp only [wf_seen]
  try rfl
theorem wf_farStore (w : World) (a : Addr) (v : Value) (b : Bool) : w.farStore (withF P F) a v b = w.farStore P a v b := by
  unfold World.farStore World.viewStore
  simp only [wf_seen, wf_depth, wf_tight]
  try rfl
theorem wf_cellOfByte : ∀ (d : Nat) (t : TypeId) (o : Nat), cellOfByte (withF P F) d t o = cellOfByte P d t o
  | 0, _, _ => rfl
  | d + 1, t, o => by
    unfold cellOfByte
    rw [wf_under]
    simp only [wf_cells, wf_bytes, wf_cellOfByte d]
    try rfl
theorem wf_cellAtBytes (d : Nat) (e : TypeId) (c o : Nat) (b : Int) : cellAtBytes (withF P F) d e c o b = cellAtBytes P d e c o b := by
  unfold cellAtBytes
  simp only [wf_cells, wf_bytes, wf_depth, wf_byteOfCell, wf_cellOfByte]
  try rfl
theorem wf_alike : ∀ (d : Nat) (t u : TypeId), (withF P F).alikeButTags d t u = P.alikeButTags d t u
  | 0, _, _ => rfl
  | d + 1, t, u => by
    unfold Program.alikeButTags
    simp only [wf_info, wf_alike d]
    try rfl
theorem wf_underId (t : TypeId) : (withF P F).underlyingId t = P.underlyingId t := rfl
theorem wf_stoodInAs (t : TypeId) : (withF P F).stoodInAs t = P.stoodInAs t := by
  unfold Program.stoodInAs
  simp only [wf_under, wf_depth, wf_alike, wf_underId]
  try rfl
theorem wf_stoodInHeld (t : TypeId) : (withF P F).stoodInHeld t = P.stoodInHeld t := by
  unfold Program.stoodInHeld
  simp only [wf_stoodInAs, wf_info]
  try rfl
theorem wf_ownRow (c : String × TypeId) : (withF P F).ownRow c = P.ownRow c := by
  unfold Program.ownRow
  simp only [wf_under, wf_info]
  try rfl
theorem wf_packedAs (t : TypeId) : (withF P F).packedAs t = P.packedAs t := by
  unfold Program.packedAs
  simp only [wf_under, wf_depth, wf_alike, wf_underId, wf_ownRow, wf_info]
  try rfl
theorem wf_packed (t : TypeId) : (withF P F).packed t = P.packed t := by unfold Program.packed; rw [wf_packedAs]
theorem wf_holdsPacked : ∀ (d : Nat) (t : TypeId), (withF P F).holdsPacked d t = P.holdsPacked d t
  | 0, _ => rfl
  | d + 1, t => by
    unfold Program.holdsPacked
    rw [wf_under]
    simp only [wf_packed, wf_holdsPacked d]
    try rfl
theorem wf_eqGuardType : ∀ (d : Nat) (t : TypeId), (withF P F).eqGuardType d t = P.eqGuardType d t
  | 0, _ => rfl
  | d + 1, t => by
    unfold Program.eqGuardType
    rw [wf_under]
    simp only [wf_eqGuardType d]
    try rfl
end

/-! ### what a run hangs on -/
section
variable (P : Program) (F : Array Func)

/-- which ends a run may have besides a value -/
def Tame : Halt → Prop
  | .panic _ => True
  | .stuck _ => True
  | .unsupported _ => True
  | _ => False

/-- it asks the program for nothing but its tables -/
def Blind {α : Type} : Sem α → Prop
  | .pure _ => True
  | .load _ _ k => ∀ v, Blind (k v)
  | .store _ _ _ k => Blind k
  | .new _ k => ∀ r, Blind (k r)
  | .shape _ k => ∀ r, Blind (k r)
  | .freeze _ _ k => Blind k
  | .frozen _ k => ∀ r, Blind (k r)
  | .getObj _ k => ∀ r, Blind (k r)
  | .setObj _ _ k => Blind k
  | .choose _ k => ∀ r, Blind (k r)
  | .sys _ k => False
  | .program k => k (withF P F) = k P ∧ Blind (k P)
  | .mark _ k => Blind k
  | .halt h => Tame h

theorem blind_run {α : Type} : ∀ (s : Sem α) (w : World), Blind P F s → s.run (withF P F) w = s.run P w
  | .pure _, _, _ => rfl
  | .load m a k, w, h => by
    unfold Sem.run
    rw [wf_farLoad]
    split
    · exact blind_run (k _) _ (h _)
    · split
      · exact blind_run (k _) _ (h _)
      · rfl
  | .store m a v k, w, h => by
    unfold Blind at h
    cases v <;> simp only [Sem.run, wf_farStore]
    all_goals
      split
      · split
        · rfl
        · exact blind_run k _ h
      · split
        · exact blind_run k _ h
        · rfl
  | .new o k, w, h => by unfold Sem.run; exact blind_run (k _) _ (h _)
  | .shape r k, w, h => by unfold Sem.run; exact blind_run (k _) _ (h _)
  | .freeze a n k, w, h => by unfold Sem.run; exact blind_run k _ h
  | .frozen a k, w, h => by unfold Sem.run; exact blind_run (k _) _ (h _)
  | .getObj r k, w, h => by
    unfold Sem.run
    split
    · rfl
    · exact blind_run (k _) _ (h _)
    · rfl
  | .setObj r o k, w, h => by
    unfold Sem.run
    split
    · rfl
    · exact blind_run k _ h
    · rfl
  | .choose q k, w, h => by
    unfold Sem.run
    split
    · exact blind_run (k _) _ (h _)
    · exact blind_run (k _) _ (h _)
  | .sys c k, w, h => h.elim
  | .program k, w, h => by
    unfold Sem.run
    rw [h.1]
    exact blind_run (k P) _ h.2
  | .mark _ k, w, h => by unfold Sem.run; exact blind_run k _ h
  | .halt _, _, _ => rfl

/-- how a blind run ends -/
theorem blind_tame {α : Type} : ∀ (s : Sem α) (w : World), Blind P F s → ∀ h w', s.run P w = .halt h w' → Tame h
  | .pure _, _, _, _, _, e => by unfold Sem.run at e; cases e
  | .load m a k, w, h, hh, w', e => by
    unfold Sem.run at e
    split at e
    · exact blind_tame (k _) _ (h _) _ _ e
    · split at e
      · exact blind_tame (k _) _ (h _) _ _ e
      · rename_i hf
        injection e with e1 e2
        subst e1
        unfold World.farLoad at hf
        split at hf
        · split at hf
          · cases hf
          · injection hf with hf; subst hf; trivial
        · injection hf with hf; subst hf
          unfold World.noCell
          split <;> trivial
  | .store m a v k, w, h, hh, w', e => by
    unfold Blind at h
    cases v <;> simp only [Sem.run] at e
    all_goals first
      | (injection e with e1 e2; subst e1; trivial)
      | (split at e
         · split at e
           · injection e with e1 e2; subst e1; trivial
           · exact blind_tame k _ h _ _ e
         · split at e
           · exact blind_tame k _ h _ _ e
           · rename_i hf
             injection e with e1 e2
             subst e1
             unfold World.farStore at hf
             split at hf
             · split at hf
               · cases hf
               · injection hf with hf; subst hf; trivial
             · injection hf with hf; subst hf
               unfold World.noCell
               split <;> trivial)
  | .new o k, w, h, hh, w', e => by unfold Sem.run at e; exact blind_tame (k _) _ (h _) _ _ e
  | .shape r k, w, h, hh, w', e => by unfold Sem.run at e; exact blind_tame (k _) _ (h _) _ _ e
  | .freeze a n k, w, h, hh, w', e => by unfold Sem.run at e; exact blind_tame k _ h _ _ e
  | .frozen a k, w, h, hh, w', e => by unfold Sem.run at e; exact blind_tame (k _) _ (h _) _ _ e
  | .getObj r k, w, h, hh, w', e => by
    unfold Sem.run at e
    split at e
    · injection e with e1 e2; subst e1; trivial
    · exact blind_tame (k _) _ (h _) _ _ e
    · injection e with e1 e2; subst e1; trivial
  | .setObj r o k, w, h, hh, w', e => by
    unfold Sem.run at e
    split at e
    · injection e with e1 e2; subst e1; trivial
    · exact blind_tame k _ h _ _ e
    · injection e with e1 e2; subst e1; trivial
  | .choose q k, w, h, hh, w', e => by
    unfold Sem.run at e
    split at e
    · exact blind_tame (k _) _ (h _) _ _ e
    · exact blind_tame (k _) _ (h _) _ _ e
  | .sys c k, w, h, _, _, _ => h.elim
  | .program k, w, h, hh, w', e => by
    unfold Sem.run at e
    exact blind_tame (k P) _ h.2 _ _ e
  | .mark _ k, w, h, hh, w', e => by unfold Sem.run at e; exact blind_tame k _ h _ _ e
  | .halt x, w, h, hh, w', e => by unfold Sem.run at e; injection e with e1 e2; subst e1; exact h

theorem blind_bind {α β : Type} : ∀ (s : Sem α) (f : α → Sem β), Blind P F s → (∀ a, Blind P F (f a)) → Blind P F (s.bind f)
  | .pure a, f, _, hf => hf a
  | .load m a k, f, h, hf => fun v => blind_bind (k v) f (h v) hf
  | .store m a v k, f, h, hf => blind_bind k f h hf
  | .new o k, f, h, hf => fun v => blind_bind (k v) f (h v) hf
  | .shape r k, f, h, hf => fun v => blind_bind (k v) f (h v) hf
  | .freeze a n k, f, h, hf => blind_bind k f h hf
  | .frozen a k, f, h, hf => fun v => blind_bind (k v) f (h v) hf
  | .getObj r k, f, h, hf => fun v => blind_bind (k v) f (h v) hf
  | .setObj r o k, f, h, hf => blind_bind k f h hf
  | .choose q k, f, h, hf => fun v => blind_bind (k v) f (h v) hf
  | .sys c k, f, h, hf => h.elim
  | .program k, f, h, hf => ⟨by show (k (withF P F)).bind f = (k P).bind f; rw [h.1], blind_bind (k P) f h.2 hf⟩
  | .mark m k, f, h, hf => blind_bind k f h hf
  | .halt x, f, h, hf => h
theorem blind_then {α β : Type} {s : Sem α} {f : α → Sem β} (h : Blind P F s) (hf : ∀ a, Blind P F (f a)) : Blind P F (s >>= f) := blind_bind P F s f h hf
theorem blind_seq {α β : Type} {s : Sem α} {f : Unit → Sem β} (h : Blind P F s) (hf : Blind P F (f ())) : Blind P F (SeqRight.seqRight s f) := blind_bind P F s _ h (fun _ => hf)
theorem blind_map {α β : Type} {s : Sem α} {f : α → β} (h : Blind P F s) : Blind P F (f <$> s) := blind_bind P F s _ h (fun _ => trivial)
theorem blind_pure {α : Type} (a : α) : Blind P F (pure a : Sem α) := trivial
theorem blind_stuck {α : Type} (s : String) : Blind P F (stuck s : Sem α) := trivial
theorem blind_unsup {α : Type} (u : Unsupported) : Blind P F (unsupported u : Sem α) := trivial
theorem blind_load (a : Addr) (m : Mode) : Blind P F (load a m) := fun _ => trivial
theorem blind_store (a : Addr) (v : Value) (m : Mode) : Blind P F (store a v m) := trivial
theorem blind_newObj (o : Obj) : Blind P F (newObj o) := fun _ => trivial
theorem blind_shape (r : Nat) : Blind P F (shape r) := fun _ => trivial
theorem blind_frozen (r : Addr) : Blind P F (frozen r) := fun _ => trivial
theorem blind_getObj (r : Nat) : Blind P F (getObj r) := fun _ => trivial
theorem blind_choose (q : Question) : Blind P F (choose q) := fun _ => trivial
theorem blind_goPanic {α : Type} (v : Value) : Blind P F (goPanic v : Sem α) := trivial
theorem blind_ite {α : Type} {c : Prop} [Decidable c] {a b : Sem α} (ha : Blind P F a) (hb : Blind P F b) : Blind P F (if c then a else b) := by split <;> assumption
theorem blind_prog {α : Type} {f : Program → Sem α} (he : f (withF P F) = f P) (h : Blind P F (f P)) : Blind P F (program >>= f) := ⟨he, h⟩

theorem blind_typeInfo (t : TypeId) : Blind P F (typeInfo t) := by
  unfold typeInfo
  refine blind_prog P F rfl ?_
  split <;> trivial
theorem blind_underlying (t : TypeId) : Blind P F (underlying t) := by
  unfold underlying
  refine blind_prog P F rfl ?_
  split <;> trivial
theorem blind_zeroValue (t : TypeId) : Blind P F (zeroValue t) := by
  unfold zeroValue
  refine blind_then P F (blind_typeInfo P F t) fun i => ?_
  split <;> trivial
theorem blind_sizeOf (t : TypeId) : Blind P F (sizeOf t) := blind_then P F (blind_typeInfo P F t) fun i => trivial
theorem blind_isAgg (t : TypeId) : Blind P F (isAgg t) := by
  unfold isAgg
  refine blind_then P F (blind_underlying P F t) fun i => ?_
  split <;> trivial
theorem blind_loadCellsFrom (a : Addr) : ∀ (n i : Nat) (acc : Array Value), Blind P F (loadCellsFrom a i n acc)
  | 0, _, _ => trivial
  | n + 1, i, acc => fun v => blind_loadCellsFrom a n (i + 1) _
theorem blind_storeCells (a : Addr) : ∀ (vs : List Value) (i : Nat), Blind P F (storeCells a vs i)
  | [], _ => trivial
  | v :: r, i => blind_storeCells a r (i + 1)
theorem blind_loadVar (t : TypeId) (a : Addr) : Blind P F (loadVar t a) := by
  unfold loadVar
  refine blind_then P F (blind_isAgg P F t) fun b => ?_
  refine blind_ite P F ?_ (blind_load P F _ _)
  exact blind_then P F (blind_sizeOf P F t) fun n => blind_then P F (blind_loadCellsFrom P F a n 0 #[]) fun _ => trivial
theorem blind_storeVar (t : TypeId) (a : Addr) (v : Value) : Blind P F (storeVar t a v) := by
  unfold storeVar
  refine blind_then P F (blind_sizeOf P F t) fun n => ?_
  split
  · trivial
  · exact blind_storeCells P F a _ 0
theorem blind_newVar (t : TypeId) (v : Value) : Blind P F (newVar t v) := fun _ => trivial
theorem blind_newRow (t : TypeId) (v : Array Value) : Blind P F (newRow t v) := fun _ => trivial
theorem blind_part (t : TypeId) (cs : Array Value) (o : Nat) : Blind P F (part t cs o) := by
  unfold part
  refine blind_then P F (blind_isAgg P F t) fun b => ?_
  refine blind_ite P F (blind_then P F (blind_sizeOf P F t) fun _ => trivial) ?_
  split <;> trivial
theorem blind_runtimePanic {α : Type} (e : RuntimeError) : Blind P F (runtimePanic e : Sem α) := by
  unfold runtimePanic
  refine blind_prog P F ?_ ?_
  · rfl
  · have hE : ∀ t, Blind P F (elemOf t) := fun t => by
      unfold elemOf
      refine blind_then P F (blind_underlying P F t) fun d => ?_
      split <;> trivial
    split
    · trivial
    · trivial
    · trivial
    · trivial
    · exact blind_then P F (hE _) fun _ => blind_then P F (blind_newVar P F _ _) fun _ => trivial
    · exact blind_then P F (hE _) fun _ => blind_then P F (blind_newVar P F _ _) fun _ => trivial
    · trivial
theorem blind_boundsPanic {α : Type} (k : IntKind) (x y : Int) (c : BoundsCode) : Blind P F (boundsPanic k x y c : Sem α) := by
  unfold boundsPanic
  dsimp only
  split
  · exact blind_then P F (blind_map P F (blind_choose P F _)) fun _ => blind_runtimePanic P F _
  · exact blind_then P F (blind_pure P F _) fun _ => blind_runtimePanic P F _
theorem blind_asIntOf (v : Value) : Blind P F (asIntOf v) := by unfold asIntOf; split <;> trivial
theorem blind_asInt (v : Value) : Blind P F (asInt v) := blind_then P F (blind_asIntOf P F v) fun _ => trivial
theorem blind_asBool (v : Value) : Blind P F (asBool v) := by unfold asBool; split <;> trivial
theorem blind_viewAt (r : Nat) : Blind P F (viewAt r) := by
  unfold viewAt
  refine blind_then P F (blind_shape P F r) fun _ => ?_
  split
  · trivial
  · refine blind_then P F (blind_getObj P F r) fun _ => ?_
    split <;> trivial
theorem blind_numberAt (r : Nat) : Blind P F (numberAt r) := by
  unfold numberAt
  refine blind_then P F (blind_shape P F r) fun _ => ?_
  split
  · trivial
  · refine blind_then P F (blind_getObj P F r) fun _ => ?_
    split <;> trivial
theorem blind_behind (n : Addr) : Blind P F (behindNumber n) := blind_then P F (blind_numberAt P F _) fun _ => trivial
theorem blind_asNumber (a : Addr) (b : Bool) : Blind P F (asNumber a b) := fun _ => trivial
theorem blind_noView (a : Addr) : Blind P F (noView a) := by
  unfold noView
  refine blind_then P F (blind_viewAt P F _) fun _ => ?_
  split <;> trivial
theorem blind_byteOf (a : Addr) : Blind P F (byteOf a) := by
  unfold byteOf
  split
  · trivial
  · refine blind_prog P F ?_ ?_
    · simp only [wf_cells, wf_bytes, wf_depth, wf_byteOfCell]
    · refine blind_then P F (blind_noView P F a) fun _ => blind_then P F (blind_shape P F _) fun _ => ?_
      split
      · dsimp only
        split
        · trivial
        · split <;> trivial
      · trivial
end
end Go.Proofs.Ytalpfcckdjipoaa
