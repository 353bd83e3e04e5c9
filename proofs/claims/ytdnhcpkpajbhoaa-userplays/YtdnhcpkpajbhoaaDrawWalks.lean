/-
  The walks of package draw: New, Next, Left, and those of a nil source.
-/
import Derived.Test.YtdnhcpkpajbhoaaDrawRow
import Derived.BigQuiet
namespace Go.Proofs.Ytdnhcpkpajbhoaa
open Go.RowKit
set_option linter.unusedVariables false
set_option linter.unusedSimpArgs false

theorem dnil_eq (w : World) (n c : Nat) : (binOp .eql 65 (.slice none n c) (.slice none 0 0)).run Try.prog w = .ok (.bool true) w := by kernel_rfl
theorem dsome_eq (w : World) (x : Addr) (n c : Nat) : (binOp .eql 65 (.slice (some x) n c) (.slice none 0 0)).run Try.prog w = .ok (.bool false) w := by kernel_rfl

set_option maxHeartbeats 1000000 in
theorem dclone_any (a : Option Addr) (cap : Nat) (G : Option Nat) (L : List Int) (w : World) (h : Lies w a G L) (hn : a = none → L = [] ∧ cap = 0) (hl : L.length ≤ 1000000) :
    Calls Try.prog 24 #[.slice a L.length cap] w fun e w' => ∃ v, e = .returned v ∧ w'.ownsRow w.heap.size 3 1 v L.length (L.map (Value.int .i64)) ∧ Below w.heap.size w w' := by
  obtain ⟨i0, hi, hz0, hz1, hz2⟩ := info_parts int_info
  cases a with
  | none =>
    obtain ⟨rfl, rfl⟩ := hn rfl
    clear h hl hn
    have hq := dnil_eq
    go_enter Try.func24, Try.ntmps24
    go_wp2
    go_ret
    exact ⟨_, rfl, World.ownsRow_nil _ _ _ _, Below.refl _ _⟩
  | some p =>
    have hq := dsome_eq
    have HC : Hid (∀ (j : Nat) (u : Value), (L.map (Value.int .i64))[j]? = some u → (w.alloc (.cells #[] 3)).cell? (p.add j) = some u) := by
      intro j u hj
      obtain ⟨h3, rfl⟩ := ints_at L j u hj
      rcases h with rfl | ⟨g, off, e, _, hlt, hc⟩
      · simp at h3
      · injection e with e
        subst e
        rw [Addr.add_lit]
        exact (((Below.refl _ _).alloc (Nat.le_refl w.heap.size) _).cell (p := ⟨g, off + j, none⟩) hlt).trans (hc j h3)
    have HL : Hid ((L.map (Value.int .i64)).length = L.length * 1) := by show _ = _; simp
    have HO : Hid (∀ u ∈ L.map (Value.int .i64), u.oneCell' = true) := ints_one L
    obtain ⟨n, hn'⟩ : ∃ n : Nat, n = L.length := ⟨_, rfl⟩
    obtain ⟨vs, hvs⟩ : ∃ vs, vs = L.map (Value.int .i64) := ⟨_, rfl⟩
    rw [← hvs] at HC HL HO
    rw [← hn'] at hl HL
    rw [← hvs, ← hn']
    clear h hvs hn' hn
    go_enter Try.func24, Try.ntmps24
    go_wp2_with (at_builtin; refine wpList_append_own _ rfl _ _ 65 rfl w.heap.size 3 i0 (.int .i64 0) 1 8 Try.underlying65 hi hz0 hz1 hz2 rfl (by decide) _ _ _ rfl (World.ownsRow_made w #[] 0 (Nat.le_refl _) (Nat.zero_le _) rfl) p n cap vs rfl HL.out HC.out HO.out ?qc4 ?qc5 ?qc6 ?_)
    case qc4 => unfold maxLen; omega
    case qc5 => omega
    case qc6 => simp
    intro v' w1 hown hgrow hnil
    have HW : Hid (w1.ownsRow w.heap.size 3 1 v' n vs ∧ Below w.heap.size w w1) := by
      refine ⟨by simpa using hown, ?_⟩
      exact ((Below.refl _ w).alloc (Nat.le_refl _) _).grown hgrow (by simp) (by intro k hk; simp [Value.ownBlock] at hk; omega)
    clear hown hgrow hnil HC HL HO
    go_wp2
    go_ret
    exact ⟨v', rfl, HW.out.1, HW.out.2⟩

theorem new_src {w : World} {T : TypeId} {a : Option Addr} {cap : Nat} {G : Option Nat} {L : List Int} {x : Int} (h : IRow w a cap G L) (hw : ∀ n ∈ L, In64 n) (hlo : 0 ≤ x) (hhi : x < 18446744073709551616) : Src (w.alloc (.cells #[.slice a L.length cap, .int .u64 x] T)) w.heap.size G L x :=
  ⟨by simp, ⟨a, cap, by simp, h.le, h.mx, (h.below ((Below.refl _ _).alloc (Nat.le_refl _) _)).lies⟩, by simp, by simp, by simp, fun e => by have := h.lt e; omega, hw, hlo, hhi⟩

set_option maxHeartbeats 1000000 in
theorem dnew_any (x : Int) (a : Option Addr) (cap : Nat) (G : Option Nat) (L : List Int) (w : World) (h : Lies w a G L) (hn : a = none → L = [] ∧ cap = 0) (hl : L.length ≤ 1000000) (hw : ∀ n ∈ L, In64 n) (hlo : 0 ≤ x) (hhi : x < 18446744073709551616) :
    Calls Try.prog 10 #[.int .u64 x, .slice a L.length cap] w fun e w' => ∃ C H, e = .returned (.pointer (some ⟨C, 0, none⟩)) ∧ Src w' C H L x ∧ Below w.heap.size w w' ∧ w.heap.size ≤ C ∧ ∀ B, H = some B → w.heap.size ≤ B ∧ B < w'.heap.size := by
  have HC := dclone_any a cap G L w h hn hl
  have HX : Hid ((∀ n ∈ L, In64 n) ∧ 0 ≤ x ∧ x < 18446744073709551616) := ⟨hw, hlo, hhi⟩
  clear h hn hw hlo hhi
  go_enter Try.func10, Try.ntmps10
  go_wp2_with fail
  refine HC.mono ?_
  rintro e w1 ⟨v, rfl, ho, hb⟩
  obtain ⟨a1, cap1, G1, rfl, hR, hG⟩ := own_irow rfl ho
  have HR : Hid (IRow w1 a1 cap1 G1 L ∧ (∀ B, G1 = some B → w.heap.size ≤ B ∧ B < w1.heap.size) ∧ Below w.heap.size w w1) := ⟨hR, hG, hb⟩
  clear HC ho hb hR hG
  go_wp2
  go_ret
  exact ⟨_, G1, rfl, new_src HR.out.1 HX.out.1 HX.out.2.1 HX.out.2.2, HR.out.2.2.trans ((Below.refl _ _).alloc (Nat.le_refl _) _ |>.mono HR.out.2.2.size), HR.out.2.2.size, fun B hB => ⟨(HR.out.2.1 B hB).1, by have := (HR.out.2.1 B hB).2; simp; omega⟩⟩

set_option maxHeartbeats 400000 in
theorem dmodulo_any (n : Int) (w : World) (h : In64 n) :
    Calls Try.prog 51 #[.int .i64 n] w fun e w' => e = .returned (.int .i64 (Dm.md n)) ∧ w = w' := by
  obtain ⟨h0, h1⟩ := h
  have hlo := Dm.tmod_lo n
  have hhi := Dm.tmod_hi n
  have HM : Hid ((n.tmod 65536 + 65536) % 65536 = Dm.md n) := Dm.modulo n
  go_enter Try.func51, Try.ntmps51
  go_wp2
  go_ret
  exact ⟨ret_int HM.out, rfl⟩

/-- what a source tells next, and what it is then: its own block alone is turned -/
def Nxt (w w' : World) (C : Nat) (G : Option Nat) (L : List Int) (x : Int) : Prop := Src w' C G L.tail (Dm.nX L x) ∧ Kept w w' (fun k => k = C)

theorem u64_step (x : Int) : IntKind.u64.wrap (IntKind.u64.wrap (x * 6364136223846793005) + 1442695040888963407) = Dm.st x := by
  rw [← Dm.step_eq]
  rfl
theorem u64_out (x : Int) (h0 : 0 ≤ x) (h1 : x < 18446744073709551616) : wrap64 (x / 281474976710656) = Dm.ot x := by
  have a := Dm.ot_lo x h0
  have b := Dm.ot_hi x h1
  unfold Dm.ot at *
  unfold wrap64
  omega

set_option maxHeartbeats 1000000 in
theorem dstep_any (C : Nat) (G : Option Nat) (x : Int) (w : World) (h : Src w C G [] x) :
    Calls Try.prog 41 #[.pointer (some ⟨C, 0, none⟩)] w fun e w' => e = .returned (.int .i64 (Dm.nx [] x)) ∧ Nxt w w' C G [] x := by
  have HS : Hid (Src (w.setCell ⟨C, 1, none⟩ (.int .u64 (Dm.st x))) C G [] (Dm.st x) ∧ Kept w (w.setCell ⟨C, 1, none⟩ (.int .u64 (Dm.st x))) (fun k => k = C)) := h.setX (Dm.st_lo x) (Dm.st_hi x)
  have HE : Hid (IntKind.u64.wrap (IntKind.u64.wrap (x * 6364136223846793005) + 1442695040888963407) = Dm.st x ∧ wrap64 (Dm.st x / 281474976710656) = Dm.nx [] x) := ⟨u64_step x, u64_out (Dm.st x) (Dm.st_lo x) (Dm.st_hi x)⟩
  have hlt := h.lt
  have hc1 := h.c1
  have hf1 := h.f1
  have hlo := h.lo
  have hhi := h.hi
  clear h
  go_enter Try.func41, Try.ntmps41
  go_wp2
  go_ret
  rw [HE.out.1, HE.out.2]
  exact ⟨rfl, HS.out⟩

set_option maxHeartbeats 1000000 in
theorem dtell_any (C : Nat) (G : Option Nat) (n : Int) (r : List Int) (x : Int) (w : World) (h : Src w C G (n :: r) x) :
    Calls Try.prog 40 #[.pointer (some ⟨C, 0, none⟩)] w fun e w' => e = .returned (.int .i64 (Dm.nx (n :: r) x)) ∧ Nxt w w' C G (n :: r) x := by
  obtain ⟨a, cap, h1, h2, h3, h4⟩ := h.c0
  rcases h4 with h4 | ⟨g, off, rfl, rfl, hg, hc⟩
  · cases h4
  have hlt := h.lt
  have hf0 := h.f0
  have hc0 := hc 0 (by simp)
  rw [show (n :: r).getD 0 0 = n from rfl, Nat.add_zero] at hc0
  have hne : g ≠ C := fun e => h.ne (by rw [e])
  have HQ : Hid (∀ y : Nat, (0 < r.length → y = off + 1) → Src (w.setCell ⟨C, 0, none⟩ (.slice (some ⟨g, y, none⟩) r.length (cap - 1))) C (some g) r x ∧ Kept w (w.setCell ⟨C, 0, none⟩ (.slice (some ⟨g, y, none⟩) r.length (cap - 1))) (fun k => k = C)) := by
    intro y hy
    refine h.setL (M := r) rfl (by simp at h2; omega) (by omega) ?_ (fun m hm => h.wf m (by simp [hm]))
    by_cases h0 : r = []
    · exact Or.inl h0
    · have h0' : 0 < r.length := List.length_pos_iff.2 h0
      rw [hy h0']
      refine Or.inr ⟨g, off + 1, rfl, rfl, hg, fun i hi => ?_⟩
      have := hc (i + 1) (by simp; omega)
      rw [show off + 1 + i = off + (i + 1) by omega, this]
      simp [List.getD]
  have HM := fun w' => dmodulo_any n w' (h.wf n (by simp))
  rw [show (n :: r).length = r.length + 1 by simp] at h1 h2
  unfold maxLen at h3
  obtain ⟨m, hm⟩ : ∃ m : Nat, m = r.length := ⟨_, rfl⟩
  rw [← hm] at HQ h1 h2
  clear h hc hm
  go_enter Try.func40, Try.ntmps40
  go_wp2_with fail
  · have H3 := HQ.out off (fun h => by omega)
    rw [show cap - 1 = 0 by omega] at H3
    have H4 : Hid (Nxt w _ C (some g) (n :: r) x) := H3
    clear H3 HQ
    refine (HM _).mono ?_
    rintro e w1 ⟨rfl, rfl⟩
    clear HM h1 hc0
    go_wp2
    go_ret
    exact ⟨rfl, H4.out⟩
  · have H4 : Hid (Nxt w _ C (some g) (n :: r) x) := HQ.out (off + 1) (fun h => rfl)
    clear HQ
    refine (HM _).mono ?_
    rintro e w1 ⟨rfl, rfl⟩
    clear HM h1 hc0
    go_wp2
    go_ret
    exact ⟨rfl, H4.out⟩

set_option maxHeartbeats 1000000 in
theorem dnext_any (C : Nat) (G : Option Nat) (L : List Int) (x : Int) (w : World) (h : Src w C G L x) :
    Calls Try.prog 23 #[.pointer (some ⟨C, 0, none⟩)] w fun e w' => e = .returned (.int .i64 (Dm.nx L x)) ∧ Nxt w w' C G L x := by
  obtain ⟨a, cap, h1, h2, h3, h4⟩ := h.c0
  have hlt := h.lt
  cases L with
  | nil =>
    have HC := dstep_any C G x w h
    have h1' : w.cell? ⟨C, 0, none⟩ = some (.slice a 0 cap) := h1
    clear h h1 h2 h4
    go_enter Try.func23, Try.ntmps23
    go_wp2_with fail
    refine HC.mono ?_
    rintro e w1 ⟨rfl, hN⟩
    have HN : Hid (Nxt w w1 C G [] x) := hN
    clear HC hN h1'
    go_wp2
    go_ret
    exact ⟨rfl, HN.out⟩
  | cons n r =>
    have HC := dtell_any C G n r x w h
    have h1' : w.cell? ⟨C, 0, none⟩ = some (.slice a (r.length + 1) cap) := h1
    unfold maxLen at h3
    have hb : r.length + 1 ≤ cap := h2
    clear h h1 h2 h4
    generalize r.length = m at h1' hb
    go_enter Try.func23, Try.ntmps23
    go_wp2_with fail
    refine HC.mono ?_
    rintro e w1 ⟨rfl, hN⟩
    have HN : Hid (Nxt w w1 C G (n :: r) x) := hN
    clear HC hN h1'
    go_wp2
    go_ret
    exact ⟨rfl, HN.out⟩

/-! ### a nil source -/
set_option maxHeartbeats 400000 in
theorem dnext_nil (w : World) : Calls Try.prog 23 #[.pointer none] w fun e w' => e = .returned (.int .i64 0) ∧ w = w' := by
  go_enter Try.func23, Try.ntmps23
  go_wp2
  go_ret
  exact ⟨rfl, rfl⟩
end Go.Proofs.Ytdnhcpkpajbhoaa
