/-
  The walks of the document's source: New, Next.
-/
import Derived.Test.YtdnhcpkpajbhoaaDrawWalks
import Derived.BigQuiet
namespace Go.Proofs.Ytdnhcpkpajbhoaa
open Go.RowKit
set_option linter.unusedVariables false
set_option linter.unusedSimpArgs false

/-- the document's source: its numbers M, how many were told, x -/
structure Rs (w : World) (R : Nat) (G : Option Nat) (M : List Int) (k : Nat) (x : Int) : Prop where
  lt : R < w.heap.size
  c0 : ∃ a cap, w.cell? ⟨R, 0, none⟩ = some (.slice a M.length cap) ∧ IRow w a cap G M
  c1 : w.cell? ⟨R, 1, none⟩ = some (.int .i64 k)
  c2 : w.cell? ⟨R, 2, none⟩ = some (.int .u64 x)
  f0 : w.frozen? ⟨R, 0, none⟩ = false
  f1 : w.frozen? ⟨R, 1, none⟩ = false
  f2 : w.frozen? ⟨R, 2, none⟩ = false
  ne : G ≠ some R
  le : k ≤ M.length
  lo : 0 ≤ x
  hi : x < 18446744073709551616
section
variable {w w' : World} {R k : Nat} {G : Option Nat} {M : List Int} {x : Int}
theorem Rs.kept {T : Nat → Prop} (h : Rs w R G M k x) (hk : Kept w w' T) (hC : ¬ T R) (hG : ∀ B, G = some B → ¬ T B) : Rs w' R G M k x := by
  obtain ⟨a, cap, h1, h2⟩ := h.c0
  exact ⟨Nat.lt_of_lt_of_le h.lt hk.size, ⟨a, cap, (hk.cell (p := ⟨R, 0, none⟩) h.lt hC).trans h1, h2.kept hk hG⟩, (hk.cell (p := ⟨R, 1, none⟩) h.lt hC).trans h.c1, (hk.cell (p := ⟨R, 2, none⟩) h.lt hC).trans h.c2,
    (hk.frozen (p := ⟨R, 0, none⟩) h.lt hC).trans h.f0, (hk.frozen (p := ⟨R, 1, none⟩) h.lt hC).trans h.f1, (hk.frozen (p := ⟨R, 2, none⟩) h.lt hC).trans h.f2, h.ne, h.le, h.lo, h.hi⟩
theorem Rs.below (h : Rs w R G M k x) (hb : Below w.heap.size w w') : Rs w' R G M k x :=
  h.kept (T := fun _ => False) (Kept.of_below hb (fun k hk h' => by omega)) (fun x => x) (fun _ _ x => x)
theorem Rs.setK {j : Nat} (h : Rs w R G M k x) (hj : j ≤ M.length) : Rs (w.setCell ⟨R, 1, none⟩ (.int .i64 j)) R G M j x ∧ Kept w (w.setCell ⟨R, 1, none⟩ (.int .i64 j)) (fun k => k = R) := by
  have hk : Kept w (w.setCell ⟨R, 1, none⟩ (.int .i64 j)) (fun k => k = R) := (Kept.refl w (fun k => k = R)).setCell (p := ⟨R, 1, none⟩) (fun _ => rfl) _
  obtain ⟨a, cap, h1, h2⟩ := h.c0
  refine ⟨⟨Nat.lt_of_lt_of_le h.lt hk.size, ⟨a, cap, ?_, h2.kept hk (fun B hB e => h.ne (by rw [hB, e]))⟩, ?_, ?_, ?_, ?_, ?_, h.ne, hj, h.lo, h.hi⟩, hk⟩
  · rw [World.cell?_setCell_other w _ _ _ (fun h => by injection h with _ h2; omega)]; exact h1
  · exact World.cell?_setCell_same' w ⟨R, 1, none⟩ _ (by rw [h.c1]; rfl)
  · rw [World.cell?_setCell_other w _ _ _ (fun h => by injection h with _ h2; omega)]; exact h.c2
  · rw [World.frozen?_setCell]; exact h.f0
  · rw [World.frozen?_setCell]; exact h.f1
  · rw [World.frozen?_setCell]; exact h.f2
theorem Rs.setX {y : Int} (h : Rs w R G M k x) (hl : 0 ≤ y) (hh : y < 18446744073709551616) : Rs (w.setCell ⟨R, 2, none⟩ (.int .u64 y)) R G M k y ∧ Kept w (w.setCell ⟨R, 2, none⟩ (.int .u64 y)) (fun k => k = R) := by
  have hk : Kept w (w.setCell ⟨R, 2, none⟩ (.int .u64 y)) (fun k => k = R) := (Kept.refl w (fun k => k = R)).setCell (p := ⟨R, 2, none⟩) (fun _ => rfl) _
  obtain ⟨a, cap, h1, h2⟩ := h.c0
  refine ⟨⟨Nat.lt_of_lt_of_le h.lt hk.size, ⟨a, cap, ?_, h2.kept hk (fun B hB e => h.ne (by rw [hB, e]))⟩, ?_, ?_, ?_, ?_, ?_, h.ne, h.le, hl, hh⟩, hk⟩
  · rw [World.cell?_setCell_other w _ _ _ (fun h => by injection h with _ h2; omega)]; exact h1
  · rw [World.cell?_setCell_other w _ _ _ (fun h => by injection h with _ h2; omega)]; exact h.c1
  · exact World.cell?_setCell_same' w ⟨R, 2, none⟩ _ (by rw [h.c2]; rfl)
  · rw [World.frozen?_setCell]; exact h.f0
  · rw [World.frozen?_setCell]; exact h.f1
  · rw [World.frozen?_setCell]; exact h.f2
/-- its numbers are laid down anew -/
theorem Rs.setM {wq : World} {G' : Option Nat} {M' : List Int} {a' : Option Addr} {cap' m : Nat} (h : Rs w R G M k x) (hm : m = M'.length) (hk : Kept w wq (fun k => G = some k)) (hS : IRow wq a' cap' G' M') (hG : ∀ B, G' = some B → G = some B ∨ w.heap.size ≤ B) (hs : k ≤ M'.length) :
    Rs (wq.setCell ⟨R, 0, none⟩ (.slice a' m cap')) R G' M' k x := by
  subst hm
  have hne : ¬ (G = some R) := h.ne
  have hne' : G' ≠ some R := fun e => by
    rcases hG R e with h' | h'
    · exact hne h'
    · have := h.lt; omega
  have hk1 : Kept wq (wq.setCell ⟨R, 0, none⟩ (.slice a' M'.length cap')) (fun k => k = R) := (Kept.refl wq (fun k => k = R)).setCell (p := ⟨R, 0, none⟩) (fun _ => rfl) _
  obtain ⟨a, cap, h1, h2⟩ := h.c0
  have hlt := h.lt
  refine ⟨by have := hk.size; have := hk1.size; omega, ⟨a', cap', ?_, hS.kept hk1 (fun B hB e => hne' (by rw [hB, e]))⟩, ?_, ?_, ?_, ?_, ?_, hne', hs, h.lo, h.hi⟩
  · exact World.cell?_setCell_same' wq ⟨R, 0, none⟩ _ (by rw [(hk.cell (p := ⟨R, 0, none⟩) hlt hne).trans h1]; rfl)
  · rw [World.cell?_setCell_other wq _ _ _ (fun h => by injection h with _ h2; omega)]; exact (hk.cell (p := ⟨R, 1, none⟩) hlt hne).trans h.c1
  · rw [World.cell?_setCell_other wq _ _ _ (fun h => by injection h with _ h2; omega)]; exact (hk.cell (p := ⟨R, 2, none⟩) hlt hne).trans h.c2
  · rw [World.frozen?_setCell]; exact (hk.frozen (p := ⟨R, 0, none⟩) hlt hne).trans h.f0
  · rw [World.frozen?_setCell]; exact (hk.frozen (p := ⟨R, 1, none⟩) hlt hne).trans h.f1
  · rw [World.frozen?_setCell]; exact (hk.frozen (p := ⟨R, 2, none⟩) hlt hne).trans h.f2
end
theorem new_rs (w : World) (T : TypeId) (x : Int) (hlo : 0 ≤ x) (hhi : x < 18446744073709551616) : Rs (w.alloc (.cells #[.slice none 0 0, .int .i64 0, .int .u64 x] T)) w.heap.size none [] 0 x :=
  ⟨by simp, ⟨none, 0, by simp, irow_nil _⟩, by simp, by simp, by simp, by simp, by simp, (fun e => by cases e), Nat.le_refl _, hlo, hhi⟩

theorem drewN_blw {B : Nat} {a b : World} (h : Below B a b) : ∀ n, Below B a (b.drewN n)
  | 0 => h
  | n + 1 => (drewN_blw h n).drew

/-- behind one number more -/
def RNxt (w w' : World) (R : Nat) (G : Option Nat) (M : List Int) (k : Nat) (x : Int) : Prop := Rs w' R G M (min (k + 1) M.length) (Dm.nX (M.drop k) x) ∧ Kept w w' (fun k => k = R)

theorem u64_step' (x : Int) : IntKind.u64.wrap (IntKind.u64.wrap (6364136223846793005 * x) + 1442695040888963407) = Dm.st x := by
  rw [Int.mul_comm]; exact u64_step x
theorem u64_out' (x : Int) (h0 : 0 ≤ x) (h1 : x < 18446744073709551616) : wrap64 (IntKind.u64.wrap (x.tdiv 281474976710656)) = Dm.ot x := by
  rw [Int.tdiv_eq_ediv_of_nonneg h0]
  have a := Dm.ot_lo x h0
  have b := Dm.ot_hi x h1
  have e : IntKind.u64.wrap (x / 281474976710656) = x / 281474976710656 := by
    show (x / 281474976710656) % 18446744073709551616 = x / 281474976710656
    omega
  rw [e]
  exact u64_out x h0 h1

set_option maxHeartbeats 1000000 in
theorem rsnext_told (R k : Nat) (G : Option Nat) (M : List Int) (x : Int) (w : World) (h : Rs w R G M k x) (hl : M.length ≤ 1000000) (hk : k < M.length) :
    Calls Try.prog 48 #[.pointer (some ⟨R, 0, none⟩)] w fun e w' => e = .returned (.int .i64 (M.getD k 0)) ∧ RNxt w w' R G M k x := by
  obtain ⟨a, cap, h1, h2⟩ := h.c0
  have hc1 := h.c1
  have hf1 := h.f1
  have hlt := h.lt
  have hcp := h2.le
  obtain ⟨g, rfl, rfl, hg, hcell, _⟩ := h2.nth k hk
  have hne : g ≠ R := fun e => h.ne (by rw [e])
  have HM : Hid (∀ k1 k2, RNxt w ((((w.drewN k1)).setCell ⟨R, 1, none⟩ (.int .i64 ((k : Int) + 1))).drewN k2) R (some g) M k x) := by
    intro k1 k2
    have hb := drewN_blw (Below.refl w.heap.size w) k1
    have h3 := (h.below hb).setK (j := k + 1) (by omega)
    have e : (((k + 1 : Nat) : Nat) : Int) = (k : Int) + 1 := by omega
    rw [e] at h3
    have hb2 := drewN_blw (Below.refl ((w.drewN k1).setCell ⟨R, 1, none⟩ (.int .i64 ((k : Int) + 1))).heap.size ((w.drewN k1).setCell ⟨R, 1, none⟩ (.int .i64 ((k : Int) + 1)))) k2
    have hk1 : Kept w (w.drewN k1) (fun k => k = R) := Kept.of_below hb (fun k hk h' => by omega)
    unfold RNxt
    rw [Nat.min_eq_left (by omega), Dm.drop_cons M k hk]
    exact ⟨h3.1.below hb2, (hk1.trans h3.2 (fun _ _ e => e)).trans (T' := fun _ => False) (Kept.of_below hb2 (fun k hk h' => by omega)) (fun _ _ e => e.elim)⟩
  obtain ⟨v, hv⟩ : ∃ v, v = M.getD k 0 := ⟨_, rfl⟩
  rw [← hv] at hcell ⊢
  obtain ⟨m, hm⟩ : ∃ m : Nat, m = M.length := ⟨_, rfl⟩
  rw [← hm] at h1 hl hk hcp
  clear h h2 hv hm
  go_enter Try.func48, Try.ntmps48
  go_wp2_with fail
  go_quiet (fail)
  go_wp2_with fail
  go_quiet (fail)
  go_wp2
  go_ret
  exact ⟨rfl, HM.out _ _⟩

set_option maxHeartbeats 1000000 in
theorem rsnext_step (R : Nat) (G : Option Nat) (M : List Int) (x : Int) (w : World) (h : Rs w R G M M.length x) (hl : M.length ≤ 1000000) :
    Calls Try.prog 48 #[.pointer (some ⟨R, 0, none⟩)] w fun e w' => e = .returned (.int .i64 (Dm.ot (Dm.st x))) ∧ RNxt w w' R G M M.length x := by
  obtain ⟨a, cap, h1, h2⟩ := h.c0
  have hc1 := h.c1
  have hc2 := h.c2
  have hf2 := h.f2
  have hlt := h.lt
  have hcp := h2.le
  have hlo := h.lo
  have hhi := h.hi
  have HE : Hid (IntKind.u64.wrap (IntKind.u64.wrap (6364136223846793005 * x) + 1442695040888963407) = Dm.st x ∧ wrap64 (IntKind.u64.wrap ((Dm.st x).tdiv 281474976710656)) = Dm.ot (Dm.st x)) := ⟨u64_step' x, u64_out' (Dm.st x) (Dm.st_lo x) (Dm.st_hi x)⟩
  have HM : Hid (∀ k1, RNxt w ((w.drewN k1).setCell ⟨R, 2, none⟩ (.int .u64 (Dm.st x))) R G M M.length x) := by
    intro k1
    have hb := drewN_blw (Below.refl w.heap.size w) k1
    have h3 := (h.below hb).setX (Dm.st_lo x) (Dm.st_hi x)
    have hk1 : Kept w (w.drewN k1) (fun k => k = R) := Kept.of_below hb (fun k hk h' => by omega)
    unfold RNxt
    rw [Nat.min_eq_right (by omega), List.drop_length]
    exact ⟨h3.1, hk1.trans h3.2 (fun _ _ e => e)⟩
  obtain ⟨m, hm⟩ : ∃ m : Nat, m = M.length := ⟨_, rfl⟩
  rw [← hm] at h1 hl hcp hc1
  clear h h2 hm
  go_enter Try.func48, Try.ntmps48
  go_wp2_with fail
  go_quiet (fail)
  go_wp2
  go_ret
  rw [HE.out.1, HE.out.2]
  exact ⟨rfl, HM.out _⟩

theorem rsnext_any (R k : Nat) (G : Option Nat) (M : List Int) (x : Int) (w : World) (h : Rs w R G M k x) (hl : M.length ≤ 1000000) :
    Calls Try.prog 48 #[.pointer (some ⟨R, 0, none⟩)] w fun e w' => e = .returned (.int .i64 (if k < M.length then M.getD k 0 else Dm.ot (Dm.st x))) ∧ RNxt w w' R G M k x := by
  by_cases hk : k < M.length
  · rw [if_pos hk]
    exact rsnext_told R k G M x w h hl hk
  · have e : k = M.length := by have := h.le; omega
    rw [if_neg hk]
    subst e
    exact rsnext_step R G M x w h hl

set_option maxHeartbeats 2000000 in
theorem rsnew_any (x : Int) (a : Option Addr) (len cap : Nat) (F : List Int) (w : World) (hr : Row .i64 w a len cap F) (hl : len ≤ 1000) (hlo : 0 ≤ x) (hhi : x < 18446744073709551616) :
    Calls Try.prog 12 #[.int .u64 x, .slice a len cap] w fun e w' => ∃ R H, e = .returned (.pointer (some ⟨R, 0, none⟩)) ∧ Rs w' R H (F.map Dm.md) 0 x ∧ Below w.heap.size w w' ∧ w.heap.size ≤ R ∧ ∀ B, H = some B → w.heap.size ≤ B ∧ B < w'.heap.size := by
  obtain ⟨W1, hW1⟩ : ∃ W1, W1 = w.alloc (.cells #[.slice none 0 0, .int .i64 0, .int .u64 x] 70) := ⟨_, rfl⟩
  have HB1 : Hid (Below w.heap.size w W1) := by rw [hW1]; exact (Below.refl _ _).alloc (Nat.le_refl _) _
  have HR1 : Hid (Rs W1 w.heap.size none [] 0 x) := by rw [hW1]; exact new_rs w _ x hlo hhi
  obtain ⟨R, hR⟩ : ∃ R, R = w.heap.size := ⟨_, rfl⟩
  have HRe : Hid (R = w.heap.size) := hR
  have HW : Hid (∀ n ∈ F, In64 n) := by
    obtain ⟨_, _, _, hw, _⟩ := row_lies hr
    exact hw
  have HRow : Hid (Row .i64 w a len cap F) := hr
  have hlc := hr.2.1
  have hcm := hr.2.2.1
  unfold maxLen at hcm
  rw [← hR] at HR1
  clear hr hlo hhi
  go_enter Try.func12, Try.ntmps12
  go_wp2
  rw [← hW1, ← hR]
  clear hR hW1
  go_loopw [6] (fun c wr => ∃ (k : Nat) (G : Option Nat), k ≤ len ∧ c = .int .i64 k ∧ Hid (Rs wr R G ((F.map Dm.md).take k) 0 x) ∧ Hid (Below w.heap.size w wr) ∧ Hid (∀ B, G = some B → w.heap.size ≤ B ∧ B < wr.heap.size)) (fun c _ => len - (intOf c).toNat)
  case atStart => exact ⟨0, none, Nat.zero_le _, rfl, HR1, HB1, fun B hB => by cases hB⟩
  case round =>
    obtain ⟨k, G, hk, rfl, HS, HB, HG⟩ := hrel
    have hFl : Hid (F.length = len) := HRow.out.1
    obtain ⟨ao, co, hc0, hI⟩ := HS.out.c0
    have hML : ((F.map Dm.md).take k).length = k := by rw [List.length_take, List.length_map, hFl.out]; omega
    rw [hML] at hc0
    have hRl := HS.out.lt
    have hf0 := HS.out.f0
    have HI : Hid (IRow wr ao co G ((F.map Dm.md).take k)) := hI
    have HML : Hid (((F.map Dm.md).take k).length = k) := hML
    clear hI hML HR1 HB1
    by_cases hlt : k < len
    · rcases HRow.out.2.2.2.2 with ⟨_, h0, _⟩ | ⟨_, h0⟩ | ⟨b, off, rfl, h0, hbl, hbc⟩
      · omega
      · omega
      have hcell := (HB.out.cell (p := ⟨b, off + k, none⟩) hbl).trans (hbc k hlt)
      have hbl2 : b < wr.heap.size := Nat.lt_of_lt_of_le hbl HB.out.size
      obtain ⟨v, hv⟩ : ∃ v, v = F.getD k 0 := ⟨_, rfl⟩
      rw [← hv] at hcell
      have hlo := Dm.tmod_lo v
      have hhi := Dm.tmod_hi v
      have hvw : -9223372036854775808 ≤ v ∧ v ≤ 9223372036854775807 := HW.out v (by
        rw [hv]
        have h5 : k < F.length := by rw [hFl.out]; exact hlt
        simp [List.getD, List.getElem?_eq_getElem h5])
      obtain ⟨t, ht⟩ : ∃ t, t = Dm.md v := ⟨_, rfl⟩
      have ht0 : 0 ≤ t := by rw [ht]; exact Dm.md_lo v
      have ht1 : t ≤ 65535 := by rw [ht]; exact Dm.md_hi v
      have HTk : Hid ((F.map Dm.md).take (k + 1) = (F.map Dm.md).take k ++ [t]) := by
        show _ = _
        have h5 : k < (F.map Dm.md).length := by rw [List.length_map, hFl.out]; exact hlt
        rw [List.take_succ_eq_append_getElem h5]
        congr 2
        rw [ht, hv]
        have h6 : k < F.length := by rw [hFl.out]; exact hlt
        simp [List.getD, List.getElem?_eq_getElem h6]
      obtain ⟨W1, hW1⟩ : ∃ W1, W1 = wr.alloc (.cells #[.int .i64 t] 3) := ⟨_, rfl⟩
      have hb1 : Below wr.heap.size wr W1 := by rw [hW1]; exact (Below.refl _ _).alloc (Nat.le_refl _) _
      obtain ⟨K, hK⟩ : ∃ K, K = (F.map Dm.md).take k := ⟨_, rfl⟩
      rw [← hK] at HTk HI HML HS
      have hS1 : Hid (IRow W1 ao co G K) := HI.out.below hb1
      have HS1 : Hid (Rs W1 R G K 0 x) := HS.out.below hb1
      have hnc : Hid (W1.cell? ⟨wr.heap.size, 0, none⟩ = some (.int .i64 t)) := by rw [hW1]; show _ = _; simp
      have HB1 : Hid (Below w.heap.size w W1) := HB.out.trans (hb1.mono HB.out.size)
      clear hbl hbc hv hb1 HI hK
      have hcase : (v.tmod 65536 < 0 ∧ v.tmod 65536 + 65536 = t) ∨ (0 ≤ v.tmod 65536 ∧ v.tmod 65536 = t) := by
        rw [ht]
        by_cases hn : v.tmod 65536 < 0
        · exact Or.inl ⟨hn, Dm.md_neg v hn⟩
        · exact Or.inr ⟨by omega, Dm.md_pos v hn⟩
      clear ht
      rcases hcase with ⟨hn, ht⟩ | ⟨hn, ht⟩
      all_goals
        go_wp2_with (at_builtin; rw [← hW1]; refine append_irow rfl _ _ rfl ao co G K t wr.heap.size 1 (by rw [HML.out]; rfl) hS1.out rfl hnc.out (by rw [HML.out]; omega) ?_)
        intro a2 cap2 G2 w2 hS2 hK2 hG2
        rw [HML.out]
        rw [← hW1] at hK2
        have hz : W1.heap.size = wr.heap.size + 1 := by rw [hW1]; simp
        rw [← hz] at hG2
        have hne : ¬ (G = some R) := HS.out.ne
        have v0 : w2.cell? ⟨R, 0, none⟩ = some (.slice ao k co) := by
          refine (hK2.cell (p := ⟨R, 0, none⟩) HS1.out.lt hne).trans ?_
          rw [hW1]; exact (((Below.refl _ _).alloc (Nat.le_refl _) _).cell (p := ⟨R, 0, none⟩) hRl).trans hc0
        have vf : w2.frozen? ⟨R, 0, none⟩ = false := (hK2.frozen (p := ⟨R, 0, none⟩) HS1.out.lt hne).trans HS1.out.f0
        have vlt : R < w2.heap.size := Nat.lt_of_lt_of_le HS1.out.lt hK2.size
        have HM : Hid (Rs (w2.setCell ⟨R, 0, none⟩ (.slice a2 (k + 1) cap2)) R G2 ((F.map Dm.md).take (k + 1)) 0 x) := by
          rw [HTk.out]
          exact HS1.out.setM (by rw [List.length_append, HML.out]; rfl) hK2 hS2 hG2 (Nat.zero_le _)
        have hks : Kept w2 (w2.setCell ⟨R, 0, none⟩ (.slice a2 (k + 1) cap2)) (fun j => j = R) := (Kept.refl w2 (fun j => j = R)).setCell (p := ⟨R, 0, none⟩) (fun _ => rfl) _
        have hb2 : Below w.heap.size w w2 := HB1.out.trans (hK2.below HB1.out.size (fun j hj => (HG.out j hj).1))
        have HBn : Hid (Below w.heap.size w (w2.setCell ⟨R, 0, none⟩ (.slice a2 (k + 1) cap2))) := hb2.trans (hks.below hb2.size (fun j hj => by rw [hj, HRe.out]; exact Nat.le_refl _))
        have HGn : Hid (∀ B, G2 = some B → w.heap.size ≤ B ∧ B < (w2.setCell ⟨R, 0, none⟩ (.slice a2 (k + 1) cap2)).heap.size) := by
          intro B hB
          have h7 := hks.size
          have h8 := hS2.lt hB
          refine ⟨?_, by omega⟩
          rcases hG2 B hB with h' | h'
          · exact (HG.out B h').1
          · have := HB1.out.size; omega
        clear hK2 hS2 hG2 hne hz HS1 hS1 hnc hc0 hW1 hks hb2 HS HB HG HB1
        go_wp2
        go_roundw
        case rel => exact ⟨k + 1, G2, by omega, by go_num, HM, HBn, HGn⟩
        case measure => simp [intOf]; omega
    · have hke : k = len := by omega
      subst hke
      have hT : (F.map Dm.md).take k = F.map Dm.md := List.take_of_length_le (by rw [List.length_map, hFl.out]; exact Nat.le_refl _)
      rw [hT] at HS
      clear hT HI hc0 hf0
      go_wp2
      go_ret
      exact ⟨R, G, rfl, HS.out, HB.out, by rw [HRe.out]; exact Nat.le_refl _, HG.out⟩
end Go.Proofs.Ytdnhcpkpajbhoaa
