/-
  The source's method Checks: the checks under way, in rising order of their TEIs.
-/
import Derived.Test.YtdnhcpkpajbhoabSrcChks
namespace Go.Proofs.Ytdnhcpkpajbhoab
open Go.RowKit Go.Maps Go.Sort Go.Shelf
set_option linter.unusedVariables false
set_option linter.unusedSimpArgs false
set_option maxRecDepth 100000

theorem row_low {w : World} {b base : Nat} {ty : TypeId} {sz n : Nat} {v : Value} {xs : List Value} (h : w.ownsRow base ty sz v n xs) (hb : b ≤ base) : w.ownsRow b ty sz v n xs := by
  refine ⟨h.1, ?_⟩
  rcases h.2 with h' | ⟨g, cap, cur, rfl, hg, r⟩
  · exact Or.inl h'
  · exact Or.inr ⟨g, cap, cur, rfl, Nat.le_trans hb hg, r⟩
theorem row_blt {w : World} {base : Nat} {ty : TypeId} {sz n : Nat} {v : Value} {xs : List Value} {B : Nat} (h : w.ownsRow base ty sz v n xs) (hB : v.ownBlock = some B) : B < w.heap.size := by
  rcases h.2 with ⟨rfl, _⟩ | ⟨g, cap, cur, rfl, hb, hgg, _⟩
  · cases hB
  · have : g = B := by simpa [Value.ownBlock] using hB
    subst this
    exact (Array.getElem?_eq_some_iff.1 hgg).1
/-- while they are told: the row of keys, and what is told, apart -/
structure CkAt (w wr : World) (s : Zm.St) (a : Option Addr) (cap : Nat) (L : List Int) (v : Value) (i : Nat) : Prop where
  bel : Below w.heap.size w wr
  row : wr.ownsRow w.heap.size 3 1 (.slice a L.length cap) L.length (L.map encZ)
  out : CkO w.heap.size wr v ((L.take i).map (Zm.ckOf s))
  ne : ∀ B, v.ownBlock = some B → (Value.slice a L.length cap).ownBlock ≠ some B
theorem CkAt.step {w wr W w4 : World} {s : Zm.St} {a : Option Addr} {cap : Nat} {L : List Int} {v v' : Value} {i : Nat} {t : Int} (h : CkAt w wr s a cap L v i) (hi : i < L.length) (ht : L.getD i 0 = t) (hW : Below wr.heap.size wr W) (hlt : wr.heap.size < W.heap.size)
    (ho : CkO w.heap.size w4 v' ((L.take i).map (Zm.ckOf s) ++ [Zm.ckOf s t])) (hg : W.grownBy w4 v.ownBlock) (hat : v'.ownBlock = v.ownBlock ∨ v'.ownBlock = some W.heap.size) : CkAt w w4 s a cap L v' (i + 1) := by
  have hk : Kept W w4 (fun k => v.ownBlock = some k) := Kept.of_grown hg (fun k x => x)
  have hbW : Below w.heap.size w W := h.bel.trans (hW.mono h.bel.size)
  have hrW := (Kept.of_below (T := fun _ => False) hW (fun k hk h' => by omega)).owns h.row (fun _ _ x => x)
  have hv : ∀ B, v.ownBlock = some B → w.heap.size ≤ B := fun B hB => by
    rcases h.out.2 with ⟨h0, _⟩ | ⟨g, c, cur, hv, hx, _⟩
    · rw [h0] at hB; cases hB
    · rw [hv] at hB
      have : g = B := by simpa [Value.ownBlock] using hB
      omega
  refine ⟨hbW.trans (hk.below hbW.size (fun k hx => hv k hx)), hk.owns hrW (fun B hB hx => h.ne B hx hB), ?_, fun B hB hx => ?_⟩
  · have e : L.take (i + 1) = L.take i ++ [t] := by
      rw [List.take_add_one, List.getElem?_eq_getElem hi]
      have : L.getD i 0 = L[i] := by simp [List.getD, List.getElem?_eq_getElem hi]
      rw [← ht, this]
      rfl
    rw [e, List.map_append]
    exact ho
  · rcases hat with h' | h'
    · exact h.ne B (h'.symm.trans hB) hx
    · have h1 : B = W.heap.size := Option.some.inj (hB.symm.trans h')
      have := row_blt hrW hx
      omega
set_option maxHeartbeats 2000000 in
theorem schecks_any (C P M : Nat) (s : Zm.St) (w : World) (h : Sr w C P M s) :
    Calls Try.prog 13 #[.pointer (some ⟨C, 0, none⟩)] w fun r w' => ∃ v, r = .returned v ∧ CkO w.heap.size w' v (Zm.cks s) ∧ Below w.heap.size w w' := by
  have HM := smade_any C P M s w h
  have HS : Hid (∀ w', Below w.heap.size w w' → Sr w' C P M s) := fun w' hb => h.below hb
  obtain ⟨D, hoD, hR⟩ := h.ch
  have hsz : Maps.size D ≤ 63 := by rw [hR.size]; exact Pm.ct_le _ _
  have HK := keys_calls (some M) w
  have HSo := sorted_calls M 63 D chElem w hoD (by unfold maxLen; omega) (by omega)
  obtain ⟨kp, ke⟩ := keys_ls hoD hR
  have HKE : Hid ((Pm.ls (Zm.ua s) 63).Perm (intKeys D) ∧ (intKeys D).mergeSort (fun x y => decide (x ≤ y)) = Pm.ls (Zm.ua s) 63) := ⟨kp, ke⟩
  have c1 := h.c1
  have hlt := h.lt
  clear h kp ke hsz hoD hR
  go_enter Try.func13, Try.ntmps13
  go_wp2_with fail
  refine HM.mono ?_
  rintro r w1 ⟨rfl, rfl⟩
  clear HM
  go_wp2_with fail
  refine HK.mono ?_
  rintro r w1 ⟨rfl, rfl⟩
  go_wp2_with fail
  refine HSo.mono ?_
  rintro r w2 ⟨v, ss, rfl, hp, hrow, hnil, hb⟩
  have hms : ss.mergeSort (fun x y => decide (x ≤ y)) = Pm.ls (Zm.ua s) 63 := (mergeSort_of_perm_i hp).trans HKE.out.2
  have hlen : ss.length = (Pm.ls (Zm.ua s) 63).length := (hp.trans HKE.out.1.symm).length_eq
  rw [hms, hlen] at hrow
  have hbw : Below w.heap.size w w2 := ((Below.refl _ w).alloc (Nat.le_refl _) _).trans (hb.mono (by simp))
  have hrow2 := row_low (b := w.heap.size) hrow (by simp)
  obtain ⟨a, cap, rfl⟩ : ∃ a cap, v = .slice a (Pm.ls (Zm.ua s) 63).length cap := by
    rcases hrow2.2 with ⟨rfl, h0⟩ | ⟨g, cap, cur, rfl, _⟩
    · exact ⟨none, 0, by rw [h0]⟩
    · exact ⟨_, cap, rfl⟩
  have HCK : Hid (Zm.cks s = (Pm.ls (Zm.ua s) 63).map (Zm.ckOf s)) := rfl
  have HRL : Hid ((Pm.ls (Zm.ua s) 63).length ≤ 63 ∧ ∀ t ∈ Pm.ls (Zm.ua s) 63, ∃ p : Nat, p < 63 ∧ Zm.ua s p = true ∧ t = 64 + (p : Int)) := ⟨Pm.ct_le _ _, fun t ht => (Zm.ls_mem _ 63 t).1 ht⟩
  generalize Pm.ls (Zm.ua s) 63 = L at hrow2 HCK HRL
  have HA : Hid (CkAt w w2 s a cap L (.slice none 0 0) 0) := ⟨hbw, hrow2, cko_nil _ _, fun B hB => by cases hB⟩
  clear hms hlen hrow hbw hrow2 hp hnil hb HKE HSo HK c1 hlt
  obtain ⟨n, hn⟩ : ∃ n, n = L.length := ⟨_, rfl⟩
  rw [← hn]
  have HN : Hid (n = L.length) := hn
  have hn63 : n ≤ 63 := by rw [hn]; exact HRL.out.1
  clear hn
  go_wp2
  go_loopw [3, 16] (fun vs c wr => ∃ (i : Nat) (v : Value), v = vs ∧ i ≤ n ∧ c = .int .i64 i ∧ Hid (CkAt w wr s a cap L v i)) (fun _ c _ => n - (intOf c).toNat)
  case atStart => exact ⟨0, _, rfl, Nat.zero_le _, rfl, HA⟩
  case round =>
    obtain ⟨i, v, rfl, hin, rfl, HR⟩ := hrel
    clear HA
    by_cases hlt2 : i < n
    · have hiL : i < L.length := by rw [← HN.out]; exact hlt2
      obtain ⟨p, hp, hf, he⟩ := HRL.out.2 (L.getD i 0) (by rw [List.getD, List.getElem?_eq_getElem hiL]; exact List.getElem_mem _)
      obtain ⟨g, c, hv, _, hg⟩ := World.ownsRow.form HR.out.row (by omega)
      injection hv with e1 _ e2
      subst e1 e2
      have hcl := World.ownsRow.cellAt HR.out.row i (by omega)
      have hx : wr.cell? ⟨g, i, none⟩ = some (.int .i64 (64 + (p : Int))) := by
        refine hcl.trans ?_
        rw [List.getElem?_map, List.getElem?_eq_getElem hiL, ← he]
        simp [List.getD, List.getElem?_eq_getElem hiL, encZ]
      have hcp : L.length ≤ cap := by
        rcases HR.out.row.2 with ⟨h1, h2⟩ | ⟨g', c', cur, hv, _, _, hle, _⟩
        · omega
        · injection hv with _ _ e
          omega
      rw [← HN.out] at hcp
      have hS := HS.out wr HR.out.bel
      have c1 := hS.c1
      have hlC := hS.lt
      have hlk := hS.ch.look1 (in_place p hp)
      have hck : chkV s (64 + (p : Int)) = .agg #[.int .i64 (64 + (p : Int)), .int .i64 (s.a p), .int .i64 (s.n p)] := by
        have ha : 0 < s.a p := by simpa [Zm.ua] using hf
        unfold chkV
        rw [if_pos (by rw [Zm.under_of s p hp]; simpa using ha), (Pm.au_of p hp).2]
        rfl
      rw [hck] at hlk
      have HT : Hid (L.getD i 0 = 64 + (p : Int) ∧ Zm.ckOf s (64 + (p : Int)) = ⟨64 + (p : Int), (s.a p : Int), (s.n p : Int)⟩) := ⟨he, by unfold Zm.ckOf; rw [(Pm.au_of p hp).2]⟩
      clear hS hcl hck he
      obtain ⟨t, ht⟩ : ∃ t : Int, t = 64 + (p : Int) := ⟨_, rfl⟩
      rw [← ht] at hx hlk HT
      clear ht hp hf
      generalize s.a p = na at hlk HT
      generalize s.n p = nb at hlk HT
      obtain ⟨W2, hW2⟩ : ∃ W2, W2 = wr.alloc (.cells #[.int .i64 t, .int .i64 na, .int .i64 nb] 44) := ⟨_, rfl⟩
      have HBW : Hid (Below wr.heap.size wr W2 ∧ wr.heap.size < W2.heap.size) := by show _ ∧ _; rw [hW2]; exact ⟨(Below.refl _ _).alloc (Nat.le_refl _) _, by simp⟩
      have HO1 : Hid (CkO w.heap.size W2 v ((L.take i).map (Zm.ckOf s))) := HR.out.out.bel HBW.out.1
      have HO2 : Hid (CkO w.heap.size W2 (.slice (some ⟨wr.heap.size, 0, none⟩) 1 1) [Zm.ckOf s t]) := by
        show CkO _ _ _ _
        rw [hW2, HT.out.2]
        exact cko_made wr [⟨t, na, nb⟩] HR.out.bel.size rfl (by simp)
      have HN1 : Hid (((L.take i).map (Zm.ckOf s)).length ≤ 100000) := by
        show _ ≤ _
        rw [List.length_map, List.length_take]
        omega
      have HBS : Hid (w.heap.size ≤ W2.heap.size) := Nat.le_trans HR.out.bel.size HBW.out.1.size
      go_wp2_with (at_builtin; rw [← hW2]; refine wpc_append rfl _ _ rfl rfl rfl HO1.out HO2.out HN1.out (by simp) HBS.out ?_)
      intro v4 w4 hO4 hg4 hat4
      have HQ : Hid (CkAt w w4 s (some ⟨g, 0, none⟩) cap L v4 (i + 1)) := HR.out.step hiL HT.out.1 HBW.out.1 HBW.out.2 (by rw [List.map_take]; exact hO4) (by first | exact hg4 | (rw [hW2]; exact hg4)) (by first | exact hat4 | (rw [hW2]; simpa using hat4))
      clear hO4 hg4 hat4 HO1 HO2 HN1 HBS HBW HR hW2 hlk hx
      go_wp2
      go_roundw
      case rel => exact ⟨i + 1, v4, rfl, by omega, by go_num, HQ⟩
      case measure => simp [intOf]; omega
    · have hie : i = n := by omega
      clear hlt2
      go_wp2
      go_ret
      have h2 := HR.out.out
      rw [List.take_of_length_le (by rw [← HN.out]; omega)] at h2
      exact ⟨_, rfl, by rw [HCK.out]; exact h2, HR.out.bel⟩
end Go.Proofs.Ytdnhcpkpajbhoab
