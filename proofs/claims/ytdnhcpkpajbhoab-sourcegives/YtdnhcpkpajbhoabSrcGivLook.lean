/-
  The walk of SourceGives' own function 'look'.
-/
import Derived.Test.YtdnhcpkpajbhoabSrcGivRow
import Derived.Deep.DeepCutAuto
namespace Go.Proofs.Ytdnhcpkpajbhoab
open Go.RowKit Go.Maps Go.WideMaps
set_option linter.unusedVariables false
set_option linter.unusedSimpArgs false
set_option maxRecDepth 100000

theorem ef_at : ∀ (l : List Zm.Ef) (i : Nat) (x : Zm.Ef), l[i]? = some x → ∀ j u, (efL x)[j]? = some u → (efsL l)[i * 5 + j]? = some u
  | [], i, x, h, _, _, _ => by simp at h
  | y :: l, 0, x, h, j, u, hj => by
    simp at h
    subst h
    have hlt : j < (efL y).length := (List.getElem?_eq_some_iff.1 hj).1
    show (efL y ++ efsL l)[0 * 5 + j]? = some u
    rw [Nat.zero_mul, Nat.zero_add, List.getElem?_append_left hlt]
    exact hj
  | y :: l, i + 1, x, h, j, u, hj => by
    show (efL y ++ efsL l)[(i + 1) * 5 + j]? = some u
    have h5 : (efL y).length = 5 := rfl
    rw [List.getElem?_append_right (by omega), h5, show (i + 1) * 5 + j - 5 = i * 5 + j by omega]
    exact ef_at l i x (by simpa using h) j u hj
/-- a row of effects -/
def RowZ (w : World) (a : Option Addr) (l : List Zm.Ef) : Prop := ∀ j x, l[j]? = some x → ∃ g, a = some ⟨g, 0, none⟩ ∧ g < w.heap.size ∧ ∀ k u, (efL x)[k]? = some u → w.cell? ⟨g, j * 5 + k, none⟩ = some u
theorem Out.rowZ {b : Nat} {w : World} {l : List Zm.Ef} {a : Option Addr} {cap : Nat} (h : Out b w (.slice a l.length cap) l) : RowZ w a l := fun j x hj => by
  obtain ⟨g, e, _, hg, _, hc⟩ := Out.own h (by have := (List.getElem?_eq_some_iff.1 hj).1; omega)
  exact ⟨g, e, hg, fun k u hk => hc _ u (ef_at l j x hj k u hk)⟩
theorem Out.capZ {b : Nat} {w : World} {l : List Zm.Ef} {a : Option Addr} {cap : Nat} (h : Out b w (.slice a l.length cap) l) : l.length ≤ cap := by
  rcases h.2 with ⟨h1, h2⟩ | ⟨g', c', cur, hv, _, _, hle, _⟩
  · omega
  · injection hv with _ _ e
    omega
/-- as far as it has come -/
structure LkS (w wr : World) (A B M N : Nat) (l : List Zm.Ef) (j : Nat) (f' u' : Nat → Bool) : Prop where
  s : ∃ hs f u, GvS wr A B M N hs f u ∧ Lk f u (l.drop j) f' u'
  k : Kept w wr (fun k => k = M ∨ k = N)
set_option maxHeartbeats 4000000 in
theorem glook_any (x : Option Addr) (cap : Nat) (l : List Zm.Ef) (A B M N : Nat) (hs f u f' u' : Nat → Bool) (w : World) (hrow : RowZ w x l) (hc : l.length ≤ cap) (hl : l.length ≤ 1000) (h : GvS w A B M N hs f u) (hk : Lk f u l f' u') (hx : ∀ g, x = some ⟨g, 0, none⟩ → ¬ (g = M ∨ g = N)) :
    Calls Try.prog 14 #[.slice x l.length cap, .pointer (some ⟨A, 0, none⟩), .pointer (some ⟨B, 0, none⟩)] w fun r w' => r = .returned (.bool true) ∧ (∃ hs', GvS w' A B M N hs' f' u') ∧ Kept w w' (fun k => k = M ∨ k = N) := by
  obtain ⟨n, hn⟩ : ∃ n, l.length = n := ⟨_, rfl⟩
  have HL : Hid (LkS w w A B M N l 0 f' u') := ⟨⟨hs, f, u, h, hk⟩, Kept.refl _ _⟩
  have HR : Hid (RowZ w x l ∧ ∀ g, x = some ⟨g, 0, none⟩ → ¬ (g = M ∨ g = N)) := ⟨hrow, hx⟩
  have HN : Hid (l.length = n) := hn
  rw [hn] at hc hl ⊢
  clear h hk hrow hx hn
  go_enter Try.func14, Try.ntmps14
  go_wp2
  go_loopw [9] (fun c wr => ∃ j : Nat, j ≤ n ∧ c = .int .i64 j ∧ Hid (LkS w wr A B M N l j f' u')) (fun c _ => n - (intOf c).toNat)
  case atStart => exact ⟨0, Nat.zero_le _, rfl, HL⟩
  case round =>
    obtain ⟨j, hjn, rfl, HS⟩ := hrel
    clear HL
    by_cases hin : j < n
    · obtain ⟨e, he⟩ : ∃ e, l[j]? = some e := ⟨_, List.getElem?_eq_getElem (by rw [HN.out]; exact hin)⟩
      obtain ⟨g, rfl, hg, hcs⟩ := HR.out.1 j e he
      have hgM := HR.out.2 g rfl
      have hcs2 : ∀ k u, (efL e)[k]? = some u → wr.cell? ⟨g, j * 5 + k, none⟩ = some u := fun k u hk => (HS.out.k.cell (p := ⟨g, j * 5 + k, none⟩) hg hgM).trans (hcs k u hk)
      have hg2 : g < wr.heap.size := Nat.lt_of_lt_of_le hg HS.out.k.size
      obtain ⟨⟨hs, f, u, hG, hk⟩, hK⟩ := HS.out
      have hd : l.drop j = e :: l.drop (j + 1) := by
        have hlt := (List.getElem?_eq_some_iff.1 he).1
        rw [List.drop_eq_getElem_cons hlt, (List.getElem?_eq_some_iff.1 he).2]
      rw [hd] at hk
      obtain ⟨ek, ety, eri, eai, et⟩ := e
      have k0 : wr.cell? ⟨g, j * 5, none⟩ = some (.int .i64 ek) := hcs2 0 _ rfl
      have k1 : wr.cell? ⟨g, j * 5 + 1, none⟩ = some (.int .i64 ety) := hcs2 1 _ rfl
      have k2 : wr.cell? ⟨g, j * 5 + 2, none⟩ = some (.int .i64 eri) := hcs2 2 _ rfl
      have k3 : wr.cell? ⟨g, j * 5 + 3, none⟩ = some (.int .i64 eai) := hcs2 3 _ rfl
      have k4 : wr.cell? ⟨g, j * 5 + 4, none⟩ = some (.int .i64 et) := hcs2 4 _ rfl
      obtain ⟨W3, hW3⟩ : ∃ W3, W3 = wr.alloc (.cells #[.int .i64 ek, .int .i64 ety, .int .i64 eri, .int .i64 eai, .int .i64 et] 53) := ⟨_, rfl⟩
      have hb3 : Below wr.heap.size wr W3 := by rw [hW3]; exact (Below.refl _ _).alloc (Nat.le_refl _) _
      have p0 : W3.cell? ⟨wr.heap.size, 0, none⟩ = some (.int .i64 ek) := by rw [hW3]; simp
      have p4 : W3.cell? ⟨wr.heap.size, 4, none⟩ = some (.int .i64 et) := by rw [hW3]; simp
      have hl3 : wr.heap.size < W3.heap.size := by rw [hW3]; simp
      have hG3 := hG.below hb3
      have HG3 : Hid (GvS W3 A B M N hs f u) := hG3
      have HK3 : Hid (Kept w W3 (fun k => k = M ∨ k = N)) := hK.trans (Kept.of_below (T := fun k => k = M ∨ k = N) hb3 (fun k hk h' => by omega)) (fun k _ x => x)
      have HLk := (show Hid (Lk f u (⟨ek, ety, eri, eai, et⟩ :: l.drop (j + 1)) f' u') from hk)
      clear hG hk hd he hcs hcs2 hg hgM HS hK hb3 hG3 HR
      go_upto_region 4 with fail
      rw [← hW3]
      clear hW3 k0 k1 k2 k3 k4 hg2
      generalize wr.heap.size = V at *
      rcases HLk.out with ⟨h0, hr⟩ | ⟨p, hp, ht, ⟨h0, hf, hr⟩ | ⟨h0, hf, hr⟩ | ⟨h0, hr⟩ | ⟨h0, hf, hr⟩⟩
      · have h0' : ek = 0 := h0
        subst h0'
        have HS4 : Hid (LkS w W3 A B M N l (j + 1) f' u') := ⟨⟨hs, f, u, HG3.out, hr⟩, HK3.out⟩
        clear HLk h0 hr HG3 HK3 p4
        go_wp2
        go_roundw
        case rel => exact ⟨j + 1, by omega, by go_num, HS4⟩
        case measure => simp [intOf]; omega
      · have h0' : ek = 1 := h0
        have ht' : et = 64 + (p : Int) := ht
        subst h0' ht'
        have ca := HG3.out.ca
        have la := HG3.out.la
        have hlk := HG3.out.m.look hp
        rw [hf] at hlk
        obtain ⟨w4, hst, hM4, hk4⟩ := HG3.out.m.store hp true
        have HS4 : Hid (LkS w w4 A B M N l (j + 1) f' u') := ⟨⟨_, _, _, HG3.out.turnM hM4 hk4, hr⟩, HK3.out.trans hk4 (fun k _ e => Or.inl e)⟩
        clear HLk h0 ht hr HG3 HK3 hM4 hk4 hf
        go_wp2
        go_roundw
        case rel => exact ⟨j + 1, by omega, by go_num, HS4⟩
        case measure => simp [intOf]; omega
      · have h0' : ek = 2 := h0
        have ht' : et = 64 + (p : Int) := ht
        subst h0' ht'
        have ca := HG3.out.ca
        have la := HG3.out.la
        have hlk := HG3.out.m.look hp
        rw [hf] at hlk
        obtain ⟨w4, hst, hM4, hk4⟩ := HG3.out.m.store hp false
        have HS4 : Hid (LkS w w4 A B M N l (j + 1) f' u') := ⟨⟨_, _, _, HG3.out.turnM hM4 hk4, hr⟩, HK3.out.trans hk4 (fun k _ e => Or.inl e)⟩
        clear HLk h0 ht hr HG3 HK3 hM4 hk4 hf
        go_wp2
        go_roundw
        case rel => exact ⟨j + 1, by omega, by go_num, HS4⟩
        case measure => simp [intOf]; omega
      · have h0' : ek = 3 := h0
        have ht' : et = 64 + (p : Int) := ht
        subst h0' ht'
        have cb := HG3.out.cb
        have lb := HG3.out.lb
        obtain ⟨w4, hst, hM4, hk4⟩ := HG3.out.n.store hp true
        have HS4 : Hid (LkS w w4 A B M N l (j + 1) f' u') := ⟨⟨_, _, _, HG3.out.turnN hM4 hk4, hr⟩, HK3.out.trans hk4 (fun k _ e => Or.inr e)⟩
        clear HLk h0 ht hr HG3 HK3 hM4 hk4
        go_wp2
        go_roundw
        case rel => exact ⟨j + 1, by omega, by go_num, HS4⟩
        case measure => simp [intOf]; omega
      · have h0' : ek = 4 := h0
        have ht' : et = 64 + (p : Int) := ht
        subst h0' ht'
        have cb := HG3.out.cb
        have lb := HG3.out.lb
        have hlk := HG3.out.n.look hp
        rw [hf] at hlk
        obtain ⟨w4, hst, hM4, hk4⟩ := HG3.out.n.drop (in_place p hp) (fun _ _ => rfl) 0
        have he : Pm.frF u (64 + (p : Int)) = Pm.upd u p false := by
          obtain ⟨_, _, he⟩ := Pm.fr_ok (f := u) (t := 64 + (p : Int)) (by rw [Pm.has_of u p hp]; exact hf)
          rw [he, (Pm.au_of p hp).2]
        rw [he] at hM4
        have HS4 : Hid (LkS w w4 A B M N l (j + 1) f' u') := ⟨⟨_, _, _, HG3.out.turnN hM4 hk4, hr⟩, HK3.out.trans hk4 (fun k _ e => Or.inr e)⟩
        clear HLk h0 ht hr HG3 HK3 hM4 hk4 hf he
        go_wp2
        go_roundw
        case rel => exact ⟨j + 1, by omega, by go_num, HS4⟩
        case measure => simp [intOf]; omega
    · have hje : j = n := by omega
      subst hje
      clear hin
      have HF : Hid ((∃ hs', GvS wr A B M N hs' f' u') ∧ Kept w wr (fun k => k = M ∨ k = N)) := by
        obtain ⟨⟨hs, f, u, hG, hk⟩, hK⟩ := HS.out
        rw [List.drop_of_length_le (by rw [HN.out]; exact Nat.le_refl _)] at hk
        obtain ⟨rfl, rfl⟩ := hk
        exact ⟨⟨hs, hG⟩, hK⟩
      clear HS
      go_wp2
      go_ret
      exact ⟨rfl, HF.out.1, HF.out.2⟩
end Go.Proofs.Ytdnhcpkpajbhoab
