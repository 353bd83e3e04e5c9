/-
  The walk of the law UserGives: it returns true.
-/
import Derived.Test.YtdnhcpkpajbhoaaUsrWakes
import Derived.Test.YtdnhcpkpajbhoaaUActRows
import Derived.Deep.DeepCutAuto
namespace Go.Proofs.Ytdnhcpkpajbhoaa
open Go.RowKit
set_option linter.unusedVariables false
set_option linter.unusedSimpArgs false
set_option maxRecDepth 100000

/-- it has asked t times -/
structure Um.Asked (M t : Nat) (s : Um.St) : Prop where
  ok : Um.Ok s
  most : s.most = M
  asks : s.asks = true
  tries : s.tries = t
theorem Um.asked_new {n x : Int} {M : Nat} (h : Um.most n = M) : Um.Asked M 1 (Um.want (Um.new n false [] x)).1 :=
  ⟨Um.want_ok (Um.new_ok _ _ _ _), h, rfl, rfl⟩
theorem Um.asked_on {M t : Nat} {s : Um.St} (h : Um.Asked M t s) (ht : t < M) : Um.Asked M (t + 1) (Um.timeout s).1 ∧ (Um.timeout s).2 = [Um.say 1 (Um.nx s) 127, Um.tell 4 0] := by
  have h1 := h.tries
  have h2 := h.most
  have hok := Um.timeout_ok h.ok
  have e : Um.timeout s = (Um.ask s (s.tries + 1), Um.askE s) := by
    unfold Um.timeout
    rw [h.asks, if_pos rfl, if_neg (by omega)]
  rw [e] at hok ⊢
  refine ⟨⟨hok, ?_, rfl, ?_⟩, rfl⟩
  · show (Um.on s).most = _
    rw [Um.on_most]; exact h2
  · show s.tries + 1 = _
    rw [h1]; omega
theorem Um.asked_end {M : Nat} {s : Um.St} (h : Um.Asked M M s) : Um.timeout s = (Um.idle s, [Um.tell 3 0]) := by
  have h1 := h.tries
  have h2 := h.most
  unfold Um.timeout
  rw [h.asks, if_pos rfl, if_pos (by omega)]
theorem Um.denied (s : Um.St) (ri ai : Int) : Um.message s 3 ri ai = (s, []) := by
  unfold Um.message
  split
  · rfl
  · rfl
/-- effects in block g -/
def RowE (w : World) (g : Nat) (l : List Um.Ef) : Prop := g < w.heap.size ∧ ∀ k u, (uefsL l)[k]? = some u → w.cell? ⟨g, k, none⟩ = some u
theorem RowE.below {w w' : World} {g : Nat} {l : List Um.Ef} (h : RowE w g l) (hb : Below w.heap.size w w') : RowE w' g l :=
  ⟨Nat.lt_of_lt_of_le h.1 hb.size, fun k u hk => (hb.cell (p := ⟨g, k, none⟩) h.1).trans (h.2 k u hk)⟩
/-- what stands at a round's beginning -/
structure GvA (b : Nat) (W0 w : World) (C D : Nat) (G : Option Nat) (M i g : Nat) (s : Um.St) (r : Int) : Prop where
  u : OwnU b W0 w C D G s
  asked : Um.Asked M (i + 1) s
  row : RowE w g [Um.say 1 r 127, Um.tell 4 0]
structure GvZ (b : Nat) (W0 w : World) (C D : Nat) (G : Option Nat) (g : Nat) (s : Um.St) : Prop where
  u : OwnU b W0 w C D G (Um.idle s)
  row : RowE w g [Um.tell 3 0]
theorem GvA.below {b : Nat} {W0 w w' : World} {C D : Nat} {G : Option Nat} {M i g : Nat} {s : Um.St} {r : Int} (h : GvA b W0 w C D G M i g s r) (hb : Below w.heap.size w w') : GvA b W0 w' C D G M i g s r := ⟨h.u.below hb, h.asked, h.row.below hb⟩
theorem GvZ.below {b : Nat} {W0 w w' : World} {C D : Nat} {G : Option Nat} {g : Nat} {s : Um.St} (h : GvZ b W0 w C D G g s) (hb : Below w.heap.size w w') : GvZ b W0 w' C D G g s := ⟨h.u.below hb, h.row.below hb⟩

set_option maxHeartbeats 4000000 in
theorem walk_UserGives (n x0 : Int) (a : Option Addr) (len cap : Nat) (zs : List Bool) (w : World) (hn : -9223372036854775808 ≤ n ∧ n ≤ 9223372036854775807) (hx : 0 ≤ x0 ∧ x0 ≤ 18446744073709551615) (hr : RowB w a len cap zs) :
    Calls Try.prog 5 #[.int .i64 n, .int .u64 x0, .slice a len cap] w fun r w' => r = .returned (.bool true) ∧ Below w.heap.size w w' := by
  have hlc : len ≤ cap := hr.2.1
  have hcm : cap ≤ 9223372036854775807 := by have := hr.2.2.1; unfold maxLen at this; exact this
  have HR : Hid (∀ j, j < len → ∃ bb off z, a = some ⟨bb, off, none⟩ ∧ bb < w.heap.size ∧ w.cell? ⟨bb, off + j, none⟩ = some (.bool z)) := fun j hj => hr.at j hj
  clear hr
  obtain ⟨M, hM, hM1, hM2⟩ : ∃ M : Nat, Um.most n = M ∧ 1 ≤ M ∧ M ≤ 32 := by
    refine ⟨(Um.most n).toNat, ?_, ?_, ?_⟩
    all_goals unfold Um.most; split <;> (try split) <;> omega
  have HM : Hid (Um.most n = M) := hM
  obtain ⟨z0, hz0⟩ : ∃ z0 : Int, (if (32 : Int) < n then (32 : Int) else n) = z0 := ⟨_, rfl⟩
  have hz1 : (if (1 : Int) < z0 then z0 else 1) = (M : Int) := by
    rw [← hz0, ← hM]
    unfold Um.most
    split <;> split <;> (try split) <;> omega
  clear hM hn
  have HDn := dnew_none x0 w hx.1 (by omega)
  clear hx
  go_enter Try.func5, Try.ntmps5
  go_wp2_with fail
  refine HDn.mono ?_
  rintro r w1 ⟨D, G, rfl, h1, h2, h3, h4⟩
  have HUn := ownu_new (b := w.heap.size) (W0 := w) n h1 (fun B hB => (h4 B hB).2) h3 h2 h2.size
  clear h1 h2 h3 h4 HDn
  go_wp2_with fail
  refine HUn.mono ?_
  rintro r w2 ⟨C, rfl, O2, -⟩
  have hAs : Um.Asked M 1 (Um.want (Um.new n false [] x0)).1 := Um.asked_new HM.out
  have HW := ownu_want O2
  rw [show (Um.want (Um.new n false [] x0)).2 = [Um.say 1 (Um.nx (Um.new n false [] x0)) 127, Um.tell 4 0] from rfl, show Um.wantN (Um.new n false [] x0) = 0 from rfl] at HW
  generalize Um.nx (Um.new n false [] x0) = r0 at HW
  generalize (Um.want (Um.new n false [] x0)).1 = s1 at HW hAs
  have HAs : Hid (Um.Asked M 1 s1) := hAs
  clear O2 HUn hAs
  go_wp2_with fail
  refine HW.mono ?_
  rintro r w3 ⟨a3, cap3, rfl, ho, hm, hO⟩
  obtain ⟨g, rfl, hgb, hg, hc3, hx3⟩ := UOut.own (l := [Um.say 1 r0 127, Um.tell 4 0]) ho (by simp)
  obtain ⟨b, hb⟩ : ∃ b, b = w.heap.size := ⟨_, rfl⟩
  rw [← hb] at hO
  have HG3 : Hid (GvA b w w3 C D G M 0 g s1 r0) := ⟨hO, HAs.out, ⟨hg, hx3⟩⟩
  have HC : Hid (b = w.heap.size) := hb
  have hc2 : 2 ≤ cap3 := hc3
  rw [show ([Um.say 1 r0 127, Um.tell 4 0] : List Um.Ef).length = 2 from rfl]
  clear ho hm hO hg hgb hx3 hb HW HAs hc3 HM
  go_wp2
  go_loopw [8, 10, 23] (fun l e c wr => ∃ (i g cp : Nat), c = .int .i64 i ∧ e = .int .i64 i ∧ i ≤ M ∧ ((i < M ∧ l = .slice (some ⟨g, 0, none⟩) 2 cp ∧ 2 ≤ cp ∧ Hid (∃ s r, GvA b w wr C D G M i g s r)) ∨ (i = M ∧ l = .slice (some ⟨g, 0, none⟩) 1 cp ∧ 1 ≤ cp ∧ Hid (∃ s, GvZ b w wr C D G g s)))) (fun _ _ c _ => 34 - (intOf c).toNat)
  case atStart => exact ⟨0, g, cap3, rfl, rfl, Nat.zero_le _, Or.inl ⟨by omega, rfl, hc2, ⟨_, _, HG3⟩⟩⟩
  case round =>
    obtain ⟨i, g, cp, rfl, rfl, hiM, hway⟩ := hrel
    clear HG3
    rcases hway with ⟨hlt, rfl, hcp, HS⟩ | ⟨hie, rfl, hcp, HS⟩
    · obtain ⟨s, r, hA⟩ := HS.out
      have HA := (show Hid (GvA b w wr C D G M i g s r) from hA)
      clear hA HS
      clear hz0 hz1
      have h34 : decide ((i : Int) < 34) = true := decide_eq_true (by omega)
      go_wp2
      go_loopw [10, 28] (fun e c wq => ∃ j : Nat, c = .int .i64 j ∧ j ≤ 2 ∧ ((j = 0 ∧ e = .int .i64 i) ∨ (1 ≤ j ∧ e = .int .i64 ((i : Int) + 1))) ∧ Hid (GvA b w wq C D G M i g s r)) (fun _ c _ => 2 - (intOf c).toNat)
      case atStart => exact ⟨0, rfl, by decide, Or.inl ⟨rfl, rfl⟩, HA⟩
      case round =>
        obtain ⟨j, rfl, hj2, he, HA1⟩ := hrel
        clear HA
        have hgl := HA1.out.row.1
        by_cases h2 : j = 2
        · subst h2
          obtain ⟨rfl⟩ : u10 = .int .i64 ((i : Int) + 1) := by
            rcases he with ⟨h, _⟩ | ⟨_, h⟩
            · omega
            · exact h
          have HU : Hid (OwnU b w wr C D G s) := HA1.out.u
          have HAs : Hid (Um.Asked M (i + 1) s) := HA1.out.asked
          clear he HA1 hgl hj2
          rw [show ((2 : Nat) : Int) = 2 from rfl]
          go_upto_region 15 with fail
          go_cut [84] from 65 to 83 (fun e wx => e = .bool false ∧ Hid (OwnU b w wx C D G s))
          case first =>
            by_cases hin : i < len
            · obtain ⟨bb, off, z, rfl, hbb, hc⟩ := HR.out i hin
              have hx : wr.cell? ⟨bb, off + i, none⟩ = some (.bool z) := (HU.out.bel.cell (p := ⟨bb, off + i, none⟩) (by rw [HC.out]; exact hbb)).trans hc
              have hbr : bb < wr.heap.size := by have := HU.out.bs; have := HC.out; omega
              clear hc
              cases z with
              | false =>
                go_wp2
                go_meet
                case rel => exact ⟨rfl, HU⟩
              | true =>
                have hV := ownu_view HU.out
                have fr := field_ri
                generalize s.ri = sr at hV
                generalize s.tei = st at hV
                generalize s.asks = sa at hV
                generalize s.tries = sq at hV
                go_wp2_with fail
                refine hV.mono ?_
                rintro r2 w5 ⟨rfl, -, hO5⟩
                have hM5 := umessage_any 3 sr 127 hO5.us
                rw [Um.denied] at hM5
                have HO5 : Hid (OwnU b w w5 C D G s) := hO5
                clear hV hO5
                go_wp2_with fail
                refine hM5.mono ?_
                rintro r2 w6 ⟨v, rfl, ho, hm⟩
                obtain rfl : v = .slice none 0 0 := ho.nil' rfl
                have HO6 : Hid (OwnU b w w6 C D G s) := HO5.out.then hm
                clear hM5 ho hm HO5
                go_wp2
                go_meet
                case rel => exact ⟨rfl, HO6⟩
            · go_wp2
              go_meet
              case rel => exact ⟨rfl, HU⟩
          obtain ⟨rfl, HU2⟩ := hcut
          clear HU
          have hT := ownu_timeout HU2.out
          by_cases hlast : i + 1 < M
          · obtain ⟨hA2, hE2⟩ := Um.asked_on HAs.out hlast
            rw [hE2] at hT
            generalize (Um.timeout s).1 = s2 at hT hA2
            generalize Um.nx s = r2 at hT
            have HA2 : Hid (Um.Asked M (i + 1 + 1) s2) := hA2
            clear hA2 hE2 HAs
            go_wp2_with fail
            refine hT.mono ?_
            rintro r3 w7 ⟨a7, c7, rfl, ho, -, hO7⟩
            obtain ⟨g7, rfl, -, hg7, hc7, hx7⟩ := UOut.own (l := [Um.say 1 r2 127, Um.tell 4 0]) ho (by simp)
            have HG7 : Hid (GvA b w w7 C D G M (i + 1) g7 s2 r2) := ⟨hO7, HA2.out, ⟨hg7, hx7⟩⟩
            have hc72 : 2 ≤ c7 := hc7
            rw [show ([Um.say 1 r2 127, Um.tell 4 0] : List Um.Ef).length = 2 from rfl]
            clear hT ho hO7 hg7 hx7 hc7 HA2 HU2
            go_wp2
            go_roundw
            case rel => exact ⟨i + 1, g7, c7, by go_num, by go_num, by omega, Or.inl ⟨by omega, rfl, hc72, ⟨s2, r2, HG7⟩⟩⟩
            case measure => simp [intOf]; omega
          · have hie : i + 1 = M := by omega
            have hE2 := Um.asked_end (hie ▸ HAs.out)
            rw [hE2] at hT
            clear hE2 HAs
            go_wp2_with fail
            refine hT.mono ?_
            rintro r3 w7 ⟨a7, c7, rfl, ho, -, hO7⟩
            obtain ⟨g7, rfl, -, hg7, hc7, hx7⟩ := UOut.own (l := [Um.tell 3 0]) ho (by simp)
            have HG7 : Hid (GvZ b w w7 C D G g7 s) := ⟨hO7, ⟨hg7, hx7⟩⟩
            have hc72 : 1 ≤ c7 := hc7
            rw [show ([Um.tell 3 0] : List Um.Ef).length = 1 from rfl]
            have HIE : Hid (i + 1 = M) := hie
            clear hT ho hO7 hg7 hx7 hc7 HU2 hie
            go_wp2
            go_roundw
            case rel => exact ⟨i + 1, g7, c7, by go_num, by go_num, by omega, Or.inr ⟨HIE.out, rfl, hc72, ⟨s, HG7⟩⟩⟩
            case measure => simp [intOf]; omega
        · have HAb : Hid (∀ w', Below wr.heap.size wr w' → GvA b w w' C D G M i g s r) := fun w' hb => HA1.out.below hb
          by_cases h1 : j = 1
          · subst h1
            obtain ⟨rfl⟩ : u10 = .int .i64 ((i : Int) + 1) := by
              rcases he with ⟨h, _⟩ | ⟨_, h⟩
              · omega
              · exact h
            have k0 : wr.cell? ⟨g, 5, none⟩ = some (.int .i64 4) := HA1.out.row.2 5 _ rfl
            have k1 : wr.cell? ⟨g, 6, none⟩ = some (.int .i64 0) := HA1.out.row.2 6 _ rfl
            have k2 : wr.cell? ⟨g, 7, none⟩ = some (.int .i64 0) := HA1.out.row.2 7 _ rfl
            have k3 : wr.cell? ⟨g, 8, none⟩ = some (.int .i64 0) := HA1.out.row.2 8 _ rfl
            have k4 : wr.cell? ⟨g, 9, none⟩ = some (.int .i64 0) := HA1.out.row.2 9 _ rfl
            clear he HA1 h2
            go_wp2
            go_roundw
            case rel => exact ⟨2, by go_num, by decide, Or.inr ⟨by decide, by go_num⟩, HAb.out _ ((Below.refl _ _).alloc (Nat.le_refl _) _)⟩
            case measure => simp [intOf]
          · have h0 : j = 0 := by omega
            subst h0
            obtain ⟨rfl⟩ : u10 = .int .i64 (i : Int) := by
              rcases he with ⟨_, h⟩ | ⟨h, _⟩
              · exact h
              · omega
            have k0 : wr.cell? ⟨g, 0, none⟩ = some (.int .i64 0) := HA1.out.row.2 0 _ rfl
            have k1 : wr.cell? ⟨g, 1, none⟩ = some (.int .i64 1) := HA1.out.row.2 1 _ rfl
            have k2 : wr.cell? ⟨g, 2, none⟩ = some (.int .i64 r) := HA1.out.row.2 2 _ rfl
            have k3 : wr.cell? ⟨g, 3, none⟩ = some (.int .i64 127) := HA1.out.row.2 3 _ rfl
            have k4 : wr.cell? ⟨g, 4, none⟩ = some (.int .i64 0) := HA1.out.row.2 4 _ rfl
            clear he HA1 h2 h1
            go_wp2
            go_roundw
            case rel => exact ⟨1, by go_num, by decide, Or.inr ⟨by decide, by go_num⟩, HAb.out _ ((Below.refl _ _).alloc (Nat.le_refl _) _)⟩
            case measure => simp [intOf]
    · obtain ⟨s, hZ⟩ := HS.out
      have HZ := (show Hid (GvZ b w wr C D G g s) from hZ)
      clear hZ HS
      go_wp2
      go_loopw [10, 28] (fun e c wq => c = .int .i64 0 ∧ e = .int .i64 i ∧ Hid (GvZ b w wq C D G g s)) (fun _ c _ => 0)
      case atStart => exact ⟨rfl, rfl, HZ⟩
      case round =>
        obtain ⟨rfl, rfl, HZ1⟩ := hrel
        clear HZ
        have hgl := HZ1.out.row.1
        have k0 : wr.cell? ⟨g, 0, none⟩ = some (.int .i64 3) := HZ1.out.row.2 0 _ rfl
        have k1 : wr.cell? ⟨g, 1, none⟩ = some (.int .i64 0) := HZ1.out.row.2 1 _ rfl
        have k2 : wr.cell? ⟨g, 2, none⟩ = some (.int .i64 0) := HZ1.out.row.2 2 _ rfl
        have k3 : wr.cell? ⟨g, 3, none⟩ = some (.int .i64 0) := HZ1.out.row.2 3 _ rfl
        have k4 : wr.cell? ⟨g, 4, none⟩ = some (.int .i64 0) := HZ1.out.row.2 4 _ rfl
        have HUa : Hid (∀ w', Below wr.heap.size wr w' → OwnU b w w' C D G (Um.idle s)) := fun w' hb => HZ1.out.u.below hb
        clear HZ1
        subst hie
        go_wp2_with fail
        refine (uwakes_any _).mono ?_
        rintro r3 w5 ⟨rfl, hb5⟩
        have hO5 := HUa.out w5 (((Below.refl _ _).alloc (Nat.le_refl _) _).trans (hb5.mono (by simp)))
        have hV := ownu_view hO5
        rw [show (Um.idle s).tei = -1 from rfl, show (Um.idle s).asks = false from rfl, show (Um.idle s).ri = 0 from rfl, show (Um.idle s).tries = 0 from rfl] at hV
        clear hO5 hb5 HUa k0 k1 k2 k3 k4
        go_wp2_with fail
        refine hV.mono ?_
        rintro r3 w6 ⟨rfl, -, hO6⟩
        have hT := utimeout_any hO6.us
        rw [show Um.timeout (Um.idle s) = (Um.idle s, []) from rfl] at hT
        have HO6 : Hid (OwnU b w w6 C D G (Um.idle s)) := hO6
        clear hV hO6
        go_wp2_with fail
        refine hT.mono ?_
        rintro r3 w7 ⟨v, rfl, ho, hm⟩
        obtain rfl : v = .slice none 0 0 := ho.nil' rfl
        have HB7 : Hid (Below w.heap.size w w7) := by
          have := (HO6.out.then hm).bel
          rw [HC.out] at this
          exact this
        clear hT ho hm HO6
        go_wp2
        go_ret
        exact ⟨rfl, HB7.out⟩
end Go.Proofs.Ytdnhcpkpajbhoaa
