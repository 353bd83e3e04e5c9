/-
  The walk of the law HdlcFrames: it returns true.
-/
import Derived.Test.YtoakkfmebdglhaaDoorRowLaws
import Derived.Test.YtoakkfmebdglhaaDoorStrRows
import Derived.Test.YtoakkfmebdglhaaDoorUnstuffWalks
import Derived.Deep.DeepCutAuto
namespace Go.Proofs.YtoakkfmebdglhaaDoor
open Go.RowKit
set_option linter.unusedVariables false
set_option linter.unusedSimpArgs false

theorem info_str : (Tryd.prog.info? 9).map (fun i => (i.zero, i.size, i.bytes)) = some (some (.string ByteArray.empty), 1, 16) := by kernel_rfl
def wantE (l : List ByteArray) : List Hm.Ev := l.map fun s => (0, s)

theorem wantE_length (l : List ByteArray) : (wantE l).length = l.length := by simp [wantE]
theorem own_shape {w : World} {base : Nat} {e : TypeId} {size : Nat} {v : Value} {n : Nat} {xs : List Value} (h : w.ownsRow base e size v n xs) : ∃ x cap, v = .slice x n cap := by
  rcases h.2 with ⟨rfl, rfl⟩ | ⟨g, cap, cur, rfl, _⟩
  · exact ⟨none, 0, rfl⟩
  · exact ⟨_, cap, rfl⟩
theorem row_want {w : World} {B cap : Nat} {a : Option Addr} {ws : List ByteArray} (h : w.ownsRow B 47 2 (.slice a ws.length cap) ws.length (evCells (wantE ws))) (i : Nat) (hi : i < ws.length) :
    ∃ g, a = some ⟨g, 0, none⟩ ∧ w.cell? ⟨g, i * 2, none⟩ = some (.int .i64 0) ∧ w.cell? ⟨g, i * 2 + 1, none⟩ = some (.string ws[i]) ∧ g < w.heap.size := by
  have := row_ev h (wantE_length ws).symm i (by rw [wantE_length]; exact hi)
  simpa [wantE] using this
theorem row_str {w : World} {B cap : Nat} {a : Option Addr} {ws : List ByteArray} (h : w.ownsRow B 9 1 (.slice a ws.length cap) ws.length (ws.map Value.string)) (i : Nat) (hi : i < ws.length) :
    ∃ g, a = some ⟨g, 0, none⟩ ∧ w.cell? ⟨g, i, none⟩ = some (.string ws[i]) ∧ g < w.heap.size := by
  obtain ⟨g, hg⟩ : ∃ g, a = some ⟨g, 0, none⟩ := by
    rcases h.2 with ⟨_, h0⟩ | ⟨g, cap', cur, h', _⟩
    · omega
    · injection h' with h1 h2 h3; exact ⟨g, h1⟩
  subst hg
  refine ⟨g, rfl, ?_, (h.lt g rfl).2⟩
  rw [h.cellAt i (by omega)]
  simp [hi]
theorem noise_ok (l : List Int) (h : (unstRes l).2 = 0) : Hm.bit l ∧ Hm.has6 0 l = false := by
  unfold unstRes at h
  split at h
  · cases h
  · rename_i hg
    split at h
    · cases h
    · rename_i h6
      refine ⟨fun x hx => ?_, by simpa using h6⟩
      have hg' : Bm.goodN l = true := by simpa using hg
      rw [Bm.goodN, List.all_eq_true] at hg'
      exact (Bm.isB_iff x).1 (hg' x hx)
theorem frames_noise {B n : ByteArray} {E : List Hm.Ev} (h : Hm.feedS Hm.init (Bm.nums B) = (Hm.init, E)) (hn : (unstRes (Bm.nums n)).2 = 0) : Hm.feedS Hm.init (Bm.nums (B ++ (n ++ ⟨#[48]⟩))) = (Hm.init, E) := by
  obtain ⟨hb, h6⟩ := noise_ok _ hn
  have := Hm.feed_noise (Bm.nums n) hb h6
  rw [nums_app, nums_app, Hm.feed_append, h]
  show ((Hm.feedS Hm.init (Bm.nums n ++ [48])).1, E ++ (Hm.feedS Hm.init (Bm.nums n ++ [48])).2) = _
  rw [show Hm.feedS Hm.init (Bm.nums n ++ [48]) = (⟨0, false, []⟩, []) from this]
  simp [Hm.init]
theorem frames_flag {B : ByteArray} {st : Hm.St} {E : List Hm.Ev} (h : Hm.feedS Hm.init (Bm.nums B) = (st, E)) (hr : Hm.Ready st) : Hm.feedS Hm.init (Bm.nums (B ++ ⟨#[48, 49, 49, 49, 49, 49, 49, 48]⟩)) = (⟨0, true, []⟩, E) := by
  rw [nums_app, Hm.feed_append, h, show Bm.nums ⟨#[48, 49, 49, 49, 49, 49, 49, 48]⟩ = [48, 49, 49, 49, 49, 49, 49, 48] from rfl, Hm.flag_ready hr]
  simp
theorem frames_enc {B : ByteArray} {st : Hm.St} {E : List Hm.Ev} (h : Hm.feedS Hm.init (Bm.nums B) = (st, E)) (hr : Hm.Ready st) (s : ByteArray) : Hm.feedS Hm.init (Bm.nums (B ++ encB s)) = (⟨0, true, []⟩, E ++ metB s) := by
  rw [nums_app, Hm.feed_append, h, feed_enc hr]
theorem frames_shared {B : ByteArray} {st : Hm.St} {E : List Hm.Ev} (h : Hm.feedS Hm.init (Bm.nums B) = (st, E)) (hr : Hm.Ready st) (s : ByteArray) : Hm.feedS Hm.init (Bm.nums (B ++ (encB s).extract 1 (encB s).size)) = (⟨0, true, []⟩, E ++ metB s) := by
  have e : Bm.nums ((encB s).extract 1 (encB s).size) = (encN (Bm.nums s)).drop 1 := by
    rw [← nums_enc]
    have hd : (encB s).size = (encB s).data.toList.length := by rw [Array.length_toList]; rfl
    simp only [Bm.nums, ByteArray.data_extract, Array.toList_extract, List.extract_eq_take_drop, List.map_drop]
    rw [hd, List.take_of_length_le (by simp), List.map_drop]
  rw [nums_app, Hm.feed_append, h, e, ← met_nums]
  have := Hm.feed_frame_shared hr (Bm.nums s) (Bm.nums_range s)
  rw [show encN (Bm.nums s) = Hm.flag ++ Hm.stuff 0 (Bm.ofN (Bm.nums s)) ++ Hm.flag from rfl, this]
theorem size_flag (B : ByteArray) : (B ++ (⟨#[48, 49, 49, 49, 49, 49, 49, 48]⟩ : ByteArray)).size = B.size + 8 := by rw [ByteArray.size_append]; rfl

theorem toList_nil {b : ByteArray} (h : b.size = 0) : b.toList = [] := by
  rw [ByteArray.toList_eq]
  exact List.eq_nil_of_length_eq_zero (by rw [Array.length_toList]; exact h)
theorem toList_ne {b : ByteArray} (h : ¬ b.size = 0) : b.toList.isEmpty = false := by
  rw [ByteArray.toList_eq, List.isEmpty_eq_false_iff]
  intro e
  apply h
  have := congrArg List.length e
  rw [Array.length_toList] at this
  exact this
theorem one_news {w : World} (s : ByteArray) : ∀ (j : Nat) (u : Value), [Value.string s][j]? = some u → (w.alloc (.cells #[.string s] 9)).cell? ((⟨w.heap.size, 0, none⟩ : Addr).add j) = some u := by
  intro j u hj
  match j, hj with
  | 0, hj => simp at hj; subst hj; simp [Addr.add]
theorem one_ones (s : ByteArray) : ∀ u ∈ [Value.string s], u.oneCell' = true := by
  intro u hu; simp at hu; subst hu; rfl

set_option maxHeartbeats 8000000 in
set_option maxRecDepth 1000000 in
theorem walk_HdlcFrames (a : Option Addr) (len cap : Nat) (zs : List ByteArray) (a' : Option Addr) (len' cap' : Nat) (zs' : List ByteArray) (sh : Bool) (w : World) (hr : StrRow w a len cap zs) (hr' : StrRow w a' len' cap' zs') (hm : MaxOk w) :
    Calls Tryd.prog 7 #[.slice a len cap, .slice a' len' cap', .bool sh] w fun e w' => e = .returned (.bool true) ∧ Below w.heap.size w w' := by
  obtain ⟨i0, hi, hz0, hz1, hz2⟩ := info_parts info_str
  have hlc : len ≤ cap := hr.2.1
  have hcm : cap ≤ 9223372036854775807 := by have := hr.2.2.1; unfold maxLen at this; exact this
  have hlc' : len' ≤ 9223372036854775807 := by have := hr'.2.1; have := hr'.2.2.1; unfold maxLen at this; omega
  obtain ⟨m, hmin, hm20, hml⟩ : ∃ m : Nat, min (len : Int) 20 = (m : Int) ∧ m ≤ 20 ∧ m ≤ len := ⟨(min (len : Int) 20).toNat, by omega, by omega, by omega⟩
  have hfr : a.map (·.add 0) = a := by
    cases a with
    | none => rfl
    | some x => simp [Addr.add]
  have HR : Hid (StrRow w a m cap (zs.take m)) := hr.cut m hml
  have HR' : Hid (StrRow w a' len' cap' zs') := hr'
  clear hr hr'
  go_enter Tryd.func7, Tryd.ntmps7
  go_wp2_with fail
  refine (new_any _).mono ?_
  rintro e w1 ⟨rfl, hdn, hb1⟩
  have hd1 := hdn w.heap.size (Nat.le_refl _)
  have hm1 := hm.later hb1 hm.lt
  have hs1 : w.heap.size ≤ w1.heap.size := hb1.size
  clear hdn
  go_wp2_with fail
  refine (wakes_any _ hm1).mono ?_
  rintro e w2 ⟨rfl, hb2⟩
  go_wp2
  go_loopw [8, 9, 27] (fun bv wv c wr => ∃ (i : Nat) (B : ByteArray) (ws : List ByteArray) (st : Hm.St), i ≤ m ∧ c = .int .i64 i ∧ bv = .string B ∧ B.size ≤ 5000 * i ∧ Hm.Ready st ∧ Hid (i = 0 → st = Hm.init) ∧ Hid (Hm.feedS Hm.init (Bm.nums B) = (st, wantE ws)) ∧
      ws.length ≤ i ∧ wr.ownsRow w1.heap.size 9 1 wv ws.length (ws.map Value.string) ∧ Below w1.heap.size w1 wr)
    (fun _ _ c _ => m - (intOf c).toNat)
  case atStart => exact ⟨0, ByteArray.empty, [], Hm.init, Nat.zero_le _, rfl, rfl, by simp, Hm.ready_init, fun _ => rfl, by show _ = _; rfl, by simp, World.ownsRow_nil _ _ _ _, hb2⟩
  case round =>
    obtain ⟨i, B, ws, st, him, rfl, rfl, hBz, hrd, HI, HF, hwl, hown, hbel⟩ := hrel
    have hqr : Below w.heap.size w wr := hb1.trans (hbel.mono hs1)
    have hsr : w1.heap.size ≤ wr.heap.size := hbel.size
    by_cases hlt : i < m
    · obtain ⟨fb, fo, F, hfa, hfb, hfc, hFz⟩ := HR.out.at i hlt
      have hfcr := (hqr.cell (p := ⟨fb, fo + i, none⟩) hfb).trans hfc
      clear hfc
      subst hfa
      go_upto_if 35 with fail
      go_cut [8] (fun bv wx => ∃ (B2 : ByteArray) (st2 : Hm.St), bv = .string B2 ∧ B2.size ≤ 5000 * i + 100 ∧ Hm.Ready st2 ∧ Hid (Hm.feedS Hm.init (Bm.nums B2) = (st2, wantE ws)) ∧ Below wr.heap.size wr wx)
      case first =>
        by_cases hn : i < len'
        · obtain ⟨nb, no, Nz, hna, hnb, hnc, hNz⟩ := HR'.out.at i hn
          have hncr := (hqr.cell (p := ⟨nb, no + i, none⟩) hnb).trans hnc
          clear hnc
          subst hna
          go_wp2
          go_region
          go_wp2_with fail
          obtain ⟨n, hnn⟩ : ∃ n, n = Nz.extract 0 (min (Nz.size : Int) 50).toNat := ⟨_, rfl⟩
          have hnz : n.size ≤ 50 := by rw [hnn]; simp; omega
          rw [← hnn]
          clear hnn
          have hmr : MaxOk wr.drew := hm.later hqr.drew hm.lt
          refine (unstuff_any n _ (by omega) hmr).mono ?_
          rintro e w3 ⟨rfl, hb3⟩
          have hbu : Below wr.heap.size wr w3 := (Below.refl wr.heap.size wr).drew.trans hb3
          obtain ⟨q, hq, hq4⟩ : ∃ q : Nat, (n.size : Int) % 4 = (q : Int) ∧ q < 4 := ⟨n.size % 4, by omega, by omega⟩
          have hn0 : (0 : Int) ≤ (n.size : Int) := by omega
          clear hb3 hmr
          by_cases he : (unstRes (Bm.nums n)).2 = 0
          · by_cases hi0 : i = 0
            · have hst : st = Hm.init := HI.out hi0
              have HF2 : Hid (Hm.feedS Hm.init (Bm.nums (B ++ (n ++ ⟨#[48]⟩))) = (Hm.init, wantE ws)) := by
                show _ = _
                exact frames_noise (by rw [HF.out, hst]) he
              have hsz2 : (B ++ (n ++ (⟨#[48]⟩ : ByteArray))).size = B.size + (n.size + 1) := by rw [ByteArray.size_append, ByteArray.size_append]; rfl
              have t0 : ((i : Int) == 0) = true := by simp [hi0]
              have te : ((unstRes (Bm.nums n)).2 == 0) = true := by simp [he]
              clear hi0 he hst
              go_wp2
              go_loop [8, 65] (fun bv c => ∃ (j : Nat) (B3 : ByteArray) (st3 : Hm.St), j ≤ q ∧ c = .int .i64 j ∧ bv = .string B3 ∧ B3.size ≤ 5000 * i + 60 + 8 * j ∧ Hm.Ready st3 ∧ Hid (Hm.feedS Hm.init (Bm.nums B3) = (st3, wantE ws)))
                (fun _ c => q - (intOf c).toNat)
              case atStart => exact ⟨0, _, _, Nat.zero_le _, rfl, rfl, by omega, Hm.ready_init, HF2⟩
              case round =>
                obtain ⟨j, B3, st3, hj, rfl, rfl, hB3, hrd3, HF3⟩ := hrel
                have hsf := size_flag B3
                by_cases hlt3 : j < q
                · go_wp2
                  go_round
                  case rel => exact ⟨j + 1, _, _, by omega, by go_num, rfl, by omega, Hm.ready_in, frames_flag HF3.out hrd3⟩
                  case measure => simp [intOf]; omega
                · go_wp2
                  go_meet
                  case rel => exact ⟨B3, st3, rfl, by omega, hrd3, HF3, hbu⟩
            · have t0 : ((i : Int) == 0) = false := by simp; omega
              have te : ((unstRes (Bm.nums n)).2 == 0) = true := by simp [he]
              clear hi0 he
              go_wp2
              go_loop [8, 65] (fun bv c => ∃ (j : Nat) (B3 : ByteArray) (st3 : Hm.St), j ≤ q ∧ c = .int .i64 j ∧ bv = .string B3 ∧ B3.size ≤ 5000 * i + 60 + 8 * j ∧ Hm.Ready st3 ∧ Hid (Hm.feedS Hm.init (Bm.nums B3) = (st3, wantE ws)))
                (fun _ c => q - (intOf c).toNat)
              case atStart => exact ⟨0, _, _, Nat.zero_le _, rfl, rfl, by omega, hrd, HF⟩
              case round =>
                obtain ⟨j, B3, st3, hj, rfl, rfl, hB3, hrd3, HF3⟩ := hrel
                have hsf := size_flag B3
                by_cases hlt3 : j < q
                · go_wp2
                  go_round
                  case rel => exact ⟨j + 1, _, _, by omega, by go_num, rfl, by omega, Hm.ready_in, frames_flag HF3.out hrd3⟩
                  case measure => simp [intOf]; omega
                · go_wp2
                  go_meet
                  case rel => exact ⟨B3, st3, rfl, by omega, hrd3, HF3, hbu⟩
          · have te : ((unstRes (Bm.nums n)).2 == 0) = false := by simpa using he
            clear he
            go_wp2
            go_loop [8, 65] (fun bv c => ∃ (j : Nat) (B3 : ByteArray) (st3 : Hm.St), j ≤ q ∧ c = .int .i64 j ∧ bv = .string B3 ∧ B3.size ≤ 5000 * i + 60 + 8 * j ∧ Hm.Ready st3 ∧ Hid (Hm.feedS Hm.init (Bm.nums B3) = (st3, wantE ws)))
              (fun _ c => q - (intOf c).toNat)
            case atStart => exact ⟨0, _, _, Nat.zero_le _, rfl, rfl, by omega, hrd, HF⟩
            case round =>
              obtain ⟨j, B3, st3, hj, rfl, rfl, hB3, hrd3, HF3⟩ := hrel
              have hsf := size_flag B3
              by_cases hlt3 : j < q
              · go_wp2
                go_round
                case rel => exact ⟨j + 1, _, _, by omega, by go_num, rfl, by omega, Hm.ready_in, frames_flag HF3.out hrd3⟩
                case measure => simp [intOf]; omega
              · go_wp2
                go_meet
                case rel => exact ⟨B3, st3, rfl, by omega, hrd3, HF3, hbu⟩
        · go_wp2
          go_meet
          case rel => exact ⟨B, st, rfl, by omega, hrd, HF, Below.refl _ _⟩
      case rest =>
        obtain ⟨B2, st2, rfl, hB2, hrd2, HF2, hbc⟩ := hcut
        have hqc : Below w.heap.size w wc := hqr.trans (hbc.mono hqr.size)
        have hmc := hm.later hqc hm.lt
        go_wp2_with fail
        obtain ⟨S, hSS⟩ : ∃ S, S = F.extract 0 (min (F.size : Int) 266).toNat := ⟨_, rfl⟩
        have hSz : S.size ≤ 266 := by rw [hSS]; simp; omega
        rw [← hSS]
        clear hSS
        refine (encode_any S _ (by omega) hmc).mono ?_
        rintro e w4 ⟨rfl, hb4⟩
        have hbw4 : Below wr.heap.size wr w4 := hbc.trans (hb4.mono hbc.size)
        have hown4 := (Kept.of_below (T := fun _ => False) hbw4 (fun k hk h' => by omega)).owns hown (fun _ _ x => x)
        have hbel4 : Below w1.heap.size w1 w4 := hbel.trans (hbw4.mono hsr)
        have hs4 : w1.heap.size ≤ w4.heap.size := hbel4.size
        have hez := enc_size S
        have hez1 : (encB S).size ≤ 4272 := by omega
        have hez2 : 1 ≤ (encB S).size := by omega
        have hez3 : (1 : Int) ≤ ((encB S).size : Int) := by omega
        clear hez hb4 hbw4 hown hmc
        have hBz2 : B2.size ≤ 200000 := by omega
        cases sh with
        | false =>
          have HX : Hid (Hm.feedS Hm.init (Bm.nums (B2 ++ encB S)) = (⟨0, true, []⟩, wantE ws ++ metB S)) := frames_enc HF2.out hrd2 S
          have hXz : (B2 ++ encB S).size ≤ 5000 * (i + 1) := by rw [ByteArray.size_append]; omega
          by_cases hS0 : S.size = 0
          · have hSe : S.toList = [] := toList_nil hS0
            have HX2 : Hid (Hm.feedS Hm.init (Bm.nums (B2 ++ encB S)) = (⟨0, true, []⟩, wantE ws)) := by show _ = _; rw [HX.out, metB, if_pos hS0, List.append_nil]
            clear hS0 HX
            go_wp2
            go_roundw
            case rel => exact ⟨i + 1, _, ws, _, by omega, by go_num, rfl, hXz, Hm.ready_in, fun h => by omega, HX2, by omega, hown4, hbel4⟩
            case measure => simp [intOf]; omega
          · have hSe : S.toList.isEmpty = false := toList_ne hS0
            have HX2 : Hid (Hm.feedS Hm.init (Bm.nums (B2 ++ encB S)) = (⟨0, true, []⟩, wantE (ws ++ [S]))) := by show _ = _; rw [HX.out, metB, if_neg hS0, if_neg (by omega)]; simp [wantE]
            clear hS0 HX
            go_wp2_with (at_builtin; refine wpList_append_own _ rfl _ _ 30 rfl w1.heap.size 9 i0 (.string ByteArray.empty) 1 16 Tryd.underlying30 hi hz0 hz1 hz2 rfl (by decide) _ _ _ rfl (hown4.alloc _) ⟨w4.heap.size, 0, none⟩ 1 1 [.string S] rfl rfl (one_news _) (one_ones _) ?c3 ?c4 ?c5 ?_)
            case c3 => unfold maxLen; omega
            case c4 => omega
            case c5 => simp; omega
            intro v' w5 hown5 hgrow5 _
            have hbel5 : Below w1.heap.size w1 w5 := (hbel4.alloc hbel4.size _).grown hgrow5 (by simp; omega) (own_base hown4)
            have hown6 : w5.ownsRow w1.heap.size 9 1 v' (ws ++ [S]).length ((ws ++ [S]).map Value.string) := by simpa using hown5
            clear hown5 hgrow5 hown4
            go_wp2
            go_roundw
            case rel => exact ⟨i + 1, _, ws ++ [S], _, by omega, by go_num, rfl, hXz, Hm.ready_in, fun h => by omega, HX2, by simp; omega, hown6, hbel5⟩
            case measure => simp [intOf]; omega
        | true =>
          by_cases hB0 : B2.size = 0
          · have hBe : B2.toList = [] := toList_nil hB0
            have HX : Hid (Hm.feedS Hm.init (Bm.nums (B2 ++ encB S)) = (⟨0, true, []⟩, wantE ws ++ metB S)) := frames_enc HF2.out hrd2 S
            have hXz : (B2 ++ encB S).size ≤ 5000 * (i + 1) := by rw [ByteArray.size_append]; omega
            by_cases hS0 : S.size = 0
            · have hSe : S.toList = [] := toList_nil hS0
              have HX2 : Hid (Hm.feedS Hm.init (Bm.nums (B2 ++ encB S)) = (⟨0, true, []⟩, wantE ws)) := by show _ = _; rw [HX.out, metB, if_pos hS0, List.append_nil]
              clear hS0 HX
              go_wp2
              go_roundw
              case rel => exact ⟨i + 1, _, ws, _, by omega, by go_num, rfl, hXz, Hm.ready_in, fun h => by omega, HX2, by omega, hown4, hbel4⟩
              case measure => simp [intOf]; omega
            · have hSe : S.toList.isEmpty = false := toList_ne hS0
              have HX2 : Hid (Hm.feedS Hm.init (Bm.nums (B2 ++ encB S)) = (⟨0, true, []⟩, wantE (ws ++ [S]))) := by show _ = _; rw [HX.out, metB, if_neg hS0, if_neg (by omega)]; simp [wantE]
              clear hS0 HX
              go_wp2_with (at_builtin; refine wpList_append_own _ rfl _ _ 30 rfl w1.heap.size 9 i0 (.string ByteArray.empty) 1 16 Tryd.underlying30 hi hz0 hz1 hz2 rfl (by decide) _ _ _ rfl (hown4.alloc _) ⟨w4.heap.size, 0, none⟩ 1 1 [.string S] rfl rfl (one_news _) (one_ones _) ?c3 ?c4 ?c5 ?_)
              case c3 => unfold maxLen; omega
              case c4 => omega
              case c5 => simp; omega
              intro v' w5 hown5 hgrow5 _
              have hbel5 : Below w1.heap.size w1 w5 := (hbel4.alloc hbel4.size _).grown hgrow5 (by simp; omega) (own_base hown4)
              have hown6 : w5.ownsRow w1.heap.size 9 1 v' (ws ++ [S]).length ((ws ++ [S]).map Value.string) := by simpa using hown5
              clear hown5 hgrow5 hown4
              go_wp2
              go_roundw
              case rel => exact ⟨i + 1, _, ws ++ [S], _, by omega, by go_num, rfl, hXz, Hm.ready_in, fun h => by omega, HX2, by simp; omega, hown6, hbel5⟩
              case measure => simp [intOf]; omega
          · have hBe : B2.toList.isEmpty = false := toList_ne hB0
            have hl0 : B2.size - 1 < B2.size := by omega
            have hlast1 : (0 : Int) ≤ (B2.size : Int) - 1 := by omega
            have hlast2 : (B2.size : Int) - 1 < (B2.size : Int) := by omega
            have hlast3 : ((B2.size : Int) - 1).toNat = B2.size - 1 := by omega
            clear hB0
            by_cases h48 : (B2[B2.size - 1].toNat : Int) = 48
            · have t48 : ((B2[B2.size - 1].toNat : Int) == 48) = true := by simp [h48]
              clear h48
              have HX : Hid (Hm.feedS Hm.init (Bm.nums (B2 ++ (encB S).extract 1 (encB S).size)) = (⟨0, true, []⟩, wantE ws ++ metB S)) := frames_shared HF2.out hrd2 S
              have hXz : (B2 ++ (encB S).extract 1 (encB S).size).size ≤ 5000 * (i + 1) := by rw [ByteArray.size_append, ByteArray.size_extract]; omega
              by_cases hS0 : S.size = 0
              · have hSe : S.toList = [] := toList_nil hS0
                have HX2 : Hid (Hm.feedS Hm.init (Bm.nums (B2 ++ (encB S).extract 1 (encB S).size)) = (⟨0, true, []⟩, wantE ws)) := by show _ = _; rw [HX.out, metB, if_pos hS0, List.append_nil]
                clear hS0 HX
                go_wp2
                go_roundw
                case rel => exact ⟨i + 1, _, ws, _, by omega, by go_num, rfl, hXz, Hm.ready_in, fun h => by omega, HX2, by omega, hown4, hbel4⟩
                case measure => simp [intOf]; omega
              · have hSe : S.toList.isEmpty = false := toList_ne hS0
                have HX2 : Hid (Hm.feedS Hm.init (Bm.nums (B2 ++ (encB S).extract 1 (encB S).size)) = (⟨0, true, []⟩, wantE (ws ++ [S]))) := by show _ = _; rw [HX.out, metB, if_neg hS0, if_neg (by omega)]; simp [wantE]
                clear hS0 HX
                go_wp2_with (at_builtin; refine wpList_append_own _ rfl _ _ 30 rfl w1.heap.size 9 i0 (.string ByteArray.empty) 1 16 Tryd.underlying30 hi hz0 hz1 hz2 rfl (by decide) _ _ _ rfl (hown4.alloc _) ⟨w4.heap.size, 0, none⟩ 1 1 [.string S] rfl rfl (one_news _) (one_ones _) ?c3 ?c4 ?c5 ?_)
                case c3 => unfold maxLen; omega
                case c4 => omega
                case c5 => simp; omega
                intro v' w5 hown5 hgrow5 _
                have hbel5 : Below w1.heap.size w1 w5 := (hbel4.alloc hbel4.size _).grown hgrow5 (by simp; omega) (own_base hown4)
                have hown6 : w5.ownsRow w1.heap.size 9 1 v' (ws ++ [S]).length ((ws ++ [S]).map Value.string) := by simpa using hown5
                clear hown5 hgrow5 hown4
                go_wp2
                go_roundw
                case rel => exact ⟨i + 1, _, ws ++ [S], _, by omega, by go_num, rfl, hXz, Hm.ready_in, fun h => by omega, HX2, by simp; omega, hown6, hbel5⟩
                case measure => simp [intOf]; omega
            · have t48 : ((B2[B2.size - 1].toNat : Int) == 48) = false := by simpa using h48
              clear h48
              have HX : Hid (Hm.feedS Hm.init (Bm.nums (B2 ++ encB S)) = (⟨0, true, []⟩, wantE ws ++ metB S)) := frames_enc HF2.out hrd2 S
              have hXz : (B2 ++ encB S).size ≤ 5000 * (i + 1) := by rw [ByteArray.size_append]; omega
              by_cases hS0 : S.size = 0
              · have hSe : S.toList = [] := toList_nil hS0
                have HX2 : Hid (Hm.feedS Hm.init (Bm.nums (B2 ++ encB S)) = (⟨0, true, []⟩, wantE ws)) := by show _ = _; rw [HX.out, metB, if_pos hS0, List.append_nil]
                clear hS0 HX
                go_wp2
                go_roundw
                case rel => exact ⟨i + 1, _, ws, _, by omega, by go_num, rfl, hXz, Hm.ready_in, fun h => by omega, HX2, by omega, hown4, hbel4⟩
                case measure => simp [intOf]; omega
              · have hSe : S.toList.isEmpty = false := toList_ne hS0
                have HX2 : Hid (Hm.feedS Hm.init (Bm.nums (B2 ++ encB S)) = (⟨0, true, []⟩, wantE (ws ++ [S]))) := by show _ = _; rw [HX.out, metB, if_neg hS0, if_neg (by omega)]; simp [wantE]
                clear hS0 HX
                go_wp2_with (at_builtin; refine wpList_append_own _ rfl _ _ 30 rfl w1.heap.size 9 i0 (.string ByteArray.empty) 1 16 Tryd.underlying30 hi hz0 hz1 hz2 rfl (by decide) _ _ _ rfl (hown4.alloc _) ⟨w4.heap.size, 0, none⟩ 1 1 [.string S] rfl rfl (one_news _) (one_ones _) ?c3 ?c4 ?c5 ?_)
                case c3 => unfold maxLen; omega
                case c4 => omega
                case c5 => simp; omega
                intro v' w5 hown5 hgrow5 _
                have hbel5 : Below w1.heap.size w1 w5 := (hbel4.alloc hbel4.size _).grown hgrow5 (by simp; omega) (own_base hown4)
                have hown6 : w5.ownsRow w1.heap.size 9 1 v' (ws ++ [S]).length ((ws ++ [S]).map Value.string) := by simpa using hown5
                clear hown5 hgrow5 hown4
                go_wp2
                go_roundw
                case rel => exact ⟨i + 1, _, ws ++ [S], _, by omega, by go_num, rfl, hXz, Hm.ready_in, fun h => by omega, HX2, by simp; omega, hown6, hbel5⟩
                case measure => simp [intOf]; omega
    · have hdr := hd1.below hbel (Nat.le_refl _)
      have hfe := feed_any B _ w.heap.size w.heap.size _ wr hdr hqr.size (by omega) (by show 0 + B.size ≤ _; omega)
      rw [HF.out] at hfe
      go_wp2_with fail
      refine hfe.mono ?_
      rintro e w6 ⟨x, v6, rfl, hF6⟩
      have hq6 := hqr.trans (hF6.below' hdr hqr.size)
      have hown6 : w6.ownsRow w1.heap.size 9 1 u9 ws.length (ws.map Value.string) := hF6.kept.owns hown (fun k hk hx => by
        have h1 := (hown.lt k hk).1
        have h2 := hd1.lt
        rcases hx with hx | hx
        · omega
        · simp [Value.ownBlock] at hx)
      have hrow6 := hF6.row
      rw [wantE_length] at hrow6
      clear hfe hF6 hown
      obtain ⟨x1, c1, he1⟩ := row_shape hrow6
      obtain ⟨x2, c2, he2⟩ := own_shape hown6
      rw [he1] at hrow6
      rw [he2] at hown6
      rw [he1, he2]
      clear he1 he2
      have hwl2 : (ws.length : Int) ≤ 20 := by omega
      go_wp2
      go_loopw [17, 112] (fun _ c wz => ∃ j : Nat, j ≤ ws.length ∧ c = .int .i64 j ∧ wz.ownsRow wr.heap.size 47 2 (.slice x1 ws.length c1) ws.length (evCells (wantE ws)) ∧ wz.ownsRow w1.heap.size 9 1 (.slice x2 ws.length c2) ws.length (ws.map Value.string) ∧ Below w.heap.size w wz)
        (fun _ c _ => ws.length - (intOf c).toNat)
      case atStart => exact ⟨0, Nat.zero_le _, rfl, hrow6, hown6, hq6⟩
      case round =>
        obtain ⟨j, hj, rfl, hrz, hoz, hqz⟩ := hrel
        clear hrow6 hown6 hq6
        by_cases hlt2 : j < ws.length
        · obtain ⟨g1, e1, p0, p1, pl⟩ := row_want hrz j hlt2
          obtain ⟨g2, e2, p2, pl2⟩ := row_str hoz j hlt2
          subst e1
          subst e2
          generalize ws[j] = W at p1 p2
          go_wp2
          go_region
          go_wp2
          go_roundw
          case rel => exact ⟨j + 1, by omega, by go_num, hrz.drew, hoz.drew, hqz.drew⟩
          case measure => simp [intOf]; omega
        · go_wp2
          go_ret
          exact ⟨rfl, hqz⟩
end Go.Proofs.YtoakkfmebdglhaaDoor
