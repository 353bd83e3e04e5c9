/-
  The law QueueLists' walk: what is sent, and what isn't, is all that there is, and a payload that is refused isn't.
-/
import Derived.Test.YteppelahpbgmjaaQueWakes
import Derived.Test.YteppelahpbgmjaaQueOwnA
import Derived.Deep.CutBlock
import Derived.BigQuiet
namespace Go.Proofs.Yteppelahpbgmjaa
open Go.RowKit
set_option linter.unusedVariables false
set_option linter.unusedSimpArgs false

/-- how a list reads -/
theorem list_shape {w : World} {base : Nat} {v : Value} {L : List ByteArray} (h : w.ownsRow base 9 1 v L.length (L.map Value.string)) : ∃ a cap, v = .slice a L.length cap := by
  obtain ⟨a, cap, G, h1, _⟩ := own_srow rfl h
  exact ⟨a, cap, h1⟩
theorem push_ways (mo : Int) (L : List ByteArray) (s : ByteArray) : (Qm.pushN mo L s = 0 ∧ (Qm.pushL mo L s).length = L.length + 1) ∨ ((Qm.pushN mo L s = 5 ∨ Qm.pushN mo L s = 10) ∧ Qm.pushL mo L s = L) := by
  by_cases h1 : 260 < s.size
  · exact Or.inr ⟨Or.inl (by unfold Qm.pushN; rw [if_pos h1]), by unfold Qm.pushL; rw [if_pos h1]⟩
  · by_cases h2 : Qm.takes mo ≤ L.length
    · exact Or.inr ⟨Or.inr (by unfold Qm.pushN; rw [if_neg h1, if_pos h2]), by unfold Qm.pushL; rw [if_neg h1, if_pos h2]⟩
    · exact Or.inl ⟨by unfold Qm.pushN; rw [if_neg h1, if_neg h2], by unfold Qm.pushL; rw [if_neg h1, if_neg h2]; simp⟩

set_option maxHeartbeats 4000000 in
set_option maxRecDepth 100000 in
theorem walk_QueueLists (a : Option Addr) (len cap : Nat) (ps : List ActV) (w : World) (hr : RowA w a len cap ps) :
    Calls Try.prog 7 #[.slice a len cap] w fun e w' => e = .returned (.bool true) ∧ Below w.heap.size w w' := by
  have hlc : len ≤ cap := hr.2.1
  have hcm : cap ≤ 9223372036854775807 := by have := hr.2.2.1; unfold maxLen at this; exact this
  have HR : Hid (RowA w a len cap ps) := hr
  clear hr
  obtain ⟨m, hmin, hm200, hml⟩ : ∃ m : Nat, min (len : Int) 100 = (m : Int) ∧ m ≤ 100 ∧ m ≤ len := ⟨(min (len : Int) 100).toNat, by omega, by omega, by omega⟩
  have hfr : a.map (·.add 0) = a := by
    cases a with
    | none => rfl
    | some x => simp [Addr.add]
  have hmm : (if (100 : Int) < (len : Int) then (100 : Int) else (len : Int)) = (m : Int) := by split <;> omega
  go_enter Try.func7, Try.ntmps7
  go_wp2_with fail
  refine (new_any 7 _).mono ?_
  rintro e w1 ⟨rfl, hq1, hb1⟩
  obtain ⟨C, hC⟩ : ∃ C, C = w.heap.size := ⟨_, rfl⟩
  have HO1 : Hid (Own C w w1 C 7 [] 0) := by rw [hC]; exact own_new hq1 (Nat.le_refl _) hb1
  clear hq1 hb1
  rw [← hC]
  have HC : Hid (C = w.heap.size) := hC
  clear hC
  go_wp2
  clear hmin hfr hmm
  go_loopw [15] (fun c wr => ∃ (j : Nat) (L : List ByteArray) (sn : Nat), j ≤ m ∧ c = .int .i64 j ∧ Hid (Own C w wr C 7 L sn)) (fun c _ => m - (intOf c).toNat)
  case atStart => exact ⟨0, [], 0, Nat.zero_le _, rfl, HO1⟩
  case round =>
    obtain ⟨j, L, sn, hjm, rfl, HP⟩ := hrel
    clear HO1
    by_cases hlt : j < m
    · obtain ⟨bb, off, q, rfl, hbb, hqe, hat, hok⟩ := HR.out.at j (by omega)
      have hat' := hat.below HP.out.bel (by rw [HC.out]; exact hbb)
      have hbr : bb < wr.heap.size := by have := HP.out.bs; have := HC.out; omega
      obtain ⟨d0, d1, d2, d3⟩ := hat'
      have HOk : Hid q.Ok := hok
      clear hat hqe hok hbb
      obtain ⟨Wq, hWq⟩ : ∃ Wq, Wq = wr.alloc (.cells #[.int .i64 q.d, .int .i64 q.n, .int .i64 q.o, .string q.s] 29) := ⟨_, rfl⟩
      have HPq : Hid (OwnA C w Wq C 7 wr.heap.size q L sn) := HP.out.act hWq
      go_wp2_with fail
      rw [← hWq]
      clear hWq HP d0 d1 d2 d3 hbr
      generalize wr.heap.size = s at HPq ⊢
      refine (owna_list HPq.out).mono ?_
      rintro e w2 ⟨v, rfl, hrow, hO2⟩
      obtain ⟨la, lc, rfl⟩ := list_shape hrow
      have HO2 : Hid (OwnA C w w2 C 7 s q L sn) := hO2
      have y0 := hO2.act.d
      have y1 := hO2.act.n
      have y3 := hO2.act.s
      have yl := hO2.lt
      have hl7 : L.length ≤ 256 := hO2.own.le
      simp only [Nat.zero_add] at y0 y1 y3
      clear hO2 hrow HPq
      obtain ⟨n, hn⟩ : ∃ n : Nat, n = L.length := ⟨_, rfl⟩
      rw [← hn] at hl7 ⊢
      have HN : Hid (n = L.length) := hn
      clear hn
      go_upto_block 2 with fail
      generalize q.d.tmod 6 = r
      go_cut [7] from 25 to 53 (fun s7 wx => ∃ (L' : List ByteArray) (sn' : Nat), Hid (Own C w wx C 7 L' sn'))
      case first =>
        by_cases e1 : r = 1
        · subst e1
          go_wp2_with fail
          refine (owna_take HO2.out).mono ?_
          rintro e w3 ⟨rfl, hO3⟩
          have HO3 : Hid (Own C w w3 C 7 L (Qm.takeN L sn)) := hO3.own
          clear hO3 HO2 y0 y1 y3 yl
          go_wp2_with fail
          go_meet
          exact ⟨_, _, HO3⟩
        by_cases e2 : r = 2
        · subst e2
          go_wp2_with fail
          refine (owna_done q.n HO2.out).mono ?_
          rintro e w3 ⟨rfl, hO3⟩
          have HO3 : Hid (Own C w w3 C 7 (Qm.doneL L sn q.n) (Qm.doneS sn q.n)) := hO3.own
          clear hO3 HO2 y0 y1 y3 yl
          go_wp2_with fail
          go_meet
          exact ⟨_, _, HO3⟩
        by_cases e3 : r = 3
        · subst e3
          go_wp2_with fail
          refine (owna_back q.n HO2.out).mono ?_
          rintro e w3 ⟨rfl, hO3⟩
          have HO3 : Hid (Own C w w3 C 7 L (Qm.backS sn q.n)) := hO3.own
          clear hO3 HO2 y0 y1 y3 yl
          go_wp2_with fail
          go_meet
          exact ⟨_, _, HO3⟩
        have n1 : (r == 1) = false := by simpa using e1
        have n2 : (r == 2) = false := by simpa using e2
        have n3 : (r == 3) = false := by simpa using e3
        clear e1 e2 e3
        go_wp2_with fail
        refine (owna_push q.s HO2.out HOk.out.s).mono ?_
        rintro e w3 ⟨rfl, hO3⟩
        have HO3 : Hid (Own C w w3 C 7 (Qm.pushL 7 L q.s) sn) := hO3.own
        clear hO3 HO2 y0 y1 y3 yl n1 n2 n3
        rcases push_ways 7 L q.s with ⟨h1, h2⟩ | ⟨h1, h2⟩
        · rw [h1]
          have hK : (Qm.pushL 7 L q.s).length = n + 1 := by rw [h2, ← HN.out]
          clear h1 h2
          obtain ⟨K, hKe⟩ : ∃ K, K = Qm.pushL 7 L q.s := ⟨_, rfl⟩
          rw [← hKe] at hK HO3
          clear hKe
          go_wp2_with fail
          refine (own_list HO3.out).mono ?_
          rintro e w4 ⟨v, rfl, hrow, _, hO4⟩
          obtain ⟨la2, lc2, rfl⟩ := list_shape hrow
          have HO4 : Hid (Own C w w4 C 7 K sn) := hO4
          rw [hK]
          clear hO4 hrow HO3 hK
          go_wp2_with fail
          go_meet
          exact ⟨_, _, HO4⟩
        · rw [h2] at HO3
          clear h2
          have hne : ((n : Int) == (n : Int) + 1) = false := by simp; omega
          rcases h1 with h1 | h1
          all_goals
            rw [h1]
            clear h1
            go_wp2_with fail
            refine (own_list HO3.out).mono ?_
            rintro e w4 ⟨v, rfl, hrow, _, hO4⟩
            obtain ⟨la2, lc2, rfl⟩ := list_shape hrow
            have HO4 : Hid (Own C w w4 C 7 L sn) := hO4
            rw [← HN.out]
            clear hO4 hrow HO3
            go_wp2_with fail
            go_meet
            exact ⟨_, _, HO4⟩
      case rest =>
        obtain ⟨L', sn', HE⟩ := hcut
        clear HO2 y0 y1 y3 yl
        have hs7 : L'.length ≤ 7 := HE.out.len
        have hsn : sn' ≤ L'.length := HE.out.sl
        have hz : ((L'.length - sn' : Nat) : Int) = (L'.length : Int) - (sn' : Int) := Int.ofNat_sub hsn
        have HL1 := fun wx (h : Own C w wx C 7 L' sn') => own_left h
        rw [hz] at HL1
        obtain ⟨K, hK⟩ : ∃ K : Nat, K = L'.length := ⟨_, rfl⟩
        have HK : Hid (K = L'.length) := hK
        rw [← hK] at hs7 hsn HL1
        clear hz hK
        have h7 : ¬ (7 : Int) < (K : Int) := by omega
        go_wp2_with fail
        refine (own_sent HE.out).mono ?_
        rintro e w3 ⟨rfl, rfl⟩
        go_wp2_with fail
        refine (HL1 _ HE.out).mono ?_
        rintro e w4 ⟨rfl, hO4⟩
        have HO4 : Hid (Own C w w4 C 7 L' sn') := hO4
        clear hO4 HE
        go_wp2_with fail
        refine (own_list HO4.out).mono ?_
        rintro e w5 ⟨v, rfl, hrow, _, hO5⟩
        obtain ⟨la3, lc3, rfl⟩ := list_shape hrow
        have HO5 : Hid (Own C w w5 C 7 L' sn') := hO5
        rw [← HK.out]
        clear hO5 hrow HO4
        go_wp2_with fail
        refine (own_list HO5.out).mono ?_
        rintro e w6 ⟨v, rfl, hrow, _, hO6⟩
        obtain ⟨la4, lc4, rfl⟩ := list_shape hrow
        have HO6 : Hid (Own C w w6 C 7 L' sn') := hO6
        rw [← HK.out]
        clear hO6 hrow HO5
        go_wp2_with fail
        refine (own_sent HO6.out).mono ?_
        rintro e w7 ⟨rfl, rfl⟩
        go_wp2_with fail
        refine (HL1 _ HO6.out).mono ?_
        rintro e w8 ⟨rfl, hO8⟩
        have HO8 : Hid (Own C w w8 C 7 L' sn') := hO8
        clear hO8 HO6 HL1
        go_wp2
        go_roundw
        case rel => exact ⟨j + 1, L', sn', by omega, by go_num, HO8⟩
        case measure => simp [intOf]; omega
    · have HB : Hid (Below C w wr) := HP.out.bel
      have hbs := HP.out.bs
      clear HP
      go_wp2_with fail
      refine (wakes_any _).mono ?_
      rintro e w5 ⟨rfl, hb5⟩
      have HE : Hid (Below w.heap.size w w5) := by have := HB.out.trans (hb5.mono hbs); rw [HC.out] at this; exact this
      clear hb5 HB
      go_wp2
      go_ret
      exact ⟨rfl, HE.out⟩
end Go.Proofs.Yteppelahpbgmjaa
