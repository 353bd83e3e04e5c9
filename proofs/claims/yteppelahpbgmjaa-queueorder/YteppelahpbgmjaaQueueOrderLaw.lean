/-
  The law QueueOrder's walk: payloads are sent in the order in which they came, each again behind a Back, till they are answered; then never.
-/
import Derived.Test.YteppelahpbgmjaaQueWakes
import Derived.Test.YteppelahpbgmjaaQueOwnA
import Derived.Test.YteppelahpbgmjaaCommon
import Derived.Deep.CutBlock
import Derived.BigQuiet
namespace Go.Proofs.Yteppelahpbgmjaa
open Go.RowKit
set_option linter.unusedVariables false
set_option linter.unusedSimpArgs false

/-- the payload of that number -/
def tx (i : Nat) : ByteArray := strOfNums [(i : Int)]
def lay (n : Nat) : List ByteArray := (List.range n).map tx
theorem lay_length (n : Nat) : (lay n).length = n := by simp [lay]
theorem lay_push (i : Nat) (h : i < 200) : Qm.pushN 256 (lay i) (tx i) = 0 ∧ Qm.pushL 256 (lay i) (tx i) = lay (i + 1) := by
  have h1 : ¬ 260 < (tx i).size := by
    have : (tx i).size = 1 := rfl
    omega
  have h2 : ¬ Qm.takes 256 ≤ (lay i).length := by
    rw [lay_length]
    have : Qm.takes 256 = 256 := rfl
    omega
  refine ⟨by unfold Qm.pushN; rw [if_neg h1, if_neg h2], ?_⟩
  unfold Qm.pushL
  rw [if_neg h1, if_neg h2]
  simp [lay, List.range_succ]
theorem lay_left (n d x : Nat) (h : d ≤ x) (hx : x ≤ n) : ((lay n).drop d).length - (x - d) = n - x := by
  rw [List.length_drop, lay_length]; omega
theorem lay_takeB (n d x : Nat) (h : d ≤ x) : Qm.takeB ((lay n).drop d) (x - d) = decide (x < n) := by
  unfold Qm.takeB
  rw [List.length_drop, lay_length]
  exact decide_eq_decide.2 (by omega)
theorem lay_takeS (n d x : Nat) (h : d ≤ x) (hx : x < n) : Qm.takeS ((lay n).drop d) (x - d) = tx x := by
  unfold Qm.takeS
  have e : d + (x - d) = x := by omega
  simp [List.getD, e, lay, hx]
theorem lay_takeN (n d x : Nat) (h : d ≤ x) : Qm.takeN ((lay n).drop d) (x - d) = (if x < n then x + 1 else x) - d := by
  unfold Qm.takeN
  rw [List.length_drop, lay_length]
  by_cases hx : x < n
  · rw [if_pos (by omega), if_pos hx]; omega
  · rw [if_neg (by omega), if_neg hx]
theorem ok_true {sn : Nat} {n : Int} (h : Qm.okN sn n = true) : ∃ m : Nat, n = (m : Int) ∧ m ≤ sn := by
  have := of_decide_eq_true h
  exact ⟨n.toNat, by omega, by omega⟩

theorem conv_one (W : World) (i : Nat) : (convert 45 9 (.slice (some ⟨W.heap.size, 0, none⟩) 1 1)).run Try.prog (W.alloc (.cells #[.int .u8 (i : Int)] 5)) = .ok (.string (tx i)) (W.alloc (.cells #[.int .u8 (i : Int)] 5)) :=
  run_convert_bytes_arg _ 45 5 Try.underlying45 Try.underlying5 W.heap.size 0 1 1 [(i : Int)] rfl (fun j hj => by
    have : j = 0 := by omega
    subst this
    simp) 9 Try.underlying9
theorem tx_size (i : Nat) : (tx i).size = 1 := rfl

set_option maxHeartbeats 4000000 in
set_option maxRecDepth 100000 in
theorem walk_QueueOrder (n : Int) (a : Option Addr) (len cap : Nat) (ps : List ActV) (w : World) (hn0 : -9223372036854775808 ≤ n ∧ n ≤ 9223372036854775807) (hr : RowA w a len cap ps) :
    Calls Try.prog 4 #[.int .i64 n, .slice a len cap] w fun e w' => e = .returned (.bool true) ∧ Below w.heap.size w w' := by
  have hlc : len ≤ cap := hr.2.1
  have hcm : cap ≤ 9223372036854775807 := by have := hr.2.2.1; unfold maxLen at this; exact this
  have HR : Hid (RowA w a len cap ps) := hr
  clear hr
  go_enter Try.func4, Try.ntmps4
  go_upto_region 1 with fail
  go_cut [0] from 13 to 15 (fun s0 wx => ∃ N : Nat, N ≤ 199 ∧ s0 = .int .i64 N ∧ w = wx)
  case first =>
    by_cases hneg : n ≤ 0
    · go_wp2_with fail
      go_meet
      exact ⟨0, by omega, rfl, rfl⟩
    · have hpos : 0 < n := by omega
      go_wp2_with fail
      go_meet
      exact ⟨(n % 200).toNat, by omega, by rw [Int.toNat_of_nonneg (by omega)], rfl⟩
  case rest =>
    obtain ⟨N, hN, rfl, rfl⟩ := hcut
    go_wp2_with fail
    refine (new_any 256 _).mono ?_
    rintro e w1 ⟨rfl, hq1, hb1⟩
    obtain ⟨C, hC⟩ : ∃ C, C = w.heap.size := ⟨_, rfl⟩
    have HO1 : Hid (Own C w w1 C 256 (lay 0) 0) := by rw [hC]; exact own_new hq1 (Nat.le_refl _) hb1
    clear hq1 hb1
    rw [← hC]
    have HC : Hid (C = w.heap.size) := hC
    clear hC
    go_wp2
    go_loopw [18] (fun c wr => ∃ i : Nat, i ≤ N ∧ c = .int .i64 i ∧ Hid (Own C w wr C 256 (lay i) 0)) (fun c _ => N - (intOf c).toNat)
    case atStart => exact ⟨0, Nat.zero_le _, rfl, HO1⟩
    case round =>
      obtain ⟨i, hiN, rfl, HO⟩ := hrel
      by_cases hlt : i < N
      · have hcv := conv_one wr i
        have hb : Below wr.heap.size wr (wr.alloc (.cells #[.int .u8 (i : Int)] 5)) := (Below.refl _ _).alloc (Nat.le_refl _) _
        have HOa : Hid (Own C w (wr.alloc (.cells #[.int .u8 (i : Int)] 5)) C 256 (lay i) 0) := HO.out.below hb
        have hi200 : i < 200 := by omega
        clear hb HO HO1
        go_wp2_with fail
        clear hcv
        refine (own_push (tx i) HOa.out (by rw [tx_size]; omega)).mono ?_
        rintro e w2 ⟨rfl, hO2⟩
        obtain ⟨e1, e2⟩ := lay_push i hi200
        rw [e2] at hO2
        rw [e1]
        have HO2 : Hid (Own C w w2 C 256 (lay (i + 1)) 0) := hO2
        clear e1 e2 hO2 HOa
        go_wp2
        go_roundw
        case rel => exact ⟨i + 1, by omega, by go_num, HO2⟩
        case measure => simp [intOf]; omega
      · have hie : i = N := by omega
        subst hie
        obtain ⟨m, hmin, hm200, hml⟩ : ∃ m : Nat, min (len : Int) 200 = (m : Int) ∧ m ≤ 200 ∧ m ≤ len := ⟨(min (len : Int) 200).toNat, by omega, by omega, by omega⟩
        have hfr : a.map (·.add 0) = a := by
          cases a with
          | none => rfl
          | some x => simp [Addr.add]
        have hmm : (if (200 : Int) < (len : Int) then (200 : Int) else (len : Int)) = (m : Int) := by split <;> omega
        clear HO1
        go_wp2
        clear hmin hfr hmm
        go_loopw [7, 8, 35] (fun s7 s8 c wr => ∃ (j d x : Nat), j ≤ m ∧ c = .int .i64 j ∧ d ≤ x ∧ x ≤ i ∧ s7 = .int .i64 d ∧ s8 = .int .i64 x ∧ Hid (Own C w wr C 256 ((lay i).drop d) (x - d))) (fun _ _ c _ => m - (intOf c).toNat)
        case atStart => exact ⟨0, 0, 0, Nat.zero_le _, rfl, Nat.le_refl _, Nat.zero_le _, rfl, rfl, HO⟩
        case round =>
          obtain ⟨j, d, x, hjm, rfl, hdx, hxN, rfl, rfl, HP⟩ := hrel
          clear HO
          by_cases hlt : j < m
          · obtain ⟨bb, off, q, rfl, hbb, hqe, hat, hok⟩ := HR.out.at j (by omega)
            have hat' := hat.below HP.out.bel (by rw [HC.out]; exact hbb)
            have hbr : bb < wr.heap.size := by have := HP.out.bs; have := HC.out; omega
            obtain ⟨d0, d1, d2, d3⟩ := hat'
            have HOk : Hid q.Ok := hok
            clear hat hqe hok hbb
            obtain ⟨Wq, hWq⟩ : ∃ Wq, Wq = wr.alloc (.cells #[.int .i64 q.d, .int .i64 q.n, .int .i64 q.o, .string q.s] 29) := ⟨_, rfl⟩
            go_upto_block 4 with fail
            rw [← hWq]
            have HPq : Hid (OwnA C w Wq C 256 wr.heap.size q ((lay i).drop d) (x - d)) := HP.out.act hWq
            clear hWq HP d0 d1 d2 d3 hbr
            generalize wr.heap.size = s at HPq ⊢
            have y1 := HPq.out.act.n
            have yl := HPq.out.lt
            generalize q.d.tmod 6 = r
            go_cut [7, 8, 11, 12] from 42 to 87 (fun s7 s8 s11 s12 wx => ∃ d' x' : Nat, d' ≤ x' ∧ x' ≤ i ∧ s7 = .int .i64 d' ∧ s8 = .int .i64 x' ∧ Hid (Own C w wx C 256 ((lay i).drop d') (x' - d')))
            case first =>
              by_cases e1 : r = 2 ∨ r = -2
              · rcases e1 with rfl | rfl
                all_goals
                  go_wp2_with fail
                  refine (owna_done q.n HPq.out).mono ?_
                  rintro e w2 ⟨rfl, hO2⟩
                  have z1 := hO2.act.n
                  have zl := hO2.lt
                  have HO2 : Hid (Own C w w2 C 256 (Qm.doneL ((lay i).drop d) (x - d) q.n) (Qm.doneS (x - d) q.n)) := hO2.own
                  clear hO2 HPq y1 yl
                  cases hk : Qm.okN (x - d) q.n with
                  | false =>
                    have e1 : Qm.doneL ((lay i).drop d) (x - d) q.n = (lay i).drop d := by unfold Qm.doneL; rw [hk]; rfl
                    have e2 : Qm.doneS (x - d) q.n = x - d := by unfold Qm.doneS; rw [hk]; rfl
                    rw [e1, e2] at HO2
                    clear e1 e2 hk
                    go_wp2_with fail
                    go_meet
                    exact ⟨d, x, hdx, hxN, rfl, rfl, HO2⟩
                  | true =>
                    obtain ⟨k, hkn, hkx⟩ := ok_true hk
                    have e1 : Qm.doneL ((lay i).drop d) (x - d) q.n = (lay i).drop (d + k) := by unfold Qm.doneL; rw [hk, hkn]; simp
                    have e2 : Qm.doneS (x - d) q.n = x - (d + k) := by unfold Qm.doneS; rw [hk, hkn]; simp; omega
                    rw [e1, e2] at HO2
                    simp only [Nat.zero_add] at z1
                    rw [hkn] at z1
                    clear e1 e2 hk hkn
                    go_wp2_with fail
                    go_meet
                    exact ⟨d + k, x, by omega, hxN, by first | rfl | go_num, rfl, HO2⟩
              by_cases e2 : r = 3 ∨ r = -3
              · rcases e2 with rfl | rfl
                all_goals
                  go_wp2_with fail
                  refine (owna_back q.n HPq.out).mono ?_
                  rintro e w2 ⟨rfl, hO2⟩
                  have z1 := hO2.act.n
                  have zl := hO2.lt
                  have HO2 : Hid (Own C w w2 C 256 ((lay i).drop d) (Qm.backS (x - d) q.n)) := hO2.own
                  clear hO2 HPq y1 yl
                  cases hk : Qm.okN (x - d) q.n with
                  | false =>
                    have e2 : Qm.backS (x - d) q.n = x - d := by unfold Qm.backS; rw [hk]; rfl
                    rw [e2] at HO2
                    clear e2 hk
                    go_wp2_with fail
                    go_meet
                    exact ⟨d, x, hdx, hxN, rfl, rfl, HO2⟩
                  | true =>
                    obtain ⟨k, hkn, hkx⟩ := ok_true hk
                    have e2 : Qm.backS (x - d) q.n = d + k - d := by unfold Qm.backS; rw [hk, hkn]; simp
                    rw [e2] at HO2
                    simp only [Nat.zero_add] at z1
                    rw [hkn] at z1
                    clear e2 hk hkn
                    go_wp2_with fail
                    go_meet
                    exact ⟨d, d + k, by omega, by omega, rfl, by first | rfl | go_num, HO2⟩
              have n1 : (r == 2) = false := by simp; omega
              have n2 : (r == -2) = false := by simp; omega
              have n3 : (r == 3) = false := by simp; omega
              have n4 : (r == -3) = false := by simp; omega
              clear e1 e2
              go_wp2_with fail
              refine (owna_take HPq.out).mono ?_
              rintro e w2 ⟨rfl, hO2⟩
              have HO2 : Hid (Own C w w2 C 256 ((lay i).drop d) (Qm.takeN ((lay i).drop d) (x - d))) := hO2.own
              rw [lay_takeN i d x hdx] at HO2
              rw [lay_takeB i d x hdx]
              clear hO2 HPq y1 yl n1 n2 n3 n4
              by_cases hx : x < i
              · rw [lay_takeS i d x hdx hx]
                rw [if_pos hx] at HO2
                have hcv := conv_one w2 x
                have hx200 : x < 200 := by omega
                have HO3 : Hid (Own C w (w2.alloc (.cells #[.int .u8 (x : Int)] 5)) C 256 ((lay i).drop d) (x + 1 - d)) := HO2.out.below ((Below.refl _ _).alloc (Nat.le_refl _) _)
                have hd : decide (x < i) = true := decide_eq_true hx
                rw [hd]
                clear hd HO2
                go_wp2_with fail
                go_meet
                exact ⟨d, x + 1, by omega, by omega, rfl, by first | rfl | go_num, HO3⟩
              · rw [if_neg hx] at HO2
                have hd : decide (x < i) = false := decide_eq_false hx
                rw [hd]
                clear hd
                go_wp2_with fail
                go_meet
                exact ⟨d, x, hdx, hxN, rfl, rfl, HO2⟩
            case rest =>
              obtain ⟨d', x', hd', hx', rfl, rfl, HE⟩ := hcut
              have HS := own_sent HE.out
              have HL := own_left HE.out
              rw [lay_left i d' x' hd' hx'] at HL
              have hsd : ((x' - d' : Nat) : Int) = (x' : Int) - (d' : Int) := Int.ofNat_sub hd'
              have hsn : ((i - x' : Nat) : Int) = (i : Int) - (x' : Int) := Int.ofNat_sub hx'
              rw [hsd] at HS
              rw [hsn] at HL
              clear HPq y1 yl hsd hsn
              go_wp2_with fail
              refine HS.mono ?_
              rintro e w3 ⟨rfl, rfl⟩
              go_wp2_with fail
              refine HL.mono ?_
              rintro e w4 ⟨rfl, hO4⟩
              have HO4 : Hid (Own C w w4 C 256 ((lay i).drop d') (x' - d')) := hO4
              clear hO4 HS HL HE
              go_wp2
              go_roundw
              case rel => exact ⟨j + 1, d', x', by omega, by go_num, hd', hx', rfl, rfl, HO4⟩
              case measure => simp [intOf]; omega
          · have HB : Hid (Below C w wr) := HP.out.bel
            have hbs := HP.out.bs
            clear HP
            go_wp2_with fail
            refine (wakes_any _).mono ?_
            rintro e w5 ⟨rfl, hb5⟩
            have HE : Hid (Below w.heap.size w w5) := by have := HB.out.trans (hb5.mono hbs); rw [HC.out] at this; exact this
            clear hb5 HB
            go_wp2
            go_ret
            exact ⟨rfl, HE.out⟩
end Go.Proofs.Yteppelahpbgmjaa
