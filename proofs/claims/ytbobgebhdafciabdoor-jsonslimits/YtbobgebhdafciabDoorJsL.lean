/-
  The walk of JsonsLimits.
-/
import Derived.Test.YtbobgebhdafciabDoorJsN
import Derived.Test.YtbobgebhdafciabDoorJLm
namespace Go.Proofs.YtbobgebhdafciabDoor
open Go.Shelf Go.RowKit
set_option linter.unusedVariables false
set_option linter.unusedSimpArgs false

theorem rest_bwV (W : World) (l : Bs) (hl : l.length ≤ 1000000) : RestV (Lib.bytesWorld W 5 ⟨l.toArray⟩) (Lib.bytesWorld W 5 ⟨l.toArray⟩).heap.size (some ⟨W.heap.size, 0, none⟩) (grownCap W l.length 0 5) l := by
  have h := rest_bw W l
  refine ⟨h.cap, ?_, h.lies, fun a ha => ?_, fun h => by cases h⟩
  · have := grownCap_le_maxLen W l.length 0 5 (by unfold maxLen; omega)
    unfold maxLen at this
    omega
  · cases ha
    exact ⟨by rw [Lib.bytesWorld_size]; simp, rfl⟩
/-- Parse of a text. -/
theorem parse_bw (W : World) (l : Bs) (m : Nat) (hm : l.length = m) (hl : m ≤ 1000000) (hT : Tabs W) :
    Calls Tryd.prog 6 #[.slice (some ⟨W.heap.size, 0, none⟩) m (grownCap W m 0 5)] (Lib.bytesWorld W 5 ⟨l.toArray⟩) fun e w' => Below W.heap.size W w' ∧ ((∃ ns p c, parseS l = .ok ns ∧ e = .returned (.tuple #[.slice p ns.length c, .int .i64 0])) ∨ (∃ k : Nat, parseS l = .error k ∧ 0 < k ∧ k < 100 ∧ e = .returned (.tuple #[.slice none 0 0, .int .i64 k]))) := by
  have hr := rest_bwV W l (by omega)
  have hc := Parse_any _ _ l _ hr (hT.below (below_bw W l))
  rw [hm] at hc
  refine hc.mono ?_
  rintro e w' ⟨hb, (⟨ns, nv, hs, q1, rfl, N2, l2⟩ | ⟨k, q1, k1, k2, rfl⟩)⟩
  · obtain ⟨pa, ca, rfl, L2⟩ := N2.lies
    exact ⟨(below_bw W l).trans (hb.mono (below_bw W l).size), .inl ⟨ns, pa, ca, q1, rfl⟩⟩
  · exact ⟨(below_bw W l).trans (hb.mono (below_bw W l).size), .inr ⟨k, q1, k1, k2, rfl⟩⟩
theorem lim_many (m : Nat) (hm : m = 0 ∨ m = 1) : (m = 1 ∧ parseS (more (254 + m) [91, 48] [44, 48] ++ [93]) = .error 14) ∨ (m = 0 ∧ ∃ ns, parseS (more (254 + m) [91, 48] [44, 48] ++ [93]) = .ok ns) := by
  rcases hm with rfl | rfl
  · exact .inr ⟨rfl, isOk_ok many_ok⟩
  · exact .inl ⟨rfl, errOf_error many_err (by decide)⟩
theorem lim_deep (m : Nat) (hm : m = 0 ∨ m = 1) : (m = 1 ∧ parseS (more (8 + m) (more (8 + m) [] [91]) [93]) = .error 13) ∨ (m = 0 ∧ ∃ ns, parseS (more (8 + m) (more (8 + m) [] [91]) [93]) = .ok ns) := by
  rcases hm with rfl | rfl
  · exact .inr ⟨rfl, isOk_ok deep_ok⟩
  · exact .inl ⟨rfl, errOf_error deep_err (by decide)⟩
theorem lim_long (m : Nat) (hm : m = 0 ∨ m = 1) : (m = 1 ∧ parseS (more (4094 + m) [34] [120] ++ [34]) = .error 3) ∨ (m = 0 ∧ ∃ ns, parseS (more (4094 + m) [34] [120] ++ [34]) = .ok ns) := by
  rcases hm with rfl | rfl
  · exact .inr ⟨rfl, long_ok⟩
  · exact .inl ⟨rfl, long_err⟩

set_option maxRecDepth 100000 in
set_option maxHeartbeats 4000000 in
/-- JsonsLimits. -/
theorem JsonsLimits_walk (wh ov : Nat) (hwh : wh < 256) (hov : ov < 256) (w : World) (hT : Tabs w) :
    Calls Tryd.prog 3 #[.int .u8 wh, .int .u8 ov] w fun e w' => e = .returned (.bool true) ∧ Below w.heap.size w w' := by
  obtain ⟨m, hm⟩ : ∃ m, ov % 2 = m := ⟨_, rfl⟩
  obtain ⟨k, hk⟩ : ∃ k, wh % 3 = k := ⟨_, rfl⟩
  have hm01 : m = 0 ∨ m = 1 := by omega
  have hmI : (m : Int) ≤ 1 := by omega
  have hm0 : (0 : Int) ≤ (m : Int) := by omega
  have hr1 : (ov : Int) % 2 = (m : Int) := by omega
  have hr2 : (wh : Int) % 3 = (k : Int) := by omega
  have HK : Hid (k < 3 ∧ (m = 0 ∨ m = 1) ∧ Tabs w) := ⟨by omega, hm01, hT⟩
  clear hm hk hm01 hwh hov
  go_enter Tryd.func3, Tryd.ntmps3
  go_wp2_with fail
  go_at_call 5
  refine (Awake_any w hT).mono ?_
  rintro e w1 ⟨rfl, b1⟩
  have T1 : Tabs w1 := hT.below b1
  clear hT
  go_upto_block 0 with fail
  go_cut [6, 7] from 8 (fun s6 s7 wc => ∃ (T : Bs) (want L : Nat), s6 = .string ⟨T.toArray⟩ ∧ s7 = .int .i64 want ∧ Hid (T.length = L ∧ ((m = 1 ∧ parseS T = .error want) ∨ (m = 0 ∧ ∃ ns, parseS T = .ok ns))) ∧ L ≤ 5000 ∧ wc = w1)
  case first =>
    have hk3 := HK.out.1
    rcases (show k = 0 ∨ k = 1 ∨ k = 2 by omega) with hk | hk | hk
    · have hka : ((k : Int) == 0) = true := by simp; omega
      obtain ⟨N, hN⟩ : ∃ N, 254 + m = N := ⟨_, rfl⟩
      have hNI : (254 : Int) + (m : Int) = (N : Int) := by omega
      have HLM : Hid ((m = 1 ∧ parseS (more N [91, 48] [44, 48] ++ [93]) = .error 14) ∨ (m = 0 ∧ ∃ ns, parseS (more N [91, 48] [44, 48] ++ [93]) = .ok ns)) := by have := lim_many m HK.out.2.1; rw [hN] at this; exact this
      have hNb : N ≤ 255 := by omega
      clear hN hk3 hk
      go_wp2_with fail
      go_loopw [6, 30] (fun v6 v30 wr => ∃ i : Nat, v6 = .string ⟨(more i [91, 48] [44, 48]).toArray⟩ ∧ v30 = .int .i64 i ∧ i ≤ N ∧ wr = w1) (fun _ v30 _ => N - (intOf v30).toNat)
      case atStart => exact ⟨0, rfl, rfl, by omega, rfl⟩
      case round =>
        obtain ⟨i, rfl, rfl, hi, hwr⟩ := hrel
        have hwr' := hwr.symm
        subst hwr'
        clear hwr
        have hi0 : (0 : Int) ≤ (i : Int) := by omega
        have hlen := more_len i [91, 48] [44, 48]
        simp only [List.length_cons, List.length_nil] at hlen
        rcases Nat.lt_or_eq_of_le hi with hi | rfl
        · have hiI : (i : Int) < (N : Int) := by omega
          have hid : decide ((i : Int) < (N : Int)) = true := by simpa using hiI
          have HX : Hid (more (i + 1) [91, 48] [44, 48] = more i [91, 48] [44, 48] ++ [44, 48]) := rfl
          obtain ⟨t, ht⟩ : ∃ t, more i [91, 48] [44, 48] = t := ⟨_, rfl⟩
          rw [ht] at hlen HX ⊢
          have htb : t.length ≤ 10000 := by omega
          clear ht hlen
          go_wp2_with fail
          exact ⟨⟨i + 1, by rw [HX.out, ← str_app], by go_num, by omega, by trivial⟩, by simp only [intOf]; omega⟩
        · have hid : decide ((i : Int) < (i : Int)) = false := by simp
          obtain ⟨t, ht⟩ : ∃ t, more i [91, 48] [44, 48] = t := ⟨_, rfl⟩
          have HT : Hid (more i [91, 48] [44, 48] = t) := ht
          rw [ht] at hlen ⊢
          have htb : t.length ≤ 4000 := by omega
          clear ht hlen
          go_wp2_with fail
          go_meet
          case rel => exact ⟨t ++ [93], 14, t.length + 1, by rw [← str_app], rfl, ⟨by simp, by rw [← HT.out]; exact HLM.out⟩, by omega, rfl⟩
    · have hka : ((k : Int) == 0) = false := by simp; omega
      have hkb : ((k : Int) == 1) = true := by simp; omega
      obtain ⟨N, hN⟩ : ∃ N, 8 + m = N := ⟨_, rfl⟩
      have hNI : (8 : Int) + (m : Int) = (N : Int) := by omega
      have HLM : Hid ((m = 1 ∧ parseS (more N (more N [] [91]) [93]) = .error 13) ∨ (m = 0 ∧ ∃ ns, parseS (more N (more N [] [91]) [93]) = .ok ns)) := by have := lim_deep m HK.out.2.1; rw [hN] at this; exact this
      have hNb : N ≤ 9 := by omega
      clear hN hk3 hk
      go_wp2_with fail
      go_loopw [6, 41] (fun v6 v41 wr => ∃ i : Nat, v6 = .string ⟨(more i [] [91]).toArray⟩ ∧ v41 = .int .i64 i ∧ i ≤ N ∧ wr = w1) (fun _ v41 _ => N - (intOf v41).toNat)
      case atStart => exact ⟨0, rfl, rfl, by omega, rfl⟩
      case round =>
        obtain ⟨i, rfl, rfl, hi, hwr⟩ := hrel
        have hwr' := hwr.symm
        subst hwr'
        clear hwr
        have hi0 : (0 : Int) ≤ (i : Int) := by omega
        have hlen := more_len i [] [91]
        simp only [List.length_cons, List.length_nil] at hlen
        rcases Nat.lt_or_eq_of_le hi with hi | rfl
        · have hiI : (i : Int) < (N : Int) := by omega
          have hid : decide ((i : Int) < (N : Int)) = true := by simpa using hiI
          have HX : Hid (more (i + 1) [] [91] = more i [] [91] ++ [91]) := rfl
          obtain ⟨t, ht⟩ : ∃ t, more i [] [91] = t := ⟨_, rfl⟩
          rw [ht] at hlen HX ⊢
          have htb : t.length ≤ 10000 := by omega
          clear ht hlen
          go_wp2_with fail
          exact ⟨⟨i + 1, by rw [HX.out, ← str_app], by go_num, by omega, by trivial⟩, by simp only [intOf]; omega⟩
        · have hid : decide ((i : Int) < (i : Int)) = false := by simp
          obtain ⟨t0, ht0⟩ : ∃ t, more i [] [91] = t := ⟨_, rfl⟩
          rw [ht0] at HLM hlen ⊢
          clear ht0
          have ht0b : t0.length ≤ 4000 := by omega
          clear hlen
          go_wp2_with fail
          go_loopw [6, 48] (fun v6 v48 wr => ∃ j : Nat, v6 = .string ⟨(more j t0 [93]).toArray⟩ ∧ v48 = .int .i64 j ∧ j ≤ i ∧ wr = w1) (fun _ v48 _ => i - (intOf v48).toNat)
          case atStart => exact ⟨0, rfl, rfl, by omega, rfl⟩
          case round =>
            obtain ⟨j, rfl, rfl, hj, hwr⟩ := hrel
            have hwr' := hwr.symm
            subst hwr'
            clear hwr
            have hj0 : (0 : Int) ≤ (j : Int) := by omega
            have hlen := more_len j t0 [93]
            simp only [List.length_cons, List.length_nil] at hlen
            rcases Nat.lt_or_eq_of_le hj with hj | rfl
            · have hjI : (j : Int) < (i : Int) := by omega
              have hjd : decide ((j : Int) < (i : Int)) = true := by simpa using hjI
              have HX : Hid (more (j + 1) t0 [93] = more j t0 [93] ++ [93]) := rfl
              obtain ⟨t, ht⟩ : ∃ t, more j t0 [93] = t := ⟨_, rfl⟩
              rw [ht] at hlen HX ⊢
              have htb : t.length ≤ 10000 := by omega
              clear ht hlen
              go_wp2_with fail
              exact ⟨⟨j + 1, by rw [HX.out, ← str_app], by go_num, by omega, by trivial⟩, by simp only [intOf]; omega⟩
            · have hjd : decide ((j : Int) < (j : Int)) = false := by simp
              obtain ⟨t, ht⟩ : ∃ t, more j t0 [93] = t := ⟨_, rfl⟩
              have HT : Hid (more j t0 [93] = t) := ht
              rw [ht] at hlen ⊢
              have htb : t.length ≤ 4500 := by omega
              clear ht hlen
              go_wp2_with fail
              go_meet
              case rel => exact ⟨t, 13, t.length, rfl, rfl, ⟨rfl, by rw [← HT.out]; exact HLM.out⟩, by omega, rfl⟩
    · have hka : ((k : Int) == 0) = false := by simp; omega
      have hkb : ((k : Int) == 1) = false := by simp; omega
      obtain ⟨N, hN⟩ : ∃ N, 4094 + m = N := ⟨_, rfl⟩
      have hNI : (4094 : Int) + (m : Int) = (N : Int) := by omega
      have HLM : Hid ((m = 1 ∧ parseS (more N [34] [120] ++ [34]) = .error 3) ∨ (m = 0 ∧ ∃ ns, parseS (more N [34] [120] ++ [34]) = .ok ns)) := by have := lim_long m HK.out.2.1; rw [hN] at this; exact this
      have hNb : N ≤ 4095 := by omega
      clear hN hk3 hk
      go_wp2_with fail
      go_loopw [6, 19] (fun v6 v19 wr => ∃ i : Nat, v6 = .string ⟨(more i [34] [120]).toArray⟩ ∧ v19 = .int .i64 i ∧ i ≤ N ∧ wr = w1) (fun _ v19 _ => N - (intOf v19).toNat)
      case atStart => exact ⟨0, rfl, rfl, by omega, rfl⟩
      case round =>
        obtain ⟨i, rfl, rfl, hi, hwr⟩ := hrel
        have hwr' := hwr.symm
        subst hwr'
        clear hwr
        have hi0 : (0 : Int) ≤ (i : Int) := by omega
        have hlen := more_len i [34] [120]
        simp only [List.length_cons, List.length_nil] at hlen
        rcases Nat.lt_or_eq_of_le hi with hi | rfl
        · have hiI : (i : Int) < (N : Int) := by omega
          have hid : decide ((i : Int) < (N : Int)) = true := by simpa using hiI
          have HX : Hid (more (i + 1) [34] [120] = more i [34] [120] ++ [120]) := rfl
          obtain ⟨t, ht⟩ : ∃ t, more i [34] [120] = t := ⟨_, rfl⟩
          rw [ht] at hlen HX ⊢
          have htb : t.length ≤ 10000 := by omega
          clear ht hlen
          go_wp2_with fail
          exact ⟨⟨i + 1, by rw [HX.out, ← str_app], by go_num, by omega, by trivial⟩, by simp only [intOf]; omega⟩
        · have hid : decide ((i : Int) < (i : Int)) = false := by simp
          obtain ⟨t, ht⟩ : ∃ t, more i [34] [120] = t := ⟨_, rfl⟩
          have HT : Hid (more i [34] [120] = t) := ht
          rw [ht] at hlen ⊢
          have htb : t.length ≤ 4500 := by omega
          clear ht hlen
          go_wp2_with fail
          go_meet
          case rel => exact ⟨t ++ [34], 3, t.length + 1, by rw [← str_app], rfl, ⟨by simp, by rw [← HT.out]; exact HLM.out⟩, by omega, rfl⟩
  case rest =>
  obtain ⟨T, want, L, rfl, rfl, HP, hLb, rfl⟩ := hcut
  have hcv := conv_bw wc T L HP.out.1
  go_wp2_with fail
  go_at_call 6
  refine (parse_bw wc T L HP.out.1 (by omega) T1).mono ?_
  rintro e w2 ⟨b2, hO⟩
  have HB2 : Hid (Below w.heap.size w w2 ∧ Tabs w2) := ⟨b1.trans (b2.mono b1.size), T1.below b2⟩
  rcases HK.out.2.1 with rfl | rfl
  · obtain ⟨ns, hns⟩ : ∃ ns, parseS T = .ok ns := by
      rcases HP.out.2 with ⟨h, _⟩ | ⟨_, h⟩
      · cases h
      · exact h
    rcases hO with ⟨ns', p, c, q1, rfl⟩ | ⟨k', q1, _⟩
    · have hcv2 := conv_bw w2 T L HP.out.1
      clear hcv b2
      go_wp2_with fail
      go_at_call 7
      refine (told_bw w2 T L HP.out.1 (by omega) HB2.out.2).mono ?_
      rintro e w3 ⟨rfl, b3⟩
      go_wp2_with fail
      go_ret
      exact ⟨rfl, HB2.out.1.trans (b3.mono HB2.out.1.size)⟩
    · rw [hns] at q1; cases q1
  · have hns : parseS T = .error want := by
      rcases HP.out.2 with ⟨_, h⟩ | ⟨h, _⟩
      · exact h
      · cases h
    rcases hO with ⟨ns', p, c, q1, rfl⟩ | ⟨k', q1, _, _, rfl⟩
    · rw [hns] at q1; cases q1
    · rw [hns] at q1
      cases q1
      clear hcv b2
      go_wp2_with fail
      go_ret
      exact ⟨rfl, HB2.out.1⟩
theorem JsonsLimits_came (a0 a1 : Int) (w0 : (Lit.int .u8 a0).wf = true) (w1 : (Lit.int .u8 a1).wf = true) (w : World) (hL : laidMet Tryd.prog Rows.jsonsLimitsRow.laid w) :
    Calls Tryd.prog 3 #[.int .u8 a0, .int .u8 a1] w fun e w' => e = .returned (.bool true) ∧ Below w.heap.size w w' := by
  have h0 := byte_wf w0
  have h1 := byte_wf w1
  obtain ⟨x, rfl⟩ : ∃ x : Nat, a0 = x := ⟨a0.toNat, by omega⟩
  obtain ⟨y, rfl⟩ : ∃ y : Nat, a1 = y := ⟨a1.toNat, by omega⟩
  exact JsonsLimits_walk x y (by omega) (by omega) w (tabs_laid hL)
end Go.Proofs.YtbobgebhdafciabDoor
