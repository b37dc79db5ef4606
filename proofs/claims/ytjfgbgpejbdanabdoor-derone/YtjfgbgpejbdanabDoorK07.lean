import Derived.Test.YtjfgbgpejbdanabDoorK06
/-
  The walk of DerOne.
-/
namespace Go.Proofs.YtjfgbgpejbdanabDoor
open Go.Shelf Go.RowKit
set_option linter.unusedVariables false
set_option linter.unusedSimpArgs false
set_option maxRecDepth 100000 in
set_option maxHeartbeats 4000000 in
theorem DerOne_walk (w : World) (a0 : Option Addr) (len0 cap0 : Nat) (z0 : List Int) (w0 : CameJ .u8 w a0 len0 cap0 z0) (hL : laidMet Tryd.prog Rows.derOneRow.laid w) :
    Calls Tryd.prog 6 #[.slice a0 len0 cap0] w fun e w' => e = .returned (.bool true) ∧ Below w.heap.size w w' := by
  have hT : Md w := md_laid hL
  have hle := w0.le
  unfold maxLen at hle
  obtain ⟨bs, hn, hV⟩ := w0.byv
  clear w0 hL
  have hleI : (len0 : Int) ≤ 9223372036854775807 := by omega
  go_enter Tryd.func6, Tryd.ntmps6
  go_wp2_with fail
  go_at_call 7
  refine (DAwake_any w hT).mono ?_
  rintro e w1 ⟨rfl, b1⟩
  by_cases q : 5000 < len0
  · have q' : 5000 < (len0 : Int) := by omega
    go_wp2_with fail
    go_ret
    exact ⟨rfl, b1⟩
  have q' : ¬ 5000 < (len0 : Int) := by omega
  have hV1 := (hV.keep (fun k hk _ => b1.block k hk)).mono (Q := fun b => b < w1.heap.size) (fun k hk _ => by have := b1.size; omega)
  have HD := derRead a0 len0 cap0 bs (fun b => b < w1.heap.size) w1 hn hV1
  cases hR : readD bs with
  | error k =>
    have hk := read_err hR
    have hkb : ((k : Int) != 0) = true := by simp; omega
    have hkI : (k : Int) < 100 := by omega
    rw [hR] at HD
    clear hk hR
    go_wp2_with (go_at_call 16; refine HD.mono ?_; intro e w2 hp; obtain ⟨hb2, rfl⟩ := hp.errx; clear hp)
    go_ret
    have b3 : Below w2.heap.size w2 (w2.alloc (.cells #[.int .u8 0, .slice none 0 0] 24)) := (Below.refl _ _).alloc (Nat.le_refl _) _
    exact ⟨rfl, b1.trans ((hb2.mono b1.size).trans (b3.mono (Nat.le_trans b1.size hb2.size)))⟩
  | ok x =>
    obtain ⟨⟨t, b⟩, ys⟩ := x
    obtain ⟨hxs, htag, h4096⟩ := read_form hR
    have hlens := read_len hR
    have ht := t.toNat_lt
    rw [hR] at HD
    obtain ⟨TN, hTN⟩ : ∃ T, t.toNat = T := ⟨_, rfl⟩
    obtain ⟨LB, hLB⟩ : ∃ T, b.length = T := ⟨_, rfl⟩
    obtain ⟨Ly, hLy⟩ : ∃ T, ys.length = T := ⟨_, rfl⟩
    clear hR
    go_wp2_with (go_at_call 16; refine HD.mono ?_; intro e w2 hp; obtain ⟨hb2, p1, c1, pr, cr, he, hv1, hv2⟩ := hp.okx; subst he; rw [hTN, hLB, hLy]; clear hp HD)
    have b3 : Below w2.heap.size w2 (w2.alloc (.cells #[.int .u8 (TN : Int), .slice p1 LB c1] 24)) := (Below.refl _ _).alloc (Nat.le_refl _) _
    have HE := derWrite TN (by omega) p1 LB c1 b (w2.alloc (.cells #[.int .u8 (TN : Int), .slice p1 LB c1] 24)) hLB (by have := hv1.lies; rw [hLB] at this; exact this.below b3) (by omega)
    go_at_call 12
    refine HE.mono ?_
    rintro e w4 ⟨hb4, hcases⟩
    have hwl : (writeD t b).length + Ly = len0 := by
      have h1 := congrArg List.length hxs
      rw [hn, List.length_append, hLy] at h1
      exact h1.symm
    have hwf : UInt8.ofNat TN :: (headD LB ++ b) = writeD t b := by
      unfold writeD
      rw [hLB, u8_of_toNat t TN (by omega)]
    have hwl2 : (writeD t b).length = 1 + (headD LB).length + LB := by rw [← hwf]; simp [hLB]; omega
    rw [hLB, hwf] at hcases
    obtain ⟨cs, hcs⟩ : ∃ cs, writeD t b = cs := ⟨_, rfl⟩
    rw [hcs] at hcases hxs hwl hwl2
    rcases hcases with ⟨hb31, _⟩ | ⟨_, hbig, _⟩ | ⟨_, _, v, rfl, hown⟩
    · exact absurd hb31 (by rw [← hTN]; exact htag)
    · exfalso; omega
    rw [← hwl2] at hown
    obtain ⟨Lc, hLc⟩ : ∃ n, cs.length = n := ⟨_, rfl⟩
    rw [hLc] at hown
    obtain ⟨pc, cc, rfl⟩ := owns_slice hown
    have hv4 := (hv2.keep (w' := w4) (fun k _ hk => (hb4.block k (Nat.lt_of_lt_of_le hk b3.size)).trans (b3.block k hk))).lies
    rw [hLy] at hv4
    have hV4 := (hV1.keep (w' := w4) (fun k hk _ => ((hb4.block k (by have := hb2.size; have := b3.size; omega)).trans (b3.block k (by have := hb2.size; omega))).trans (hb2.block k hk))).lies
    rw [hn] at hV4
    have hcl : Lc ≤ 10000 ∧ Lc + Ly = len0 := by omega
    have hbase : (w2.alloc (.cells #[.int .u8 (TN : Int), .slice p1 LB c1] 24)).heap.size ≤ w4.heap.size := hb4.size
    obtain ⟨B3, hB3⟩ : ∃ B3, (w2.alloc (.cells #[.int .u8 (TN : Int), .slice p1 LB c1] 24)).heap.size = B3 := ⟨_, rfl⟩
    rw [hB3] at hown hbase
    have hcv0 := conv_bat (w := w4.drew) (c := cap0) hV4 hn
    rw [hxs] at hcv0
    have H1 : Hid (bs = cs ++ ys ∧ bs.length = len0 ∧ cs.length = Lc ∧ ys.length = Ly ∧ Lc + Ly = len0) := ⟨hxs, hn, hLc, hLy, hcl.2⟩
    have H2 : Hid (w4.drew.ownsRow B3 5 1 (.slice pc Lc cc) Lc (Lib.byteCells cs) ∧ B3 ≤ w4.drew.heap.size ∧ BAt w4.drew pr Ly ys ∧ Lc + Ly ≤ 100000000) := ⟨owns_keep hown (fun _ _ => rfl), hbase, hv4, by omega⟩
    have H3 : Hid (∀ w5, w4.drew.grownBy w5 (Value.slice pc Lc cc).ownBlock → BAt w5 a0 len0 bs ∧ Below w.heap.size w w5) := fun w5 gr => by
      have hb03 : Below w.heap.size w w4 := b1.trans ((hb2.mono b1.size).trans ((b3.mono (Nat.le_trans b1.size hb2.size)).trans (hb4.mono (Nat.le_trans (Nat.le_trans b1.size hb2.size) b3.size))))
      have hlow : ∀ k, k < w.heap.size → w5.heap[k]? = w4.heap[k]? := fun k hk => gr.block k (by have := hb03.size; show k < w4.heap.size; omega) (fun e => by have := (owns_lt hown e.symm).1; have := b1.size; have := hb2.size; have := b3.size; omega)
      refine ⟨?_, ⟨gr.os.trans hb03.os, gr.tape.trans hb03.tape, gr.output.trans hb03.output, Nat.le_trans hb03.size gr.size, fun k hk => (hlow k hk).trans (hb03.block k hk)⟩⟩
      have := (hV.keep (w' := w5) (fun k hk _ => (hlow k hk).trans (hb03.block k hk))).lies
      rw [hn] at this
      exact this
    clear hxs hn hLc hLy hcl hown hbase hv4 hV4 hV1 hV hT HE hcs hv1 hv2 hb4 hb2 b1 b3 hB3 hlens hwl hwl2 hwf h4096 htag ht hTN hLB
    go_wp2_with fail
    go_region_law (refine step_append_wt (by simp [Region.wanted, yielded, Act.put]) (.tmp 41) (.tmp 42) rfl B3 (.slice pc Lc cc) (by simp [Act.eval, Act.put]) cs Lc H1.out.2.2.1 H2.out.1 pr Ly cr ys H1.out.2.2.2.1 (by simp [Act.eval, Act.put]) H2.out.2.2.1 H2.out.2.2.2 H2.out.2.1 ?_; intro v5 w5 o5 gr5 at5; obtain ⟨p5, c5, rfl⟩ := owns_slice o5; have hcv1 := own_conv o5 (by rw [List.length_append, H1.out.2.2.1, H1.out.2.2.2.1]); have hcv2 := conv_bat (w := w5) (c := cap0) (H3.out w5 gr5).1 H1.out.2.1; rw [H1.out.1] at hcv2; have HB : Hid (Below w.heap.size w w5) := (H3.out w5 gr5).2; clear o5 gr5 at5)
    all_goals
      go_wp2
      go_ret
      exact ⟨rfl, HB.out⟩
end Go.Proofs.YtjfgbgpejbdanabDoor
