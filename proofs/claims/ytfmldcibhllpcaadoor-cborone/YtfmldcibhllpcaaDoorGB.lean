/-
  The walk of CborOne.
-/
import Derived.Test.YtfmldcibhllpcaaDoorGA
import Derived.Test.YtfmldcibhllpcaaDoorDB
import Derived.Test.YtfmldcibhllpcaaDoorEB
namespace Go.Proofs.YtfmldcibhllpcaaDoor
open Go.Shelf Go.RowKit
set_option linter.unusedVariables false
set_option linter.unusedSimpArgs false

theorem own_conv {w : World} {base n : Nat} {p : Option Addr} {c : Nat} {l : Bs} (h : w.ownsRow base 5 1 (.slice p n c) n (Lib.byteCells l)) (hl : l.length = n) : (convert 22 9 (.slice p n c)).run Tryd.prog w = .ok (.string ⟨l.toArray⟩) w := by
  subst hl
  obtain ⟨p', c', e, hv⟩ := own_byv h
  cases e
  exact conv_bat hv.lies rfl
set_option maxRecDepth 100000 in
set_option maxHeartbeats 4000000 in
theorem CborOne_walk (w : World) (a0 : Option Addr) (len0 cap0 : Nat) (z0 : List Int) (w0 : CameJ .u8 w a0 len0 cap0 z0) (hL : laidMet Tryd.prog Rows.cborOneRow.laid w) :
    Calls Tryd.prog 6 #[.slice a0 len0 cap0] w fun e w' => e = .returned (.bool true) ∧ Below w.heap.size w w' := by
  have hT : Tw w := tw_laid hL
  have hle := w0.le
  unfold maxLen at hle
  obtain ⟨bs, hn, hV⟩ := w0.byv
  clear w0 hL
  have hleI : (len0 : Int) ≤ 9223372036854775807 := by omega
  go_enter Tryd.func6, Tryd.ntmps6
  go_wp2_with fail
  go_at_call 9
  refine (CAwake_any w hT.1).mono ?_
  rintro e w1 ⟨rfl, b1⟩
  by_cases q : 10000 < len0
  · have q' : 10000 < (len0 : Int) := by omega
    go_wp2_with fail
    go_ret
    exact ⟨rfl, b1⟩
  have q' : ¬ 10000 < (len0 : Int) := by omega
  have hV1 := (hV.keep (fun k hk _ => b1.block k hk)).mono (Q := fun b => b < w1.heap.size) (fun k hk _ => by have := b1.size; omega)
  have hT1 := hT.below b1
  have HD := Decode_any a0 len0 cap0 bs w1 hn hV1 hT1.1
  cases hR : decC bs with
  | error k =>
    obtain ⟨hk0, hk1⟩ := dec_err hR
    have hkb : ((k : Int) != 0) = true := by simp; omega
    have hkI : (k : Int) < 100 := by omega
    rw [hR] at HD
    go_wp2_with (go_at_call 14; refine HD.mono ?_; intro e w2 hp; obtain ⟨hb2, _, _, rfl⟩ := hp.errx; clear hp)
    go_ret
    have b3 : Below w2.heap.size w2 (w2.alloc (.cells #[.int .u8 0, .int .u64 0, .slice none 0 0, .slice none 0 0] 35)) := (Below.refl _ _).alloc (Nat.le_refl _) _
    exact ⟨rfl, b1.trans ((hb2.mono b1.size).trans (b3.mono (Nat.le_trans b1.size hb2.size)))⟩
  | ok r =>
    obtain ⟨i, ys⟩ := r
    obtain ⟨hfit, hclean, hdeep⟩ := dec_trim hR
    obtain ⟨cs, hcs, hxs⟩ := dec_enc hR
    rw [hR] at HD
    have hyl := dec_len hR
    go_wp2_with (go_at_call 14; refine HD.mono ?_; intro e w2 hp; obtain ⟨hb2, pb, cb, pk, ck, pr, cr, rfl, hi, hv⟩ := hp.okx; clear hp HD)
    have b3 : Below w2.heap.size w2 (w2.alloc (.cells #[.int .u8 (i.kind : Int), .int .u64 (i.n : Int), .slice pb i.b.length cb, .slice pk i.kids.length ck] 35)) := (Below.refl _ _).alloc (Nat.le_refl _) _
    have HE := Encode_any i pb pk _ cb _ ck _ _ _ ((hi.below b3).mono (Q := fun b => b < (w2.alloc (.cells #[.int .u8 (i.kind : Int), .int .u64 (i.n : Int), .slice pb i.b.length cb, .slice pk i.kids.length ck] 35)).heap.size) (fun b _ hb => hb)) hfit ((hT1.below hb2).below b3)
    rw [hcs] at HE
    have HX : Hid (Below w.heap.size w w1 ∧ Below w1.heap.size w1 w2 ∧ Below w2.heap.size w2 (w2.alloc (.cells #[.int .u8 (i.kind : Int), .int .u64 (i.n : Int), .slice pb i.b.length cb, .slice pk i.kids.length ck] 35))) := ⟨b1, hb2, b3⟩
    go_at_call 13
    refine HE.mono ?_
    rintro e w4 ⟨hb4, (⟨b, pc, cc, hRb, rfl, hown⟩ | ⟨k, hRb, _⟩)⟩
    rotate_left
    · cases hRb
    cases hRb
    obtain ⟨Lc, hLc⟩ : ∃ n, cs.length = n := ⟨_, rfl⟩
    obtain ⟨Ly, hLy⟩ : ∃ n, ys.length = n := ⟨_, rfl⟩
    rw [hLc] at hown
    rw [hLc, hLy]
    have hv4 := (hv.keep (w' := w4) (fun k _ hk => (hb4.block k (Nat.lt_of_lt_of_le hk b3.size)).trans (b3.block k hk))).lies
    rw [hLy] at hv4 hyl
    have hV4 := (hV1.keep (w' := w4) (fun k hk _ => ((hb4.block k (by have := hb2.size; have := b3.size; omega)).trans (b3.block k (by have := hb2.size; omega))).trans (hb2.block k hk))).lies
    rw [hn] at hV4
    have hcl : Lc ≤ 10000 ∧ Lc + Ly = len0 := by
      have h1 := congrArg List.length hxs
      rw [hn, List.length_append, hLc, hLy] at h1
      exact ⟨by omega, h1.symm⟩
    have hbase : (w2.alloc (.cells #[.int .u8 (i.kind : Int), .int .u64 (i.n : Int), .slice pb i.b.length cb, .slice pk i.kids.length ck] 35)).heap.size ≤ w4.heap.size := hb4.size
    obtain ⟨B3, hB3⟩ : ∃ B3, (w2.alloc (.cells #[.int .u8 (i.kind : Int), .int .u64 (i.n : Int), .slice pb i.b.length cb, .slice pk i.kids.length ck] 35)).heap.size = B3 := ⟨_, rfl⟩
    rw [hB3] at hown hbase
    have hcv0 := conv_bat (w := w4.drew) (c := cap0) hV4 hn
    rw [hxs] at hcv0
    have H1 : Hid (bs = cs ++ ys ∧ bs.length = len0 ∧ cs.length = Lc ∧ ys.length = Ly ∧ Lc + Ly = len0) := ⟨hxs, hn, hLc, hLy, hcl.2⟩
    have H2 : Hid (w4.drew.ownsRow B3 5 1 (.slice pc Lc cc) Lc (Lib.byteCells cs) ∧ B3 ≤ w4.drew.heap.size ∧ BAt w4.drew pr Ly ys ∧ Lc + Ly ≤ 100000000) := ⟨owns_keep hown (fun _ _ => rfl), hbase, hv4, by omega⟩
    have H3 : Hid (∀ w5, w4.drew.grownBy w5 (Value.slice pc Lc cc).ownBlock → BAt w5 a0 len0 bs ∧ Below w.heap.size w w5) := fun w5 gr => by
      have hb03 : Below w.heap.size w w4 := b1.trans ((hb2.mono b1.size).trans ((b3.mono (Nat.le_trans b1.size hb2.size)).trans (hb4.mono (Nat.le_trans (Nat.le_trans b1.size hb2.size) b3.size))))
      have hlow : ∀ k, k < w.heap.size → w5.heap[k]? = w4.heap[k]? := fun k hk => gr.block k (by have := hb03.size; show k < w4.heap.size; omega) (fun e => by have := (owns_lt hown e.symm).1; have := b1.size; have := hb2.size; have := b3.size; omega)
      refine ⟨?_, ⟨gr.os.trans hb03.os, gr.tape.trans hb03.tape, gr.output.trans hb03.output, Nat.le_trans hb03.size gr.size, fun k hk => (hlow k hk).trans (hb03.block k hk)⟩⟩
      have := (hV.keep (w' := w5) (fun k hk _ => (hlow k hk).trans (hb03.block k hk))).lies
      rw [hn] at this
      exact this
    clear hxs hn hLc hLy hcl hown hbase hv4 hV4 hV1 hV hT hT1 HE hcs hR hi hv hb4 hb2 b1 b3 hB3 hfit hclean hdeep HX hyl
    go_wp2_with fail
    go_region_law (refine step_append_wt (by simp [Region.wanted, yielded, Act.put]) (.tmp 32) (.tmp 33) rfl B3 (.slice pc Lc cc) (by simp [Act.eval, Act.put]) cs Lc H1.out.2.2.1 H2.out.1 pr Ly cr ys H1.out.2.2.2.1 (by simp [Act.eval, Act.put]) H2.out.2.2.1 H2.out.2.2.2 H2.out.2.1 ?_; intro v5 w5 o5 gr5 at5; obtain ⟨p5, c5, rfl⟩ := owns_slice o5; have hcv1 := own_conv o5 (by rw [List.length_append, H1.out.2.2.1, H1.out.2.2.2.1]); have hcv2 := conv_bat (w := w5) (c := cap0) (H3.out w5 gr5).1 H1.out.2.1; rw [H1.out.1] at hcv2; have HB : Hid (Below w.heap.size w w5) := (H3.out w5 gr5).2; clear o5 gr5 at5)
    all_goals
      go_wp2
      go_ret
      exact ⟨rfl, HB.out⟩
end Go.Proofs.YtfmldcibhllpcaaDoor
