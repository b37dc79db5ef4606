/-
  The code's reader: an item, whole.
-/
import Derived.Test.YtfmldcibhllpcabDoorCY
namespace Go.Proofs.YtfmldcibhllpcabDoor
open Go.Shelf Go.RowKit
set_option linter.unusedVariables false
set_option linter.unusedSimpArgs false

/-- behindNumber. -/
theorem beh_all (d : Nat) (IH : ∀ d', d = d' + 1 → ItemOK d') (K n g : Nat) (bs : Bs) (t o : Nat) (w : World) (h : Cr w g bs t o) (hG : Gl g) (hT : Tabs w) (hd : d + o = 8) (ht : t ≤ 512) (hl : bs.length ≤ 8192) (hK : K < 7) (hn : n < 18446744073709551616) :
    Calls Tryd.prog 25 #[.pointer (some ⟨g, 0, none⟩), .int .u8 ((K + 1 : Nat) : Int), .int .u64 (n : Int)] w (ItPost d g o w (behC d o K n t bs)) := by
  by_cases k01 : K = 0 ∨ K = 1
  · exact beh_num d K n g bs t o w h k01 hn
  by_cases k23 : K = 2 ∨ K = 3
  · by_cases hs : bs.length < n
    · exact beh_short d K n g bs t o w h k23 hn hs
    · rcases k23 with rfl | rfl
      · exact beh_bytes d n g bs t o w h (by omega) hl
      · exact beh_text d n g bs t o w h hG hT (by omega) hl
  by_cases k6 : K = 6
  · subst k6
    exact beh_tag d n g bs t o w h hn
  have k45 : K = 4 ∨ K = 5 := by omega
  cases d with
  | zero =>
    rw [behC_zero o K n t bs k45]
    have ho : o = 8 := by omega
    subst ho
    refine beh_kids 0 0 K n g bs t 8 w h k45 hG (.error 13) (fun r e => by cases e) (fun W hW hb => ?_)
    refine (kids_deep (K + 1) n g bs t W hW (by omega) hn).mono ?_
    rintro e w' ⟨rfl, hb'⟩
    exact ⟨But.ofBelow hb', .inr ⟨13, bs, t, rfl, by decide, by decide, rfl, hW.below hb'⟩⟩
  | succ d =>
    rw [behC_kids d o K n t bs k45]
    refine beh_kids (d + 1) d K n g bs t o w h k45 hG _ (fun r e => rfl) (fun W hW hb => ?_)
    rcases k45 with rfl | rfl
    · exact kids_arr d (IH d rfl) n g bs t o W hW hG (hT.below hb) (by omega) ht hl hn
    · exact kids_map d (IH d rfl) n g bs t o W hW hG (hT.below hb) (by omega) ht hl hn

set_option maxRecDepth 100000 in
theorem and31_8 : ∀ X : Fin 256, bits .and .u8 ((X.val : Nat) : Int) 31 = ((X.val % 32 : Nat) : Int) := by decide
theorem shr5_8 (c : UInt8) : (c.toNat : Int) / 32 = ((c.toNat / 32 : Nat) : Int) := by omega
theorem ItPost.forms {d g o : Nat} {w : World} {R : Except Nat (It × Nat × Bs)} {e : Ending} {w' : World} (h : ItPost d g o w R e w') : ∃ (v0 v1 : Int) (p1 : Option Addr) (n1 d1 : Nat) (p2 : Option Addr) (n2 d2 : Nat) (k : Int), e = .returned (.tuple #[.agg #[.int .u8 v0, .int .u64 v1, .slice p1 n1 d1, .slice p2 n2 d2], .int .i64 k]) := by
  obtain ⟨h1, (⟨i', t1, ys', c0, c1, c2, c3, hR, e1, hi, hr⟩ | ⟨k, zs, t1, v0, v1, p1, n1, d1, p2, n2, d2, hR, h2, h3, h4, h5⟩)⟩ := h
  · obtain ⟨q, hq⟩ := hi.head
    obtain ⟨p, c, c', rfl, rfl, rfl, rfl, _⟩ := hq.cells
    exact ⟨_, _, _, _, _, _, _, _, _, e1⟩
  · exact ⟨_, _, _, _, _, _, _, _, _, h4⟩
theorem ItPost.store {d g o : Nat} {w w1 w2 : World} {R : Except Nat (It × Nat × Bs)} {v0 v1 v2 v3 er : Value} (h : ItPost d g o w1 R (.returned (.tuple #[.agg #[v0, v1, v2, v3], er])) w2) (hb : But g w w1) (hr : w.heap.size < w1.heap.size) (hg : g < w.heap.size) :
    ItPost d g o w R (.returned (.tuple #[.agg #[v0, v1, v2, v3], er])) ((((w2.setCell ⟨w.heap.size, 0, none⟩ v0).setCell ⟨w.heap.size, 1, none⟩ v1).setCell ⟨w.heap.size, 2, none⟩ v2).setCell ⟨w.heap.size, 3, none⟩ v3) := by
  have b3 := But.set4 w2 w.heap.size v0 v1 v2 v3
  obtain ⟨h1, (⟨i', t1, ys', c0, c1, c2, c3, hR, e1, hi, hr1⟩ | ⟨k, zs, t1, u0, u1, p1, n1, d1, p2, n2, d2, hR, h2, h3, h4, h5⟩)⟩ := h
  · refine ⟨(hb.trans h1).fresh b3 (Nat.le_refl _), .inl ⟨i', t1, ys', c0, c1, c2, c3, hR, e1, ?_, hr1.slot b3 hg⟩⟩
    exact (hi.keep (fun k hk hlt => b3.block k hlt (by omega))).mono (fun k hk _ => by omega)
  · exact ⟨(hb.trans h1).fresh b3 (Nat.le_refl _), .inr ⟨k, zs, t1, u0, u1, p1, n1, d1, p2, n2, d2, hR, h2, h3, h4, h5.slot b3 hg⟩⟩
theorem word_post (d X g : Nat) (ys : Bs) (t o : Nat) (W : World) (h : Cr W g ys t o) (h7 : X / 32 = 7) (hX : X < 256) :
    Calls Tryd.prog 23 #[.int .u8 (X : Int)] W (ItPost d g o W (if X % 32 < 20 ∨ 22 < X % 32 then .error 20 else .ok (⟨X % 32 - 13, 0, [], []⟩, t, ys))) := by
  by_cases hl : X % 32 < 20 ∨ 22 < X % 32
  · rw [if_pos hl]
    refine (word_no X (by omega) hX W).mono ?_
    rintro e w' ⟨rfl, hb⟩
    exact ⟨But.ofBelow hb, .inr ⟨20, ys, t, _, _, _, _, _, _, _, _, rfl, by decide, by decide, rfl, h.below hb⟩⟩
  · rw [if_neg hl]
    refine (word_yes X (by omega) W).mono ?_
    rintro e w' ⟨rfl, hb⟩
    have e1 : X - 237 = X % 32 - 13 := by omega
    rw [e1]
    refine ⟨But.ofBelow hb, .inl ⟨_, _, _, _, _, _, _, rfl, rfl, ?_, h.below hb⟩⟩
    exact ItOk.leaf (i := ⟨X % 32 - 13, 0, [], []⟩) d (show X % 32 - 13 < 256 by omega) (show (0 : Nat) < 18446744073709551616 by decide) (ByV.nil _ _) rfl
set_option maxRecDepth 100000 in
set_option maxHeartbeats 4000000 in
/-- item: one step. -/
theorem item_one (d : Nat) (IH : ∀ d', d = d' + 1 → ItemOK d') : ItemOK d := by
  intro g bs t o w h hG hT hd ht hl
  have hb := fun o => (Below.refl w.heap.size w).alloc (Nat.le_refl _) o
  have hg := h.lt
  obtain ⟨W0, hW0⟩ : ∃ W0, w.alloc (.cells #[.int .u8 0, .int .u64 0, .slice none 0 0, .slice none 0 0] 29) = W0 := ⟨_, rfl⟩
  have b0 : Below w.heap.size w W0 := by rw [← hW0]; exact hb _
  have z0 : W0.heap.size = w.heap.size + 1 := by rw [← hW0]; exact alloc_sz w _
  have r0 := h.below b0
  have s0 : Slot W0 w.heap.size (.int .u8 0) (.int .u64 0) (.slice none 0 0) (.slice none 0 0) := by rw [← hW0]; exact Slot.new w _ _ _ _
  have ci := r0.its
  have fi := r0.frz 1
  rw [itemC_eq]
  by_cases ht2 : 512 ≤ t
  · have : t = 512 := by omega
    subst this
    rw [if_pos (Nat.le_refl _)]
    obtain ⟨k0, k1, k2, k3, f0, f1, f2, f3⟩ := s0.facts
    go_enter Tryd.func15, Tryd.ntmps15
    go_wp2_with fail
    have s3 := s0.set4 (.int .u8 0) (.int .u64 0) (.slice none 0 0) (.slice none 0 0)
    have b3 := But.set4 W0 w.heap.size (.int .u8 0) (.int .u64 0) (.slice none 0 0) (.slice none 0 0)
    refine bodyPost_ret (ret_item rfl _ _ w.heap.size _ _ _ _ rfl s3) rfl ?_
    exact ⟨(But.ofBelow b0).fresh b3 (Nat.le_refl _), .inr ⟨14, bs, 512, _, _, _, _, _, _, _, _, rfl, by decide, by decide, rfl, r0.slot b3 (by omega)⟩⟩
  · rw [if_neg ht2]
    have htb : ((t : Int) == 512) = false := by simp; omega
    have htI : (t : Int) < 512 := by omega
    obtain ⟨W1, hW1⟩ : ∃ W1, W0.setCell ⟨g, 1, none⟩ (.int .i64 ((t + 1 : Nat) : Int)) = W1 := ⟨_, rfl⟩
    have et : ((t + 1 : Nat) : Int) = (t : Int) + 1 := by omega
    have r1 : Cr W1 g bs (t + 1) o := by rw [← hW1]; exact r0.setItems (t + 1)
    have b1 : But g W0 W1 := by rw [← hW1]; exact But.setCell g W0 1 _
    rw [et] at hW1
    have s1 := s0.same (b1.block _ (by omega) (by omega))
    have bw1 : But g w W1 := (But.ofBelow b0).trans b1
    have hsz1 : w.heap.size < W1.heap.size := s1.lt
    clear r0 h hb
    cases bs with
    | nil =>
      simp only []
      have HT := ctake_no g 1 [] (t + 1) o W1 r1 (by simp) (by decide)
      obtain ⟨k0, k1, k2, k3, f0, f1, f2, f3⟩ := s1.facts
      go_enter Tryd.func15, Tryd.ntmps15
      go_wp2_with (go_at_call 22; refine HT.mono ?_; rintro e w2 ⟨rfl, rfl⟩)
      have s3 := s1.set4 (.int .u8 0) (.int .u64 0) (.slice none 0 0) (.slice none 0 0)
      have b3 := But.set4 w2 w.heap.size (.int .u8 0) (.int .u64 0) (.slice none 0 0) (.slice none 0 0)
      refine bodyPost_ret (ret_item rfl _ _ w.heap.size _ _ _ _ rfl s3) rfl ?_
      exact ⟨bw1.fresh b3 (Nat.le_refl _), .inr ⟨20, [], t + 1, _, _, _, _, _, _, _, _, rfl, by decide, by decide, rfl, r1.slot b3 (by omega)⟩⟩
    | cons c ys =>
      simp only []
      have HT := ctake_yes g 1 (c :: ys) (t + 1) o W1 r1 (by simp)
      have hc := c.toNat_lt
      have ha := and31_8 ⟨c.toNat, by omega⟩
      simp only at ha
      obtain ⟨X, hX⟩ : ∃ X, c.toNat = X := ⟨_, rfl⟩
      rw [hX] at ha hc ⊢
      have hXI : (X : Int) < 256 := by omega
      have HX : Hid (c.toNat = X) := hX
      have hbn : ∀ w2, But g W1 w2 → But g w w2 := fun w2 h2 => bw1.trans h2
      by_cases h7 : X / 32 = 7
      · rw [if_pos h7]
        have h7I : (X : Int) / 32 = 7 := by omega
        have HWd := fun W hW => word_post d X g ys (t + 1) o W hW h7 hc
        obtain ⟨RR, hRR⟩ : ∃ RR : Except Nat (It × Nat × Bs), (if X % 32 < 20 ∨ 22 < X % 32 then .error 20 else .ok (⟨X % 32 - 13, 0, [], []⟩, t + 1, ys)) = RR := ⟨_, rfl⟩
        rw [hRR] at HWd ⊢
        clear hRR
        go_enter Tryd.func15, Tryd.ntmps15
        go_wp2_with (first
          | (go_at_call 22; refine HT.mono ?_; rintro e w2 ⟨p, cc, rfl, hv2, hr2, hb2⟩; have s2 := s1.same (hb2.block _ hsz1 (by omega)); obtain ⟨b, f, rfl, hcl⟩ := hv2.lies (by simp); have hcl0 := hcl 0 (by simp); simp only [List.take_succ_cons, List.take_zero, List.getD_cons_zero, HX.out, Nat.add_zero] at hcl0)
          | (go_at_call 23; refine (HWd w2 hr2).mono ?_; intro e w3 hp; obtain ⟨v0, v1, p1, n1, d1, p2, n2, d2, k, rfl⟩ := hp.forms; have s3 := s2.same (hp.1.block _ s2.lt (by omega)); obtain ⟨k0, k1, k2, k3, f0, f1, f2, f3⟩ := s3.facts))
        have s4 := s3.set4 (.int .u8 v0) (.int .u64 v1) (.slice p1 n1 d1) (.slice p2 n2 d2)
        refine bodyPost_ret (ret_item rfl _ _ w.heap.size _ _ _ _ rfl s4) rfl ?_
        exact hp.store (hbn _ hb2) s2.lt hg
      · rw [if_neg h7]
        have h7I : ¬ ((X : Int) / 32 = 7) := by omega
        have h7b : ((X : Int) / 32 == 7) = false := by simp; omega
        have HN := fun W hW => cnumber_any (X % 32) g ys (t + 1) o W hW (by omega)
        have HK := fun W => itemKind_any (X / 32) (by omega) W
        have hdv : (X : Int) / 32 = ((X / 32 : Nat) : Int) := by omega
        have hB := fun n W zs hW1 hW2 hW3 hW4 => beh_all d IH (X / 32) n g zs (t + 1) o W hW1 hG hW2 hd (by omega) hW3 (by omega) hW4
        cases hR : numC (X % 32) ys with
        | error k =>
          simp only []
          obtain ⟨hk0, hk1⟩ := numC_err hR
          have hkb : ((k : Int) != 0) = true := by simp; omega
          have hkI : (k : Int) < 100 := by omega
          obtain ⟨Y, hY⟩ : ∃ Y, X / 32 = Y := ⟨_, rfl⟩
          obtain ⟨Z, hZ⟩ : ∃ Z, X % 32 = Z := ⟨_, rfl⟩
          rw [hY] at hB HK hdv h7
          rw [hZ] at HN hR ha
          clear hY hZ hB
          go_enter Tryd.func15, Tryd.ntmps15
          go_wp2_with (first
            | (go_at_call 22; refine HT.mono ?_; rintro e w2 ⟨p, cc, rfl, hv2, hr2, hb2⟩; have s2 := s1.same (hb2.block _ hsz1 (by omega)); obtain ⟨b, f, rfl, hcl⟩ := hv2.lies (by simp); have hcl0 := hcl 0 (by simp); simp only [List.take_succ_cons, List.take_zero, List.getD_cons_zero, HX.out, Nat.add_zero] at hcl0)
            | (go_at_call 24; refine (HN w2 hr2).mono ?_; intro e w3 hp; obtain ⟨hb3, _, _, rfl, zs, hr3⟩ := hp.errx hR; have s3 := s2.same (hb3.block _ s2.lt (by omega)); obtain ⟨k0, k1, k2, k3, f0, f1, f2, f3⟩ := s3.facts))
          have s4 := s3.set4 (.int .u8 0) (.int .u64 0) (.slice none 0 0) (.slice none 0 0)
          have b4 := But.set4 w3 w.heap.size (.int .u8 0) (.int .u64 0) (.slice none 0 0) (.slice none 0 0)
          refine bodyPost_ret (ret_item rfl _ _ w.heap.size _ _ _ _ rfl s4) rfl ?_
          exact ⟨(bw1.trans (hb2.trans hb3)).fresh b4 (Nat.le_refl _), .inr ⟨k, zs, t + 1, _, _, _, _, _, _, _, _, rfl, hk0, hk1, rfl, hr3.slot b4 (by omega)⟩⟩
        | ok r =>
          obtain ⟨n, zs⟩ := r
          simp only []
          have hlz := numC_len hR
          have hl2 : zs.length ≤ 8192 := by simp at hl; omega
          obtain ⟨RR, hRR⟩ : ∃ RR : Except Nat (It × Nat × Bs), behC d o (X / 32) n (t + 1) zs = RR := ⟨_, rfl⟩
          obtain ⟨Y, hY⟩ : ∃ Y, X / 32 = Y := ⟨_, rfl⟩
          obtain ⟨Z, hZ⟩ : ∃ Z, X % 32 = Z := ⟨_, rfl⟩
          have HTb : ∀ w2, But g w w2 → Tabs w2 := fun w2 h2 => hT.cbut hG h2 hg
          rw [hY] at hB HK hdv h7 hRR ⊢
          rw [hZ] at HN hR ha
          rw [hRR]
          rw [show ((Y + 1 : Nat) : Int) = (Y : Int) + 1 by omega] at HK
          have hB2 : ∀ (n : Nat) (W : World) (zs : Bs), Cr W g zs (t + 1) o → Tabs W → zs.length ≤ 8192 → n < 18446744073709551616 → Calls Tryd.prog 25 #[.pointer (some ⟨g, 0, none⟩), .int .u8 ((Y : Int) + 1), .int .u64 (n : Int)] W (ItPost d g o W (behC d o Y n (t + 1) zs)) := fun n W zs h1 h2 h3 h4 => by
            have := hB n W zs h1 h2 h3 h4
            rw [show ((Y + 1 : Nat) : Int) = (Y : Int) + 1 by omega] at this
            exact this
          clear hY hZ hB
          go_enter Tryd.func15, Tryd.ntmps15
          go_wp2_with (first
            | (go_at_call 22; refine HT.mono ?_; rintro e w2 ⟨p, cc, rfl, hv2, hr2, hb2⟩; have s2 := s1.same (hb2.block _ hsz1 (by omega)); obtain ⟨b, f, rfl, hcl⟩ := hv2.lies (by simp); have hcl0 := hcl 0 (by simp); simp only [List.take_succ_cons, List.take_zero, List.getD_cons_zero, HX.out, Nat.add_zero] at hcl0)
            | (go_at_call 24; refine (HN w2 hr2).mono ?_; intro e w3 hp; obtain ⟨hb3, hnn, rfl, hr3⟩ := hp.okx hR; have s3 := s2.same (hb3.block _ s2.lt (by omega)))
            | (go_at_call 26; refine (HK _).mono ?_; rintro e w4 ⟨rfl, rfl⟩)
            | (go_at_call 25; refine (hB2 n _ zs hr3 (HTb _ (bw1.trans (hb2.trans hb3))) hl2 hnn).mono ?_; rw [hRR]; intro e w5 hp; obtain ⟨v0, v1, p1, n1, d1, p2, n2, d2, k, rfl⟩ := hp.forms; have s3' := s3.same (hp.1.block _ s3.lt (by omega)); obtain ⟨k0, k1, k2, k3, f0, f1, f2, f3⟩ := s3'.facts))
          all_goals
            have s4 := s3'.set4 (.int .u8 v0) (.int .u64 v1) (.slice p1 n1 d1) (.slice p2 n2 d2)
            refine bodyPost_ret (ret_item rfl _ _ w.heap.size _ _ _ _ rfl s4) rfl ?_
            exact hp.store (bw1.trans (hb2.trans hb3)) s3.lt hg
/-- item. -/
theorem item_ok : ∀ d, ItemOK d := by
  intro d
  induction d with
  | zero => exact item_one 0 (fun d' e => by omega)
  | succ d ih => exact item_one (d + 1) (fun d' e => by cases e; exact ih)
end Go.Proofs.YtfmldcibhllpcabDoor
