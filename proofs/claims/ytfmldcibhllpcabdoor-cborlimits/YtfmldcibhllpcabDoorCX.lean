/-
  The code's reader: a map's kids.
-/
import Derived.Test.YtfmldcibhllpcabDoorCW
namespace Go.Proofs.YtfmldcibhllpcabDoor
open Go.Shelf Go.RowKit
set_option linter.unusedVariables false
set_option linter.unusedSimpArgs false

theorem keyR_ok {R : Except Nat (It × Nat × Bs)} {last : Option It} {r : It × Nat × Bs} (h : keyR R last = .ok r) : R = .ok r := by
  unfold keyR at h
  cases R with
  | error k => cases h
  | ok x =>
    obtain ⟨i, t, ys⟩ := x
    simp only [] at h
    split at h
    · cases h
    · split at h
      · cases h
      · exact h
theorem keyR_err {item : Nat → Nat → Bs → Except Nat (It × Nat × Bs)} (H : ErrOK item) {w t : Nat} {xs : Bs} {last : Option It} {k : Nat} (h : keyR (item w t xs) last = .error k) : 0 < k ∧ k < 100 := by
  unfold keyR at h
  cases hR : item w t xs with
  | error k' => rw [hR] at h; cases h; exact H _ _ _ _ hR
  | ok x =>
    obtain ⟨i, t, ys⟩ := x
    rw [hR] at h
    simp only [] at h
    split at h
    · cases h; exact ⟨by decide, by decide⟩
    · split at h
      · cases h; exact ⟨by decide, by decide⟩
      · cases h
set_option maxRecDepth 100000 in
set_option maxHeartbeats 4000000 in
/-- kids, of a map. -/
theorem kids_map (d : Nat) (HI : ItemOK d) (n g : Nat) (bs : Bs) (t o : Nat) (w : World) (h : Cr w g bs t o) (hG : Gl g) (hT : Tabs w) (hd : d + 1 + o = 8) (ht : t ≤ 512) (hl : bs.length ≤ 8192) (hn : n < 18446744073709551616) :
    Calls Tryd.prog 34 #[.pointer (some ⟨g, 0, none⟩), .int .u8 6, .int .u64 (n : Int)] w (KidsPost d g o w (pcsC (itemC d) true (o + 1) n none [] t bs)) := by
  have hmf : ∀ (fn : Fn) (first cap : Array Value) (w : World), (Instr.makeFunc fn first cap).run Tryd.prog w = .ok (.func fn first cap) w := fun _ _ _ _ => rfl
  have hg := h.lt
  obtain ⟨rb, hrb⟩ : ∃ rb, w.heap.size = rb := ⟨_, rfl⟩
  obtain ⟨W0, hW0⟩ : ∃ W0, w.alloc (.cells #[.pointer (some ⟨g, 0, none⟩)] 59) = W0 := ⟨_, rfl⟩
  have hb0 : Below w.heap.size w W0 := by rw [← hW0]; exact (Below.refl _ _).alloc (Nat.le_refl _) _
  have z0 : W0.heap.size = w.heap.size + 1 := by rw [← hW0]; exact alloc_sz w _
  have x0 : CBx W0 rb 59 (.pointer (some ⟨g, 0, none⟩)) := by unfold CBx; rw [← hW0, ← hrb]; exact heap_alloc_new _ _
  have r0 := h.below hb0
  have er := x0.cell
  have co := r0.opn
  have fo := r0.frz 2
  have hob : ((o : Int) == 8) = false := by simp; omega
  have hoI : (o : Int) ≤ 7 := by omega
  obtain ⟨W1, hW1⟩ : ∃ W1, W0.setCell ⟨g, 2, none⟩ (.int .i64 ((o + 1 : Nat) : Int)) = W1 := ⟨_, rfl⟩
  have eo : ((o + 1 : Nat) : Int) = (o : Int) + 1 := by omega
  have r1 : Cr W1 g bs t (o + 1) := by rw [← hW1]; exact r0.setOpen (o + 1)
  have b1 : But g W0 W1 := by rw [← hW1]; exact But.setCell g W0 2 _
  have x1 : CBx W1 rb 59 (.pointer (some ⟨g, 0, none⟩)) := x0.same (b1.block rb x0.lt (by omega))
  rw [eo] at hW1
  have e1 := x1.cell
  obtain ⟨s0, hs0⟩ : ∃ s0, W1.heap.size = s0 := ⟨_, rfl⟩
  have hsz : w.heap.size + 1 = s0 := by rw [← hs0, ← hW1]; simp [World.setCell]; omega
  have P0 : Hid <| KSt true d g o n rb t bs w s0 0 (.slice none 0 0) W1 [] [] t bs := ⟨rfl, Kl.nil _ _ _ _ _, rfl, r1, (But.ofBelow hb0).trans b1, x1, by simp, ht, hl, by omega⟩
  have hnI : (n : Int) < 18446744073709551616 := by omega
  have HW : Hid (s0 = w.heap.size + 1 ∧ w.heap.size = rb ∧ g < w.heap.size ∧ Tabs w) := ⟨hsz.symm, hrb, hg, hT⟩
  have F0 : Hid <| (CBx W1 rb 59 (.pointer (some ⟨g, 0, none⟩))) := x1
  clear x0 r0 r1 b1 x1 hb0 z0 h hT hg hsz hs0
  go_enter_defers Tryd.func34, Tryd.ntmps34
  go_wp2_with fail
  clear hW0 hW1 er co fo e1 hrb
  go_loopw [8, 27] (fun v8 v27 wr => ∃ (j : Nat) (css : List (List Value)) (kids : List It) (t' : Nat) (ys : Bs), v27 = .int .u64 (j : Int) ∧ j ≤ n ∧ KSt true d g o n rb t bs w s0 j v8 wr css kids t' ys) (fun _ v27 _ => n - (intOf v27).toNat)
  case atStart => exact ⟨0, [], [], t, bs, rfl, Nat.zero_le _, P0.out⟩
  case round =>
    obtain ⟨j, css, kids, t', ys, rfl, hj, P⟩ := hrel
    have x4 := P.box
    have e4 := x4.cell
    rcases Nat.lt_or_eq_of_le hj with hj | rfl
    · have hjI : (j : Int) < (n : Int) := by omega
      have hTr : Tabs wr := HW.out.2.2.2.cbut hG P.but HW.out.2.2.1
      obtain ⟨qa, ca, hq, _, _, _⟩ := P.kl.kids (by have := HW.out; omega)
      have hlen0 := P.len
      simp only [if_true] at hlen0
      subst hq
      have hcnt := P.cnt
      have htop := P.top
      have HKy := key_any d HI g s0 ys t' (o + 1) qa kids.length ca css kids wr P.cr hG hTr (by omega) P.top P.less P.kl (by have := HW.out; omega) P.size rfl (by omega) (by omega)
      have heq := P.eq
      rw [show n - j = (n - (j + 1)) + 1 by omega, if_pos rfl, pcsC_pair] at heq
      obtain ⟨ML, hML⟩ : ∃ ML, kids.length = ML := ⟨_, rfl⟩
      cases hR : keyR (itemC d (o + 1) t' ys) (lastK kids) with
      | error k =>
        obtain ⟨hk0, hk1⟩ := keyR_err (item_err d) hR
        rw [hR] at HKy heq
        simp only [] at heq
        have k0 : ((k : Int) != 0) = true := by simp; omega
        have HQ : Hid (pcsC (itemC d) true (o + 1) n none [] t bs = .error k ∧ But g w wr) := ⟨heq, P.but⟩
        rw [hML] at HKy ⊢
        clear heq P hR hTr
        go_wp2_with fail
        go_at_call 40
        refine HKy.mono ?_
        intro e w4 hp
        obtain ⟨hb4, _, _, zs, t4, v0, v1, p1, n1, d1, p2, n2, d2, rfl, hr4⟩ := hp.errx
        have x5 := x4.same (hb4.block rb x4.lt (by have := HW.out; omega))
        clear hp HKy
        go_wp2_with fail
        have b5 : Below w4.heap.size w4 (w4.alloc (.cells #[.int .u8 v0, .int .u64 v1, .slice p1 n1 d1, .slice p2 n2 d2] 29)) := (Below.refl _ _).alloc (Nat.le_refl _) _
        refine leaves_cons (f := 39) (args := #[.pointer (some ⟨rb, 0, none⟩)]) (by simp) (by simp [go_sem]) ?_
        refine (cshut_any rb g zs t4 o .returning _ (x5.same (b5.block rb x5.lt)) (hr4.below b5) (by omega)).mono ?_
        rintro e u' w'' ⟨rfl, rfl, rfl⟩
        exact ⟨_, results_tmp2 rfl _ _ _, ((HQ.out.2.trans hb4).trans (But.ofBelow b5)).trans (But.setCell g _ 2 _), .inr ⟨k, zs, t4, HQ.out.1, hk0, hk1, rfl, (hr4.below b5).setOpen o⟩⟩
      | ok r =>
        obtain ⟨i, t1, us⟩ := r
        obtain ⟨ct1, ct2, ct3⟩ := item_cnt d _ _ _ _ _ _ P.top (keyR_ok hR)
        rw [hR] at HKy heq
        simp only [] at heq
        have HP : Hid (KSt true d g o n rb t bs w s0 j (.slice qa kids.length ca) wr css kids t' ys ∧ us.length < ys.length ∧ t' < t1 ∧ t1 ≤ 512 ∧ kids.length = ML ∧ kids.length = 2 * j) := ⟨P, ct3, ct1, ct2, hML, hlen0⟩
        rw [hML] at HKy ⊢
        clear P hR hTr
        go_wp2_with fail
        go_at_call 40
        refine HKy.mono ?_
        intro e w4 hp
        obtain ⟨hb4, p, c, q, c', rfl, hi, hr4⟩ := hp.okx
        have x5 := x4.same (hb4.block rb x4.lt (by have := HW.out; omega))
        clear hp HKy
        obtain ⟨K0, hK0⟩ : ∃ K0 : Nat, i.kind = K0 := ⟨_, rfl⟩
        obtain ⟨N0, hN0⟩ : ∃ K0 : Nat, i.n = K0 := ⟨_, rfl⟩
        obtain ⟨L0, hL0⟩ : ∃ K0 : Nat, i.b.length = K0 := ⟨_, rfl⟩
        obtain ⟨M0, hM0⟩ : ∃ K0 : Nat, i.kids.length = K0 := ⟨_, rfl⟩
        rw [hK0, hN0, hL0, hM0] at hi ⊢
        have A := kids_push (s1 := wr.heap.size) HP.out.1.kl hb4 HW.out.1 HW.out.2.2.1 HP.out.1.size hi
        obtain ⟨i0, hi0, hz0, hz1, hz2⟩ := info_parts infoItem
        have hcl : css.length ≤ 512 := by have h1 := HP.out.1.kl.len; have h2 := HP.out.1.cnt; have h3 := HP.out.1.top; omega
        have HX : Hid (css.length + 1 ≤ maxLen ∧ (css.length + 1) * 64 ≤ 140737488355328) := ⟨by unfold maxLen; omega, by omega⟩
        obtain ⟨N, hN⟩ : ∃ N, css.length = N := ⟨_, rfl⟩
        rw [hN] at A HX
        rw [hML] at A
        clear hK0 hN0 hL0 hM0 hcl
        have hW := HW.out
        have REST : ∀ gk ck w6, w6.ownsRow s0 29 4 (.slice (some ⟨gk, 0, none⟩) (N + 1) ck) (N + 1) (css.flatten ++ [.int .u8 (K0 : Int), .int .u64 (N0 : Int), .slice p L0 c, .slice q M0 c']) → ((w4.alloc (.cells #[.int .u8 (K0 : Int), .int .u64 (N0 : Int), .slice p L0 c, .slice q M0 c'] 29)).alloc (.cells #[.int .u8 (K0 : Int), .int .u64 (N0 : Int), .slice p L0 c, .slice q M0 c'] 29)).grownBy w6 (Value.slice qa ML ca).ownBlock → ((Value.slice qa ML ca).ownBlock = some gk ∨ gk = ((w4.alloc (.cells #[.int .u8 (K0 : Int), .int .u64 (N0 : Int), .slice p L0 c, .slice q M0 c'] 29)).alloc (.cells #[.int .u8 (K0 : Int), .int .u64 (N0 : Int), .slice p L0 c, .slice q M0 c'] 29)).heap.size) → Kl w6 s0 g 0 d (.slice (some ⟨gk, 0, none⟩) (N + 1) ck) (css ++ [[.int .u8 (K0 : Int), .int .u64 (N0 : Int), .slice p L0 c, .slice q M0 c']]) (kids ++ [i]) ∧ But g w w6 ∧ Cr w6 g us t1 (o + 1) ∧ CBx w6 rb 59 (.pointer (some ⟨g, 0, none⟩)) ∧ s0 ≤ w6.heap.size := fun gk ck w6 own6 gr6 at6 => by
          obtain ⟨kl6, _, but6, low6, sz6⟩ := (A _ _).2.2 gk ck w6 own6 gr6 at6
          exact ⟨kl6, but6 HP.out.1.but, hr4.low low6 (by omega), x5.same (low6 rb (by omega)), sz6⟩
        have HWR : Hid (∀ gk ck w6, w6.ownsRow s0 29 4 (.slice (some ⟨gk, 0, none⟩) (N + 1) ck) (N + 1) (css.flatten ++ [.int .u8 (K0 : Int), .int .u64 (N0 : Int), .slice p L0 c, .slice q M0 c']) → ((w4.alloc (.cells #[.int .u8 (K0 : Int), .int .u64 (N0 : Int), .slice p L0 c, .slice q M0 c'] 29)).alloc (.cells #[.int .u8 (K0 : Int), .int .u64 (N0 : Int), .slice p L0 c, .slice q M0 c'] 29)).grownBy w6 (Value.slice qa ML ca).ownBlock → ((Value.slice qa ML ca).ownBlock = some gk ∨ gk = ((w4.alloc (.cells #[.int .u8 (K0 : Int), .int .u64 (N0 : Int), .slice p L0 c, .slice q M0 c'] 29)).alloc (.cells #[.int .u8 (K0 : Int), .int .u64 (N0 : Int), .slice p L0 c, .slice q M0 c'] 29)).heap.size) → Kl w6 s0 g 0 d (.slice (some ⟨gk, 0, none⟩) (N + 1) ck) (css ++ [[.int .u8 (K0 : Int), .int .u64 (N0 : Int), .slice p L0 c, .slice q M0 c']]) (kids ++ [i]) ∧ But g w w6 ∧ Cr w6 g us t1 (o + 1) ∧ CBx w6 rb 59 (.pointer (some ⟨g, 0, none⟩)) ∧ s0 ≤ w6.heap.size) := REST
        have HHE : Hid (css.length = N ∧ 0 ≤ N) := ⟨hN, Nat.zero_le _⟩
        clear REST hi hr4 hb4 hcnt htop hlen0 hML
        cases hR2 : itemC d (o + 1) t1 us with
        | error k =>
          obtain ⟨hk0, hk1⟩ := item_err d _ _ _ _ hR2
          rw [hR2] at heq
          simp only [] at heq
          have k0 : ((k : Int) != 0) = true := by simp; omega
          have HQ : Hid (pcsC (itemC d) true (o + 1) n none [] t bs = .error k ∧ itemC d (o + 1) t1 us = .error k ∧ Gl g) := ⟨heq, hR2, hG⟩
          clear heq hR2
          go_wp2_with (first
            | (at_builtin; refine wpList_append_lies _ rfl (.tmp 40) (.tmp 42) 27 rfl s0 29 i0 (.agg #[.int .u8 0, .int .u64 0, .slice none 0 0, .slice none 0 0]) 4 64 Tryd.underlying27 hi0 hz0 hz1 hz2 rfl (by decide) (.slice qa ML ca) N css.flatten rfl (A _ _).1 ⟨w4.heap.size + 1, 0, none⟩ 1 1 [.int .u8 (K0 : Int), .int .u64 (N0 : Int), .slice p L0 c, .slice q M0 c'] rfl rfl (World.news_of_block (heap_alloc2_new w4 _ _)) (by simp [Value.oneCell']) (by decide) HX.out.1 HX.out.2 (A _ _).2.1 _ rfl ?_; intro gk ck w6 own6 gr6 at6 lt6; obtain ⟨kl6, but6, cr6, x6, sz6⟩ := HWR.out gk ck w6 own6 gr6 at6; clear own6 gr6 at6 lt6; have e6 := x6.cell)
            | (go_at_call 15; have HH := HI g us t1 (o + 1) w6 cr6 hG (HW.out.2.2.2.cbut hG but6 HW.out.2.2.1) (by omega) HP.out.2.2.2.1 (by have := HP.out.1.less; have := HP.out.2.1; omega); rw [HQ.out.2.1] at HH; refine HH.mono ?_; clear HH; intro e w7 hp; obtain ⟨hb7, _, _, zs, t4, v0, v1, p1, n1, d1, p2, n2, d2, rfl, hr7⟩ := hp.errx; clear hp; have x7 := x6.same (hb7.block rb x6.lt (by omega))))
          have b5 : Below w7.heap.size w7 (w7.alloc (.cells #[.int .u8 v0, .int .u64 v1, .slice p1 n1 d1, .slice p2 n2 d2] 29)) := (Below.refl _ _).alloc (Nat.le_refl _) _
          refine leaves_cons (f := 39) (args := #[.pointer (some ⟨rb, 0, none⟩)]) (by simp) (by simp [go_sem]) ?_
          refine (cshut_any rb g zs t4 o .returning _ (x7.same (b5.block rb x7.lt)) (hr7.below b5) (by omega)).mono ?_
          rintro e u' w'' ⟨rfl, rfl, rfl⟩
          exact ⟨_, results_tmp2 rfl _ _ _, ((but6.trans hb7).trans (But.ofBelow b5)).trans (But.setCell g _ 2 _), .inr ⟨k, zs, t4, HQ.out.1, hk0, hk1, rfl, (hr7.below b5).setOpen o⟩⟩
        | ok r =>
          obtain ⟨v, t2, vs⟩ := r
          obtain ⟨cu1, cu2, cu3⟩ := item_cnt d _ _ _ _ _ _ ct2 hR2
          rw [hR2] at heq
          simp only [] at heq
          have HQ : Hid (pcsC (itemC d) true (o + 1) n none [] t bs = pcsC (itemC d) true (o + 1) (n - (j + 1)) (some i) (kids ++ [i, v]) t2 vs ∧ itemC d (o + 1) t1 us = .ok (v, t2, vs) ∧ Gl g ∧ vs.length < us.length ∧ t1 < t2 ∧ t2 ≤ 512) := ⟨heq, hR2, hG, cu3, cu1, cu2⟩
          obtain ⟨K1, hK1⟩ : ∃ K0 : Nat, v.kind = K0 := ⟨_, rfl⟩
          obtain ⟨N1, hN1⟩ : ∃ K0 : Nat, v.n = K0 := ⟨_, rfl⟩
          obtain ⟨L1, hL1⟩ : ∃ K0 : Nat, v.b.length = K0 := ⟨_, rfl⟩
          obtain ⟨M1, hM1⟩ : ∃ K0 : Nat, v.kids.length = K0 := ⟨_, rfl⟩
          have HV : Hid (v.kind = K1 ∧ v.n = N1 ∧ v.b.length = L1 ∧ v.kids.length = M1) := ⟨hK1, hN1, hL1, hM1⟩
          have HX2 : Hid (N + 2 ≤ 1000000) := by have h1 := HP.out.1.kl.len; have h2 := HP.out.1.cnt; have h3 := HP.out.1.top; show _ ≤ _; omega
          clear heq hR2 hK1 hN1 hL1 hM1 cu1 cu2 cu3
          go_wp2_with (first
            | (at_builtin; refine wpList_append_lies _ rfl (.tmp 40) (.tmp 42) 27 rfl s0 29 i0 (.agg #[.int .u8 0, .int .u64 0, .slice none 0 0, .slice none 0 0]) 4 64 Tryd.underlying27 hi0 hz0 hz1 hz2 rfl (by decide) (.slice qa ML ca) N css.flatten rfl (A _ _).1 ⟨w4.heap.size + 1, 0, none⟩ 1 1 [.int .u8 (K0 : Int), .int .u64 (N0 : Int), .slice p L0 c, .slice q M0 c'] rfl rfl (World.news_of_block (heap_alloc2_new w4 _ _)) (by simp [Value.oneCell']) (by decide) HX.out.1 HX.out.2 (A _ _).2.1 _ rfl ?_; intro gk ck w6 own6 gr6 at6 lt6; obtain ⟨kl6, but6, cr6, x6, sz6⟩ := HWR.out gk ck w6 own6 gr6 at6; clear own6 gr6 at6 lt6; have e6 := x6.cell)
            | (go_at_call 15; have HH := HI g us t1 (o + 1) w6 cr6 hG (HW.out.2.2.2.cbut hG but6 HW.out.2.2.1) (by omega) HP.out.2.2.2.1 (by have := HP.out.1.less; have := HP.out.2.1; omega); rw [HQ.out.2.1] at HH; refine HH.mono ?_; clear HH; intro e w7 hp; obtain ⟨hb7, p', d', q', d2', rfl, hi7, hr7⟩ := hp.okx; clear hp; have x7 := x6.same (hb7.block rb x6.lt (by omega)); have B := kids_push (s1 := w6.heap.size) kl6 hb7 HW.out.1 HW.out.2.2.1 sz6 hi7; rw [HV.out.1, HV.out.2.1, HV.out.2.2.1, HV.out.2.2.2] at B ⊢; rw [show (css ++ [[Value.int .u8 (K0 : Int), .int .u64 (N0 : Int), .slice p L0 c, .slice q M0 c']]).length = N + 1 by simp [HHE.out.1]] at B)
            | (at_builtin; refine wpList_append_lies _ rfl (.tmp 52) (.tmp 54) 27 rfl s0 29 i0 (.agg #[.int .u8 0, .int .u64 0, .slice none 0 0, .slice none 0 0]) 4 64 Tryd.underlying27 hi0 hz0 hz1 hz2 rfl (by decide) (.slice (some ⟨gk, 0, none⟩) (N + 1) ck) (N + 1) _ rfl (B _ _).1 ⟨w7.heap.size + 1, 0, none⟩ 1 1 [.int .u8 (K1 : Int), .int .u64 (N1 : Int), .slice p' L1 d', .slice q' M1 d2'] rfl rfl (World.news_of_block (heap_alloc2_new w7 _ _)) (by simp [Value.oneCell']) (by decide) (by unfold maxLen; have := HX2.out; omega) (by have := HX2.out; omega) (B _ _).2.1 _ rfl ?_; intro gk2 ck2 w8 own8 gr8 at8 lt8))
          obtain ⟨kl8, _, but8, low8, sz8⟩ := (B _ _).2.2 gk2 ck2 w8 own8 gr8 at8
          have hP := HP.out
          have hQ := HQ.out
          rw [List.append_assoc kids] at kl8
          refine ⟨⟨j + 1, _, kids ++ ([i] ++ [v]), t2, vs, by go_num, by omega, ⟨?_, kl8, ?_, hr7.low low8 (by omega), but8 but6, x7.same (low8 rb (by omega)), ?_, hQ.2.2.2.2.2, by have := hP.1.less; omega, sz8⟩⟩, by simp only [intOf]; omega⟩
          · rw [if_pos rfl, show kids ++ ([i] ++ [v]) = kids ++ [i, v] from rfl, lastK_two]
            exact hQ.1
          · simp [hP.2.2.2.2.2]
            omega
          · have := hP.1.cnt
            simp
            omega
    · have hkk := P.kl.kids (by have := HW.out; omega)
      obtain ⟨q, c', hq, hq1, hq2, hq3⟩ := hkk
      have heq := P.eq
      rw [Nat.sub_self, pcsC] at heq
      have HQ : Hid (pcsC (itemC d) true (o + 1) j none [] t bs = .ok (kids, t', ys)) := heq
      have HP : Hid (KSt true d g o j rb t bs w s0 j u8 wr css kids t' ys) := P
      subst hq
      clear heq P P0
      go_wp2_with fail
      refine leaves_cons (f := 39) (args := #[.pointer (some ⟨rb, 0, none⟩)]) (by simp) (by simp [go_sem]) ?_
      refine (cshut_any rb g ys t' o .returning _ HP.out.box HP.out.cr (by omega)).mono ?_
      rintro e u' w'' ⟨rfl, rfl, rfl⟩
      have hW := HW.out
      have hbs := But.setCell g wr 2 (.int .i64 (o : Int))
      refine ⟨_, results_tmp2 rfl _ _ _, HP.out.but.trans hbs, .inl ⟨kids, t', ys, q, c', HQ.out, rfl, hq1, hq2, ?_, HP.out.cr.setOpen o⟩⟩
      exact kidsAt_end (g := g) hq3 hbs (by omega) (by omega)
end Go.Proofs.YtfmldcibhllpcabDoor
