/-
  The document's group, of a map.
-/
import Derived.Test.YtfmldcibhllpcaaDoorEJ
namespace Go.Proofs.YtfmldcibhllpcaaDoor
open Go.Shelf Go.RowKit
set_option linter.unusedVariables false
set_option linter.unusedSimpArgs false

/-- The state of the loop of a map: rb: where out lies. -/
structure GMt (d g o n t : Nat) (bs : Bs) (w : World) (rb s0 : Nat) (wr : World) (j : Nat) (nv : Value) (css : List (List Value)) (kids : List It) (t' : Nat) (ys : Bs) : Prop where
  eq : pcsC (itemC d) true (o + 1) n none [] t bs = pcsC (itemC d) true (o + 1) (n - j) (lastK kids) kids t' ys
  kl : Kl wr s0 g (g - 2) d nv css kids
  len : kids.length = 2 * j
  rd : Rr wr g ys t' 0
  but : But g w wr
  out : Slot wr rb (.int .u8 6) (.int .u64 0) (.slice none 0 0) nv
  ret : Slot wr w.heap.size (.int .u8 0) (.int .u64 0) (.slice none 0 0) (.slice none 0 0)
  cnt : kids.length + t ≤ t'
  top : t' ≤ 512
  less : ys.length ≤ 8192
  size : s0 ≤ wr.heap.size
set_option maxRecDepth 100000 in
set_option maxHeartbeats 4000000 in
/-- group, of a map. -/
theorem group_map (d : Nat) (HI : RItemOK d) (n g : Nat) (bs : Bs) (t o : Nat) (w : World) (h : Rr w g bs t 0) (hG : Gl g) (hT : Tabs w) (hd : d + 1 + o = 8) (ht : t ≤ 512) (hl : bs.length ≤ 8192) (hn : n < 18446744073709551616) :
    Calls Tryd.prog 54 #[.pointer (some ⟨g, 0, none⟩), .bool true, .int .u64 (n : Int), .int .i64 ((o : Int) + 1)] w (RPost (d + 1) g w (kidsR 5 (pcsC (itemC d) true (o + 1) n none [] t bs))) := by
  have hg := h.lt
  have hnI : (n : Int) < 18446744073709551616 := by omega
  have hoI : (o : Int) ≤ 7 := by omega
  obtain ⟨R, hR⟩ : ∃ R, pcsC (itemC d) true (o + 1) n none [] t bs = R := ⟨_, rfl⟩
  rw [hR]
  obtain ⟨sb, hsb⟩ : ∃ sb, w.heap.size = sb := ⟨_, rfl⟩
  obtain ⟨rb, hrb⟩ : ∃ rb, sb + 1 = rb := ⟨_, rfl⟩
  obtain ⟨W2, hW2⟩ : ∃ W2, (w.alloc (.cells #[.int .u8 0, .int .u64 0, .slice none 0 0, .slice none 0 0] 35)).alloc (.cells #[.int .u8 6, .int .u64 0, .slice none 0 0, .slice none 0 0] 35) = W2 := ⟨_, rfl⟩
  have B2 : Below w.heap.size w W2 := by rw [← hW2]; exact ((Below.refl _ _).alloc (Nat.le_refl _) _).alloc (by rw [alloc_sz]; omega) _
  have z2 : W2.heap.size = w.heap.size + 2 := by rw [← hW2, alloc_sz, alloc_sz]
  have S0 : Slot W2 w.heap.size (.int .u8 0) (.int .u64 0) (.slice none 0 0) (.slice none 0 0) := by rw [← hW2]; exact (Slot.new w _ _ _ _).same (heap_alloc_old _ _ (by rw [alloc_sz]; omega))
  have S1 : Slot W2 (w.heap.size + 1) (.int .u8 6) (.int .u64 0) (.slice none 0 0) (.slice none 0 0) := by rw [← hW2]; exact heap_alloc2_new w _ _
  rw [hsb, hrb] at S1

  have P0 : Hid (GMt d g o n t bs w rb (rb + 1) W2 0 (.slice none 0 0) [] [] t bs) := ⟨rfl, Kl.nil _ _ _ _ _, rfl, h.below B2, But.ofBelow B2, S1, S0, by simp, ht, hl, by omega⟩
  have HW : Hid (g < w.heap.size ∧ Tabs w ∧ w.heap.size = sb ∧ sb + 1 = rb) := ⟨hg, hT, hsb, hrb⟩
  have HS : Hid (w.heap.size = sb ∧ sb + 1 = rb) := ⟨hsb, hrb⟩
  clear hsb hrb hg
  clear S0 S1 B2 z2 h hT
  have HW2 : Hid ((w.alloc (.cells #[.int .u8 0, .int .u64 0, .slice none 0 0, .slice none 0 0] 35)).alloc (.cells #[.int .u8 6, .int .u64 0, .slice none 0 0, .slice none 0 0] 35) = W2) := hW2
  clear hW2
  go_enter Tryd.func54, Tryd.ntmps54
  go_wp2_with fail
  rw [HW2.out]
  clear HW2
  rw [HS.out.1, HS.out.2]
  clear HS
  go_loopw [10] (fun v10 wr => ∃ j : Nat, j ≤ n ∧ v10 = .int .u64 (j : Int) ∧ ((∃ nv css kids t' ys, GMt d g o n t bs w rb (rb + 1) wr j nv css kids t' ys) ∨ (∃ k, GErr g k R 6 w rb wr))) (fun v10 _ => n - (intOf v10).toNat)
  case atStart => exact ⟨0, Nat.zero_le _, rfl, .inl ⟨_, _, _, _, _, P0.out⟩⟩
  case round =>
    obtain ⟨j, hj, rfl, hst⟩ := hrel
    clear P0
    rcases hst with ⟨nv, css, kids, t', ys, P⟩ | ⟨k, P⟩
    · have cc := P.rd.code
      rcases Nat.lt_or_eq_of_le hj with hj | rfl
      · have hjI : (j : Int) < (n : Int) := by omega
        have hjd : decide ((j : Int) < (n : Int)) = true := by simpa using hjI
        have hTr : Tabs wr := HW.out.2.1.cbut hG P.but HW.out.1
        have HH := HI g ys t' (o + 1) wr P.rd hG hTr (by omega) P.top P.less
        rw [show ((o + 1 : Nat) : Int) = (o : Int) + 1 by omega] at HH
        have heq := P.eq
        rw [show n - j = (n - (j + 1)) + 1 by omega, pcsC_pair, hR] at heq
        cases hI : itemC d (o + 1) t' ys with
        | error k =>
          obtain ⟨hk0, hk1⟩ := item_err d _ _ _ _ hI
          have k0 : ((k : Int) != 0) = true := by simp; omega
          rw [hI] at HH heq
          simp only [keyR] at heq
          have HP : Hid (R = .error k ∧ GMt d g o n t bs w rb (rb + 1) wr j nv css kids t' ys) := ⟨heq, P⟩
          clear heq P hI hTr
          go_wp2_with fail
          refine HH.mono ?_
          intro e w4 hp
          obtain ⟨hb4, _, _, zs, t4, v0, v1, p1, n1, d1, p2, n2, d2, rfl, hr4⟩ := hp.errx
          clear hp HH
          have S4 := HP.out.2.out.same (hb4.block _ HP.out.2.out.lt (by have := HW.out; omega))
          have S5 := HP.out.2.ret.same (hb4.block _ HP.out.2.ret.lt (by have := HW.out; omega))
          obtain ⟨_, _, _, f3, _, _, _, g3⟩ := S4.allfacts
          have A := kids_pushG (w := w) HP.out.2.kl hb4 (by have := HW.out; omega) (by have := HW.out; omega) (Nat.sub_le _ _) HP.out.2.size
          obtain ⟨i0, hi0, hz0, hz1, hz2⟩ := info_parts infoItem
          have hcl : css.length ≤ 512 := by have h1 := HP.out.2.kl.len; have h2 := HP.out.2.cnt; have h3 := HP.out.2.top; omega
          have HX : Hid (css.length + 1 ≤ maxLen ∧ (css.length + 1) * 64 ≤ 140737488355328) := ⟨by unfold maxLen; omega, by omega⟩
          obtain ⟨N, hN⟩ : ∃ N, css.length = N := ⟨_, rfl⟩
          rw [hN] at A HX
          clear hcl
          go_wp2_with (at_builtin; go_loud (refine wpList_append_lies _ rfl (.tmp 32) (.tmp 34) 33 rfl (rb + 1) 35 i0 (.agg #[.int .u8 0, .int .u64 0, .slice none 0 0, .slice none 0 0]) 4 64 Tryd.underlying33 hi0 hz0 hz1 hz2 rfl (by decide) nv N css.flatten rfl (A _ _).1 ⟨w4.heap.size + 1, 0, none⟩ 1 1 [.int .u8 v0, .int .u64 v1, .slice p1 n1 d1, .slice p2 n2 d2] rfl rfl (World.news_of_block (heap_alloc2_new w4 _ _)) (by simp [Value.oneCell']) (by decide) HX.out.1 HX.out.2 (A _ _).2.1 _ rfl ?_); intro gk ck w6 own6 gr6 at6 lt6; obtain ⟨kl6, but6, low6, sz6⟩ := (A _ _).2.2 gk ck _ _ _ _ w6 own6 gr6 at6; have S6 := S4.same (low6 rb (Nat.lt_succ_self _)); obtain ⟨_, _, _, f6, _, _, _, g6⟩ := S6.facts; have c6 := fun v => ((hr4.low low6 (by have := HW.out; omega)).slot (But.setCell rb w6 3 v) (by have := HW.out; omega)).code)
          have b7 := But.setCell rb w6 3 (.slice (some ⟨gk, 0, none⟩) (N + 1) ck)
          have hW := HW.out
          refine ⟨⟨j + 1, by omega, by go_num, .inr ⟨k, ⟨HP.out.1, ⟨hk0, hk1⟩, ⟨zs, t4, (hr4.low low6 (by omega)).slot b7 (by omega)⟩, (but6 HP.out.2.but).fresh b7 (by omega), ⟨_, _, _, S6.set3 _⟩, (S5.same (low6 _ (by omega))).same (b7.block _ (by omega) (by omega))⟩⟩⟩, by simp only [intOf]; omega⟩
        | ok r =>
          obtain ⟨i, t1, us⟩ := r
          obtain ⟨ct1, ct2, ct3⟩ := item_cnt d _ _ _ _ _ _ P.top hI
          rw [hI] at HH heq
          have HQ : Hid (us.length < ys.length ∧ t' < t1 ∧ t1 ≤ 512) := ⟨ct3, ct1, ct2⟩
          have HP : Hid (True ∧ GMt d g o n t bs w rb (rb + 1) wr j nv css kids t' ys) := ⟨trivial, P⟩
          clear P hI hTr ct1 ct2 ct3
          go_wp2_with fail
          refine HH.mono ?_
          intro e w4 hp
          obtain ⟨hb4, p, c, q, c', rfl, hi, hr4⟩ := hp.okx
          clear hp HH
          obtain ⟨qh, hhd⟩ := hi.head
          obtain ⟨_, _, _, _, _, _, _, hkd, hin, _⟩ := hhd.cells
          have HKy := fun v1 v2 v3 W => rKey_any i.kind hkd v1 v2 v3 W
          rw [keyK_C] at HKy
          obtain ⟨K0, hK0⟩ : ∃ K0 : Nat, i.kind = K0 := ⟨_, rfl⟩
          obtain ⟨N0, hN0⟩ : ∃ K0 : Nat, i.n = K0 := ⟨_, rfl⟩
          obtain ⟨L0, hL0⟩ : ∃ K0 : Nat, i.b.length = K0 := ⟨_, rfl⟩
          obtain ⟨M0, hM0⟩ : ∃ K0 : Nat, i.kids.length = K0 := ⟨_, rfl⟩
          have HE : Hid (i.kind = K0 ∧ i.n = N0 ∧ i.b.length = L0 ∧ i.kids.length = M0) := ⟨hK0, hN0, hL0, hM0⟩
          rw [hK0, hN0, hL0, hM0] at hi ⊢
          rw [hK0] at HKy
          have S4 := HP.out.2.out.same (hb4.block _ HP.out.2.out.lt (by have := HW.out; omega))
          have S5 := HP.out.2.ret.same (hb4.block _ HP.out.2.ret.lt (by have := HW.out; omega))
          obtain ⟨_, _, _, f3, _, _, _, g3⟩ := S4.allfacts
          have A := kids_pushG (w := w) HP.out.2.kl hb4 (by have := HW.out; omega) (by have := HW.out; omega) (Nat.sub_le _ _) HP.out.2.size
          obtain ⟨i0, hi0, hz0, hz1, hz2⟩ := info_parts infoItem
          have hcl : css.length ≤ 512 := by have h1 := HP.out.2.kl.len; have h2 := HP.out.2.cnt; have h3 := HP.out.2.top; omega
          have HX : Hid (css.length + 1 ≤ maxLen ∧ (css.length + 1) * 64 ≤ 140737488355328) := ⟨by unfold maxLen; omega, by omega⟩
          obtain ⟨N, hN⟩ : ∃ N, css.length = N := ⟨_, rfl⟩
          rw [hN] at A HX
          clear hcl
          clear hK0 hN0 hL0 hM0 hkd hin hhd
          have MM : Hid (∀ (gk ck : Nat) (w6 : World), w6.ownsRow (rb + 1) 35 4 (.slice (some ⟨gk, 0, none⟩) (N + 1) ck) (N + 1) (css.flatten ++ [.int .u8 (K0 : Int), .int .u64 (N0 : Int), .slice p L0 c, .slice q M0 c']) → ((w4.alloc (.cells #[.int .u8 (K0 : Int), .int .u64 (N0 : Int), .slice p L0 c, .slice q M0 c'] 35)).alloc (.cells #[.int .u8 (K0 : Int), .int .u64 (N0 : Int), .slice p L0 c, .slice q M0 c'] 35)).grownBy w6 nv.ownBlock → (nv.ownBlock = some gk ∨ gk = ((w4.alloc (.cells #[.int .u8 (K0 : Int), .int .u64 (N0 : Int), .slice p L0 c, .slice q M0 c'] 35)).alloc (.cells #[.int .u8 (K0 : Int), .int .u64 (N0 : Int), .slice p L0 c, .slice q M0 c'] 35)).heap.size) →
              w6.cell? ⟨rb, 3, none⟩ = some nv ∧ w6.frozen? ⟨rb, 3, none⟩ = false ∧ GMid d g w rb w4.heap.size (w6.setCell ⟨rb, 3, none⟩ (.slice (some ⟨gk, 0, none⟩) (N + 1) ck)) (.slice (some ⟨gk, 0, none⟩) (N + 1) ck) (css ++ [[.int .u8 (K0 : Int), .int .u64 (N0 : Int), .slice p L0 c, .slice q M0 c']]) (kids ++ [i]) t1 us (.int .u8 (K0 : Int)) (.int .u64 (N0 : Int)) (.slice p L0 c) (.slice q M0 c') i) := fun gk ck w6 own6 gr6 at6 => by
            have hW := HW.out
            have S6 := S4.same (((A _ _).2.2 gk ck _ _ _ _ w6 own6 gr6 at6).2.2.1 rb (Nat.lt_succ_self _))
            obtain ⟨_, _, _, f6, _, _, _, g6⟩ := S6.facts
            exact ⟨f6, g6, gmid HP.out.2.kl HP.out.2.but S4 S5 hb4 hW.1 (by omega) HP.out.2.size hr4 hi _ gk ck N hN w6 own6 gr6 at6⟩
          have A' : Hid (∀ X Y : Obj, ((w4.alloc X).alloc Y).ownsRow (rb + 1) 35 4 nv N css.flatten ∧ (rb + 1) ≤ ((w4.alloc X).alloc Y).heap.size) := fun X Y => ⟨(A X Y).1, (A X Y).2.1⟩
          clear S4 S5 A
          cases hkc : keyC i with
          | false =>
            rw [hkc] at HKy
            simp only [keyR, hkc, if_true] at heq
            have HR20 : Hid (R = .error 20) := heq
            clear heq
            go_wp2_with (first
              | (at_builtin; go_loud (refine wpList_append_lies _ rfl (.tmp 32) (.tmp 34) 33 rfl (rb + 1) 35 i0 (.agg #[.int .u8 0, .int .u64 0, .slice none 0 0, .slice none 0 0]) 4 64 Tryd.underlying33 hi0 hz0 hz1 hz2 rfl (by decide) nv N css.flatten rfl (A'.out _ _).1 ⟨w4.heap.size + 1, 0, none⟩ 1 1 [.int .u8 (K0 : Int), .int .u64 (N0 : Int), .slice p L0 c, .slice q M0 c'] rfl rfl (World.news_of_block (heap_alloc2_new w4 _ _)) (by simp [Value.oneCell']) (by decide) HX.out.1 HX.out.2 (A'.out _ _).2 _ rfl ?_); intro gk ck w6 own6 gr6 at6 lt6; obtain ⟨f6, g6, M7⟩ := MM.out gk ck w6 own6 gr6 at6; obtain ⟨k0, k1, k2, k3, _⟩ := M7.own.facts; have c6 := M7.rd.code)
              | (go_at_call 34; refine (HKy _ _ _ _).mono ?_; rintro e w8 ⟨rfl, hb8⟩; have M8 := M7.below hb8 (by have := HW.out; omega))
              | (go_at_call 53; refine (rbad_any g 20 us t1 w8 M8.rd (by decide)).mono ?_; rintro e w9 ⟨rfl, hb9, hr9⟩))
            have hW := HW.out
            exact ⟨⟨j + 1, by omega, by go_num, .inr ⟨20, M8.bad hb9 (by omega) hW.1 20 (by decide) R HR20.out us t1 hr9⟩⟩, by simp only [intOf]; omega⟩
          | true =>
            rw [hkc] at HKy
            have HI2 := fun W hr hT => HI g us t1 (o + 1) W hr hG hT (by omega) HQ.out.2.2 (by have h1 := HP.out.2.less; have h2 := HQ.out.1; omega)
            rw [show ((o + 1 : Nat) : Int) = (o : Int) + 1 by omega] at HI2
            by_cases j0 : j = 0
            · have hl0 : lastK kids = none := by unfold lastK; rw [if_pos (by have := HP.out.2.len; omega)]
              rw [hl0] at heq
              simp only [keyR, hkc, badOrd, Bool.true_eq_false, Bool.false_eq_true, if_false] at heq
              subst j0
              have HR2 : Hid (R = match itemC d (o + 1) t1 us with | .error e => .error e | .ok (v, t2, zs) => pcsC (itemC d) true (o + 1) (n - (0 + 1)) (some i) (kids ++ [i, v]) t2 zs) := heq
              clear heq
              go_wp2_with (first
              | (at_builtin; go_loud (refine wpList_append_lies _ rfl (.tmp 32) (.tmp 34) 33 rfl (rb + 1) 35 i0 (.agg #[.int .u8 0, .int .u64 0, .slice none 0 0, .slice none 0 0]) 4 64 Tryd.underlying33 hi0 hz0 hz1 hz2 rfl (by decide) nv N css.flatten rfl (A'.out _ _).1 ⟨w4.heap.size + 1, 0, none⟩ 1 1 [.int .u8 (K0 : Int), .int .u64 (N0 : Int), .slice p L0 c, .slice q M0 c'] rfl rfl (World.news_of_block (heap_alloc2_new w4 _ _)) (by simp [Value.oneCell']) (by decide) HX.out.1 HX.out.2 (A'.out _ _).2 _ rfl ?_); intro gk ck w6 own6 gr6 at6 lt6; obtain ⟨f6, g6, M7⟩ := MM.out gk ck w6 own6 gr6 at6; obtain ⟨k0, k1, k2, k3, _⟩ := M7.own.facts; have c6 := M7.rd.code)
              | (go_at_call 34; refine (HKy _ _ _ _).mono ?_; rintro e w8 ⟨rfl, hb8⟩; have M8 := M7.below hb8 (by have := HW.out; omega)))
              go_quiet (fail)
              obtain ⟨w9, hw9⟩ : ∃ w9, w8.drewN nq = w9 := ⟨_, rfl⟩
              have M9 := M8.below (below_drews (Below.refl _ _) nq) (by have := HW.out; omega)
              rw [hw9] at M9
              try rw [hw9]
              clear hw9
              obtain ⟨css2, hcss2⟩ : ∃ css2, css ++ [[.int .u8 (K0 : Int), .int .u64 (N0 : Int), .slice p L0 c, .slice q M0 c']] = css2 := ⟨_, rfl⟩
              have hN2 : css2.length = N + 1 := by rw [← hcss2]; simp [hN]
              rw [hcss2] at M9
              have HM : Hid (GMid d g w rb w4.heap.size w9 (.slice (some ⟨gk, 0, none⟩) (N + 1) ck) css2 (kids ++ [i]) t1 us (.int .u8 (K0 : Int)) (.int .u64 (N0 : Int)) (.slice p L0 c) (.slice q M0 c') i) := M9
              have HH := HI2 w9 M9.rd (HW.out.2.1.cbut hG M9.but HW.out.1)
              have HX2 : Hid (N + 1 + 1 ≤ maxLen ∧ (N + 1 + 1) * 64 ≤ 140737488355328) := by
                have h1 := HP.out.2.kl.len; have h2 := HP.out.2.cnt; have h3 := HP.out.2.top
                exact ⟨by unfold maxLen; omega, by omega⟩
              clear M9 HI2 hcss2 M8 M7 hb8 own6 gr6 at6 lt6 MM A' f6 g6
              cases hV : itemC d (o + 1) t1 us with
              | error k =>
                obtain ⟨hk0, hk1⟩ := item_err d _ _ _ _ hV
                have HR3 : Hid (R = .error k) := by have := HR2.out; rw [hV] at this; exact this
                rw [hV] at HH
                clear hV HR2
                go_wp2_with fail
                refine HH.mono ?_
                intro e w10 hp
                obtain ⟨hb10, _, _, zs, t4, v0, v1, p1, n1, d1, p2, n2, d2, rfl, hr10⟩ := hp.errx
                clear hp HH
                have T4 := HM.out.out.same (hb10.block _ HM.out.out.lt (by have := HW.out; omega))
                have T5 := HM.out.ret.same (hb10.block _ HM.out.ret.lt (by have := HW.out; omega))
                obtain ⟨_, _, _, f13, _, _, _, g13⟩ := T4.allfacts
                have A2 := kids_pushG (w := w) HM.out.kl hb10 (by have := HW.out; omega) (by have := HW.out; omega) (Nat.sub_le _ _) HM.out.size
                rw [hN2] at A2
                have A2 : Hid _ := A2
                go_wp2_with (at_builtin; go_loud (refine wpList_append_lies _ rfl (.tmp 72) (.tmp 74) 33 rfl (rb + 1) 35 i0 (.agg #[.int .u8 0, .int .u64 0, .slice none 0 0, .slice none 0 0]) 4 64 Tryd.underlying33 hi0 hz0 hz1 hz2 rfl (by decide) (.slice (some ⟨gk, 0, none⟩) (N + 1) ck) (N + 1) css2.flatten rfl (A2.out _ _).1 ⟨w10.heap.size + 1, 0, none⟩ 1 1 [.int .u8 v0, .int .u64 v1, .slice p1 n1 d1, .slice p2 n2 d2] rfl rfl (World.news_of_block (heap_alloc2_new w10 _ _)) (by simp [Value.oneCell']) (by decide) HX2.out.1 HX2.out.2 (A2.out _ _).2.1 _ rfl ?_); intro gl cl w16 own16 gr16 at16 lt16; obtain ⟨kl16, but16, low16, sz16⟩ := (A2.out _ _).2.2 gl cl _ _ _ _ w16 own16 gr16 at16; have T6 := T4.same (low16 rb (Nat.lt_succ_self _)); obtain ⟨_, _, _, f16, _, _, _, g16⟩ := T6.facts)
                have b17 := But.setCell rb w16 3 (.slice (some ⟨gl, 0, none⟩) (N + 1 + 1) cl)
                have hW := HW.out
                exact ⟨⟨0 + 1, by omega, by go_num, .inr ⟨k, ⟨HR3.out, ⟨hk0, hk1⟩, ⟨zs, t4, (hr10.low low16 (by omega)).slot b17 (by omega)⟩, (but16 HM.out.but).fresh b17 (by omega), ⟨_, _, _, T6.set3 _⟩, (T5.same (low16 _ (by omega))).same (b17.block _ (by omega) (by omega))⟩⟩⟩, by simp only [intOf]; omega⟩
              | ok r =>
                obtain ⟨v, t2, zs⟩ := r
                obtain ⟨cu1, cu2, cu3⟩ := item_cnt d _ _ _ _ _ _ HQ.out.2.2 hV
                have HR3 : Hid (R = pcsC (itemC d) true (o + 1) (n - (0 + 1)) (some i) (kids ++ [i, v]) t2 zs ∧ t1 < t2 ∧ t2 ≤ 512 ∧ zs.length < us.length) := ⟨by have := HR2.out; rw [hV] at this; exact this, cu1, cu2, cu3⟩
                rw [hV] at HH
                clear hV HR2 cu1 cu2 cu3
                go_wp2_with fail
                refine HH.mono ?_
                intro e w10 hp
                obtain ⟨hb10, pv, cv, qv, cv', rfl, hiv, hr10⟩ := hp.okx
                clear hp HH
                obtain ⟨K2, hK2⟩ : ∃ K0 : Nat, v.kind = K0 := ⟨_, rfl⟩
                obtain ⟨N2, hNn⟩ : ∃ K0 : Nat, v.n = K0 := ⟨_, rfl⟩
                obtain ⟨L2, hL2⟩ : ∃ K0 : Nat, v.b.length = K0 := ⟨_, rfl⟩
                obtain ⟨M2, hM2⟩ : ∃ K0 : Nat, v.kids.length = K0 := ⟨_, rfl⟩
                rw [hK2, hNn, hL2, hM2] at hiv ⊢
                have T4 := HM.out.out.same (hb10.block _ HM.out.out.lt (by have := HW.out; omega))
                have T5 := HM.out.ret.same (hb10.block _ HM.out.ret.lt (by have := HW.out; omega))
                obtain ⟨_, _, _, f13, _, _, _, g13⟩ := T4.allfacts
                have A2 := kids_pushG (w := w) HM.out.kl hb10 (by have := HW.out; omega) (by have := HW.out; omega) (Nat.sub_le _ _) HM.out.size
                rw [hN2] at A2
                have A2 : Hid _ := A2
                clear hK2 hNn hL2 hM2
                go_wp2_with (at_builtin; go_loud (refine wpList_append_lies _ rfl (.tmp 72) (.tmp 74) 33 rfl (rb + 1) 35 i0 (.agg #[.int .u8 0, .int .u64 0, .slice none 0 0, .slice none 0 0]) 4 64 Tryd.underlying33 hi0 hz0 hz1 hz2 rfl (by decide) (.slice (some ⟨gk, 0, none⟩) (N + 1) ck) (N + 1) css2.flatten rfl (A2.out _ _).1 ⟨w10.heap.size + 1, 0, none⟩ 1 1 [.int .u8 (K2 : Int), .int .u64 (N2 : Int), .slice pv L2 cv, .slice qv M2 cv'] rfl rfl (World.news_of_block (heap_alloc2_new w10 _ _)) (by simp [Value.oneCell']) (by decide) HX2.out.1 HX2.out.2 (A2.out _ _).2.1 _ rfl ?_); intro gl cl w16 own16 gr16 at16 lt16; obtain ⟨kl16, but16, low16, sz16⟩ := (A2.out _ _).2.2 gl cl _ _ _ _ w16 own16 gr16 at16; have T6 := T4.same (low16 rb (Nat.lt_succ_self _)); obtain ⟨_, _, _, f16, _, _, _, g16⟩ := T6.facts)
                have hW := HW.out
                have Mf := gmid HM.out.kl HM.out.but T4 T5 hb10 hW.1 (by omega) HM.out.size hr10 hiv _ gl cl (N + 1) hN2 w16 own16 gr16 at16
                have hP := HP.out.2
                have hlen := hP.len
                have h3 := HR3.out
                have hQ := HQ.out
                rw [show (kids ++ [i]) ++ [v] = kids ++ [i, v] by simp] at Mf
                exact ⟨⟨0 + 1, by omega, by go_num, .inl ⟨_, _, kids ++ [i, v], t2, zs, ⟨by rw [lastK_two]; exact hR.trans h3.1, Mf.kl, by rw [List.length_append]; show kids.length + 2 = _; omega, Mf.rd, Mf.but, Mf.out, Mf.ret, by have := hP.cnt; rw [List.length_append]; show kids.length + 2 + t ≤ t2; omega, h3.2.2.1, by have := hP.less; omega, Mf.size⟩⟩⟩, by simp only [intOf]; omega⟩
            · obtain ⟨l, hl⟩ : ∃ l, lastK kids = some l := by
                unfold lastK
                rw [if_neg (by have := HP.out.2.len; omega), List.getElem?_eq_getElem (by have := HP.out.2.len; omega)]
                exact ⟨_, rfl⟩
              rw [hl] at heq
              have hj0 : 0 < j := by omega
              have hj0I : 0 < (j : Int) := by omega
              have hj0d : decide (0 < (j : Int)) = true := by simpa using hj0I
              have hj0e : decide (0 < j) = true := by simpa using hj0
              cases hA : aheadC l i with
              | false =>
                simp only [keyR, hkc, badOrd, hA, Bool.true_eq_false, Bool.false_eq_true, if_false, Bool.not_false, if_true] at heq
                have HR21 : Hid (R = .error 21) := heq
                clear heq
                go_wp2_with (first
              | (at_builtin; go_loud (refine wpList_append_lies _ rfl (.tmp 32) (.tmp 34) 33 rfl (rb + 1) 35 i0 (.agg #[.int .u8 0, .int .u64 0, .slice none 0 0, .slice none 0 0]) 4 64 Tryd.underlying33 hi0 hz0 hz1 hz2 rfl (by decide) nv N css.flatten rfl (A'.out _ _).1 ⟨w4.heap.size + 1, 0, none⟩ 1 1 [.int .u8 (K0 : Int), .int .u64 (N0 : Int), .slice p L0 c, .slice q M0 c'] rfl rfl (World.news_of_block (heap_alloc2_new w4 _ _)) (by simp [Value.oneCell']) (by decide) HX.out.1 HX.out.2 (A'.out _ _).2 _ rfl ?_); intro gk ck w6 own6 gr6 at6 lt6; obtain ⟨f6, g6, M7⟩ := MM.out gk ck w6 own6 gr6 at6; obtain ⟨k0, k1, k2, k3, _⟩ := M7.own.facts; have c6 := M7.rd.code)
              | (go_at_call 34; refine (HKy _ _ _ _).mono ?_; rintro e w8 ⟨rfl, hb8⟩; have M8 := M7.below hb8 (by have := HW.out; omega)))
                obtain ⟨e0, e1, e2, e3, _⟩ := M8.out.facts
                obtain ⟨k0, k1, k2, k3, _⟩ := M8.own.facts
                have hlK : (kids ++ [i])[kids.length - 2]? = some l := by
                  have h1 := HP.out.2.len
                  rw [List.getElem?_append_left (by omega), ← hl]
                  unfold lastK
                  rw [if_neg (by omega)]
                obtain ⟨qK, cK, hqK, hc1, hc2, hKA⟩ := M8.kl.kids (by have := HW.out; omega)
                simp only [Value.slice.injEq] at hqK
                obtain ⟨rfl, hlenK, rfl⟩ := hqK
                obtain ⟨b, o', e, _, x0, x1, x2, x3, kx0, kx1, kx2, kx3, hlI⟩ := hKA _ _ hlK
                cases e
                obtain ⟨ql, hlH⟩ := hlI.head
                obtain ⟨p', d1, d2, rfl, rfl, rfl, rfl, g1, g2, g3, g4, g5⟩ := hlH.cells
                obtain ⟨qi, hiH⟩ := M8.it.head
                obtain ⟨p'', d3, d4, hq0, hq1, hq2, hq3, i1, i2, i3, i4, i5⟩ := hiH.cells
                simp only [Value.slice.injEq] at hq2
                obtain ⟨rfl, hLi, rfl⟩ := hq2
                have hE := HE.out
                have HC := fun W (hW : Below w8.heap.size w8 W) v1 v2 => rAhead_any l i p' p l.b.length i.b.length d1 c v1 v2 W g1 i1 g2 i2 (g3.lies.below hW) (i3.lies.below hW) rfl rfl (by have := g3.cap; have := g3.big; omega) (by have := i3.cap; have := i3.big; omega)
                rw [hA, hE.1, hE.2.1, hE.2.2.1] at HC
                obtain ⟨n1, hn1⟩ : ∃ n, l.b.length = n := ⟨_, rfl⟩
                obtain ⟨n3, hn3⟩ : ∃ n, l.kids.length = n := ⟨_, rfl⟩
                obtain ⟨lk, hlk⟩ : ∃ n, l.kind = n := ⟨_, rfl⟩
                obtain ⟨ln, hln⟩ : ∃ n, l.n = n := ⟨_, rfl⟩
                rw [hn1, hlk, hln] at HC
                rw [hlk, Nat.zero_add] at kx0
                rw [hln, Nat.zero_add] at kx1
                rw [hn1, Nat.zero_add] at kx2
                rw [hn3, Nat.zero_add] at kx3
                obtain ⟨m, hm⟩ : ∃ m, kids.length - 2 = m := ⟨_, rfl⟩
                rw [hm] at kx0 kx1 kx2 kx3
                have hlen := HP.out.2.len
                have hcnt := HP.out.2.cnt
                have htop := HP.out.2.top
                rw [List.length_append] at hlenK
                simp only [List.length_cons, List.length_nil] at hlenK
                have hl1 : gk < w8.heap.size := World.block_lt_of_cell? w8 ⟨gk, m * 4, none⟩ kx0
                have hl2 : w4.heap.size < w8.heap.size := M8.own.lt
                have hl3 : rb < w8.heap.size := M8.out.lt
                have hM1 : ((N : Int) + 1) - 3 = (m : Int) := by omega
                have hwr : IntKind.i64.wrap (((N : Int) + 1) - 3) = (m : Int) := by rw [hM1]; exact IntWalk.i64_in _ (by omega)
                have hM3 : (m : Int) < (N : Int) + 1 := by omega
                have hM3n : m < N + 1 := by omega
                have hM4 : (0 : Int) ≤ (m : Int) := by omega
                have hM5 : (N : Int) + 1 ≤ 9223372036854775807 := by omega
                have hm5 : (m : Int) ≤ 9223372036854775807 := by omega
                have hwm : IntKind.i64.wrap (m : Int) = (m : Int) := IntWalk.i64_in _ (by omega)
                have hwN : IntKind.i64.wrap ((N : Int) + 1) = (N : Int) + 1 := IntWalk.i64_in _ (by omega)
                have HM8 : Hid (GMid d g w rb w4.heap.size w8 (.slice (some ⟨gk, 0, none⟩) (N + 1) ck) (css ++ [[.int .u8 (K0 : Int), .int .u64 (N0 : Int), .slice p L0 c, .slice q M0 c']]) (kids ++ [i]) t1 us (.int .u8 (K0 : Int)) (.int .u64 (N0 : Int)) (.slice p L0 c) (.slice q M0 c') i) := M8
                have HJ : Hid (0 < j ∧ j < n) := ⟨hj0, by assumption⟩
                clear HKy M7 hb8 own6 gr6 at6 lt6 f6 g6 hKA hlI hlH hiH g1 g2 g3 g4 g5 i1 i2 i3 i4 i5 hq0 hq1 hq3 hE hn1 hn3 hlk hln hm hlen hcnt htop hlenK hc1 hc2 hlK hA hl hLi hM1 e0 e1 e2 M8
                go_region_held3 (fun W => W.cell? ⟨gk, m * 4, none⟩ = some (.int .u8 (lk : Int)) ∧ W.cell? ⟨gk, m * 4 + 1, none⟩ = some (.int .u64 (ln : Int)) ∧ W.cell? ⟨gk, m * 4 + 2, none⟩ = some (.slice p' n1 d1) ∧ W.cell? ⟨gk, m * 4 + 3, none⟩ = some (.slice ql n3 d2) ∧ W.cell? ⟨w4.heap.size, 0, none⟩ = some (.int .u8 (K0 : Int)) ∧ W.cell? ⟨w4.heap.size, 1, none⟩ = some (.int .u64 (N0 : Int)) ∧ W.cell? ⟨w4.heap.size, 2, none⟩ = some (.slice p L0 c) ∧ W.cell? ⟨w4.heap.size, 3, none⟩ = some (.slice q M0 c') ∧ W.cell? ⟨rb, 3, none⟩ = some (.slice (some ⟨gk, 0, none⟩) (N + 1) ck))
                  (first | exact ⟨kx0, kx1, kx2, kx3, k0, k1, k2, k3, e3⟩ | exact ⟨(hb2.cell (p := ⟨gk, _, none⟩) hl1).trans kx0, (hb2.cell (p := ⟨gk, _, none⟩) hl1).trans kx1, (hb2.cell (p := ⟨gk, _, none⟩) hl1).trans kx2, (hb2.cell (p := ⟨gk, _, none⟩) hl1).trans kx3, (hb2.cell (p := ⟨w4.heap.size, _, none⟩) hl2).trans k0, (hb2.cell (p := ⟨w4.heap.size, _, none⟩) hl2).trans k1, (hb2.cell (p := ⟨w4.heap.size, _, none⟩) hl2).trans k2, (hb2.cell (p := ⟨w4.heap.size, _, none⟩) hl2).trans k3, (hb2.cell (p := ⟨rb, _, none⟩) hl3).trans e3⟩) (first
                  | (go_at_call 27; refine (HC _ (Below.refl _ _).drew _ _).mono ?_; rintro e w2 ⟨rfl, hb2⟩))
                have M9 := HM8.out.below ((Below.refl _ _).drew.trans hb2) (by have := HW.out; omega)
                go_wp2_with (go_at_call 53; refine (rbad_any g 21 us t1 w2 M9.rd (by decide)).mono ?_; rintro e w9 ⟨rfl, hb9, hr9⟩)
                have hW := HW.out
                exact ⟨⟨j + 1, by omega, by go_num, .inr ⟨21, M9.bad hb9 (by omega) hW.1 21 (by decide) R HR21.out us t1 hr9⟩⟩, by simp only [intOf]; omega⟩
              | true =>
                simp only [keyR, hkc, badOrd, hA, Bool.true_eq_false, Bool.false_eq_true, if_false, Bool.not_true] at heq
                have HR2 : Hid (R = match itemC d (o + 1) t1 us with | .error e => .error e | .ok (v, t2, zs) => pcsC (itemC d) true (o + 1) (n - (j + 1)) (some i) (kids ++ [i, v]) t2 zs) := heq
                clear heq
                go_wp2_with (first
              | (at_builtin; go_loud (refine wpList_append_lies _ rfl (.tmp 32) (.tmp 34) 33 rfl (rb + 1) 35 i0 (.agg #[.int .u8 0, .int .u64 0, .slice none 0 0, .slice none 0 0]) 4 64 Tryd.underlying33 hi0 hz0 hz1 hz2 rfl (by decide) nv N css.flatten rfl (A'.out _ _).1 ⟨w4.heap.size + 1, 0, none⟩ 1 1 [.int .u8 (K0 : Int), .int .u64 (N0 : Int), .slice p L0 c, .slice q M0 c'] rfl rfl (World.news_of_block (heap_alloc2_new w4 _ _)) (by simp [Value.oneCell']) (by decide) HX.out.1 HX.out.2 (A'.out _ _).2 _ rfl ?_); intro gk ck w6 own6 gr6 at6 lt6; obtain ⟨f6, g6, M7⟩ := MM.out gk ck w6 own6 gr6 at6; obtain ⟨k0, k1, k2, k3, _⟩ := M7.own.facts; have c6 := M7.rd.code)
              | (go_at_call 34; refine (HKy _ _ _ _).mono ?_; rintro e w8 ⟨rfl, hb8⟩; have M8 := M7.below hb8 (by have := HW.out; omega)))
                obtain ⟨e0, e1, e2, e3, _⟩ := M8.out.facts
                obtain ⟨k0, k1, k2, k3, _⟩ := M8.own.facts
                have hlK : (kids ++ [i])[kids.length - 2]? = some l := by
                  have h1 := HP.out.2.len
                  rw [List.getElem?_append_left (by omega), ← hl]
                  unfold lastK
                  rw [if_neg (by omega)]
                obtain ⟨qK, cK, hqK, hc1, hc2, hKA⟩ := M8.kl.kids (by have := HW.out; omega)
                simp only [Value.slice.injEq] at hqK
                obtain ⟨rfl, hlenK, rfl⟩ := hqK
                obtain ⟨b, o', e, _, x0, x1, x2, x3, kx0, kx1, kx2, kx3, hlI⟩ := hKA _ _ hlK
                cases e
                obtain ⟨ql, hlH⟩ := hlI.head
                obtain ⟨p', d1, d2, rfl, rfl, rfl, rfl, g1, g2, g3, g4, g5⟩ := hlH.cells
                obtain ⟨qi, hiH⟩ := M8.it.head
                obtain ⟨p'', d3, d4, hq0, hq1, hq2, hq3, i1, i2, i3, i4, i5⟩ := hiH.cells
                simp only [Value.slice.injEq] at hq2
                obtain ⟨rfl, hLi, rfl⟩ := hq2
                have hE := HE.out
                have HC := fun W (hW : Below w8.heap.size w8 W) v1 v2 => rAhead_any l i p' p l.b.length i.b.length d1 c v1 v2 W g1 i1 g2 i2 (g3.lies.below hW) (i3.lies.below hW) rfl rfl (by have := g3.cap; have := g3.big; omega) (by have := i3.cap; have := i3.big; omega)
                rw [hA, hE.1, hE.2.1, hE.2.2.1] at HC
                obtain ⟨n1, hn1⟩ : ∃ n, l.b.length = n := ⟨_, rfl⟩
                obtain ⟨n3, hn3⟩ : ∃ n, l.kids.length = n := ⟨_, rfl⟩
                obtain ⟨lk, hlk⟩ : ∃ n, l.kind = n := ⟨_, rfl⟩
                obtain ⟨ln, hln⟩ : ∃ n, l.n = n := ⟨_, rfl⟩
                rw [hn1, hlk, hln] at HC
                rw [hlk, Nat.zero_add] at kx0
                rw [hln, Nat.zero_add] at kx1
                rw [hn1, Nat.zero_add] at kx2
                rw [hn3, Nat.zero_add] at kx3
                obtain ⟨m, hm⟩ : ∃ m, kids.length - 2 = m := ⟨_, rfl⟩
                rw [hm] at kx0 kx1 kx2 kx3
                have hlen := HP.out.2.len
                have hcnt := HP.out.2.cnt
                have htop := HP.out.2.top
                rw [List.length_append] at hlenK
                simp only [List.length_cons, List.length_nil] at hlenK
                have hl1 : gk < w8.heap.size := World.block_lt_of_cell? w8 ⟨gk, m * 4, none⟩ kx0
                have hl2 : w4.heap.size < w8.heap.size := M8.own.lt
                have hl3 : rb < w8.heap.size := M8.out.lt
                have hM1 : ((N : Int) + 1) - 3 = (m : Int) := by omega
                have hwr : IntKind.i64.wrap (((N : Int) + 1) - 3) = (m : Int) := by rw [hM1]; exact IntWalk.i64_in _ (by omega)
                have hM3 : (m : Int) < (N : Int) + 1 := by omega
                have hM3n : m < N + 1 := by omega
                have hM4 : (0 : Int) ≤ (m : Int) := by omega
                have hM5 : (N : Int) + 1 ≤ 9223372036854775807 := by omega
                have hm5 : (m : Int) ≤ 9223372036854775807 := by omega
                have hwm : IntKind.i64.wrap (m : Int) = (m : Int) := IntWalk.i64_in _ (by omega)
                have hwN : IntKind.i64.wrap ((N : Int) + 1) = (N : Int) + 1 := IntWalk.i64_in _ (by omega)
                have HM8 : Hid (GMid d g w rb w4.heap.size w8 (.slice (some ⟨gk, 0, none⟩) (N + 1) ck) (css ++ [[.int .u8 (K0 : Int), .int .u64 (N0 : Int), .slice p L0 c, .slice q M0 c']]) (kids ++ [i]) t1 us (.int .u8 (K0 : Int)) (.int .u64 (N0 : Int)) (.slice p L0 c) (.slice q M0 c') i) := M8
                have HJ : Hid (0 < j ∧ j < n) := ⟨hj0, by assumption⟩
                clear HKy M7 hb8 own6 gr6 at6 lt6 f6 g6 hKA hlI hlH hiH g1 g2 g3 g4 g5 i1 i2 i3 i4 i5 hq0 hq1 hq3 hE hn1 hn3 hlk hln hm hlen hcnt htop hlenK hc1 hc2 hlK hA hl hLi hM1 e0 e1 e2 M8
                go_region_held3 (fun W => W.cell? ⟨gk, m * 4, none⟩ = some (.int .u8 (lk : Int)) ∧ W.cell? ⟨gk, m * 4 + 1, none⟩ = some (.int .u64 (ln : Int)) ∧ W.cell? ⟨gk, m * 4 + 2, none⟩ = some (.slice p' n1 d1) ∧ W.cell? ⟨gk, m * 4 + 3, none⟩ = some (.slice ql n3 d2) ∧ W.cell? ⟨w4.heap.size, 0, none⟩ = some (.int .u8 (K0 : Int)) ∧ W.cell? ⟨w4.heap.size, 1, none⟩ = some (.int .u64 (N0 : Int)) ∧ W.cell? ⟨w4.heap.size, 2, none⟩ = some (.slice p L0 c) ∧ W.cell? ⟨w4.heap.size, 3, none⟩ = some (.slice q M0 c') ∧ W.cell? ⟨rb, 3, none⟩ = some (.slice (some ⟨gk, 0, none⟩) (N + 1) ck))
                  (first | exact ⟨kx0, kx1, kx2, kx3, k0, k1, k2, k3, e3⟩ | exact ⟨(hb2.cell (p := ⟨gk, _, none⟩) hl1).trans kx0, (hb2.cell (p := ⟨gk, _, none⟩) hl1).trans kx1, (hb2.cell (p := ⟨gk, _, none⟩) hl1).trans kx2, (hb2.cell (p := ⟨gk, _, none⟩) hl1).trans kx3, (hb2.cell (p := ⟨w4.heap.size, _, none⟩) hl2).trans k0, (hb2.cell (p := ⟨w4.heap.size, _, none⟩) hl2).trans k1, (hb2.cell (p := ⟨w4.heap.size, _, none⟩) hl2).trans k2, (hb2.cell (p := ⟨w4.heap.size, _, none⟩) hl2).trans k3, (hb2.cell (p := ⟨rb, _, none⟩) hl3).trans e3⟩) (first
                  | (go_at_call 27; refine (HC _ (Below.refl _ _).drew _ _).mono ?_; rintro e w2 ⟨rfl, hb2⟩))
                have M8 := HM8.out
                obtain ⟨w9, hw9⟩ : ∃ w9, w2 = w9 := ⟨_, rfl⟩
                have M9 := M8.below ((Below.refl _ _).drew.trans hb2) (by have := HW.out; omega)
                rw [hw9] at M9
                try rw [hw9]
                clear hw9
                obtain ⟨css2, hcss2⟩ : ∃ css2, css ++ [[.int .u8 (K0 : Int), .int .u64 (N0 : Int), .slice p L0 c, .slice q M0 c']] = css2 := ⟨_, rfl⟩
                have hN2 : css2.length = N + 1 := by rw [← hcss2]; simp [hN]
                rw [hcss2] at M9
                have HM : Hid (GMid d g w rb w4.heap.size w9 (.slice (some ⟨gk, 0, none⟩) (N + 1) ck) css2 (kids ++ [i]) t1 us (.int .u8 (K0 : Int)) (.int .u64 (N0 : Int)) (.slice p L0 c) (.slice q M0 c') i) := M9
                have HH := HI2 w9 M9.rd (HW.out.2.1.cbut hG M9.but HW.out.1)
                have HX2 : Hid (N + 1 + 1 ≤ maxLen ∧ (N + 1 + 1) * 64 ≤ 140737488355328) := by
                  have h1 := HP.out.2.kl.len; have h2 := HP.out.2.cnt; have h3 := HP.out.2.top
                  exact ⟨by unfold maxLen; omega, by omega⟩
                clear M9 HI2 hcss2 M8 HM8 MM A' hb2 HC kx0 kx1 kx2 kx3 k0 k1 k2 k3 e3 hl1 hl2 hl3
                cases hV : itemC d (o + 1) t1 us with
                | error k =>
                  obtain ⟨hk0, hk1⟩ := item_err d _ _ _ _ hV
                  have HR3 : Hid (R = .error k) := by have := HR2.out; rw [hV] at this; exact this
                  rw [hV] at HH
                  clear hV HR2
                  go_wp2_with fail
                  refine HH.mono ?_
                  intro e w10 hp
                  obtain ⟨hb10, _, _, zs, t4, v0, v1, p1, n1, d1, p2, n2, d2, rfl, hr10⟩ := hp.errx
                  clear hp HH
                  have T4 := HM.out.out.same (hb10.block _ HM.out.out.lt (by have := HW.out; omega))
                  have T5 := HM.out.ret.same (hb10.block _ HM.out.ret.lt (by have := HW.out; omega))
                  obtain ⟨_, _, _, f13, _, _, _, g13⟩ := T4.allfacts
                  have A2 := kids_pushG (w := w) HM.out.kl hb10 (by have := HW.out; omega) (by have := HW.out; omega) (Nat.sub_le _ _) HM.out.size
                  rw [hN2] at A2
                  have A2 : Hid _ := A2
                  go_wp2_with (at_builtin; go_loud (refine wpList_append_lies _ rfl (.tmp 72) (.tmp 74) 33 rfl (rb + 1) 35 i0 (.agg #[.int .u8 0, .int .u64 0, .slice none 0 0, .slice none 0 0]) 4 64 Tryd.underlying33 hi0 hz0 hz1 hz2 rfl (by decide) (.slice (some ⟨gk, 0, none⟩) (N + 1) ck) (N + 1) css2.flatten rfl (A2.out _ _).1 ⟨w10.heap.size + 1, 0, none⟩ 1 1 [.int .u8 v0, .int .u64 v1, .slice p1 n1 d1, .slice p2 n2 d2] rfl rfl (World.news_of_block (heap_alloc2_new w10 _ _)) (by simp [Value.oneCell']) (by decide) HX2.out.1 HX2.out.2 (A2.out _ _).2.1 _ rfl ?_); intro gl cl w16 own16 gr16 at16 lt16; obtain ⟨kl16, but16, low16, sz16⟩ := (A2.out _ _).2.2 gl cl _ _ _ _ w16 own16 gr16 at16; have T6 := T4.same (low16 rb (Nat.lt_succ_self _)); obtain ⟨_, _, _, f16, _, _, _, g16⟩ := T6.facts)
                  have b17 := But.setCell rb w16 3 (.slice (some ⟨gl, 0, none⟩) (N + 1 + 1) cl)
                  have hW := HW.out
                  exact ⟨⟨j + 1, by omega, by go_num, .inr ⟨k, ⟨HR3.out, ⟨hk0, hk1⟩, ⟨zs, t4, (hr10.low low16 (by omega)).slot b17 (by omega)⟩, (but16 HM.out.but).fresh b17 (by omega), ⟨_, _, _, T6.set3 _⟩, (T5.same (low16 _ (by omega))).same (b17.block _ (by omega) (by omega))⟩⟩⟩, by simp only [intOf]; omega⟩
                | ok r =>
                  obtain ⟨v, t2, zs⟩ := r
                  obtain ⟨cu1, cu2, cu3⟩ := item_cnt d _ _ _ _ _ _ HQ.out.2.2 hV
                  have HR3 : Hid (R = pcsC (itemC d) true (o + 1) (n - (j + 1)) (some i) (kids ++ [i, v]) t2 zs ∧ t1 < t2 ∧ t2 ≤ 512 ∧ zs.length < us.length) := ⟨by have := HR2.out; rw [hV] at this; exact this, cu1, cu2, cu3⟩
                  rw [hV] at HH
                  clear hV HR2 cu1 cu2 cu3
                  go_wp2_with fail
                  refine HH.mono ?_
                  intro e w10 hp
                  obtain ⟨hb10, pv, cv, qv, cv', rfl, hiv, hr10⟩ := hp.okx
                  clear hp HH
                  obtain ⟨K2, hK2⟩ : ∃ K0 : Nat, v.kind = K0 := ⟨_, rfl⟩
                  obtain ⟨N2, hNn⟩ : ∃ K0 : Nat, v.n = K0 := ⟨_, rfl⟩
                  obtain ⟨L2, hL2⟩ : ∃ K0 : Nat, v.b.length = K0 := ⟨_, rfl⟩
                  obtain ⟨M2, hM2⟩ : ∃ K0 : Nat, v.kids.length = K0 := ⟨_, rfl⟩
                  rw [hK2, hNn, hL2, hM2] at hiv ⊢
                  have T4 := HM.out.out.same (hb10.block _ HM.out.out.lt (by have := HW.out; omega))
                  have T5 := HM.out.ret.same (hb10.block _ HM.out.ret.lt (by have := HW.out; omega))
                  obtain ⟨_, _, _, f13, _, _, _, g13⟩ := T4.allfacts
                  have A2 := kids_pushG (w := w) HM.out.kl hb10 (by have := HW.out; omega) (by have := HW.out; omega) (Nat.sub_le _ _) HM.out.size
                  rw [hN2] at A2
                  have A2 : Hid _ := A2
                  clear hK2 hNn hL2 hM2
                  go_wp2_with (at_builtin; go_loud (refine wpList_append_lies _ rfl (.tmp 72) (.tmp 74) 33 rfl (rb + 1) 35 i0 (.agg #[.int .u8 0, .int .u64 0, .slice none 0 0, .slice none 0 0]) 4 64 Tryd.underlying33 hi0 hz0 hz1 hz2 rfl (by decide) (.slice (some ⟨gk, 0, none⟩) (N + 1) ck) (N + 1) css2.flatten rfl (A2.out _ _).1 ⟨w10.heap.size + 1, 0, none⟩ 1 1 [.int .u8 (K2 : Int), .int .u64 (N2 : Int), .slice pv L2 cv, .slice qv M2 cv'] rfl rfl (World.news_of_block (heap_alloc2_new w10 _ _)) (by simp [Value.oneCell']) (by decide) HX2.out.1 HX2.out.2 (A2.out _ _).2.1 _ rfl ?_); intro gl cl w16 own16 gr16 at16 lt16; obtain ⟨kl16, but16, low16, sz16⟩ := (A2.out _ _).2.2 gl cl _ _ _ _ w16 own16 gr16 at16; have T6 := T4.same (low16 rb (Nat.lt_succ_self _)); obtain ⟨_, _, _, f16, _, _, _, g16⟩ := T6.facts)
                  have hW := HW.out
                  have Mf := gmid HM.out.kl HM.out.but T4 T5 hb10 hW.1 (by omega) HM.out.size hr10 hiv _ gl cl (N + 1) hN2 w16 own16 gr16 at16
                  have hP := HP.out.2
                  have hlen := hP.len
                  have h3 := HR3.out
                  have hQ := HQ.out
                  rw [show (kids ++ [i]) ++ [v] = kids ++ [i, v] by simp] at Mf
                  exact ⟨⟨j + 1, by omega, by go_num, .inl ⟨_, _, kids ++ [i, v], t2, zs, ⟨by rw [lastK_two]; exact hR.trans h3.1, Mf.kl, by rw [List.length_append]; show kids.length + 2 = _; omega, Mf.rd, Mf.but, Mf.out, Mf.ret, by have := hP.cnt; rw [List.length_append]; show kids.length + 2 + t ≤ t2; omega, h3.2.2.1, by have := hP.less; omega, Mf.size⟩⟩⟩, by simp only [intOf]; omega⟩
      · obtain ⟨q, c', hq, hq1, hq2, hq3⟩ := P.kl.kids (by have := HW.out; omega)
        have heq := P.eq
        rw [Nat.sub_self, pcsC] at heq
        have S0 := P.ret
        rw [HW.out.2.2.1] at S0
        have S1 := P.out
        rw [hq] at S1
        have HP : Hid (R = .ok (kids, t', ys) ∧ GMt d g o j t bs w rb (rb + 1) wr j nv css kids t' ys) := ⟨hR.symm.trans heq, P⟩
        have HQ : Hid (KidsAt (ItOk wr (fun b => b < g - 2 ∨ rb + 1 ≤ b) d) wr (fun b => b < g - 2 ∨ rb + 1 ≤ b) q kids ∧ kids.length ≤ c' ∧ c' ≤ 9223372036854775807) := ⟨hq3, hq1, hq2⟩
        obtain ⟨L0, hL0⟩ : ∃ L0, kids.length = L0 := ⟨_, rfl⟩
        rw [hL0] at S1
        obtain ⟨e0, e1, e2, e3, _⟩ := S1.facts
        obtain ⟨_, _, _, _, a0, a1, a2, a3⟩ := S0.facts
        clear heq P hq hq1 hq2 hq3
        go_wp2_with fail
        have hW := HW.out
        have hP := HP.out
        have hQ := HQ.out
        refine bodyPost_ret (ret_item1 rfl _ _ sb _ _ _ _ rfl (S0.set4 (.int .u8 6) (.int .u64 0) (.slice none 0 0) (.slice q L0 c'))) rfl ?_
        exact gret_ok R hP.1 (.inr rfl) hW.2.2.1 hW.2.2.2 hW.1 hP.2.but hP.2.rd hQ.1 hQ.2.1 hQ.2.2 _ rfl _ hL0
    · obtain ⟨q, nq, cq, S1⟩ := P.out
      have S0 := P.ret
      rw [HW.out.2.2.1] at S0
      obtain ⟨zs, t4, hr4⟩ := P.rd
      have cc := hr4.code
      have k0 : ((k : Int) == 0) = false := by have := P.pos; simp; omega
      have HP : Hid (GErr g k R 6 w rb wr) := P
      obtain ⟨e0, e1, e2, e3, _⟩ := S1.facts
      obtain ⟨_, _, _, _, a0, a1, a2, a3⟩ := S0.facts
      clear P
      rcases Nat.lt_or_eq_of_le hj with hj | rfl
      · have hjI : (j : Int) < (n : Int) := by omega
        have hjd : decide ((j : Int) < (n : Int)) = true := by simpa using hjI
        go_wp2_with fail
        refine bodyPost_ret (ret_item1 rfl _ _ sb _ _ _ _ rfl (S0.set4 (.int .u8 6) (.int .u64 0) (.slice none 0 0) (.slice q nq cq))) rfl ?_
        exact gret_err R HP.out.eq HP.out.pos HW.out.2.2.1 HW.out.1 HP.out.but hr4 _
      · go_wp2_with fail
        refine bodyPost_ret (ret_item1 rfl _ _ sb _ _ _ _ rfl (S0.set4 (.int .u8 6) (.int .u64 0) (.slice none 0 0) (.slice q nq cq))) rfl ?_
        exact gret_err R HP.out.eq HP.out.pos HW.out.2.2.1 HW.out.1 HP.out.but hr4 _
end Go.Proofs.YtfmldcibhllpcaaDoor
