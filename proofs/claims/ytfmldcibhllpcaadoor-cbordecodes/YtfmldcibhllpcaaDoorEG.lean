/-
  The document's group.
-/
import Derived.Test.YtfmldcibhllpcaaDoorEC
namespace Go.Proofs.YtfmldcibhllpcaaDoor
open Go.Shelf Go.RowKit
set_option linter.unusedVariables false
set_option linter.unusedSimpArgs false

theorem RPost.okx {d g : Nat} {w : World} {i : It} {t' : Nat} {ys : Bs} {e : Ending} {w' : World} (h : RPost d g w (.ok (i, t', ys)) e w') : But g w w' ∧ ∃ p c q c', e = .returned (.agg #[.int .u8 (i.kind : Int), .int .u64 (i.n : Int), .slice p i.b.length c, .slice q i.kids.length c']) ∧ ItOk w' (fun b => b < g - 2 ∨ w.heap.size ≤ b) d [.int .u8 (i.kind : Int), .int .u64 (i.n : Int), .slice p i.b.length c, .slice q i.kids.length c'] i ∧ Rr w' g ys t' 0 := by
  obtain ⟨h1, (⟨i', t1, ys', c0, c1, c2, c3, hR, e1, hi, hr⟩ | ⟨k, zs, t1, v0, v1, p1, n1, d1, p2, n2, d2, hR, _⟩)⟩ := h
  · cases hR
    have hi0 := hi
    obtain ⟨q, hq⟩ := hi0.head
    obtain ⟨p, c, c', rfl, rfl, rfl, rfl, _⟩ := hq.cells
    exact ⟨h1, p, c, q, c', e1, hi, hr⟩
  · cases hR
theorem RPost.errx {d g : Nat} {w : World} {k : Nat} {e : Ending} {w' : World} (h : RPost d g w (.error k) e w') : But g w w' ∧ 0 < k ∧ k < 100 ∧ ∃ (zs : Bs) (t' : Nat) (v0 v1 : Int) (p1 : Option Addr) (n1 d1 : Nat) (p2 : Option Addr) (n2 d2 : Nat), e = .returned (.agg #[.int .u8 v0, .int .u64 v1, .slice p1 n1 d1, .slice p2 n2 d2]) ∧ Rr w' g zs t' k := by
  obtain ⟨h1, (⟨i', t1, ys', c0, c1, c2, c3, hR, _⟩ | ⟨k', zs, t1, v0, v1, p1, n1, d1, p2, n2, d2, hR, h2, h3, h4, h5⟩)⟩ := h
  · cases hR
  · cases hR
    exact ⟨h1, h2, h3, zs, t1, v0, v1, p1, n1, d1, p2, n2, d2, h4, h5⟩
/-- The state of the loop of an array: rb: where out lies. -/
structure GSt (d g o n t : Nat) (bs : Bs) (w : World) (rb s0 : Nat) (wr : World) (j : Nat) (nv : Value) (css : List (List Value)) (kids : List It) (t' : Nat) (ys : Bs) : Prop where
  eq : pcsC (itemC d) false (o + 1) n none [] t bs = pcsC (itemC d) false (o + 1) (n - j) none kids t' ys
  kl : Kl wr s0 g (g - 2) d nv css kids
  len : kids.length = j
  rd : Rr wr g ys t' 0
  but : But g w wr
  out : Slot wr rb (.int .u8 5) (.int .u64 0) (.slice none 0 0) nv
  ret : Slot wr w.heap.size (.int .u8 0) (.int .u64 0) (.slice none 0 0) (.slice none 0 0)
  cnt : kids.length + t ≤ t'
  top : t' ≤ 512
  less : ys.length ≤ 8192
  size : s0 ≤ wr.heap.size
/-- The loop has come to a fault. -/
structure GErr (g k : Nat) (R : Except Nat (List It × Nat × Bs)) (kd : Nat) (w : World) (rb : Nat) (wr : World) : Prop where
  eq : R = .error k
  pos : 0 < k ∧ k < 100
  rd : ∃ zs t', Rr wr g zs t' k
  but : But g w wr
  out : ∃ q n c, Slot wr rb (.int .u8 (kd : Int)) (.int .u64 0) (.slice none 0 0) (.slice q n c)
  ret : Slot wr w.heap.size (.int .u8 0) (.int .u64 0) (.slice none 0 0) (.slice none 0 0)
theorem Kl.slot {w w' : World} {s0 g lo d r : Nat} {nv : Value} {css : List (List Value)} {kids : List It} (h : Kl w s0 g lo d nv css kids) (hb : But r w w') (hr : r < s0) (hlo : lo ≤ r) : Kl w' s0 g lo d nv css kids :=
  ⟨h.len, owns_keep h.row (fun b hbk => hb.block b (owns_lt h.row hbk).2.1 (by have := (owns_lt h.row hbk).1; omega)), fun i cs k hi hk => (h.rep i cs k hi hk).keep (fun b hP hlt => hb.block b hlt (by omega))⟩
/-- A list's row behind two blocks more; and with one more put behind it. -/
theorem kids_pushG {w wr w4 : World} {s0 g lo d : Nat} {nv : Value} {css : List (List Value)} {kids : List It} (hK : Kl wr s0 g lo d nv css kids) (hb4 : But g wr w4) (hs : w.heap.size ≤ s0) (hg : g < s0) (hlo : lo ≤ g) (hsz : s0 ≤ wr.heap.size) :
    ∀ X Y : Obj, ((w4.alloc X).alloc Y).ownsRow s0 35 4 nv css.length css.flatten ∧ s0 ≤ ((w4.alloc X).alloc Y).heap.size ∧
      (∀ (gk ck : Nat) (c0 c1 c2 c3 : Value) (w6 : World), w6.ownsRow s0 35 4 (.slice (some ⟨gk, 0, none⟩) (css.length + 1) ck) (css.length + 1) (css.flatten ++ [c0, c1, c2, c3]) → ((w4.alloc X).alloc Y).grownBy w6 nv.ownBlock → (nv.ownBlock = some gk ∨ gk = ((w4.alloc X).alloc Y).heap.size) →
        (∀ i, ItOk w4 (fun b => b < lo ∨ wr.heap.size ≤ b) d [c0, c1, c2, c3] i → Kl w6 s0 g lo d (.slice (some ⟨gk, 0, none⟩) (css.length + 1) ck) (css ++ [[c0, c1, c2, c3]]) (kids ++ [i])) ∧ (But g w wr → But g w w6) ∧ (∀ k, k < s0 → w6.heap[k]? = w4.heap[k]?) ∧ s0 ≤ w6.heap.size) := by
  intro X Y
  have hbw : Below w4.heap.size w4 ((w4.alloc X).alloc Y) := ((Below.refl _ _).alloc (Nat.le_refl _) _).alloc (by rw [alloc_sz]; omega) _
  have hK4 : Kl w4 s0 g lo d nv css kids := hK.keep (fun b hne hlt => hb4.block b hlt hne) hg hlo
  have hK5 : Kl ((w4.alloc X).alloc Y) s0 g lo d nv css kids := hK4.keep (fun b hne hlt => hbw.block b hlt) hg hlo
  have hsz4 := hb4.size
  have hsz5 := hbw.size
  refine ⟨hK5.row, by omega, fun gk ck c0 c1 c2 c3 w6 own6 gr6 at6 => ?_⟩
  have hold : ∀ b, nv.ownBlock = some b → b < wr.heap.size := fun b hb => (owns_lt hK.row hb).2.1
  have hlow : ∀ k, k < s0 → w6.heap[k]? = w4.heap[k]? := fun k hk => (gr6.block k (by omega) (fun e => by have := (owns_lt hK.row e.symm).1; omega)).trans (hbw.block k (by omega))
  have h6 := gr6.size
  refine ⟨fun i hi => hK5.push (s1 := wr.heap.size) [c0, c1, c2, c3] i hg hsz hold (hi.below hbw) own6 gr6 (at6.elim (fun e => .inl e.symm) (fun e => .inr (by rw [e]; rfl))) hlo, fun hw => ⟨(gr6.os.trans (hbw.os.trans hb4.os)).trans hw.os, (gr6.tape.trans (hbw.tape.trans hb4.tape)).trans hw.tape, (gr6.output.trans (hbw.output.trans hb4.output)).trans hw.output, by have := hw.size; omega, fun k hk hne => ((hlow k (by omega)).trans (hb4.block k (by have := hw.size; omega) hne)).trans (hw.block k hk hne)⟩, hlow, by omega⟩
theorem Slot.set3 {w : World} {r : Nat} {c0 c1 c2 c3 : Value} (h : Slot w r c0 c1 c2 c3) (d3 : Value) : Slot (w.setCell ⟨r, 3, none⟩ d3) r c0 c1 c2 d3 := by
  unfold Slot
  rw [heap_set_at w r 3 _ _ _ _ h]
  rfl
theorem gret_ok {d g K t' sb rb c' : Nat} {w wr : World} {q : Option Addr} {kids : List It} {ys : Bs} (R : Except Nat (List It × Nat × Bs)) (hR : R = .ok (kids, t', ys)) (hK : K = 4 ∨ K = 5) (hs : w.heap.size = sb) (hrb : sb + 1 = rb) (hg : g < w.heap.size) (hb : But g w wr) (hrd : Rr wr g ys t' 0) (hk : KidsAt (ItOk wr (fun b => b < g - 2 ∨ rb + 1 ≤ b) d) wr (fun b => b < g - 2 ∨ rb + 1 ≤ b) q kids) (h1 : kids.length ≤ c') (h2 : c' ≤ 9223372036854775807) (v : Value) (hv : v = .int .u8 ((K + 1 : Nat) : Int)) (L : Nat) (hL : kids.length = L) :
    RPost (d + 1) g w (kidsR K R) (.returned (.agg #[v, .int .u64 0, .slice none 0 0, .slice q L c'])) ((((wr.setCell ⟨sb, 0, none⟩ v).setCell ⟨sb, 1, none⟩ (.int .u64 0)).setCell ⟨sb, 2, none⟩ (.slice none 0 0)).setCell ⟨sb, 3, none⟩ (.slice q L c')) := by
  have b3 := But.set4 wr sb v (.int .u64 0) (.slice none 0 0) (.slice q L c')
  subst hR hL hv
  have hi : ItOk wr (fun b => b < g - 2 ∨ rb + 1 ≤ b) (d + 1) [.int .u8 ((K + 1 : Nat) : Int), .int .u64 0, .slice none 0 0, .slice q kids.length c'] ⟨K + 1, 0, [], kids⟩ := ⟨q, ⟨none, 0, c', rfl, by show K + 1 < 256; omega, by show 0 < 18446744073709551616; omega, ByV.nil _ _, h1, h2⟩, hk⟩
  exact ⟨hb.fresh b3 (by omega), .inl ⟨_, _, _, _, _, _, _, rfl, rfl, (hi.keep (fun k hk hlt => b3.block k hlt (by omega))).mono (fun k hk _ => by omega), hrd.slot b3 (by omega)⟩⟩
theorem gret_err {d g K k sb n c' : Nat} {w wr : World} {q : Option Addr} {zs : Bs} {t' : Nat} (R : Except Nat (List It × Nat × Bs)) (hR : R = .error k) (hk : 0 < k ∧ k < 100) (hs : w.heap.size = sb) (hg : g < w.heap.size) (hb : But g w wr) (hrd : Rr wr g zs t' k) (v : Int) :
    RPost d g w (kidsR K R) (.returned (.agg #[.int .u8 v, .int .u64 0, .slice none 0 0, .slice q n c'])) ((((wr.setCell ⟨sb, 0, none⟩ (.int .u8 v)).setCell ⟨sb, 1, none⟩ (.int .u64 0)).setCell ⟨sb, 2, none⟩ (.slice none 0 0)).setCell ⟨sb, 3, none⟩ (.slice q n c')) := by
  have b3 := But.set4 wr sb (.int .u8 v) (.int .u64 0) (.slice none 0 0) (.slice q n c')
  subst hR
  exact ⟨hb.fresh b3 (by omega), .inr ⟨k, zs, t', _, _, _, _, _, _, _, _, rfl, hk.1, hk.2, rfl, hrd.slot b3 (by omega)⟩⟩
set_option maxRecDepth 100000 in
set_option maxHeartbeats 4000000 in
/-- group, of an array. -/
theorem group_arr (d : Nat) (HI : RItemOK d) (n g : Nat) (bs : Bs) (t o : Nat) (w : World) (h : Rr w g bs t 0) (hG : Gl g) (hT : Tabs w) (hd : d + 1 + o = 8) (ht : t ≤ 512) (hl : bs.length ≤ 8192) (hn : n < 18446744073709551616) :
    Calls Tryd.prog 54 #[.pointer (some ⟨g, 0, none⟩), .bool false, .int .u64 (n : Int), .int .i64 ((o : Int) + 1)] w (RPost (d + 1) g w (kidsR 4 (pcsC (itemC d) false (o + 1) n none [] t bs))) := by
  have hg := h.lt
  have hnI : (n : Int) < 18446744073709551616 := by omega
  have hoI : (o : Int) ≤ 7 := by omega
  obtain ⟨R, hR⟩ : ∃ R, pcsC (itemC d) false (o + 1) n none [] t bs = R := ⟨_, rfl⟩
  rw [hR]
  obtain ⟨sb, hsb⟩ : ∃ sb, w.heap.size = sb := ⟨_, rfl⟩
  obtain ⟨rb, hrb⟩ : ∃ rb, sb + 1 = rb := ⟨_, rfl⟩
  obtain ⟨W2, hW2⟩ : ∃ W2, (w.alloc (.cells #[.int .u8 0, .int .u64 0, .slice none 0 0, .slice none 0 0] 35)).alloc (.cells #[.int .u8 5, .int .u64 0, .slice none 0 0, .slice none 0 0] 35) = W2 := ⟨_, rfl⟩
  have B2 : Below w.heap.size w W2 := by rw [← hW2]; exact ((Below.refl _ _).alloc (Nat.le_refl _) _).alloc (by rw [alloc_sz]; omega) _
  have z2 : W2.heap.size = w.heap.size + 2 := by rw [← hW2, alloc_sz, alloc_sz]
  have S0 : Slot W2 w.heap.size (.int .u8 0) (.int .u64 0) (.slice none 0 0) (.slice none 0 0) := by rw [← hW2]; exact (Slot.new w _ _ _ _).same (heap_alloc_old _ _ (by rw [alloc_sz]; omega))
  have S1 : Slot W2 (w.heap.size + 1) (.int .u8 5) (.int .u64 0) (.slice none 0 0) (.slice none 0 0) := by rw [← hW2]; exact heap_alloc2_new w _ _
  rw [hsb, hrb] at S1
  have P0 : Hid (GSt d g o n t bs w rb (rb + 1) W2 0 (.slice none 0 0) [] [] t bs) := ⟨rfl, Kl.nil _ _ _ _ _, rfl, h.below B2, But.ofBelow B2, S1, S0, by simp, ht, hl, by omega⟩
  have HW : Hid (g < w.heap.size ∧ Tabs w ∧ w.heap.size = sb ∧ sb + 1 = rb) := ⟨hg, hT, hsb, hrb⟩
  have HS : Hid (w.heap.size = sb ∧ sb + 1 = rb) := ⟨hsb, hrb⟩
  clear hsb hrb hg
  clear S0 S1 B2 z2 h hT
  have HW2 : Hid ((w.alloc (.cells #[.int .u8 0, .int .u64 0, .slice none 0 0, .slice none 0 0] 35)).alloc (.cells #[.int .u8 5, .int .u64 0, .slice none 0 0, .slice none 0 0] 35) = W2) := hW2
  clear hW2
  go_enter Tryd.func54, Tryd.ntmps54
  go_wp2_with fail
  rw [HW2.out]
  clear HW2
  rw [HS.out.1, HS.out.2]
  clear HS
  go_loopw [10] (fun v10 wr => ∃ j : Nat, j ≤ n ∧ v10 = .int .u64 (j : Int) ∧ ((∃ nv css kids t' ys, GSt d g o n t bs w rb (rb + 1) wr j nv css kids t' ys) ∨ (∃ k, GErr g k R 5 w rb wr))) (fun v10 _ => n - (intOf v10).toNat)
  case atStart => exact ⟨0, Nat.zero_le _, rfl, .inl ⟨_, _, _, _, _, P0.out⟩⟩
  case round =>
    obtain ⟨j, hj, rfl, hst⟩ := hrel
    clear P0
    rcases hst with ⟨nv, css, kids, t', ys, P⟩ | ⟨k, P⟩
    · have cc := P.rd.code
      rcases Nat.lt_or_eq_of_le hj with hj | rfl
      · have hjI : (j : Int) < (n : Int) := by omega
        have hjd : decide ((j : Int) < (n : Int)) = true := by simpa using hjI
        have hTr : Tabs wr := HW.out.2.1.cbut hG P.but HW.out.1
        have HH := HI g ys t' (o + 1) wr P.rd hG hTr (by omega) P.top P.less
        rw [show ((o + 1 : Nat) : Int) = (o : Int) + 1 by omega] at HH
        have heq := P.eq
        rw [show n - j = (n - (j + 1)) + 1 by omega, pcsC_one, hR] at heq
        cases hI : itemC d (o + 1) t' ys with
        | error k =>
          obtain ⟨hk0, hk1⟩ := item_err d _ _ _ _ hI
          rw [hI] at HH heq
          simp only [] at heq
          have HP : Hid (R = .error k ∧ GSt d g o n t bs w rb (rb + 1) wr j nv css kids t' ys) := ⟨heq, P⟩
          clear heq P hI hTr
          go_wp2_with fail
          refine HH.mono ?_
          intro e w4 hp
          obtain ⟨hb4, _, _, zs, t4, v0, v1, p1, n1, d1, p2, n2, d2, rfl, hr4⟩ := hp.errx
          clear hp HH
          have S4 := HP.out.2.out.same (hb4.block _ HP.out.2.out.lt (by have := HW.out; omega))
          have S5 := HP.out.2.ret.same (hb4.block _ HP.out.2.ret.lt (by have := HW.out; omega))
          obtain ⟨_, _, _, f3, _, _, _, g3⟩ := S4.allfacts
          have A := kids_pushG (w := w) HP.out.2.kl hb4 (by have := HW.out; omega) (by have := HW.out; omega) (Nat.sub_le _ _) HP.out.2.size
          obtain ⟨i0, hi0, hz0, hz1, hz2⟩ := info_parts infoItem
          have hcl : css.length ≤ 512 := by have h1 := HP.out.2.kl.len; have h2 := HP.out.2.cnt; have h3 := HP.out.2.top; omega
          have HX : Hid (css.length + 1 ≤ maxLen ∧ (css.length + 1) * 64 ≤ 140737488355328) := ⟨by unfold maxLen; omega, by omega⟩
          obtain ⟨N, hN⟩ : ∃ N, css.length = N := ⟨_, rfl⟩
          rw [hN] at A HX
          clear hcl
          go_wp2_with (at_builtin; go_loud (refine wpList_append_lies _ rfl (.tmp 32) (.tmp 34) 33 rfl (rb + 1) 35 i0 (.agg #[.int .u8 0, .int .u64 0, .slice none 0 0, .slice none 0 0]) 4 64 Tryd.underlying33 hi0 hz0 hz1 hz2 rfl (by decide) nv N css.flatten rfl (A _ _).1 ⟨w4.heap.size + 1, 0, none⟩ 1 1 [.int .u8 v0, .int .u64 v1, .slice p1 n1 d1, .slice p2 n2 d2] rfl rfl (World.news_of_block (heap_alloc2_new w4 _ _)) (by simp [Value.oneCell']) (by decide) HX.out.1 HX.out.2 (A _ _).2.1 _ rfl ?_); intro gk ck w6 own6 gr6 at6 lt6; obtain ⟨kl6, but6, low6, sz6⟩ := (A _ _).2.2 gk ck _ _ _ _ w6 own6 gr6 at6; have S6 := S4.same (low6 rb (Nat.lt_succ_self _)); obtain ⟨_, _, _, f6, _, _, _, g6⟩ := S6.facts)
          have b7 := But.setCell rb w6 3 (.slice (some ⟨gk, 0, none⟩) (N + 1) ck)
          have hW := HW.out
          refine ⟨⟨j + 1, by omega, by go_num, .inr ⟨k, ⟨HP.out.1, ⟨hk0, hk1⟩, ⟨zs, t4, (hr4.low low6 (by omega)).slot b7 (by omega)⟩, (but6 HP.out.2.but).fresh b7 (by omega), ⟨_, _, _, S6.set3 _⟩, (S5.same (low6 _ (by omega))).same (b7.block _ (by omega) (by omega))⟩⟩⟩, by simp only [intOf]; omega⟩
        | ok r =>
          obtain ⟨i, t1, us⟩ := r
          obtain ⟨ct1, ct2, ct3⟩ := item_cnt d _ _ _ _ _ _ P.top hI
          rw [hI] at HH heq
          simp only [] at heq
          have HQ : Hid (R = pcsC (itemC d) false (o + 1) (n - (j + 1)) none (kids ++ [i]) t1 us ∧ us.length < ys.length ∧ t' < t1 ∧ t1 ≤ 512) := ⟨heq, ct3, ct1, ct2⟩
          have HP : Hid (True ∧ GSt d g o n t bs w rb (rb + 1) wr j nv css kids t' ys) := ⟨trivial, P⟩
          clear heq P hI hTr ct1 ct2 ct3
          go_wp2_with fail
          refine HH.mono ?_
          intro e w4 hp
          obtain ⟨hb4, p, c, q, c', rfl, hi, hr4⟩ := hp.okx
          clear hp HH
          obtain ⟨K0, hK0⟩ : ∃ K0 : Nat, i.kind = K0 := ⟨_, rfl⟩
          obtain ⟨N0, hN0⟩ : ∃ K0 : Nat, i.n = K0 := ⟨_, rfl⟩
          obtain ⟨L0, hL0⟩ : ∃ K0 : Nat, i.b.length = K0 := ⟨_, rfl⟩
          obtain ⟨M0, hM0⟩ : ∃ K0 : Nat, i.kids.length = K0 := ⟨_, rfl⟩
          rw [hK0, hN0, hL0, hM0] at hi ⊢
          have S4 := HP.out.2.out.same (hb4.block _ HP.out.2.out.lt (by have := HW.out; omega))
          have S5 := HP.out.2.ret.same (hb4.block _ HP.out.2.ret.lt (by have := HW.out; omega))
          obtain ⟨_, _, _, f3, _, _, _, g3⟩ := S4.allfacts
          have A := kids_pushG (w := w) HP.out.2.kl hb4 (by have := HW.out; omega) (by have := HW.out; omega) (Nat.sub_le _ _) HP.out.2.size
          obtain ⟨i0, hi0, hz0, hz1, hz2⟩ := info_parts infoItem
          have hcl : css.length ≤ 512 := by have h1 := HP.out.2.kl.len; have h2 := HP.out.2.cnt; have h3 := HP.out.2.top; omega
          have HX : Hid (css.length + 1 ≤ maxLen ∧ (css.length + 1) * 64 ≤ 140737488355328) := ⟨by unfold maxLen; omega, by omega⟩
          obtain ⟨N, hN⟩ : ∃ N, css.length = N := ⟨_, rfl⟩
          rw [hN] at A HX
          clear hcl
          clear hK0 hN0 hL0 hM0
          go_wp2_with (at_builtin; go_loud (refine wpList_append_lies _ rfl (.tmp 32) (.tmp 34) 33 rfl (rb + 1) 35 i0 (.agg #[.int .u8 0, .int .u64 0, .slice none 0 0, .slice none 0 0]) 4 64 Tryd.underlying33 hi0 hz0 hz1 hz2 rfl (by decide) nv N css.flatten rfl (A _ _).1 ⟨w4.heap.size + 1, 0, none⟩ 1 1 [.int .u8 (K0 : Int), .int .u64 (N0 : Int), .slice p L0 c, .slice q M0 c'] rfl rfl (World.news_of_block (heap_alloc2_new w4 _ _)) (by simp [Value.oneCell']) (by decide) HX.out.1 HX.out.2 (A _ _).2.1 _ rfl ?_); intro gk ck w6 own6 gr6 at6 lt6; obtain ⟨kl6, but6, low6, sz6⟩ := (A _ _).2.2 gk ck _ _ _ _ w6 own6 gr6 at6; have S6 := S4.same (low6 rb (Nat.lt_succ_self _)); obtain ⟨_, _, _, f6, _, _, _, g6⟩ := S6.facts)
          have b7 := But.setCell rb w6 3 (.slice (some ⟨gk, 0, none⟩) (N + 1) ck)
          have hW := HW.out
          have hP := HP.out.2
          have hlen := hP.len
          have hQ := HQ.out
          have hkl := kl6 i (hi.mono (fun k hk _ => hk))
          refine ⟨⟨j + 1, by omega, by go_num, .inl ⟨_, css ++ [_], kids ++ [i], t1, us, ⟨hR.trans hQ.1, hkl.slot b7 (by omega) (by omega), by simp [hlen], (hr4.low low6 (by omega)).slot b7 (by omega), (but6 hP.but).fresh b7 (by omega), S6.set3 _, (S5.same (low6 _ (by omega))).same (b7.block _ (by omega) (by omega)), by have := hP.cnt; simp; omega, hQ.2.2.2, by have := hP.less; omega, Nat.le_trans sz6 b7.size⟩⟩⟩, by simp only [intOf]; omega⟩
      · obtain ⟨q, c', hq, hq1, hq2, hq3⟩ := P.kl.kids (by have := HW.out; omega)
        have heq := P.eq
        rw [Nat.sub_self, pcsC] at heq
        have S0 := P.ret
        rw [HW.out.2.2.1] at S0
        have S1 := P.out
        rw [hq] at S1
        have HP : Hid (R = .ok (kids, t', ys) ∧ GSt d g o j t bs w rb (rb + 1) wr j nv css kids t' ys) := ⟨hR.symm.trans heq, P⟩
        have HQ : Hid (KidsAt (ItOk wr (fun b => b < g - 2 ∨ rb + 1 ≤ b) d) wr (fun b => b < g - 2 ∨ rb + 1 ≤ b) q kids ∧ kids.length ≤ c' ∧ c' ≤ 9223372036854775807) := ⟨hq3, hq1, hq2⟩
        obtain ⟨L0, hL0⟩ : ∃ L0, kids.length = L0 := ⟨_, rfl⟩
        rw [hL0] at S1
        obtain ⟨e0, e1, e2, e3, _⟩ := S1.facts
        obtain ⟨_, _, _, _, a0, a1, a2, a3⟩ := S0.facts
        clear heq P hq hq1 hq2 hq3
        go_wp2_with fail
        have hW := HW.out
        have hP := HP.out
        have hQ := HQ.out
        refine bodyPost_ret (ret_item1 rfl _ _ sb _ _ _ _ rfl (S0.set4 (.int .u8 5) (.int .u64 0) (.slice none 0 0) (.slice q L0 c'))) rfl ?_
        exact gret_ok R hP.1 (.inl rfl) hW.2.2.1 hW.2.2.2 hW.1 hP.2.but hP.2.rd hQ.1 hQ.2.1 hQ.2.2 _ rfl _ hL0
    · obtain ⟨q, nq, cq, S1⟩ := P.out
      have S0 := P.ret
      rw [HW.out.2.2.1] at S0
      obtain ⟨zs, t4, hr4⟩ := P.rd
      have cc := hr4.code
      have k0 : ((k : Int) == 0) = false := by have := P.pos; simp; omega
      have HP : Hid (GErr g k R 5 w rb wr) := P
      obtain ⟨e0, e1, e2, e3, _⟩ := S1.facts
      obtain ⟨_, _, _, _, a0, a1, a2, a3⟩ := S0.facts
      clear P
      rcases Nat.lt_or_eq_of_le hj with hj | rfl
      · have hjI : (j : Int) < (n : Int) := by omega
        have hjd : decide ((j : Int) < (n : Int)) = true := by simpa using hjI
        go_wp2_with fail
        refine bodyPost_ret (ret_item1 rfl _ _ sb _ _ _ _ rfl (S0.set4 (.int .u8 5) (.int .u64 0) (.slice none 0 0) (.slice q nq cq))) rfl ?_
        exact gret_err R HP.out.eq HP.out.pos HW.out.2.2.1 HW.out.1 HP.out.but hr4 _
      · go_wp2_with fail
        refine bodyPost_ret (ret_item1 rfl _ _ sb _ _ _ _ rfl (S0.set4 (.int .u8 5) (.int .u64 0) (.slice none 0 0) (.slice q nq cq))) rfl ?_
        exact gret_err R HP.out.eq HP.out.pos HW.out.2.2.1 HW.out.1 HP.out.but hr4 _
end Go.Proofs.YtfmldcibhllpcaaDoor
