import Derived.Test.YtiblpcfkecalcabDoorK09
import Derived.Test.YtiblpcfkecalcabDoorK08
/-
  The code's List.
-/
namespace Go.Proofs.YtiblpcfkecalcabDoor
open Go.Shelf Go.RowKit
set_option linter.unusedVariables false
set_option linter.unusedSimpArgs false
attribute [local go_sem] Oper.semAt_some

theorem seqD_mem {bs : Bs} {x : UInt8 × Bs} {k : Nat} (h : (x, k) ∈ seqD bs) (hk : k ≠ 0) : (pcsD bs).2 = k := by
  unfold seqD at h
  rcases List.mem_append.1 h with h | h
  · simp at h
    omega
  · by_cases h0 : (pcsD bs).2 = 0
    · rw [if_pos h0] at h; simp at h
    · rw [if_neg h0] at h
      simp at h
      exact h.2.symm
theorem seqD_whole {bs : Bs} {xs : List Ye} (h : yOf xs = seqD bs) (h0 : ∀ y ∈ xs, y.k = 0) : (pcsD bs).2 = 0 ∧ pcsOf (xs.map Ye.pc) = (pcsD bs).1 := by
  have hz : (pcsD bs).2 = 0 := by
    rcases Nat.eq_zero_or_pos (pcsD bs).2 with h1 | h1
    · exact h1
    · have hm : (((0 : UInt8), ([] : Bs)), (pcsD bs).2) ∈ yOf xs := by
        rw [h]
        unfold seqD
        rw [if_neg (by omega)]
        simp
      unfold yOf at hm
      obtain ⟨y, hy, e⟩ := List.mem_map.1 hm
      have := h0 y hy
      injection e with e1 e2
      omega
  refine ⟨hz, ?_⟩
  unfold seqD at h
  rw [if_pos hz, List.append_nil] at h
  have h2 := congrArg (List.map Prod.fst) h
  simp only [yOf, List.map_map] at h2
  have e1 : ((fun x : (UInt8 × Bs) × Nat => x.1) ∘ fun x : UInt8 × Bs => (x, 0)) = id := rfl
  rw [show (Prod.fst ∘ fun x : UInt8 × Bs => (x, (0 : Nat))) = id from rfl, List.map_id] at h2
  rw [← h2]
  simp [pcsOf]
/-- Between two rounds. -/
def LI (w w6 : World) (pre : List Ye) (W : World) : Prop := ∃ v, LIv w w6 pre v W
/-- A round has left. -/
def LIx (w w6 : World) (c : Code) (pre : List Ye) (W : World) : Prop := c = .ret ∧ Kx W w.heap.size (.slice none 0 0) ∧ (∃ q y, pre = q ++ [y] ∧ y.k ≠ 0 ∧ Kx W (w.heap.size + 1) (.int .i64 (y.k : Int))) ∧ Below w.heap.size w W
set_option maxRecDepth 100000 in
set_option maxHeartbeats 4000000 in
/-- List. -/
theorem derList (p : Option Addr) (n c : Nat) (bs : Bs) (P : Nat → Prop) (w : World) (hn : bs.length = n) (h : ByV w P p c bs) :
    Calls Tryd.prog 13 #[.slice p n c] w (LsPost w (fun w b => w.heap.size ≤ b) (pcsD bs)) := by
  refine (callsIn_wide (n := 4)).1 ?_
  refine callsIn_of_wp_marks Tryd.func13 rfl trivial ?_ rfl
  obtain ⟨w3, hw3⟩ : ∃ w3, ((w.alloc (.cells #[.slice none 0 0] 26)).alloc (.cells #[.int .i64 0] 28)).alloc (.cells #[.slice none 0 0] 26) = w3 := ⟨_, rfl⟩
  have s3 : w3.heap.size = w.heap.size + 1 + 1 + 1 := by rw [← hw3]; simp
  have b3 : Below w.heap.size w w3 := by rw [← hw3]; exact (((Below.refl _ w).alloc (Nat.le_refl _) _).alloc (by simp) _).alloc (by simp; omega) _
  have k0 : Kx w3 w.heap.size (.slice none 0 0) := by
    rw [← hw3]
    exact kx_below (kx_below (kx_new w _ _) ((Below.refl _ _).alloc (Nat.le_refl _) _)) ((Below.refl _ _).alloc (Nat.le_refl _) _)
  have k1 : Kx w3 (w.heap.size + 1) (.int .i64 0) := by
    rw [← hw3]
    have := kx_new (w.alloc (.cells #[.slice none 0 0] 26)) (.int .i64 0) 28
    rw [alloc_sz] at this
    exact kx_below this ((Below.refl _ _).alloc (Nat.le_refl _) _)
  have k2 : Kx w3 (w.heap.size + 1 + 1) (.slice none 0 0) := by
    rw [← hw3]
    have := kx_new ((w.alloc (.cells #[.slice none 0 0] 26)).alloc (.cells #[.int .i64 0] 28)) (.slice none 0 0) 26
    rw [alloc_sz, alloc_sz] at this
    exact this
  have HA := all_any p n c bs (fun b => b < w.heap.size) w3 hn ((h.mono (fun b _ hlt => hlt)).keep (fun k hk _ => b3.block k hk))
  have H3 : Hid (Kx w3 w.heap.size (.slice none 0 0) ∧ Kx w3 (w.heap.size + 1) (.int .i64 0) ∧ Kx w3 (w.heap.size + 1 + 1) (.slice none 0 0) ∧ Below w.heap.size w w3) := ⟨k0, k1, k2, b3⟩
  clear h k0 k1 k2 b3
  simp only [Tryd.ntmps13, List.size_toArray, List.length_cons, List.length_nil, Nat.reduceAdd, Nat.reduceSub, Array.replicate_succ, Array.replicate_zero, List.push_toArray, List.append_toArray, List.nil_append, List.cons_append]
  gi_wp2_with (refine ⟨trivial, ?_⟩; gi_at_call 27; refine (callsIn_wide.2 HA).mono ?_; rintro e w6 ⟨hb6, g, p', L, c', bs', rfl, hg, hgs, hL, hL2, hv6, hsq⟩)
  have hz6 : w.heap.size + 1 + 1 + 1 ≤ w6.heap.size := by have := hb6.size; omega
  have hI6 : LI w w6 [] w6 := ⟨.slice none 0 0, kx_below H3.out.1 hb6, kx_below H3.out.2.1 hb6, kx_below H3.out.2.2.1 hb6, World.ownsRow_nil _ _ _ _, (fun y hy => by cases hy), H3.out.2.2.2.trans (hb6.mono (by omega)), Nat.le_refl _, fun _ _ _ => rfl⟩
  have H6 : Hid (LI w w6 [] w6 ∧ w.heap.size + 1 + 1 + 1 ≤ w6.heap.size ∧ seqD bs' = seqD bs) := ⟨hI6, hz6, hsq⟩
  have hg6 := World.block_lt_of_cell? w6 _ hg
  refine range_new (n := 4) (by omega) (fun pre _ => pre.length < L) (gf := 40) (lb := #[.pointer (some ⟨g, 0, none⟩)]) rfl (enters_of Tryd.func40 (by kernel_rfl) rfl)
    encY (fun _ => rfl) Yn (fun xs => yOf xs = seqD bs') (fun pre => yOf pre <+: seqD bs') (LI w w6) (LIx w w6) ?it
    (fun pre W W' hi hb => by obtain ⟨v, hv⟩ := hi; exact ⟨v, hv.below hb⟩)
    (fun pre W r o o' hi hr ho hc => by obtain ⟨v, hv⟩ := hi; exact ⟨v, hv.put o' (by omega) hr ho hc⟩)
    (fun c pre W r o o' hi hr ho hc => ⟨hi.1, kx_put hi.2.1 o' ho hc, by obtain ⟨q, y, h1, h2, h3⟩ := hi.2.2.1; exact ⟨q, y, h1, h2, kx_put h3 o' ho hc⟩, hi.2.2.2.trans ⟨rfl, rfl, rfl, (grownBy_putObj' W r o').size, fun k hk => (grownBy_putObj' W r o').block k (by have := hi.2.2.2.size; omega) (fun e => by injection e with e; omega)⟩⟩)
    hI6 ?round ?done ?stop
  case it =>
    intro l r J Jx hJI hJb hY h0
    have hb2 : Below w6.heap.size w6 ((w6.alloc (.deferred (some []))).alloc (.loop r)) := ((Below.refl _ w6).alloc (Nat.le_refl _) _).alloc (by simp) _
    refine all_iter (4 - 1) (by omega) g p' L c' bs' (fun b => w.heap.size + 1 + 1 + 1 ≤ b ∧ b < w6.heap.size) l J Jx _ ((hb2.cell (p := ⟨g, 0, none⟩) hg6).trans hg) hL ?_ (by omega) ?_ ?_ hJb (fun pre x W0 W1 h1 h2 => hY pre x W0 W1 h1 h2.1) h0
    · exact (hv6.mono (Q := fun b => w.heap.size + 1 + 1 + 1 ≤ b ∧ b < w6.heap.size) (fun b hb hlt => ⟨by omega, hlt⟩)).keep (fun k _ hk => hb2.block k hk)
    · intro pre W' hJ k hk
      obtain ⟨v, hv⟩ := hJI pre W' hJ
      exact (hv.mid k hk.1 hk.2).trans (hb2.block k hk.2).symm
    · intro k hk
      have := hb2.size
      omega
  case round =>
    rintro l r pre ⟨⟨t, b, q, d⟩, k⟩ W0 W hlen hl hl0 hlW ⟨v, hv0⟩ hb _ hY
    have hY0 : ByV W (fun x => W0.heap.size ≤ x) q d b := hY
    obtain ⟨TN, hTN⟩ : ∃ T, t.toNat = T := ⟨_, rfl⟩
    obtain ⟨LB, hLB⟩ : ∃ T, b.length = T := ⟨_, rfl⟩
    obtain ⟨W1, hW1⟩ : ∃ W1, W.alloc (.cells #[.int .u8 (TN : Int), .slice q LB d] 24) = W1 := ⟨_, rfl⟩
    have bW1 : Below W.heap.size W W1 := by rw [← hW1]; exact (Below.refl _ _).alloc (Nat.le_refl _) _
    have HW1 : Hid (W.alloc (.cells #[.int .u8 (TN : Int), .slice q LB d] 24) = W1) := hW1
    have t1 : Tl W1 W.heap.size (.int .u8 (TN : Int)) (.slice q LB d) := by rw [← hW1]; exact Tl.new W _ _
    have l1 : W1.heap[l]? = some (.loop r) := (bW1.block l (Array.getElem?_eq_some_iff.1 hlW).1).trans hlW
    have HR : Hid (t.toNat = TN ∧ b.length = LB) := ⟨hTN, hLB⟩
    have HL : Hid (∀ o' : Obj, LIv w w6 pre v (W1.putObj l o') ∧ Tl (W1.putObj l o') W.heap.size (.int .u8 (TN : Int)) (.slice q LB d) ∧ ByV (W1.putObj l o') (fun x => w6.heap.size ≤ x ∧ v.ownBlock ≠ some x) q d b) := fun o' => by
      refine ⟨((hv0.below hb).below bW1).put o' (by omega) hl l1 rfl, t1.same ?_, ?_⟩
      · have h1 := t1.lt
        have h2 := (Array.getElem?_eq_some_iff.1 hlW).1
        exact (grownBy_putObj' W1 l o').block _ h1 (fun e => by injection e with e; omega)
      · refine ((hY0.keep (fun g _ hlt => bW1.block g hlt)).put o' l1 rfl).mono (fun g hg _ => ⟨Nat.le_trans hv0.sz hg, fun e => ?_⟩)
        have := (owns_lt hv0.own e).2.1
        omega
    clear hY hY0 hv0 hb hI6 hg hv6 hb6 hsq HA t1 hW1 hw3
    rw [show encY ⟨⟨t, b, q, d⟩, k⟩ = #[.agg #[.int .u8 (TN : Int), .slice q LB d], .int .i64 (k : Int)] by rw [← hTN, ← hLB]]
    clear hTN hLB
    gi_wp2
    refine ⟨(Below.refl _ _).alloc (Nat.le_refl _) _, fun o' => ?_⟩
    rw [HW1.out]
    obtain ⟨hv2, t2, y2⟩ := HL.out o'
    generalize W1.putObj l o' = W2 at hv2 t2 y2 ⊢
    have x0 := hv2.r0.1
    have f0 := hv2.r0.2
    have x1 := hv2.r1.1
    have f1 := hv2.r1.2
    have x2 := hv2.r2.1
    have f2 := hv2.r2.2
    have tc0 := t2.c0
    have tc1 := t2.c1
    have HV : Hid (LIv w w6 pre v W2 ∧ ByV W2 (fun x => w6.heap.size ≤ x ∧ v.ownBlock ≠ some x) q d b) := ⟨hv2, y2⟩
    have hW2s := hv2.sz
    clear hv2 y2 t2 HL l1 bW1 HW1 hlW
    by_cases hk : k = 0
    · subst hk
      have hka : ((0 : Int) != 0) = false := rfl
      gi_wp2_with (gi_at_builtin; refine wpListIn_append_pc rfl (.tmp 14) (.tmp 16) rfl w6.heap.size v rfl (pre.map Ye.pc) pre.length (HV.out.1.own.alloc _) ⟨W2.heap.size, 0, none⟩ 1 ⟨t, b, q, d⟩ rfl (by show _ = some (Value.int .u8 (t.toNat : Int)); rw [HR.out.1, Addr.add_mid]; exact (Tl.new W2 (.int .u8 (TN : Int)) (.slice q LB d)).c0) (by show _ = some (Value.slice q b.length d); rw [HR.out.2, Addr.add_mid]; exact (Tl.new W2 (.int .u8 (TN : Int)) (.slice q LB d)).c1) (by omega) (Nat.le_trans hW2s (alloc_le _ _)) ?_; intro v3 W3 o3 gr3 at3; have hv4 := HV.out.1.app (y := ⟨⟨t, b, q, d⟩, 0⟩) _ gr3 o3 rfl HV.out.2 at3 hz6; have hkf : Hid (KeepsFrom w6.heap.size W2 W3) := ((KeepsOthers.alloc _ _).trans (KeepsOthers.of_grownBy gr3 (fun j o e ho => by obtain ⟨_, _, cur, hc⟩ := owns_lt (HV.out.1.own.alloc _) e; rw [hc] at ho; cases ho; rfl))).from _; have y2 : Kx W3 (w.heap.size + 1 + 1) v := kx_block HV.out.1.r2 ((gr3.block _ (by have := kx_lt HV.out.1.r2; rw [alloc_sz]; omega) (fun e => by have := (owns_lt HV.out.1.own e.symm).1; omega)).trans (Below.heap_alloc _ _ _ (kx_lt HV.out.1.r2))); have z2 := y2.1; have zf2 := y2.2; obtain ⟨p3, c3, rfl⟩ := owns_slice o3; have H4 : Hid (LIv w w6 (pre ++ [⟨⟨t, b, q, d⟩, 0⟩]) (.slice p3 (pre.length + 1) c3) (W3.setCell ⟨w.heap.size + 1 + 1, 0, none⟩ (.slice p3 (pre.length + 1) c3))) := hv4; clear hv4 y2 o3 gr3 at3)
      exact ⟨hkf.out.trans ((KeepsOthers.setCell _ _ _).from _), trivial, _, H4.out⟩
    · have hka : ((k : Int) != 0) = true := by simp; omega
      gi_wp2
      refine ⟨((KeepsOthers.setCell _ _ _).trans (KeepsOthers.setCell _ _ _)).from _, rfl, kx_other (kx_set HV.out.1.r0 _) (by omega) _, ⟨pre, _, rfl, hk, kx_set (kx_other HV.out.1.r1 (by omega) _) _⟩, (HV.out.1.low.setCell (p := ⟨w.heap.size, 0, none⟩) (Nat.le_refl _) _).setCell (p := ⟨w.heap.size + 1, 0, none⟩) (by show w.heap.size ≤ w.heap.size + 1; omega) _⟩
  case done =>
    rintro D xs W hD hxs ⟨v, hv⟩ hK
    have hlv := seqD_whole (bs := bs) (by rw [hxs, hsq]) (fun y hy => (hv.at_ y hy).1)
    obtain ⟨pv, cv, rfl⟩ := owns_slice hv.own
    have x0 := hv.r0.1
    have f0 := hv.r0.2
    have x1 := hv.r1.1
    have f1 := hv.r1.2
    have x2 := hv.r2.1
    obtain ⟨W', hW'⟩ : ∃ W', (W.setCell ⟨w.heap.size, 0, none⟩ (.slice pv xs.length cv)).setCell ⟨w.heap.size + 1, 0, none⟩ (.int .i64 0) = W' := ⟨_, rfl⟩
    have hK' : W'.heap[D]? = some (.deferred (some [])) := by rw [← hW']; exact ((KeepsOthers.setCell W ⟨w.heap.size, 0, none⟩ (.slice pv xs.length cv)).trans (KeepsOthers.setCell _ ⟨w.heap.size + 1, 0, none⟩ (.int .i64 0))).same D _ hK rfl
    have r0 : Kx W' w.heap.size (.slice pv xs.length cv) := by rw [← hW']; exact kx_other (kx_set hv.r0 _) (by omega) _
    have r1 : Kx W' (w.heap.size + 1) (.int .i64 0) := by rw [← hW']; exact kx_set (kx_other hv.r1 (by omega) _) _
    have hblk : ∀ k, w6.heap.size ≤ k → W'.heap[k]? = W.heap[k]? := fun k hk => by rw [← hW']; exact (Below.heap_setCell _ _ _ _ (by show k ≠ w.heap.size + 1; omega)).trans (Below.heap_setCell _ _ _ _ (by show k ≠ w.heap.size; omega))
    have lowW : Below w.heap.size w W' := by rw [← hW']; exact (hv.low.setCell (p := ⟨w.heap.size, 0, none⟩) (Nat.le_refl _) _).setCell (p := ⟨w.heap.size + 1, 0, none⟩) (by show w.heap.size ≤ w.heap.size + 1; omega) _
    have H9 : Hid (W'.heap[D]? = some (.deferred (some [])) ∧ w6.heap.size ≤ D ∧ Kx W' w.heap.size (.slice pv xs.length cv) ∧ Kx W' (w.heap.size + 1) (.int .i64 0) ∧ Below w.heap.size w W' ∧ W'.ownsRow w6.heap.size 24 2 (.slice pv xs.length cv) xs.length (cellsP (xs.map Ye.pc)) ∧ (∀ y ∈ xs, ByV W' (fun b => w6.heap.size ≤ b) y.pc.p y.pc.c y.pc.b) ∧ (pcsD bs).2 = 0 ∧ pcsOf (xs.map Ye.pc) = (pcsD bs).1) :=
      ⟨hK', hD, r0, r1, lowW, owns_keep hv.own (fun g hg => hblk g (owns_lt hv.own hg).1), fun y hy => ((hv.at_ y hy).2.mono (Q := fun b => w6.heap.size ≤ b) (fun g hg _ => hg.1)).keep (fun g hg _ => hblk g hg), hlv.1, hlv.2⟩
    have HW' : Hid ((W.setCell ⟨w.heap.size, 0, none⟩ (.slice pv xs.length cv)).setCell ⟨w.heap.size + 1, 0, none⟩ (.int .i64 0) = W') := hW'
    clear hK' hK hD hxs hv r0 r1 hblk lowW hlv hI6 hg hv6 hb6 hsq HA hW' hw3
    gi_wp2
    rw [HW'.out]
    refine ⟨by simp, .inl ⟨_, _, rfl, run_takeDeferred H9.out.1, ?_⟩⟩
    obtain ⟨q1, q2, q3, q4, q5, q6, q7, q8, q9⟩ := H9.out
    have c5 := (kx_put q3 (.deferred none) q1 rfl).1
    have c6 := (kx_put q4 (.deferred none) q1 rfl).1
    refine ⟨.tuple #[.slice pv xs.length cv, .int .i64 0], ?_, q5.trans (belowK_b (w := w) (Nat.le_refl _) _ D _ _ (by omega) q1 rfl rfl), .inr ⟨q8, xs.map Ye.pc, _, q9, rfl, ?_, ?_⟩⟩
    · simp [results, Tryd.f13, go_sem, c5, c6]
    · rw [List.length_map]
      have := owns_put q6 (.deferred none) q1 rfl
      exact ⟨this.1, by
        rcases this.2 with h1 | ⟨g1, cap, cur, e1, h1, h2⟩
        · exact .inl h1
        · exact .inr ⟨g1, cap, cur, e1, by omega, h2⟩⟩
    · intro x hx
      obtain ⟨y, hy, rfl⟩ := List.mem_map.1 hx
      exact ((q7 y hy).put (.deferred none) q1 rfl).mono (fun g hg _ => by show w.heap.size ≤ g; omega)
  case stop =>
    rintro D cc pre W hD hpre ⟨rfl, h2, ⟨q, y, rfl, hy, h3⟩, hbW⟩ hK
    have hm : ((y.pc.t, y.pc.b), y.k) ∈ seqD bs := by
      rw [← hsq]
      refine List.IsPrefix.mem ?_ hpre
      simp [yOf]
    have hk := seqD_mem hm hy
    have HQ : Hid (W.heap[D]? = some (.deferred (some [])) ∧ w6.heap.size ≤ D ∧ Kx W w.heap.size (.slice none 0 0) ∧ Kx W (w.heap.size + 1) (.int .i64 (y.k : Int)) ∧ Below w.heap.size w W ∧ (pcsD bs).2 = y.k ∧ y.k ≠ 0) := ⟨hK, hD, h2, h3, hbW, hk, hy⟩
    clear hK hD h2 h3 hbW hk hI6 hg hv6 hb6 hsq HA hw3 hm hpre
    gi_wp2
    obtain ⟨q1, q2, q3, q4, q5, q6, q7⟩ := HQ.out
    refine ⟨by simp, .inl ⟨_, _, rfl, run_takeDeferred q1, ?_⟩⟩
    have c5 := (kx_put q3 (.deferred none) q1 rfl).1
    have c6 := (kx_put q4 (.deferred none) q1 rfl).1
    refine ⟨.tuple #[.slice none 0 0, .int .i64 (y.k : Int)], ?_, q5.trans (belowK_b (w := w) (Nat.le_refl _) _ D _ _ (by omega) q1 rfl rfl), .inl ⟨by omega, by rw [q6]⟩⟩
    simp [results, Tryd.f13, go_sem, c5, c6]
end Go.Proofs.YtiblpcfkecalcabDoor
