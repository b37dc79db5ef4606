import Derived.Test.YticopomchoahnaaK08
import Derived.Test.YticopomchoahnaaK04
import Derived.Test.YticopomchoahnaaK05
import Derived.Test.YticopomchoahnaaK02
import Derived.Lib.LaidIn
import Derived.LaidMore
import Derived.Test.YticopomchoahnaaK06
import Derived.Lib.LaidU8
import Derived.Test.YticopomchoahnaaK07
import Derived.Test.YticopomchoahnaaK00
import Derived.BigRegion
import Derived.Laws.ResultCell
/-
  The code's List.
-/
namespace Go.Proofs.Yticopomchoahnaa
open Go.Shelf Go.RowKit
set_option linter.unusedVariables false
set_option linter.unusedSimpArgs false
attribute [local go_sem] Oper.semAt_some

theorem seqD_mem {bs : Bs} {x : UInt8 × Bs} {k : Nat} (h : (x, k) ∈ seqD bs) (hk : k ≠ 0) : (pcsD bs).2 = k := by
  unfold seqD at h
  rcases List.mem_append.1 h with h | h
  · simp at h
    omega
  · by_cases h0 : (pcsD bs).2 = 0
    · rw [if_pos h0] at h; simp at h
    · rw [if_neg h0] at h
      simp at h
      exact h.2.symm
theorem seqD_whole {bs : Bs} {xs : List Ye} (h : yOf xs = seqD bs) (h0 : ∀ y ∈ xs, y.k = 0) : (pcsD bs).2 = 0 ∧ pcsOf (xs.map Ye.pc) = (pcsD bs).1 := by
  have hz : (pcsD bs).2 = 0 := by
    rcases Nat.eq_zero_or_pos (pcsD bs).2 with h1 | h1
    · exact h1
    · have hm : (((0 : UInt8), ([] : Bs)), (pcsD bs).2) ∈ yOf xs := by
        rw [h]
        unfold seqD
        rw [if_neg (by omega)]
        simp
      unfold yOf at hm
      obtain ⟨y, hy, e⟩ := List.mem_map.1 hm
      have := h0 y hy
      injection e with e1 e2
      omega
  refine ⟨hz, ?_⟩
  unfold seqD at h
  rw [if_pos hz, List.append_nil] at h
  have h2 := congrArg (List.map Prod.fst) h
  simp only [yOf, List.map_map] at h2
  have e1 : ((fun x : (UInt8 × Bs) × Nat => x.1) ∘ fun x : UInt8 × Bs => (x, 0)) = id := rfl
  rw [show (Prod.fst ∘ fun x : UInt8 × Bs => (x, (0 : Nat))) = id from rfl, List.map_id] at h2
  rw [← h2]
  simp [pcsOf]
/-- Between two rounds. -/
def LI (w w6 : World) (pre : List Ye) (W : World) : Prop := ∃ v, LIv w w6 pre v W
/-- A round has left. -/
def LIx (w w6 : World) (c : Code) (pre : List Ye) (W : World) : Prop := c = .ret ∧ Kx W w.heap.size (.slice none 0 0) ∧ (∃ q y, pre = q ++ [y] ∧ y.k ≠ 0 ∧ Kx W (w.heap.size + 1) (.int .i64 (y.k : Int))) ∧ Below w.heap.size w W
set_option maxRecDepth 100000 in
set_option maxHeartbeats 4000000 in
/-- List. -/
theorem derList (p : Option Addr) (n c : Nat) (bs : Bs) (P : Nat → Prop) (w : World) (hn : bs.length = n) (h : ByV w P p c bs) :
    Calls Try.prog 71 #[.slice p n c] w (LsPost w (fun w b => w.heap.size ≤ b) (pcsD bs)) := by
  refine (callsIn_wide (n := 4)).1 ?_
  refine callsIn_of_wp_marks Try.func71 rfl trivial ?_ rfl
  obtain ⟨w3, hw3⟩ : ∃ w3, ((w.alloc (.cells #[.slice none 0 0] 97)).alloc (.cells #[.int .i64 0] 43)).alloc (.cells #[.slice none 0 0] 97) = w3 := ⟨_, rfl⟩
  have s3 : w3.heap.size = w.heap.size + 1 + 1 + 1 := by rw [← hw3]; simp
  have b3 : Below w.heap.size w w3 := by rw [← hw3]; exact (((Below.refl _ w).alloc (Nat.le_refl _) _).alloc (by simp) _).alloc (by simp; omega) _
  have k0 : Kx w3 w.heap.size (.slice none 0 0) := by
    rw [← hw3]
    exact kx_below (kx_below (kx_new w _ _) ((Below.refl _ _).alloc (Nat.le_refl _) _)) ((Below.refl _ _).alloc (Nat.le_refl _) _)
  have k1 : Kx w3 (w.heap.size + 1) (.int .i64 0) := by
    rw [← hw3]
    have := kx_new (w.alloc (.cells #[.slice none 0 0] 97)) (.int .i64 0) 43
    rw [alloc_sz] at this
    exact kx_below this ((Below.refl _ _).alloc (Nat.le_refl _) _)
  have k2 : Kx w3 (w.heap.size + 1 + 1) (.slice none 0 0) := by
    rw [← hw3]
    have := kx_new ((w.alloc (.cells #[.slice none 0 0] 97)).alloc (.cells #[.int .i64 0] 43)) (.slice none 0 0) 97
    rw [alloc_sz, alloc_sz] at this
    exact this
  have HA := all_any p n c bs (fun b => b < w.heap.size) w3 hn ((h.mono (fun b _ hlt => hlt)).keep (fun k hk _ => b3.block k hk))
  have H3 : Hid (Kx w3 w.heap.size (.slice none 0 0) ∧ Kx w3 (w.heap.size + 1) (.int .i64 0) ∧ Kx w3 (w.heap.size + 1 + 1) (.slice none 0 0) ∧ Below w.heap.size w w3) := ⟨k0, k1, k2, b3⟩
  clear h k0 k1 k2 b3
  simp only [Try.ntmps71, List.size_toArray, List.length_cons, List.length_nil, Nat.reduceAdd, Nat.reduceSub, Array.replicate_succ, Array.replicate_zero, List.push_toArray, List.append_toArray, List.nil_append, List.cons_append]
  gi_wp2_with (refine ⟨trivial, ?_⟩; gi_at_call 85; refine (callsIn_wide.2 HA).mono ?_; rintro e w6 ⟨hb6, g, p', L, c', bs', rfl, hg, hgs, hL, hL2, hv6, hsq⟩)
  have hz6 : w.heap.size + 1 + 1 + 1 ≤ w6.heap.size := by have := hb6.size; omega
  have hI6 : LI w w6 [] w6 := ⟨.slice none 0 0, kx_below H3.out.1 hb6, kx_below H3.out.2.1 hb6, kx_below H3.out.2.2.1 hb6, World.ownsRow_nil _ _ _ _, (fun y hy => by cases hy), H3.out.2.2.2.trans (hb6.mono (by omega)), Nat.le_refl _, fun _ _ _ => rfl⟩
  have H6 : Hid (LI w w6 [] w6 ∧ w.heap.size + 1 + 1 + 1 ≤ w6.heap.size ∧ seqD bs' = seqD bs) := ⟨hI6, hz6, hsq⟩
  have hg6 := World.block_lt_of_cell? w6 _ hg
  refine range_new (n := 4) (by omega) (fun pre _ => pre.length < L) (gf := 106) (lb := #[.pointer (some ⟨g, 0, none⟩)]) rfl (enters_of Try.func106 (by kernel_rfl) rfl)
    encY (fun _ => rfl) Yn (fun xs => yOf xs = seqD bs') (fun pre => yOf pre <+: seqD bs') (LI w w6) (LIx w w6) ?it
    (fun pre W W' hi hb => by obtain ⟨v, hv⟩ := hi; exact ⟨v, hv.below hb⟩)
    (fun pre W r o o' hi hr ho hc => by obtain ⟨v, hv⟩ := hi; exact ⟨v, hv.put o' (by omega) hr ho hc⟩)
    (fun c pre W r o o' hi hr ho hc => ⟨hi.1, kx_put hi.2.1 o' ho hc, by obtain ⟨q, y, h1, h2, h3⟩ := hi.2.2.1; exact ⟨q, y, h1, h2, kx_put h3 o' ho hc⟩, hi.2.2.2.trans ⟨rfl, rfl, rfl, (grownBy_putObj' W r o').size, fun k hk => (grownBy_putObj' W r o').block k (by have := hi.2.2.2.size; omega) (fun e => by injection e with e; omega)⟩⟩)
    hI6 ?round ?done ?stop
  case it =>
    intro l r J Jx hJI hJb hY h0
    have hb2 : Below w6.heap.size w6 ((w6.alloc (.deferred (some []))).alloc (.loop r)) := ((Below.refl _ w6).alloc (Nat.le_refl _) _).alloc (by simp) _
    refine all_iter (4 - 1) (by omega) g p' L c' bs' (fun b => w.heap.size + 1 + 1 + 1 ≤ b ∧ b < w6.heap.size) l J Jx _ ((hb2.cell (p := ⟨g, 0, none⟩) hg6).trans hg) hL ?_ (by omega) ?_ ?_ hJb (fun pre x W0 W1 h1 h2 => hY pre x W0 W1 h1 h2.1) h0
    · exact (hv6.mono (Q := fun b => w.heap.size + 1 + 1 + 1 ≤ b ∧ b < w6.heap.size) (fun b hb hlt => ⟨by omega, hlt⟩)).keep (fun k _ hk => hb2.block k hk)
    · intro pre W' hJ k hk
      obtain ⟨v, hv⟩ := hJI pre W' hJ
      exact (hv.mid k hk.1 hk.2).trans (hb2.block k hk.2).symm
    · intro k hk
      have := hb2.size
      omega
  case round =>
    rintro l r pre ⟨⟨t, b, q, d⟩, k⟩ W0 W hlen hl hl0 hlW ⟨v, hv0⟩ hb _ hY
    have hY0 : ByV W (fun x => W0.heap.size ≤ x) q d b := hY
    obtain ⟨TN, hTN⟩ : ∃ T, t.toNat = T := ⟨_, rfl⟩
    obtain ⟨LB, hLB⟩ : ∃ T, b.length = T := ⟨_, rfl⟩
    obtain ⟨W1, hW1⟩ : ∃ W1, W.alloc (.cells #[.int .u8 (TN : Int), .slice q LB d] 103) = W1 := ⟨_, rfl⟩
    have bW1 : Below W.heap.size W W1 := by rw [← hW1]; exact (Below.refl _ _).alloc (Nat.le_refl _) _
    have HW1 : Hid (W.alloc (.cells #[.int .u8 (TN : Int), .slice q LB d] 103) = W1) := hW1
    have t1 : Tl W1 W.heap.size (.int .u8 (TN : Int)) (.slice q LB d) := by rw [← hW1]; exact Tl.new W _ _
    have l1 : W1.heap[l]? = some (.loop r) := (bW1.block l (Array.getElem?_eq_some_iff.1 hlW).1).trans hlW
    have HR : Hid (t.toNat = TN ∧ b.length = LB) := ⟨hTN, hLB⟩
    have HL : Hid (∀ o' : Obj, LIv w w6 pre v (W1.putObj l o') ∧ Tl (W1.putObj l o') W.heap.size (.int .u8 (TN : Int)) (.slice q LB d) ∧ ByV (W1.putObj l o') (fun x => w6.heap.size ≤ x ∧ v.ownBlock ≠ some x) q d b) := fun o' => by
      refine ⟨((hv0.below hb).below bW1).put o' (by omega) hl l1 rfl, t1.same ?_, ?_⟩
      · have h1 := t1.lt
        have h2 := (Array.getElem?_eq_some_iff.1 hlW).1
        exact (grownBy_putObj' W1 l o').block _ h1 (fun e => by injection e with e; omega)
      · refine ((hY0.keep (fun g _ hlt => bW1.block g hlt)).put o' l1 rfl).mono (fun g hg _ => ⟨Nat.le_trans hv0.sz hg, fun e => ?_⟩)
        have := (owns_lt hv0.own e).2.1
        omega
    clear hY hY0 hv0 hb hI6 hg hv6 hb6 hsq HA t1 hW1 hw3
    rw [show encY ⟨⟨t, b, q, d⟩, k⟩ = #[.agg #[.int .u8 (TN : Int), .slice q LB d], .int .i64 (k : Int)] by rw [← hTN, ← hLB]]
    clear hTN hLB
    gi_wp2
    refine ⟨(Below.refl _ _).alloc (Nat.le_refl _) _, fun o' => ?_⟩
    rw [HW1.out]
    obtain ⟨hv2, t2, y2⟩ := HL.out o'
    generalize W1.putObj l o' = W2 at hv2 t2 y2 ⊢
    have x0 := hv2.r0.1
    have f0 := hv2.r0.2
    have x1 := hv2.r1.1
    have f1 := hv2.r1.2
    have x2 := hv2.r2.1
    have f2 := hv2.r2.2
    have tc0 := t2.c0
    have tc1 := t2.c1
    have HV : Hid (LIv w w6 pre v W2 ∧ ByV W2 (fun x => w6.heap.size ≤ x ∧ v.ownBlock ≠ some x) q d b) := ⟨hv2, y2⟩
    have hW2s := hv2.sz
    clear hv2 y2 t2 HL l1 bW1 HW1 hlW
    by_cases hk : k = 0
    · subst hk
      have hka : ((0 : Int) != 0) = false := rfl
      gi_wp2_with (gi_at_builtin; refine wpListIn_append_pc rfl (.tmp 14) (.tmp 16) rfl w6.heap.size v rfl (pre.map Ye.pc) pre.length (HV.out.1.own.alloc _) ⟨W2.heap.size, 0, none⟩ 1 ⟨t, b, q, d⟩ rfl (by show _ = some (Value.int .u8 (t.toNat : Int)); rw [HR.out.1, Addr.add_mid]; exact (Tl.new W2 (.int .u8 (TN : Int)) (.slice q LB d)).c0) (by show _ = some (Value.slice q b.length d); rw [HR.out.2, Addr.add_mid]; exact (Tl.new W2 (.int .u8 (TN : Int)) (.slice q LB d)).c1) (by omega) (Nat.le_trans hW2s (alloc_le _ _)) ?_; intro v3 W3 o3 gr3 at3; have hv4 := HV.out.1.app (y := ⟨⟨t, b, q, d⟩, 0⟩) _ gr3 o3 rfl HV.out.2 at3 hz6; have hkf : Hid (KeepsFrom w6.heap.size W2 W3) := ((KeepsOthers.alloc _ _).trans (KeepsOthers.of_grownBy gr3 (fun j o e ho => by obtain ⟨_, _, cur, hc⟩ := owns_lt (HV.out.1.own.alloc _) e; rw [hc] at ho; cases ho; rfl))).from _; have y2 : Kx W3 (w.heap.size + 1 + 1) v := kx_block HV.out.1.r2 ((gr3.block _ (by have := kx_lt HV.out.1.r2; rw [alloc_sz]; omega) (fun e => by have := (owns_lt HV.out.1.own e.symm).1; omega)).trans (Below.heap_alloc _ _ _ (kx_lt HV.out.1.r2))); have z2 := y2.1; have zf2 := y2.2; obtain ⟨p3, c3, rfl⟩ := owns_slice o3; have H4 : Hid (LIv w w6 (pre ++ [⟨⟨t, b, q, d⟩, 0⟩]) (.slice p3 (pre.length + 1) c3) (W3.setCell ⟨w.heap.size + 1 + 1, 0, none⟩ (.slice p3 (pre.length + 1) c3))) := hv4; clear hv4 y2 o3 gr3 at3)
      exact ⟨hkf.out.trans ((KeepsOthers.setCell _ _ _).from _), trivial, _, H4.out⟩
    · have hka : ((k : Int) != 0) = true := by simp; omega
      gi_wp2
      refine ⟨((KeepsOthers.setCell _ _ _).trans (KeepsOthers.setCell _ _ _)).from _, rfl, kx_other (kx_set HV.out.1.r0 _) (by omega) _, ⟨pre, _, rfl, hk, kx_set (kx_other HV.out.1.r1 (by omega) _) _⟩, (HV.out.1.low.setCell (p := ⟨w.heap.size, 0, none⟩) (Nat.le_refl _) _).setCell (p := ⟨w.heap.size + 1, 0, none⟩) (by show w.heap.size ≤ w.heap.size + 1; omega) _⟩
  case done =>
    rintro D xs W hD hxs ⟨v, hv⟩ hK
    have hlv := seqD_whole (bs := bs) (by rw [hxs, hsq]) (fun y hy => (hv.at_ y hy).1)
    obtain ⟨pv, cv, rfl⟩ := owns_slice hv.own
    have x0 := hv.r0.1
    have f0 := hv.r0.2
    have x1 := hv.r1.1
    have f1 := hv.r1.2
    have x2 := hv.r2.1
    obtain ⟨W', hW'⟩ : ∃ W', (W.setCell ⟨w.heap.size, 0, none⟩ (.slice pv xs.length cv)).setCell ⟨w.heap.size + 1, 0, none⟩ (.int .i64 0) = W' := ⟨_, rfl⟩
    have hK' : W'.heap[D]? = some (.deferred (some [])) := by rw [← hW']; exact ((KeepsOthers.setCell W ⟨w.heap.size, 0, none⟩ (.slice pv xs.length cv)).trans (KeepsOthers.setCell _ ⟨w.heap.size + 1, 0, none⟩ (.int .i64 0))).same D _ hK rfl
    have r0 : Kx W' w.heap.size (.slice pv xs.length cv) := by rw [← hW']; exact kx_other (kx_set hv.r0 _) (by omega) _
    have r1 : Kx W' (w.heap.size + 1) (.int .i64 0) := by rw [← hW']; exact kx_set (kx_other hv.r1 (by omega) _) _
    have hblk : ∀ k, w6.heap.size ≤ k → W'.heap[k]? = W.heap[k]? := fun k hk => by rw [← hW']; exact (Below.heap_setCell _ _ _ _ (by show k ≠ w.heap.size + 1; omega)).trans (Below.heap_setCell _ _ _ _ (by show k ≠ w.heap.size; omega))
    have lowW : Below w.heap.size w W' := by rw [← hW']; exact (hv.low.setCell (p := ⟨w.heap.size, 0, none⟩) (Nat.le_refl _) _).setCell (p := ⟨w.heap.size + 1, 0, none⟩) (by show w.heap.size ≤ w.heap.size + 1; omega) _
    have H9 : Hid (W'.heap[D]? = some (.deferred (some [])) ∧ w6.heap.size ≤ D ∧ Kx W' w.heap.size (.slice pv xs.length cv) ∧ Kx W' (w.heap.size + 1) (.int .i64 0) ∧ Below w.heap.size w W' ∧ W'.ownsRow w6.heap.size 103 2 (.slice pv xs.length cv) xs.length (cellsP (xs.map Ye.pc)) ∧ (∀ y ∈ xs, ByV W' (fun b => w6.heap.size ≤ b) y.pc.p y.pc.c y.pc.b) ∧ (pcsD bs).2 = 0 ∧ pcsOf (xs.map Ye.pc) = (pcsD bs).1) :=
      ⟨hK', hD, r0, r1, lowW, owns_keep hv.own (fun g hg => hblk g (owns_lt hv.own hg).1), fun y hy => ((hv.at_ y hy).2.mono (Q := fun b => w6.heap.size ≤ b) (fun g hg _ => hg.1)).keep (fun g hg _ => hblk g hg), hlv.1, hlv.2⟩
    have HW' : Hid ((W.setCell ⟨w.heap.size, 0, none⟩ (.slice pv xs.length cv)).setCell ⟨w.heap.size + 1, 0, none⟩ (.int .i64 0) = W') := hW'
    clear hK' hK hD hxs hv r0 r1 hblk lowW hlv hI6 hg hv6 hb6 hsq HA hW' hw3
    gi_wp2
    rw [HW'.out]
    refine ⟨by simp, .inl ⟨_, _, rfl, run_takeDeferred H9.out.1, ?_⟩⟩
    obtain ⟨q1, q2, q3, q4, q5, q6, q7, q8, q9⟩ := H9.out
    have c5 := (kx_put q3 (.deferred none) q1 rfl).1
    have c6 := (kx_put q4 (.deferred none) q1 rfl).1
    refine ⟨.tuple #[.slice pv xs.length cv, .int .i64 0], ?_, q5.trans (belowK_b (w := w) (Nat.le_refl _) _ D _ _ (by omega) q1 rfl rfl), .inr ⟨q8, xs.map Ye.pc, _, q9, rfl, ?_, ?_⟩⟩
    · simp [results, Try.f71, go_sem, c5, c6]
    · rw [List.length_map]
      have := owns_put q6 (.deferred none) q1 rfl
      exact ⟨this.1, by
        rcases this.2 with h1 | ⟨g1, cap, cur, e1, h1, h2⟩
        · exact .inl h1
        · exact .inr ⟨g1, cap, cur, e1, by omega, h2⟩⟩
    · intro x hx
      obtain ⟨y, hy, rfl⟩ := List.mem_map.1 hx
      exact ((q7 y hy).put (.deferred none) q1 rfl).mono (fun g hg _ => by show w.heap.size ≤ g; omega)
  case stop =>
    rintro D cc pre W hD hpre ⟨rfl, h2, ⟨q, y, rfl, hy, h3⟩, hbW⟩ hK
    have hm : ((y.pc.t, y.pc.b), y.k) ∈ seqD bs := by
      rw [← hsq]
      refine List.IsPrefix.mem ?_ hpre
      simp [yOf]
    have hk := seqD_mem hm hy
    have HQ : Hid (W.heap[D]? = some (.deferred (some [])) ∧ w6.heap.size ≤ D ∧ Kx W w.heap.size (.slice none 0 0) ∧ Kx W (w.heap.size + 1) (.int .i64 (y.k : Int)) ∧ Below w.heap.size w W ∧ (pcsD bs).2 = y.k ∧ y.k ≠ 0) := ⟨hK, hD, h2, h3, hbW, hk, hy⟩
    clear hK hD h2 h3 hbW hk hI6 hg hv6 hb6 hsq HA hw3 hm hpre
    gi_wp2
    obtain ⟨q1, q2, q3, q4, q5, q6, q7⟩ := HQ.out
    refine ⟨by simp, .inl ⟨_, _, rfl, run_takeDeferred q1, ?_⟩⟩
    have c5 := (kx_put q3 (.deferred none) q1 rfl).1
    have c6 := (kx_put q4 (.deferred none) q1 rfl).1
    refine ⟨.tuple #[.slice none 0 0, .int .i64 (y.k : Int)], ?_, q5.trans (belowK_b (w := w) (Nat.le_refl _) _ D _ _ (by omega) q1 rfl rfl), .inl ⟨by omega, by rw [q6]⟩⟩
    simp [results, Try.f71, go_sem, c5, c6]
end Go.Proofs.Yticopomchoahnaa
/-
  The document's Same and Write.
-/
namespace Go.Proofs.Yticopomchoahnaa
open Go.Shelf Go.RowKit
set_option linter.unusedVariables false
set_option linter.unusedSimpArgs false
theorem bat_cells (W : World) (l : Bs) (cs : Array Value) (n : Nat) (hc : u8sC l = cs) (hn : l.length = n) (hl : n ≤ 1000) : BAt (W.alloc (.cells cs 5)) (some ⟨W.heap.size, 0, none⟩) n l := by
  subst hc hn
  exact (byv_lit W l hl).lies
theorem u8_of_mod (n : Nat) : ((UInt8.ofNat n).toNat : Int) = (n : Int) % 256 := by rw [UInt8.toNat_ofNat']; omega
set_option maxRecDepth 100000 in
set_option maxHeartbeats 4000000 in
/-- Write. -/
theorem rWrite_any (t : Nat) (ht : t < 256) (p : Option Addr) (n c : Nat) (l : Bs) (w : World) (hl : l.length = n) (h : BAt w p n l) (hn : n < 65536) :
    Calls Try.prog 38 #[.int .u8 (t : Int), .slice p n c] w fun e w' => Below w.heap.size w w' ∧ ∃ v, e = .returned v ∧ w'.ownsRow w.heap.size 5 1 v (1 + (headD n).length + n) (Lib.byteCells (UInt8.ofNat t :: (headD n ++ l))) := by
  have hOA := owns_lit1 w w.heap.size t ht (Nat.le_refl _)
  have b1 : Below w.heap.size w (w.alloc (.cells #[.int .u8 (t : Int)] 5)) := (Below.refl _ _).alloc (Nat.le_refl _) _
  generalize hA1 : w.alloc (.cells #[.int .u8 (t : Int)] 5) = A1 at hOA b1
  have HA : Hid (Below w.heap.size w A1 ∧ A1.ownsRow w.heap.size 5 1 (.slice (some ⟨w.heap.size, 0, none⟩) 1 1) 1 (Lib.byteCells [UInt8.ofNat t])) := ⟨b1, hOA⟩
  have HH : Hid (BAt w p n l ∧ l.length = n) := ⟨h, hl⟩
  clear hOA b1 h hl
  by_cases q1 : n < 128
  · have q1I : (n : Int) < 128 := by omega
    have hh : headD n = [UInt8.ofNat n] := by unfold headD; rw [if_pos q1]
    rw [hh]
    go_enter Try.func38, Try.ntmps38
    go_wp2_with (at_builtin; first
      | (refine wpList_append_wt rfl (.tmp 23) (.tmp 26) rfl w.heap.size (.slice (some ⟨w.heap.size, 0, none⟩) 1 1) rfl [UInt8.ofNat t] 1 rfl (HA.out.2.alloc _) (some ⟨A1.heap.size, 0, none⟩) 1 1 [UInt8.ofNat n] rfl rfl (bat_lit _ _ _ (by rw [UInt8.toNat_ofNat']; omega)) (by omega) (Nat.le_trans HA.out.1.size (alloc_le _ _)) ?_; intro v1 w2 o1 gr1 _; obtain ⟨p2, c2, rfl⟩ := owns_slice o1; have HB2 : Hid (Below w.heap.size w w2 ∧ w2.ownsRow w.heap.size 5 1 (.slice p2 2 c2) 2 (Lib.byteCells ([UInt8.ofNat t] ++ [UInt8.ofNat n]))) := ⟨below_grownT (HA.out.1.alloc HA.out.1.size _) (Nat.le_refl _) (HA.out.2.alloc _) gr1, o1⟩; clear o1 gr1)
      | (refine wpList_append_wt rfl (.tmp 36) (.tmp 37) rfl w.heap.size (.slice p2 2 c2) rfl ([UInt8.ofNat t] ++ [UInt8.ofNat n]) 2 rfl HB2.out.2 p n c l HH.out.2 rfl (HH.out.1.below HB2.out.1) (by omega) HB2.out.1.size ?_; intro v3 w3 o3 gr3 _; have HB3 : Hid (Below w.heap.size w w3 ∧ w3.ownsRow w.heap.size 5 1 v3 (2 + n) (Lib.byteCells ([UInt8.ofNat t] ++ [UInt8.ofNat n] ++ l))) := ⟨below_grownT HB2.out.1 (Nat.le_refl _) HB2.out.2 gr3, o3⟩; clear o3 gr3))
    go_ret
    exact ⟨HB3.out.1, v3, rfl, HB3.out.2⟩
  have q1I : ¬ (n : Int) < 128 := by omega
  by_cases q2 : n < 256
  · have q2I : (n : Int) < 256 := by omega
    have hh : headD n = [129, UInt8.ofNat n] := by unfold headD; rw [if_neg q1, if_pos q2]
    rw [hh]
    go_enter Try.func38, Try.ntmps38
    go_wp2_with (at_builtin; first
      | (refine wpList_append_wt rfl (.tmp 31) (.tmp 34) rfl w.heap.size (.slice (some ⟨w.heap.size, 0, none⟩) 1 1) rfl [UInt8.ofNat t] 1 rfl (HA.out.2.alloc _) (some ⟨A1.heap.size, 0, none⟩) 2 2 [129, UInt8.ofNat n] rfl rfl (bat_cells _ _ _ _ (by show #[_, Value.int .u8 ((UInt8.ofNat n).toNat : Int)] = _; rw [u8_of_mod, show (n : Int) % 256 = (n : Int) by omega]; rfl) rfl (by omega)) (by omega) (Nat.le_trans HA.out.1.size (alloc_le _ _)) ?_; intro v1 w2 o1 gr1 _; obtain ⟨p2, c2, rfl⟩ := owns_slice o1; have HB2 : Hid (Below w.heap.size w w2 ∧ w2.ownsRow w.heap.size 5 1 (.slice p2 3 c2) 3 (Lib.byteCells ([UInt8.ofNat t] ++ [129, UInt8.ofNat n]))) := ⟨below_grownT (HA.out.1.alloc HA.out.1.size _) (Nat.le_refl _) (HA.out.2.alloc _) gr1, o1⟩; clear o1 gr1)
      | (refine wpList_append_wt rfl (.tmp 36) (.tmp 37) rfl w.heap.size (.slice p2 3 c2) rfl ([UInt8.ofNat t] ++ [129, UInt8.ofNat n]) 3 rfl HB2.out.2 p n c l HH.out.2 rfl (HH.out.1.below HB2.out.1) (by omega) HB2.out.1.size ?_; intro v3 w3 o3 gr3 _; have HB3 : Hid (Below w.heap.size w w3 ∧ w3.ownsRow w.heap.size 5 1 v3 (3 + n) (Lib.byteCells ([UInt8.ofNat t] ++ [129, UInt8.ofNat n] ++ l))) := ⟨below_grownT HB2.out.1 (Nat.le_refl _) HB2.out.2 gr3, o3⟩; clear o3 gr3))
    go_ret
    exact ⟨HB3.out.1, v3, rfl, HB3.out.2⟩
  have q2I : ¬ (n : Int) < 256 := by omega
  have hh : headD n = [130, UInt8.ofNat (n / 256), UInt8.ofNat n] := by unfold headD; rw [if_neg q1, if_neg q2]
  rw [hh]
  go_enter Try.func38, Try.ntmps38
  go_wp2_with (at_builtin; first
    | (refine wpList_append_wt rfl (.tmp 11) (.tmp 18) rfl w.heap.size (.slice (some ⟨w.heap.size, 0, none⟩) 1 1) rfl [UInt8.ofNat t] 1 rfl (HA.out.2.alloc _) (some ⟨A1.heap.size, 0, none⟩) 3 3 [130, UInt8.ofNat (n / 256), UInt8.ofNat n] rfl rfl (bat_cells _ _ _ _ (by show #[_, Value.int .u8 ((UInt8.ofNat (n / 256)).toNat : Int), Value.int .u8 ((UInt8.ofNat n).toNat : Int)] = _; rw [u8_of_mod, u8_of_mod, show ((n / 256 : Nat) : Int) % 256 = (n : Int) / 256 by omega]; rfl) rfl (by omega)) (by omega) (Nat.le_trans HA.out.1.size (alloc_le _ _)) ?_; intro v1 w2 o1 gr1 _; obtain ⟨p2, c2, rfl⟩ := owns_slice o1; have HB2 : Hid (Below w.heap.size w w2 ∧ w2.ownsRow w.heap.size 5 1 (.slice p2 4 c2) 4 (Lib.byteCells ([UInt8.ofNat t] ++ [130, UInt8.ofNat (n / 256), UInt8.ofNat n]))) := ⟨below_grownT (HA.out.1.alloc HA.out.1.size _) (Nat.le_refl _) (HA.out.2.alloc _) gr1, o1⟩; clear o1 gr1)
    | (refine wpList_append_wt rfl (.tmp 36) (.tmp 37) rfl w.heap.size (.slice p2 4 c2) rfl ([UInt8.ofNat t] ++ [130, UInt8.ofNat (n / 256), UInt8.ofNat n]) 4 rfl HB2.out.2 p n c l HH.out.2 rfl (HH.out.1.below HB2.out.1) (by omega) HB2.out.1.size ?_; intro v3 w3 o3 gr3 _; have HB3 : Hid (Below w.heap.size w w3 ∧ w3.ownsRow w.heap.size 5 1 v3 (4 + n) (Lib.byteCells ([UInt8.ofNat t] ++ [130, UInt8.ofNat (n / 256), UInt8.ofNat n] ++ l))) := ⟨below_grownT HB2.out.1 (Nat.le_refl _) HB2.out.2 gr3, o3⟩; clear o3 gr3))
  go_ret
  exact ⟨HB3.out.1, v3, rfl, HB3.out.2⟩
end Go.Proofs.Yticopomchoahnaa
/-
  The document's SameLists, of the same pieces.
-/
namespace Go.Proofs.Yticopomchoahnaa
open Go.Shelf Go.RowKit
set_option linter.unusedVariables false
set_option linter.unusedSimpArgs false

theorem cellsP_get : ∀ (l : List Pc) (j : Nat) (x : Pc), l[j]? = some x → (cellsP l)[j * 2]? = some (.int .u8 (x.t.toNat : Int)) ∧ (cellsP l)[j * 2 + 1]? = some (.slice x.p x.b.length x.c)
  | [], j, x, h => by simp at h
  | y :: l, 0, x, h => by
    simp at h
    subst h
    exact ⟨rfl, rfl⟩
  | y :: l, j + 1, x, h => by
    have := cellsP_get l j x (by simpa using h)
    rw [show cellsP (y :: l) = Pc.cells y ++ cellsP l from rfl]
    have hl : (Pc.cells y).length = 2 := rfl
    rw [List.getElem?_append_right (by rw [hl]; omega), List.getElem?_append_right (by rw [hl]; omega), hl, show (j + 1) * 2 - 2 = j * 2 by omega, show (j + 1) * 2 + 1 - 2 = j * 2 + 1 by omega]
    exact this
theorem own_pc {w : World} {B g m cap : Nat} {l : List Pc} (h : w.ownsRow B 103 2 (.slice (some ⟨g, 0, none⟩) m cap) m (cellsP l)) (hl : l.length = m) (j : Nat) (x : Pc) (hx : l[j]? = some x) : w.cell? ⟨g, j * 2, none⟩ = some (.int .u8 (x.t.toNat : Int)) ∧ w.cell? ⟨g, j * 2 + 1, none⟩ = some (.slice x.p x.b.length x.c) := by
  have hj : j < l.length := (List.getElem?_eq_some_iff.1 hx).1
  obtain ⟨h1, h2⟩ := cellsP_get l j x hx
  exact ⟨by rw [owns_cell h (j * 2) (by omega), h1], by rw [owns_cell h (j * 2 + 1) (by omega), h2]⟩
end Go.Proofs.Yticopomchoahnaa
/-
  Times: years and months.
-/
namespace Go.Proofs.Yticopomchoahnaa
open Go.Shelf Go.RowKit
set_option linter.unusedVariables false
set_option linter.unusedSimpArgs false

def mdL : List Int := [31, 28, 31, 30, 31, 30, 31, 31, 30, 31, 30, 31]
/-- Has a year 366 days? -/
def leapD (y : Nat) : Bool := (y % 4 == 0 && y % 100 != 0) || y % 400 == 0
/-- A month's days. -/
def monD (y m : Nat) : Nat := (mdL.getD (m - 1) 0).toNat + (if m = 2 ∧ leapD y = true then 1 else 0)
/-- A number of digits. -/
def numGo : Nat → Bs → Option Nat
  | n, [] => some n
  | n, c :: xs => if c.toNat < 48 ∨ 57 < c.toNat then none else numGo (10 * n + (c.toNat - 48)) xs
theorem numGo_cons (n : Nat) (c : UInt8) (xs : Bs) : numGo n (c :: xs) = if c.toNat < 48 ∨ 57 < c.toNat then none else numGo (10 * n + (c.toNat - 48)) xs := rfl
/-- What numberOf answers. -/
def numV : Option Nat → Value
  | some n => .tuple #[.int .i64 (n : Int), .bool true]
  | none => .tuple #[.int .i64 0, .bool false]
end Go.Proofs.Yticopomchoahnaa
/-
  Times: a year, the seconds.
-/
namespace Go.Proofs.Yticopomchoahnaa
open Go.Shelf Go.RowKit
set_option linter.unusedVariables false
set_option linter.unusedSimpArgs false

/-- A moment is one. -/
def existB (y m d h mi s : Nat) : Bool := decide (1 ≤ m ∧ m ≤ 12 ∧ 1 ≤ d ∧ d ≤ monD y m ∧ h < 24 ∧ mi < 60 ∧ s < 60)
/-- Years with a 29th of February ahead of one. -/
def lyD (y : Nat) : Nat := (y - 1) / 4 - (y - 1) / 100 + (y - 1) / 400
/-- The days of so many months. -/
def monsD (y : Nat) : Nat → Nat
  | 0 => 0
  | k + 1 => monsD y k + monD y (k + 1)
/-- A moment's seconds. -/
def secsD (y m d h mi s : Nat) : Nat := (((365 * (y - 1970) + lyD y - 477 + monsD y (m - 1) + (d - 1)) * 24 + h) * 60 + mi) * 60 + s
theorem monD_le (y m : Nat) : monD y m ≤ 32 := by
  unfold monD
  have h1 : ∀ k, k < 12 → (mdL.getD k 0).toNat ≤ 31 := by decide
  have h2 : (mdL.getD (m - 1) 0).toNat ≤ 31 := by
    by_cases h : m - 1 < 12
    · exact h1 _ h
    · simp only [List.getD]
      rw [List.getElem?_eq_none (by simp [mdL]; omega)]
      decide
  split <;> omega
theorem monsD_le (y : Nat) : ∀ k, monsD y k ≤ 32 * k
  | 0 => Nat.le_refl _
  | k + 1 => by
    have := monsD_le y k
    have := monD_le y (k + 1)
    simp only [monsD]
    omega
end Go.Proofs.Yticopomchoahnaa
/-
  Times: the seconds, a year.
-/
namespace Go.Proofs.Yticopomchoahnaa
open Go.Shelf Go.RowKit
set_option linter.unusedVariables false
set_option linter.unusedSimpArgs false
end Go.Proofs.Yticopomchoahnaa
/-
  Times: a year.
-/
namespace Go.Proofs.Yticopomchoahnaa
open Go.Shelf Go.RowKit
set_option linter.unusedVariables false
set_option linter.unusedSimpArgs false

/-- The year of two digits. -/
def centD (d : Nat) : Nat := if d < 50 then 2000 + d else 1900 + d
/-- A time's year, and what stands behind it. -/
def yearD (t : Nat) (bs : Bs) : Option (Nat × Bs) :=
  if t = 23 ∧ bs.length = 13 then (match numGo 0 (bs.take 2) with
    | none => none
    | some d => if 1970 ≤ centD d then some (centD d, bs.drop 2) else none)
  else if t = 24 ∧ bs.length = 15 then (match numGo 0 (bs.take 4) with
    | none => none
    | some d => if 2050 ≤ d then some (d, bs.drop 4) else none)
  else none
theorem numGo_lt : ∀ (bs : Bs) (n m : Nat), numGo n bs = some m → m < (n + 1) * 10 ^ bs.length
  | [], n, m, h => by cases h; simp
  | c :: xs, n, m, h => by
    rw [numGo_cons] at h
    split at h
    · cases h
    · rename_i hq
      have h1 := numGo_lt xs _ _ h
      refine Nat.lt_of_lt_of_le h1 ?_
      rw [List.length_cons, Nat.pow_succ, Nat.mul_comm (10 ^ xs.length) 10, ← Nat.mul_assoc]
      exact Nat.mul_le_mul_right _ (by omega)
/-- What splitYear answers. -/
def YrPost (w : World) (P : Nat → Prop) (R : Option (Nat × Bs)) (e : Ending) (w' : World) : Prop :=
  Below w.heap.size w w' ∧ ((∃ y r p c, R = some (y, r) ∧ 1970 ≤ y ∧ y ≤ 9999 ∧ r.length = 11 ∧ e = .returned (.tuple #[.int .i64 (y : Int), .slice p 11 c, .bool true]) ∧ ByV w' P p c r) ∨ (R = none ∧ ∃ a b, e = .returned (.tuple #[a, b, .bool false])))
theorem YrPost.no {w w' : World} {P : Nat → Prop} {R : Option (Nat × Bs)} {a b : Value} (hR : R = none) (hb : Below w.heap.size w w') : YrPost w P R (.returned (.tuple #[a, b, .bool false])) w' := ⟨hb, .inr ⟨hR, a, b, rfl⟩⟩
theorem YrPost.nob {w w' : World} {P : Nat → Prop} {R : Option (Nat × Bs)} {a b : Value} {B : Bool} (hB : B = false) (hR : R = none) (hb : Below w.heap.size w w') : YrPost w P R (.returned (.tuple #[a, b, .bool B])) w' := by subst hB; exact YrPost.no hR hb
end Go.Proofs.Yticopomchoahnaa
/-
  Times: a moment.
-/
namespace Go.Proofs.Yticopomchoahnaa
open Go.Shelf Go.RowKit
set_option linter.unusedVariables false
set_option linter.unusedSimpArgs false

/-- The two digits at place i. -/
def twoD (r : Bs) (i : Nat) : Option Nat := numGo 0 ((r.drop (2 * i)).take 2)
/-- So many numbers of two digits. -/
def twosD (r : Bs) : Nat → Option (List Nat)
  | 0 => some []
  | k + 1 => match twosD r k with
    | none => none
    | some l => match twoD r k with
      | none => none
      | some x => some (l ++ [x])
theorem twosD_none (r : Bs) (k : Nat) (h : twosD r k = none) : ∀ j, twosD r (k + j) = none
  | 0 => h
  | j + 1 => by
    have := twosD_none r k h j
    show twosD r (k + j + 1) = none
    simp only [twosD, this]
theorem twosD_len (r : Bs) : ∀ (k : Nat) (l : List Nat), twosD r k = some l → l.length = k ∧ ∀ x ∈ l, x ≤ 99
  | 0, l, h => by cases h; exact ⟨rfl, fun x hx => by cases hx⟩
  | k + 1, l, h => by
    simp only [twosD] at h
    cases h1 : twosD r k with
    | none => rw [h1] at h; cases h
    | some l' =>
      rw [h1] at h
      simp only [] at h
      cases h2 : twoD r k with
      | none => rw [h2] at h; cases h
      | some x =>
        rw [h2] at h
        cases h
        obtain ⟨h3, h4⟩ := twosD_len r k l' h1
        refine ⟨by simp [h3], fun z hz => ?_⟩
        rcases List.mem_append.1 hz with hz | hz
        · exact h4 z hz
        · simp at hz
          subst hz
          have h5 := numGo_lt _ _ _ h2
          have h6 : ((r.drop (2 * k)).take 2).length ≤ 2 := by rw [List.length_take]; omega
          have h7 : (0 + 1) * 10 ^ ((r.drop (2 * k)).take 2).length ≤ 100 := by
            rw [Nat.zero_add, Nat.one_mul]
            exact Nat.le_trans (Nat.pow_le_pow_right (by decide) h6) (by decide)
          omega
/-- A moment's values. -/
abbrev momV (y m d h mi s : Nat) : Value := .agg #[.int .i64 (y : Int), .int .i64 (m : Int), .int .i64 (d : Int), .int .i64 (h : Int), .int .i64 (mi : Int), .int .i64 (s : Int)]
/-- What momentOf answers. -/
def MoPost (w : World) (y : Nat) (r : Bs) (e : Ending) (w' : World) : Prop :=
  Below w.heap.size w w' ∧ ((∃ m d h mi s, twosD r 5 = some [m, d, h, mi, s] ∧ (r.getD 10 0).toNat = 90 ∧ e = .returned (.tuple #[momV y m d h mi s, .bool true])) ∨ ((twosD r 5 = none ∨ (r.getD 10 0).toNat ≠ 90) ∧ ∃ a b c d e' f : Int, e = .returned (.tuple #[.agg #[.int .i64 a, .int .i64 b, .int .i64 c, .int .i64 d, .int .i64 e', .int .i64 f], .bool false])))
theorem pad_set (l : List Nat) (k x : Nat) (hl : l.length = k) (hk : k < 5) : (l.map (fun x : Nat => (x : Int)) ++ List.replicate (5 - k) 0).set k (x : Int) = (l ++ [x]).map (fun x : Nat => (x : Int)) ++ List.replicate (5 - (k + 1)) 0 := by
  rw [List.set_append_right _ _ (by simp [hl])]
  rw [show 5 - k = (5 - (k + 1)) + 1 by omega, List.replicate_succ]
  simp [hl]
theorem but_set6 (w : World) (g : Nat) (a b c d e f : Value) : But g w ((((((w.setCell ⟨g, 0, none⟩ a).setCell ⟨g, 1, none⟩ b).setCell ⟨g, 2, none⟩ c).setCell ⟨g, 3, none⟩ d).setCell ⟨g, 4, none⟩ e).setCell ⟨g, 5, none⟩ f) :=
  (But.setCell g w 0 a).trans ((But.setCell g _ 1 b).trans ((But.setCell g _ 2 c).trans ((But.setCell g _ 3 d).trans ((But.setCell g _ 4 e).trans (But.setCell g _ 5 f)))))
theorem set6_other {w : World} {r r1 j : Nat} {v a b c d e f : Value} (h : w.cell? ⟨r1, j, none⟩ = some v) (hne : r ≠ r1) : ((((((w.setCell ⟨r, 0, none⟩ a).setCell ⟨r, 1, none⟩ b).setCell ⟨r, 2, none⟩ c).setCell ⟨r, 3, none⟩ d).setCell ⟨r, 4, none⟩ e).setCell ⟨r, 5, none⟩ f).cell? ⟨r1, j, none⟩ = some v :=
  ((but_set6 w r a b c d e f).cell (p := ⟨r1, j, none⟩) (World.block_lt_of_cell? w _ h) (fun e => hne e.symm)).trans h
theorem Row.but {e : TypeId} {k : IntKind} {w w' : World} {g g' : Nat} {xs : List Int} (h : Row e k w g xs) (hb : But g' w w') (hne : g ≠ g') : Row e k w' g xs := by
  show w'.heap[g]? = _
  rw [hb.block g h.lt hne]
  exact h
end Go.Proofs.Yticopomchoahnaa
/-
  The code's Time.
-/
namespace Go.Proofs.Yticopomchoahnaa
open Go.Shelf Go.RowKit
set_option linter.unusedVariables false
set_option linter.unusedSimpArgs false

/-- A moment's seconds, if it is one. -/
def momD (y : Nat) (r : Bs) : Option Nat := match twosD r 5 with
  | some [m, d, h, mi, s] => if (r.getD 10 0).toNat = 90 ∧ existB y m d h mi s = true then some (secsD y m d h mi s) else none
  | _ => none
/-- A time's seconds. -/
def timeD (t : Nat) (bs : Bs) : Option Nat := match yearD t bs with
  | none => none
  | some (y, r) => momD y r
/-- What Time answers. -/
def timeV : Option Nat → Value
  | some n => .tuple #[.int .u64 (n : Int), .int .i64 0]
  | none => .tuple #[.int .u64 0, .int .i64 31]
theorem secsD_lt (y m d h mi s : Nat) (hy : y ≤ 9999) (hm : m ≤ 12) (hd : d ≤ 99) (hh : h ≤ 99) (hmi : mi ≤ 99) (hs : s ≤ 99) : secsD y m d h mi s < 9223372036854775807 := by
  unfold secsD
  have h1 := monsD_le y (m - 1)
  have h2 : lyD y ≤ 10000 := by unfold lyD; omega
  generalize monsD y (m - 1) = A at *
  generalize lyD y = B at *
  omega
end Go.Proofs.Yticopomchoahnaa
/-
  The code's splitRow.
-/
namespace Go.Proofs.Yticopomchoahnaa
open Go.Shelf Go.RowKit
set_option linter.unusedVariables false
set_option linter.unusedSimpArgs false

/-- A row's number, and what is left. -/
def rowGo : Nat → Bool → Bs → Option (Nat × Bs)
  | _, _, [] => none
  | n, first, c :: xs => if (first = true ∧ c.toNat = 128) ∨ 72057594037927935 < n then none else if c.toNat < 128 then some (n * 128 + c.toNat % 128, xs) else rowGo (n * 128 + c.toNat % 128) false xs
def rowD (bs : Bs) : Option (Nat × Bs) := rowGo 0 true bs
theorem rowGo_cons (n : Nat) (f : Bool) (c : UInt8) (xs : Bs) : rowGo n f (c :: xs) = if (f = true ∧ c.toNat = 128) ∨ 72057594037927935 < n then none else if c.toNat < 128 then some (n * 128 + c.toNat % 128, xs) else rowGo (n * 128 + c.toNat % 128) false xs := rfl
theorem rowGo_len : ∀ (bs : Bs) (n : Nat) (f : Bool) (m : Nat) (r : Bs), rowGo n f bs = some (m, r) → r.length < bs.length ∧ m < 9223372036854775808
  | [], n, f, m, r, h => by cases h
  | c :: xs, n, f, m, r, h => by
    rw [rowGo_cons] at h
    split at h
    · cases h
    · split at h
      · cases h
        refine ⟨by simp, ?_⟩
        have := c.toNat_lt
        omega
      · have := rowGo_len xs _ _ _ _ h
        exact ⟨by simp; omega, this.2⟩
theorem u64_or7 (x y : Nat) (hx : x < 72057594037927936) (hy : y < 128) : bits .or .u64 ((x : Int) * 128) (y : Int) = ((x * 128 + y : Nat) : Int) := by
  have h2 : 128 * x ||| y = 128 * x + y := by
    have := Nat.two_pow_add_eq_or_of_lt (i := 7) (b := y) (by omega) x
    rw [show (2 : Nat) ^ 7 = 128 by rfl] at this
    exact this.symm
  have e : (x : Int) * 128 = ((128 * x : Nat) : Int) := by omega
  rw [e]
  show IntKind.u64.wrap ((BitVec.ofInt 64 ((128 * x : Nat) : Int) ||| BitVec.ofInt 64 (y : Int)).toNat : Int) = _
  rw [BitVec.toNat_or, ofInt_u64 (128 * x) (by omega), ofInt_u64 y (by omega), h2, Nat.mul_comm 128 x]
  clear h2 e
  have h3 : x * 128 + y < 18446744073709551616 := by omega
  generalize x * 128 + y = z at h3 ⊢
  simp [IntKind.wrap, IntKind.signed, IntKind.bits]
  omega
theorem u8_low7 : ∀ y : Nat, y < 256 → bits .andNot .u8 (y : Int) 128 = ((y % 128 : Nat) : Int) := by decide +kernel
/-- What splitRow answers. -/
def RwPost (w : World) (P : Nat → Prop) (R : Option (Nat × Bs)) (e : Ending) (w' : World) : Prop :=
  Below w.heap.size w w' ∧ ((∃ m r p c, R = some (m, r) ∧ m < 9223372036854775808 ∧ e = .returned (.tuple #[.int .u64 (m : Int), .slice p r.length c, .bool true]) ∧ ByV w' P p c r) ∨ (R = none ∧ e = .returned (.tuple #[.int .u64 0, .slice none 0 0, .bool false])))
end Go.Proofs.Yticopomchoahnaa
/-
  The code's appendRow.
-/
namespace Go.Proofs.Yticopomchoahnaa
open Go.Shelf Go.RowKit
set_option linter.unusedVariables false
set_option linter.unusedSimpArgs false

/-- Numbers as cells. -/
def cellsU (l : List Nat) : List Value := l.map fun (x : Nat) => Value.int .u64 (x : Int)
theorem cellsU_len (l : List Nat) : (cellsU l).length = l.length := by simp [cellsU]
theorem infoU64 : (Try.prog.info? 38).map (fun i => (i.zero, i.size, i.bytes)) = some (some (.int .u64 0), 1, 8) := by kernel_rfl
/-- Numbers appended to numbers of the call's own. -/
theorem wpList_append_u {w : World} {ops : Array Oper} {rest : List Oper} {o : Oper} {a : Act} {Q : Exit → Act → World → Prop} (hgd : o.guard = none) (s x : Operand)
    (ho : o.op = .call { callee := .builtin .append, args := #[s, x], argTypes := #[28, 28] }) (base : Nat) (v : Value) (hs : a.eval s = v) (old : List Nat) (m : Nat) (hown : w.ownsRow base 38 1 v m (cellsU old)) (ad : Addr) (n c : Nat) (l : List Nat) (hn : l.length = n) (hx : a.eval x = .slice (some ad) n c) (hr : ∀ j u, (cellsU l)[j]? = some u → w.cell? (ad.add j) = some u) (hlen : m + n ≤ 1000000) (hbase : base ≤ w.heap.size)
    (h : ∀ v' w', w'.ownsRow base 38 1 v' (m + n) (cellsU (old ++ l)) → w.grownBy w' v.ownBlock → wpList Try.prog ops Q rest (a.put o.dst v') w') : wpList Try.prog ops Q (o :: rest) a w := by
  obtain ⟨i0, hi0, hz0, hz1, hz2⟩ := info_parts infoU64
  refine wpList_append_own (w := w) hgd s x _ ho base 38 i0 (.int .u64 0) 1 8 Try.underlying28 hi0 hz0 hz1 hz2 rfl (by decide) v m (cellsU old) hs hown ad n c (cellsU l) hx (by rw [cellsU_len, hn, Nat.mul_one]) hr (by intro u hu; simp only [cellsU, List.mem_map] at hu; obtain ⟨x, _, rfl⟩ := hu; rfl) (by unfold maxLen; omega) (by omega) hbase ?_
  intro v' w' hown' hgr _
  rw [show cellsU old ++ cellsU l = cellsU (old ++ l) by simp [cellsU]] at hown'
  exact h v' w' hown' hgr
/-- A row's numbers behind the others. -/
def pushD (xs : List Nat) (row : Nat) : List Nat := if xs.length = 0 then [min (row / 40) 2, row - min (row / 40) 2 * 40] else xs ++ [row]
end Go.Proofs.Yticopomchoahnaa
/-
  The code's Oid.
-/
namespace Go.Proofs.Yticopomchoahnaa
open Go.Shelf Go.RowKit
set_option linter.unusedVariables false
set_option linter.unusedSimpArgs false

/-- A slice's length. -/
def lenOfV : Value → Nat
  | .slice _ n _ => n
  | _ => 0
/-- All rows' numbers. -/
def rowsD : Nat → Bs → Option (List Nat)
  | 0, _ => some []
  | m + 1, bs => if bs.length = 0 then some [] else match rowD bs with
    | none => none
    | some (r, rest) => match rowsD m rest with
      | none => none
      | some l => some (r :: l)
/-- The numbers of rows. -/
def numsD : List Nat → List Nat
  | [] => []
  | r :: l => [min (r / 40) 2, r - min (r / 40) 2 * 40] ++ l
/-- A row of numbers; an error's number. -/
def oidD (t : Nat) (bs : Bs) : Except Nat (List Nat) :=
  if t ≠ 6 ∨ bs.length = 0 then .error 30 else match rowsD bs.length bs with
    | none => .error 30
    | some l => if 16 < (numsD l).length then .error 14 else .ok (numsD l)
theorem rowsD_more : ∀ (m k : Nat) (bs : Bs), bs.length ≤ m → bs.length ≤ k → rowsD m bs = rowsD k bs
  | 0, k, bs, hm, hk => by
    have : bs = [] := List.eq_nil_of_length_eq_zero (by omega)
    subst this
    cases k with
    | zero => rfl
    | succ k => rfl
  | m + 1, 0, bs, hm, hk => by
    have : bs = [] := List.eq_nil_of_length_eq_zero (by omega)
    subst this
    rfl
  | m + 1, k + 1, bs, hm, hk => by
    simp only [rowsD]
    by_cases h : bs.length = 0
    · rw [if_pos h, if_pos h]
    rw [if_neg h, if_neg h]
    cases hr : rowD bs with
    | none => rfl
    | some q =>
      obtain ⟨r, rest⟩ := q
      have := (rowGo_len bs 0 true r rest hr).1
      simp only []
      rw [rowsD_more m k rest (by omega) (by omega)]
theorem rowsD_step {bs : Bs} (h : bs.length ≠ 0) : rowsD bs.length bs = match rowD bs with
    | none => none
    | some (r, rest) => (rowsD rest.length rest).map (fun l => r :: l) := by
  obtain ⟨m, hm⟩ : ∃ m, bs.length = m + 1 := ⟨bs.length - 1, by omega⟩
  rw [hm]
  simp only [rowsD]
  rw [if_neg h]
  cases hr : rowD bs with
  | none => rfl
  | some q =>
    obtain ⟨r, rest⟩ := q
    have := (rowGo_len bs 0 true r rest hr).1
    simp only []
    rw [rowsD_more m rest.length rest (by omega) (Nat.le_refl _)]
    cases rowsD rest.length rest with
    | none => rfl
    | some l => rfl
theorem numsD_len (l : List Nat) : (numsD l).length = if l.length = 0 then 0 else l.length + 1 := by
  cases l with
  | nil => rfl
  | cons a l => simp [numsD]
theorem push_nums (R : List Nat) (r : Nat) : pushD (numsD R) r = numsD (R ++ [r]) := by
  cases R with
  | nil => simp [pushD, numsD]
  | cons a R => simp [pushD, numsD]
/-- The numbers so far: no more than 17 are kept. -/
theorem push_take (R : List Nat) (r : Nat) : (if ((numsD R).take 17).length ≤ 16 then pushD ((numsD R).take 17) r else (numsD R).take 17) = (numsD (R ++ [r])).take 17 := by
  by_cases h : (numsD R).length ≤ 16
  · have e : (numsD R).take 17 = numsD R := List.take_of_length_le (by omega)
    rw [e, if_pos h, push_nums]
    have h2 := numsD_len (R ++ [r])
    have h1 := numsD_len R
    rw [List.take_of_length_le]
    rw [h2]
    simp
    by_cases h0 : R.length = 0
    · omega
    · rw [if_neg h0] at h1
      omega
  · have h2 : ((numsD R).take 17).length = 17 := by rw [List.length_take]; omega
    rw [h2, if_neg (by omega)]
    cases R with
    | nil => simp [numsD] at h
    | cons a R =>
      simp [numsD] at h ⊢
      rw [List.take_append_of_le_length (by omega)]
/-- What Oid answers. -/
def OidPost (w : World) (R : Except Nat (List Nat)) (e : Ending) (w' : World) : Prop :=
  Below w.heap.size w w' ∧ ((∃ k, R = .error k ∧ e = .returned (.tuple #[.slice none 0 0, .int .i64 (k : Int)])) ∨
    ∃ l v, R = .ok l ∧ l.length ≤ 16 ∧ e = .returned (.tuple #[v, .int .i64 0]) ∧ w'.ownsRow w.heap.size 38 1 v l.length (cellsU l))
end Go.Proofs.Yticopomchoahnaa
/-
  Layer 10's Awake.
-/
namespace Go.Proofs.Yticopomchoahnaa
open Go.Shelf Go.RowKit
set_option linter.unusedVariables false
set_option linter.unusedSimpArgs false
theorem awake_read : readD [48, 3, 2, 1, 5] = .ok ((48, [2, 1, 5]), []) := rfl
theorem awake_int : intL [0, 5] = none := rfl
theorem awake_oid : oidD 6 [42, 134, 72] = .ok [1, 2, 840] := rfl
theorem awake_t1 : timeD 23 [55, 48, 48, 49, 48, 49, 48, 48, 48, 48, 48, 49, 90] = some 1 := by decide +kernel
theorem awake_t2 : timeD 23 [53, 48, 48, 49, 48, 49, 48, 48, 48, 48, 48, 48, 90] = none := by decide +kernel
theorem byv_litF (W : World) (l : Bs) (fz : Nat × Nat) (hl : l.length ≤ 1000) : ByV (W.alloc (.cells (u8sC l) 5 fz)) (fun b => b < (W.alloc (.cells (u8sC l) 5 fz)).heap.size) (some ⟨W.heap.size, 0, none⟩) l.length l := by
  refine ⟨Nat.le_refl _, by omega, fun _ => ⟨W.heap.size, 0, rfl, fun i hi => ?_⟩, fun a ha _ => by cases ha; rw [alloc_sz]; show W.heap.size < W.heap.size + 1; omega⟩
  rw [Nat.zero_add, cell_of_row _ W.heap.size i _ _ _ (heap_alloc_new W _)]
  simp [u8sC, List.getD, hi]
theorem byv_cellsF (W : World) (l : Bs) (cs : Array Value) (n : Nat) (fz : Nat × Nat) (hc : u8sC l = cs) (hn : l.length = n) (hl : n ≤ 1000) : ByV (W.alloc (.cells cs 5 fz)) (fun b => b < (W.alloc (.cells cs 5 fz)).heap.size) (some ⟨W.heap.size, 0, none⟩) n l := by
  subst hc hn
  exact byv_litF W l fz hl
theorem byv_cells (W : World) (l : Bs) (cs : Array Value) (n : Nat) (hc : u8sC l = cs) (hn : l.length = n) (hl : n ≤ 1000) : ByV (W.alloc (.cells cs 5)) (fun b => b < (W.alloc (.cells cs 5)).heap.size) (some ⟨W.heap.size, 0, none⟩) n l := by
  subst hc hn
  exact byv_lit W l hl
theorem conv_litT (cs : Array Value) (n : Nat) (hn : cs.size = n) (w : World) : (convert 39 39 (.slice (some ⟨w.heap.size, 0, none⟩) n n)).run Try.prog (w.alloc (.cells cs 5)) = .ok (.slice (some ⟨w.heap.size, 0, none⟩) n n) (w.alloc (.cells cs 5 (n, n + 1))) := by
  have hsh : (w.alloc (.cells cs 5)).shape? w.heap.size = some (5, n) := by
    unfold World.shape?
    rw [heap_alloc_new w]
    simp [hn]
  have hfr : (w.alloc (.cells cs 5)).freeze ⟨w.heap.size, n, none⟩ 1 = w.alloc (.cells cs 5 (n, n + 1)) := by
    simp only [World.freeze, World.alloc]
    simp only [Nat.one_ne_zero, if_false]
    congr 1
    apply Array.ext_getElem?
    intro i
    rw [Array.getElem?_modify]
    by_cases h : w.heap.size = i
    · subst h
      simp
    · have h' : ¬ i = w.heap.size := fun e => h e.symm
      simp [h, h', Array.getElem?_push]
  simp [convert, run_underlying Try.underlying39, run_underlying Try.underlying5, markStringish, hsh, hfr]
end Go.Proofs.Yticopomchoahnaa
/-
  The code's Seq; DerReads.
-/
namespace Go.Proofs.Yticopomchoahnaa
open Go.Shelf Go.RowKit
set_option linter.unusedVariables false
set_option linter.unusedSimpArgs false

theorem own_nil0 (w : World) : (w.alloc (.cells #[] 5)).ownsRow w.heap.size 5 1 (.slice (some ⟨w.heap.size, 0, none⟩) 0 0) 0 (Lib.byteCells []) := World.ownsRow_lit w #[] 0 (Nat.le_refl _) (Nat.zero_le _) (by simp)
theorem Pcs.mono {w : World} {B B' : Nat} {P Q : Nat → Prop} {v : Value} {l : List Pc} (h : Pcs w B P v l) (hB : B' ≤ B) (hPQ : ∀ g, P g → g < w.heap.size → Q g) : Pcs w B' Q v l :=
  ⟨⟨h.own.1, by
    rcases h.own.2 with h1 | ⟨g1, cap, cur, e1, h1, h2⟩
    · exact .inl h1
    · exact .inr ⟨g1, cap, cur, e1, by omega, h2⟩⟩, fun x hx => (h.at_ x hx).mono hPQ⟩
theorem Pcs.below {w w' : World} {B : Nat} {P : Nat → Prop} {v : Value} {l : List Pc} (h : Pcs w B P v l) (hb : Below w.heap.size w w') : Pcs w' B P v l :=
  ⟨owns_keep h.own (fun g hg => hb.block g (owns_lt h.own hg).2.1), fun x hx => (h.at_ x hx).keep (fun g _ hlt => hb.block g hlt)⟩
theorem ByV.below {w w' : World} {P : Nat → Prop} {p : Option Addr} {c : Nat} {l : Bs} (h : ByV w P p c l) (hb : Below w.heap.size w w') : ByV w' P p c l := h.keep (fun g _ hlt => hb.block g hlt)
/-- The pieces of a sequence, or the first fault. -/
def sqD (bs : Bs) : List (UInt8 × Bs) × Nat := match readD bs with
  | .error k => ([], k)
  | .ok ((t, b), r) => if t.toNat ≠ 48 ∨ 0 < r.length then ([], 30) else pcsD b
/-- What is answered, as one form. -/
def okP (R : List (UInt8 × Bs) × Nat) : List (UInt8 × Bs) := if R.2 = 0 then R.1 else []
theorem LsPost.uni {w w' : World} {P : World → Nat → Prop} {R : List (UInt8 × Bs) × Nat} {e : Ending} (h : LsPost w P R e w') : Below w.heap.size w w' ∧ ∃ l v, e = .returned (.tuple #[v, .int .i64 (R.2 : Int)]) ∧ pcsOf l = okP R ∧ Pcs w' w.heap.size (P w) v l ∧ (R.2 ≠ 0 → v = .slice none 0 0) := by
  obtain ⟨hb, (⟨h1, he⟩ | ⟨h1, l, v, h2, he, h3⟩)⟩ := h
  · exact ⟨hb, [], .slice none 0 0, he, by unfold okP; rw [if_neg h1]; rfl, ⟨World.ownsRow_nil _ _ _ _, fun x hx => by cases hx⟩, fun _ => rfl⟩
  · exact ⟨hb, l, v, by rw [h1]; exact he, by unfold okP; rw [if_pos h1]; exact h2, h3, fun h => absurd h1 h⟩
def spT : Except Nat ((UInt8 × Bs) × Bs) → Nat
  | .error _ => 0
  | .ok ((t, _), _) => t.toNat
def spB : Except Nat ((UInt8 × Bs) × Bs) → Bs
  | .error _ => []
  | .ok ((_, b), _) => b
def spR : Except Nat ((UInt8 × Bs) × Bs) → Bs
  | .error _ => []
  | .ok (_, r) => r
def spK : Except Nat ((UInt8 × Bs) × Bs) → Nat
  | .error k => k
  | .ok _ => 0
theorem SpPost.uni {w w' : World} {P : World → Nat → Prop} {R : Except Nat ((UInt8 × Bs) × Bs)} {e : Ending} (h : SpPost w P R e w') : Below w.heap.size w w' ∧ ∃ p1 c1 p2 c2, e = .returned (.tuple #[.agg #[.int .u8 (spT R : Int), .slice p1 (spB R).length c1], .slice p2 (spR R).length c2, .int .i64 (spK R : Int)]) ∧ ByV w' (P w) p1 c1 (spB R) ∧ ByV w' (P w) p2 c2 (spR R) := by
  obtain ⟨hb, (⟨t, b, r, p1, c1, p2, c2, rfl, he, h1, h2⟩ | ⟨k, rfl, he⟩)⟩ := h
  · exact ⟨hb, p1, c1, p2, c2, he, h1, h2⟩
  · exact ⟨hb, none, 0, none, 0, he, ByV.nil _ _, ByV.nil _ _⟩
set_option maxRecDepth 100000 in
set_option maxHeartbeats 4000000 in
/-- Seq. -/
theorem derSeq (p : Option Addr) (n c : Nat) (bs : Bs) (P : Nat → Prop) (w : World) (hn : bs.length = n) (h : ByV w P p c bs) :
    Calls Try.prog 40 #[.slice p n c] w (LsPost w (fun w b => w.heap.size ≤ b) (sqD bs)) := by
  have HSP := derSplit p n c bs (fun b => b < w.heap.size) w hn (h.mono (fun b _ hlt => hlt))
  clear h hn
  cases hr : readD bs with
  | error k =>
    rw [hr] at HSP
    have hk := read_err hr
    have hkb : ((k : Int) != 0) = true := by simp; omega
    have HR : Hid (sqD bs = ([], k) ∧ k ≠ 0) := ⟨by unfold sqD; rw [hr], by omega⟩
    clear hr hk
    go_enter Try.func40, Try.ntmps40
    go_wp2_with (go_at_call 70; refine HSP.mono ?_; intro e w2 hp; obtain ⟨hb2, he⟩ := hp.errx; subst he; clear hp HSP)
    go_ret2
    rw [HR.out.1]
    exact ⟨hb2.alloc hb2.size _, .inl ⟨HR.out.2, rfl⟩⟩
  | ok x =>
    obtain ⟨⟨t, b⟩, r⟩ := x
    rw [hr] at HSP
    have hlens := read_len hr
    obtain ⟨TN, hTN⟩ : ∃ T, t.toNat = T := ⟨_, rfl⟩
    obtain ⟨LB, hLB⟩ : ∃ T, b.length = T := ⟨_, rfl⟩
    obtain ⟨Lr, hLr⟩ : ∃ T, r.length = T := ⟨_, rfl⟩
    by_cases h48 : TN = 48 ∧ Lr = 0
    · obtain ⟨q1, q2⟩ := h48
      subst q1 q2
      have HR : Hid (sqD bs = pcsD b) := by show sqD bs = _; unfold sqD; rw [hr]; simp only []; rw [if_neg (by omega)]
      clear hr hlens
      have h48b : (((48 : Nat) : Int) != 48) = false := rfl
      go_enter Try.func40, Try.ntmps40
      go_wp2_with (first
        | (go_at_call 70; refine HSP.mono ?_; intro e w2 hp; obtain ⟨hb2, p1, c1, p2, c2, he, hv1, hv2⟩ := hp.okx; subst he; rw [hTN, hLB, hLr]; clear hp HSP hv2)
        | (go_at_call 71; refine (derList p1 LB c1 b _ _ hLB (hv1.below ((Below.refl _ _).alloc (Nat.le_refl _) _))).mono ?_; intro e w4 hp; obtain ⟨hb4, l4, v4, he, hl4, hp4, hn4⟩ := hp.uni; subst he; clear hp))
      go_ret2
      have hb3 : Below w.heap.size w (w2.alloc (.cells #[.int .u8 48, .slice p1 LB c1] 103)) := hb2.alloc hb2.size _
      refine ⟨hb3.trans (hb4.mono hb3.size), ?_⟩
      rw [HR.out]
      by_cases h0 : (pcsD b).2 = 0
      · refine .inr ⟨h0, l4, v4, ?_, by rw [h0]; rfl, hp4.mono hb3.size (fun g hg _ => Nat.le_trans hb3.size hg)⟩
        rw [hl4]
        unfold okP
        rw [if_pos h0]
      · refine .inl ⟨h0, ?_⟩
        rw [hn4 h0]
        rfl
    · have HR : Hid (sqD bs = ([], 30)) := by show sqD bs = _; unfold sqD; rw [hr]; simp only []; rw [if_pos (by omega)]
      clear hr hlens
      by_cases h4 : TN = 48
      · subst h4
        have hLI : (0 : Int) < (Lr : Int) := by omega
        have h48b : (((48 : Nat) : Int) != 48) = false := rfl
        go_enter Try.func40, Try.ntmps40
        go_wp2_with (go_at_call 70; refine HSP.mono ?_; intro e w2 hp; obtain ⟨hb2, p1, c1, p2, c2, he, hv1, hv2⟩ := hp.okx; subst he; rw [hTN, hLB, hLr]; clear hp HSP hv2)
        go_ret2
        rw [HR.out]
        exact ⟨hb2.alloc hb2.size _, .inl ⟨by omega, rfl⟩⟩
      · have h48b : ((TN : Int) != 48) = true := by simp; omega
        go_enter Try.func40, Try.ntmps40
        go_wp2_with (go_at_call 70; refine HSP.mono ?_; intro e w2 hp; obtain ⟨hb2, p1, c1, p2, c2, he, hv1, hv2⟩ := hp.okx; subst he; rw [hTN, hLB, hLr]; clear hp HSP hv2)
        go_ret2
        rw [HR.out]
        exact ⟨hb2.alloc hb2.size _, .inl ⟨by omega, rfl⟩⟩
end Go.Proofs.Yticopomchoahnaa
/-
  The code's Pair.
-/
namespace Go.Proofs.Yticopomchoahnaa
open Go.Shelf Go.RowKit
set_option linter.unusedVariables false
set_option linter.unusedSimpArgs false

theorem pairR_sq (bs : Bs) : pairR bs = pairOf (sqD bs) := by
  unfold pairR pieceR sqD
  cases hr : readD bs with
  | error k =>
    have := read_err hr
    simp only []
    unfold pairOf
    rw [if_pos (show (([], k) : List (UInt8 × Bs) × Nat).2 ≠ 0 by show k ≠ 0; omega)]
  | ok q =>
    obtain ⟨⟨t, b⟩, r⟩ := q
    simp only []
    by_cases ht : t.toNat = 48
    · rw [if_pos ht]
      simp only []
      by_cases h0 : 0 < r.length
      · rw [if_pos h0, if_pos (.inr h0)]
        rfl
      · rw [if_neg h0, if_neg (fun h => h.elim (fun h => h ht) h0)]
        exact two_of b
    · rw [if_neg ht, if_pos (.inl ht)]
      rfl
theorem allD_body : ∀ (m : Nat) (bs : Bs), ∀ x ∈ (allD m bs).1, x.2.length ≤ bs.length
  | 0, bs, x, hx => by cases hx
  | m + 1, bs, x, hx => by
    simp only [allD] at hx
    by_cases h0 : bs = []
    · rw [if_pos h0] at hx; cases hx
    rw [if_neg h0] at hx
    cases hr : readD bs with
    | error k => rw [hr] at hx; cases hx
    | ok q =>
      obtain ⟨⟨t, b⟩, r⟩ := q
      have h1 := read_len hr
      rw [hr] at hx
      simp only [List.mem_cons] at hx
      rcases hx with rfl | hx
      · show b.length ≤ bs.length; omega
      · have := allD_body m r x hx
        omega
theorem pcs_body (bs : Bs) : ∀ x ∈ (pcsD bs).1, x.2.length ≤ bs.length := allD_body _ bs
/-- A number without zeros above. -/
def Nc (w : World) (v : Value) (n : Int) (L : Nat) : Prop := ∃ ao len cap xs, v = .slice ao len cap ∧ NumIn .u64 B64 w ao len cap xs ∧ Canon xs ∧ val B64 xs = n ∧ len ≤ L
theorem Nc.old {w w' : World} {v : Value} {n : Int} {L : Nat} (h : Nc w v n L) (hb : Below w.heap.size w w') : Nc w' v n L := by
  obtain ⟨ao, len, cap, xs, e, h1, h2⟩ := h
  exact ⟨ao, len, cap, xs, e, h1.old hb, h2⟩
theorem Nc.nv {w : World} {v : Value} {n : Int} {L : Nat} (h : Nc w v n L) : Nv w v n L := by
  obtain ⟨ao, len, cap, xs, e, h1, h2, h3, h4⟩ := h
  exact ⟨ao, len, cap, xs, e, h1, h3, h4⟩
/-- der.Int, in one form. -/
theorem derIntO (t : Nat) (ht : t < 256) (p : Option Addr) (n c : Nat) (l : Bs) (P : Nat → Prop) (w : World) (hl : l.length = n) (h : ByV w P p c l) (hn : n ≤ 1000000) :
    Calls Try.prog 41 #[.agg #[.int .u8 (t : Int), .slice p n c]] w fun e w' => ∃ a m k kk, e = .returned (.tuple #[.slice a m k, .int .i64 (kk : Int)]) ∧ Below w.heap.size w w' ∧ ((intO t l = none ∧ kk ≠ (0 : Nat)) ∨ ∃ x, intO t l = some x ∧ kk = 0 ∧ Nc w' (.slice a m k) (nI x) 64) := by
  refine (derInt t ht p n c l P w hl h hn).mono ?_
  rintro e w' ⟨hb, (⟨h1, rfl⟩ | ⟨x, h1, h2, (⟨h3, rfl⟩ | ⟨h3, v, rfl, h4⟩)⟩)⟩
  · refine ⟨none, 0, 0, 30, rfl, hb, .inl ⟨?_, by omega⟩⟩
    unfold intO
    by_cases h2 : t = 2
    · rw [if_pos h2]
      rcases h1 with h1 | h1
      · exact absurd h2 h1
      · rw [h1]
    · rw [if_neg h2]
  · refine ⟨none, 0, 0, 3, rfl, hb, .inl ⟨?_, by omega⟩⟩
    unfold intO
    rw [if_pos h1, h2]
    simp only []
    rw [if_pos h3]
  · obtain ⟨a, m, k, xs, rfl, g1, g2, g3, g4, g5⟩ := h4
    refine ⟨a, m, k, 0, rfl, hb, .inr ⟨x, ?_, rfl, ⟨a, m, k, xs, rfl, g1, g2, g3, g4⟩⟩⟩
    unfold intO
    rw [if_pos h1, h2]
    simp only []
    rw [if_neg (by omega)]
/-- What Pair answers. -/
def SgPost (w : World) (R : Option (Bs × Bs)) (e : Ending) (w' : World) : Prop :=
  Below w.heap.size w w' ∧ ((R = none ∧ e = .returned (.tuple #[.slice none 0 0, .slice none 0 0, .int .i64 43])) ∨ ∃ x y a1 l1 k1 a2 l2 k2, R = some (x, y) ∧ e = .returned (.tuple #[.slice a1 l1 k1, .slice a2 l2 k2, .int .i64 0]) ∧ Nc w' (.slice a1 l1 k1) (nI x) 64 ∧ Nc w' (.slice a2 l2 k2) (nI y) 64)
set_option maxRecDepth 100000 in
set_option maxHeartbeats 8000000 in
/-- Pair. -/
theorem sPair (p : Option Addr) (n c : Nat) (bs : Bs) (P : Nat → Prop) (w : World) (hn : bs.length = n) (h : ByV w P p c bs) (hn2 : n ≤ 100000) :
    Calls Try.prog 16 #[.slice p n c] w (SgPost w (pairR bs)) := by
  have HSQ : Calls Try.prog 40 #[.slice p n c] w fun e w2 => Below w.heap.size w w2 ∧ ∃ l m p1 c1, e = .returned (.tuple #[.slice p1 m c1, .int .i64 ((sqD bs).2 : Int)]) ∧ l.length = m ∧ pcsOf l = okP (sqD bs) ∧ Pcs w2 w.heap.size (fun b => w.heap.size ≤ b) (.slice p1 m c1) l := by
    refine (derSeq p n c bs P w hn h).mono ?_
    rintro e w2 hp
    obtain ⟨hb, l, v, rfl, h1, h2, -⟩ := hp.uni
    obtain ⟨p1, c1, rfl⟩ := owns_slice h2.own
    exact ⟨hb, l, l.length, p1, c1, rfl, rfl, h1, h2⟩
  rw [pairR_sq]
  have hlb : ∀ x ∈ (sqD bs).1, x.2.length ≤ 100000 := fun x hx => by
    unfold sqD at hx
    cases hr : readD bs with
    | error k => rw [hr] at hx; cases hx
    | ok q =>
      obtain ⟨⟨t, b⟩, r⟩ := q
      have h1 := read_len hr
      rw [hr] at hx
      simp only [] at hx
      by_cases h0 : t.toNat ≠ 48 ∨ 0 < r.length
      · rw [if_pos h0] at hx; cases hx
      · rw [if_neg h0] at hx
        have := pcs_body b x hx
        omega
  generalize sqD bs = S at *
  clear h hn
  have HBAD : Hid (pairOf S = none → ∀ W, Below w.heap.size w W → SgPost w (pairOf S) (.returned (.tuple #[.slice none 0 0, .slice none 0 0, .int .i64 43])) W) := fun hk W hW => ⟨hW, .inl ⟨hk, rfl⟩⟩
  obtain ⟨S1, S2⟩ := S
  simp only at HSQ hlb
  by_cases h0 : S2 = 0
  rotate_left
  · have h0b : ((S2 : Int) != 0) = true := by simp; omega
    have HR : Hid (pairOf (S1, S2) = none) := by show pairOf _ = _; unfold pairOf; rw [if_pos h0]
    clear h0 hlb
    go_enter Try.func16, Try.ntmps16
    go_wp2_with fail
    refine HSQ.mono ?_
    rintro e w2 ⟨hb2, l, m, p1, c1, rfl, -, -, -⟩
    clear HSQ
    go_wp2_with fail
    go_ret3
    exact HBAD.out HR.out _ hb2
  subst h0
  have h0b : (((0 : Nat) : Int) != 0) = false := rfl
  by_cases h2 : S1.length = 2
  rotate_left
  · have HR : Hid (pairOf (S1, 0) = none) := by
      show pairOf _ = _
      unfold pairOf
      rw [if_neg (by simp)]
      match S1, h2 with
      | [], _ => rfl
      | [_], _ => rfl
      | [_, _], h2 => exact absurd rfl h2
      | _ :: _ :: _ :: _, _ => rfl
    have HLN : Hid (S1.length ≠ 2) := h2
    clear h2 hlb
    go_enter Try.func16, Try.ntmps16
    go_wp2_with fail
    refine HSQ.mono ?_
    rintro e w2 ⟨hb2, l, m, p1, c1, rfl, hlm, hpc, -⟩
    have hm2 : m ≠ 2 := fun e => by
      have h3 := congrArg List.length hpc
      unfold okP pcsOf at h3
      rw [if_pos rfl, List.length_map, hlm, e] at h3
      exact HLN.out h3.symm
    have hmb : ((m : Int) != 2) = true := by simp; omega
    clear HSQ hpc hlm hm2
    go_wp2_with fail
    go_ret3
    exact HBAD.out HR.out _ hb2
  obtain ⟨⟨t1, b1⟩, ⟨t2, b2⟩, rfl⟩ : ∃ x y, S1 = [x, y] := by
    match S1, h2 with
    | [x, y], _ => exact ⟨x, y, rfl⟩
  have hl1 := hlb (t1, b1) (by simp)
  have hl2 := hlb (t2, b2) (by simp)
  simp only at hl1 hl2
  have ht1 := t1.toNat_lt
  have ht2 := t2.toNat_lt
  obtain ⟨T1, hT1⟩ : ∃ T, t1.toNat = T := ⟨_, rfl⟩
  obtain ⟨T2, hT2⟩ : ∃ T, t2.toNat = T := ⟨_, rfl⟩
  obtain ⟨L1, hL1⟩ : ∃ T, b1.length = T := ⟨_, rfl⟩
  obtain ⟨L2, hL2⟩ : ∃ T, b2.length = T := ⟨_, rfl⟩
  have HSR : Calls Try.prog 40 #[.slice p n c] w fun e w2 => Below w.heap.size w w2 ∧ ∃ g c1 q1 d1 q2 d2, e = .returned (.tuple #[.slice (some ⟨g, 0, none⟩) 2 c1, .int .i64 0]) ∧ w2.cell? ⟨g, 0, none⟩ = some (.int .u8 (T1 : Int)) ∧ w2.cell? ⟨g, 1, none⟩ = some (.slice q1 L1 d1) ∧ w2.cell? ⟨g, 2, none⟩ = some (.int .u8 (T2 : Int)) ∧ w2.cell? ⟨g, 3, none⟩ = some (.slice q2 L2 d2) ∧ ByV w2 (fun b => w.heap.size ≤ b) q1 d1 b1 ∧ ByV w2 (fun b => w.heap.size ≤ b) q2 d2 b2 ∧ 2 ≤ c1 ∧ c1 ≤ maxLen ∧ g < w2.heap.size := by
    refine HSQ.mono ?_
    rintro e w2 ⟨hb2, l, m, p1, c1, rfl, hlm, hpc, hps⟩
    unfold okP at hpc
    rw [if_pos rfl] at hpc
    simp only at hpc
    obtain ⟨x1, x2, rfl⟩ : ∃ x y, l = [x, y] := by
      have h3 := congrArg List.length hpc
      unfold pcsOf at h3
      rw [List.length_map] at h3
      match l, h3 with
      | [x, y], _ => exact ⟨x, y, rfl⟩
    simp only [pcsOf, List.map_cons, List.map_nil, List.cons.injEq, Prod.mk.injEq, and_true] at hpc
    obtain ⟨⟨e1, e2⟩, e3, e4⟩ := hpc
    obtain rfl : m = 2 := by rw [← hlm]; rfl
    have hm1 : ∃ g, p1 = some ⟨g, 0, none⟩ ∧ 2 ≤ c1 ∧ c1 ≤ maxLen ∧ g < w2.heap.size := by
      rcases hps.own.2 with ⟨_, h0⟩ | ⟨g, cap, cur, e, h5, h6, h7, h8, _⟩
      · simp at h0
      · injection e with e5 e6 e7
        subst e7
        exact ⟨g, e5, h7, h8, (Array.getElem?_eq_some_iff.1 h6).1⟩
    obtain ⟨g, rfl, k1, k2, k3⟩ := hm1
    have a1 := own_pc hps.own rfl 0 x1 rfl
    have a2 := own_pc hps.own rfl 1 x2 rfl
    have v1 := hps.at_ x1 (by simp)
    have v2 := hps.at_ x2 (by simp)
    rw [e1, e2, hT1, hL1] at a1
    rw [e3, e4, hT2, hL2] at a2
    rw [e2] at v1
    rw [e4] at v2
    exact ⟨hb2, g, c1, x1.p, x1.c, x2.p, x2.c, rfl, a1.1, a1.2, a2.1, a2.2, v1, v2, k1, k2, k3⟩
  have HPO : Hid (pairOf ([(t1, b1), (t2, b2)], 0) = (match intO T1 b1 with
    | none => none
    | some x => match intO T2 b2 with
      | none => none
      | some y => some (x, y))) := by rw [← hT1, ← hT2]; rfl
  have HL : Hid (b1.length = L1 ∧ b2.length = L2 ∧ L1 ≤ 100000 ∧ L2 ≤ 100000 ∧ T1 < 256 ∧ T2 < 256) := ⟨hL1, hL2, by omega, by omega, by omega, by omega⟩
  clear HSQ hlb h2 ht1 ht2 hT1 hT2 hL1 hL2 hl1 hl2
  go_enter Try.func16, Try.ntmps16
  go_wp2_with fail
  refine HSR.mono ?_
  rintro e w2 ⟨hb2, g, c1, q1, d1, q2, d2, rfl, x0, x1, x2, x3, v1, v2, hc1, hc2, hg⟩
  have HI1 := derIntO T1 HL.out.2.2.2.2.1 q1 L1 d1 b1 _ w2 HL.out.1 v1 (by have := HL.out; omega)
  have HB2 : Hid (Below w.heap.size w w2 ∧ ByV w2 (fun b => w.heap.size ≤ b) q2 d2 b2 ∧ g < w2.heap.size ∧ w2.cell? ⟨g, 2, none⟩ = some (.int .u8 (T2 : Int)) ∧ w2.cell? ⟨g, 3, none⟩ = some (.slice q2 L2 d2)) := ⟨hb2, v2, hg, x2, x3⟩
  have hcI : (2 : Int) ≤ (c1 : Int) := by omega
  unfold maxLen at hc2
  clear HSR v1 v2 hb2 hg
  go_wp2_with fail
  refine HI1.mono ?_
  rintro e w3 ⟨n1, n2, n3, kk1, rfl, hb3, hc⟩
  clear HI1 x0 x1 x2 x3
  have v2 := HB2.out.2.1.below hb3
  have x2 := (hb3.cell (p := ⟨g, 2, none⟩) HB2.out.2.2.1).trans HB2.out.2.2.2.1
  have x3 := (hb3.cell (p := ⟨g, 3, none⟩) HB2.out.2.2.1).trans HB2.out.2.2.2.2
  have HI2 := derIntO T2 HL.out.2.2.2.2.2 q2 L2 d2 b2 _ w3 HL.out.2.1 v2 (by have := HL.out; omega)
  have HB3 : Hid (Below w.heap.size w w3 ∧ ((intO T1 b1 = none ∧ kk1 ≠ (0 : Nat)) ∨ ∃ x, intO T1 b1 = some x ∧ kk1 = 0 ∧ Nc w3 (.slice n1 n2 n3) (nI x) 64)) := ⟨HB2.out.1.trans (hb3.mono HB2.out.1.size), hc⟩
  clear v2 hb3 hc HB2
  go_wp2_with fail
  refine HI2.mono ?_
  rintro e w4 ⟨m1, m2, m3, kk2, rfl, hb4, hc4⟩
  clear HI2 x2 x3
  have HB4 : Hid (Below w.heap.size w w4) := HB3.out.1.trans (hb4.mono HB3.out.1.size)
  rcases HB3.out.2 with ⟨h5, h6⟩ | ⟨x, h5, h6, h7⟩
  · have h6b : ((kk1 : Int) != 0) = true := by simp; omega
    have HR : Hid (pairOf ([(t1, b1), (t2, b2)], 0) = none) := by show pairOf _ = _; rw [HPO.out, h5]
    clear hc4 hb4 h5 h6
    go_wp2_with fail
    go_ret3
    exact HBAD.out HR.out _ HB4.out
  · subst h6
    have h6b : (((0 : Nat) : Int) != 0) = false := rfl
    rcases hc4 with ⟨h8, h9⟩ | ⟨y, h8, h9, h10⟩
    · have h9b : ((kk2 : Int) != 0) = true := by simp; omega
      have HR : Hid (pairOf ([(t1, b1), (t2, b2)], 0) = none) := by
        show pairOf _ = _
        rw [HPO.out, h5]
        simp only []
        rw [h8]
      clear hb4 h5 h7 h8 h9
      go_wp2_with fail
      go_ret3
      exact HBAD.out HR.out _ HB4.out
    · subst h9
      have HFIN : Hid (SgPost w (pairOf ([(t1, b1), (t2, b2)], 0)) (.returned (.tuple #[.slice n1 n2 n3, .slice m1 m2 m3, .int .i64 0])) w4) := by
        refine ⟨HB4.out, .inr ⟨x, y, _, _, _, _, _, _, ?_, rfl, h7.old hb4, h10⟩⟩
        rw [HPO.out, h5]
        simp only []
        rw [h8]
      clear hb4 h5 h7 h8 h10
      go_wp2_with fail
      go_ret3
      exact HFIN.out
end Go.Proofs.Yticopomchoahnaa
/-
  A slice of the call's own, at a known block (it stood in ShaF).
-/
namespace Go.Proofs.Yticopomchoahnaa
open Go.Shelf Go.RowKit
set_option linter.unusedVariables false
set_option linter.unusedSimpArgs false

/-- A slice of the call's own, at a known block. -/
structure OwnAt (e : TypeId) (k : IntKind) (w : World) (g cap : Nat) (xs : List Int) : Prop where
  blk : ∃ cur : Array Value, w.heap[g]? = some (.cells cur e (0, 0)) ∧ cur.toList.take xs.length = xs.map (Value.int k) ∧ cur.size = cap
  lc : xs.length ≤ cap
  cm : cap ≤ maxLen
theorem OwnAt.lt {e : TypeId} {k : IntKind} {w : World} {g cap : Nat} {xs : List Int} (h : OwnAt e k w g cap xs) : g < w.heap.size := by
  obtain ⟨cur, h1, _⟩ := h.blk
  exact (Array.getElem?_eq_some_iff.1 h1).1
theorem OwnAt.kept {e : TypeId} {k : IntKind} {w w' : World} {g cap : Nat} {xs : List Int} (h : OwnAt e k w g cap xs) (hk : w'.heap[g]? = w.heap[g]?) : OwnAt e k w' g cap xs := ⟨by rw [hk]; exact h.blk, h.lc, h.cm⟩
theorem OwnAt.below {e : TypeId} {k : IntKind} {w w' : World} {g cap B : Nat} {xs : List Int} (h : OwnAt e k w g cap xs) (hb : Below B w w') (hg : g < B) : OwnAt e k w' g cap xs := h.kept (hb.block g hg)
theorem OwnAt.cell {e : TypeId} {k : IntKind} {w : World} {g cap : Nat} {xs : List Int} (h : OwnAt e k w g cap xs) (j : Nat) (hj : j < xs.length) : w.cell? ⟨g, j, none⟩ = some (.int k (xs.getD j 0)) := by
  obtain ⟨cur, h1, h2, h3⟩ := h.blk
  rw [cell_of_row w g j cur e (0, 0) h1]
  have : (cur.toList.take xs.length)[j]? = (xs.map (Value.int k))[j]? := by rw [h2]
  rw [List.getElem?_take, if_pos hj] at this
  rw [← Array.getElem?_toList, this]
  simp [List.getD, hj]
theorem OwnAt.frozen {e : TypeId} {k : IntKind} {w : World} {g cap : Nat} {xs : List Int} (h : OwnAt e k w g cap xs) (j : Nat) : w.frozen? ⟨g, j, none⟩ = false := by
  obtain ⟨cur, h1, _⟩ := h.blk
  exact frozen_of_row w g j cur e h1
theorem OwnAt.lies {e : TypeId} {k : IntKind} {w : World} {g cap : Nat} {xs : List Int} (h : OwnAt e k w g cap xs) {n : Nat} (hn : xs.length = n) : Lies k w (some ⟨g, 0, none⟩) n xs :=
  ⟨hn, .inr ⟨g, 0, rfl, h.lt, fun i hi => by rw [Nat.zero_add]; exact h.cell i (by omega)⟩⟩
theorem OwnAt.set {e : TypeId} {k : IntKind} {w : World} {g cap : Nat} {xs : List Int} (h : OwnAt e k w g cap xs) (j : Nat) (hj : j < xs.length) (y : Int) : OwnAt e k (w.setCell ⟨g, j, none⟩ (.int k y)) g cap (xs.set j y) := by
  obtain ⟨cur, h1, h2, h3⟩ := h.blk
  refine ⟨⟨cur.setIfInBounds j (.int k y), heap_setCell_same w g j cur e _ h1, ?_, by simpa using h3⟩, by simpa using h.lc, h.cm⟩
  rw [List.length_set, Array.toList_setIfInBounds, List.take_set, h2, List.map_set]
theorem Own.at {e : TypeId} {k : IntKind} {w : World} {base : Nat} {v : Value} {xs : List Int} (h : Own e k w base v xs) (hx : 0 < xs.length) : ∃ g cap, v = .slice (some ⟨g, 0, none⟩) xs.length cap ∧ OwnAt e k w g cap xs ∧ base ≤ g := by
  rcases h.2 with ⟨rfl, h0⟩ | ⟨g, cap, cur, rfl, hg, hrow, h1, h2, h3, h4⟩
  · omega
  · exact ⟨g, cap, rfl, ⟨⟨cur, hrow, by simpa using h4, by simpa using h3⟩, h1, h2⟩, hg⟩

end Go.Proofs.Yticopomchoahnaa
/-
  Bytes appended in a region that draws; a byte turned.
-/
namespace Go.Proofs.Yticopomchoahnaa
open Go.Shelf Go.RowKit
set_option linter.unusedVariables false
set_option linter.unusedSimpArgs false

set_option maxRecDepth 100000 in
/-- append(out, src...) of bytes as numbers, in a region that draws. -/
theorem step_append_n8 {w : World} {ops : Array Oper} {o : Oper} {a : Act} {K : Act → World → Prop} {Q : Exit → Act → World → Prop} {E : Prop} (hw : Region.wanted o (yielded ops a.tmps) = true) (s x : Operand)
    (ho : o.op = .call { callee := .builtin .append, args := #[s, x], argTypes := #[39, 39] }) (base : Nat) (v : Value) (hs : a.eval s = v) (xs : List Int) (hown : Own 5 .u8 w base v xs) (ao : Option Addr) (m c : Nat) (ys : List Int) (hx : a.eval x = .slice ao m c) (hy : Lies .u8 w ao m ys) (hlen : xs.length + m ≤ 100000000) (hbase : base ≤ w.heap.size)
    (h : ∀ v' w', Own 5 .u8 w' base v' (xs ++ ys) → w.grownBy w' v.ownBlock → K (a.put o.dst v') w') : if Region.wanted o (yielded ops a.tmps) = true then Oper.wp Try.prog o a w K Q else E := by
  rw [if_pos hw]
  obtain ⟨i0, hi0, hz0, hz1, hz2⟩ := info_parts infoU8
  have hl := hy.len
  cases ao with
  | none =>
    have h0 : m = 0 := by
      rcases hy.2 with h | ⟨b, off, e, _⟩
      · exact h
      · cases e
    subst h0
    have : ys = [] := List.eq_nil_of_length_eq_zero hl
    subst this
    have hrun := run_append_nilc (w := w) base o.type v xs.length c _ hown
    unfold Oper.wp
    simp [execOp, ho, resolve, invoke, builtin, hs, hx, hrun, Result.andThen]
    exact h v w (by rw [List.append_nil]; exact hown) ⟨rfl, rfl, rfl, Nat.le_refl _, fun _ _ _ => rfl⟩
  | some ad =>
    obtain ⟨v', w', hrun, h2, h3, _, h5⟩ := run_append_own_at (P := Try.prog) w base 39 o.type 5 i0 (.int .u8 0) 1 1 Try.underlying39 hi0 hz0 hz1 hz2 rfl (by decide) v xs.length (xs.map (Value.int .u8)) hown ad m c (ys.map (Value.int .u8)) (by simp [hl]) (by
      intro j u hj
      simp only [List.getElem?_map] at hj
      by_cases hjm : j < ys.length
      · obtain ⟨b, off, e', hlt, hc⟩ := hy.at (by omega)
        injection e' with e'
        subst e'
        have := hc j (by omega)
        rw [List.getElem?_eq_getElem hjm] at hj
        simp only [Option.map_some, Option.some.injEq] at hj
        rw [add_none, this, ← hj]
        simp [List.getD, List.getElem?_eq_getElem hjm]
      · rw [List.getElem?_eq_none (by omega)] at hj
        simp at hj) (by intro u hu; obtain ⟨x, _, rfl⟩ := List.mem_map.1 hu; rfl) (by unfold maxLen; omega) (by omega) hbase
    unfold Oper.wp
    simp only [execOp, ho, resolve, invoke, builtin, Sem.run_bind, Sem.run_pure, Result.andThen_ok, List.map_toArray, List.map_cons, List.map_nil, hs, hx, hrun]
    refine h v' w' ?_ h3
    unfold Own
    rw [List.length_append, List.map_append, hl]
    exact h2
set_option maxRecDepth 100000 in
theorem xor8b : ∀ x : Nat, x < 256 → ∀ b : Nat, b < 8 → 0 ≤ bits .xor .u8 (x : Int) (2 ^ b) ∧ bits .xor .u8 (x : Int) (2 ^ b) < 256 := by decide +kernel
theorem xor8z {x : Int} (h : 0 ≤ x ∧ x < 256) {b : Nat} (hb : b < 8) : 0 ≤ bits .xor .u8 x (2 ^ b) ∧ bits .xor .u8 x (2 ^ b) < 256 := by
  obtain ⟨n, rfl⟩ := Int.eq_ofNat_of_zero_le h.1
  exact xor8b n (by omega) b hb
theorem OwnAt.num {w : World} {g cap : Nat} {xs : List Int} (h : OwnAt 5 .u8 w g cap xs) {n : Nat} (hn : xs.length = n) (hd : Dg 256 xs) (hs : n ≤ 1000) : NumIn .u8 256 w (some ⟨g, 0, none⟩) n cap xs :=
  ⟨h.lies hn, by have := h.lc; omega, h.cm, fun h => (by cases h), hd, by omega⟩
end Go.Proofs.Yticopomchoahnaa
/-
  Numbers as bytes (they stood in XD).
-/
namespace Go.Proofs.Yticopomchoahnaa
open Go.Shelf Go.RowKit
set_option linter.unusedVariables false
set_option linter.unusedSimpArgs false

/-- Numbers as bytes. -/
def toB (zs : List Int) : Bs := zs.map fun z => UInt8.ofNat z.toNat
theorem toB_len (zs : List Int) : (toB zs).length = zs.length := by simp [toB]
theorem row_bat {w : World} {g n : Nat} {zs : List Int} (h : Row 5 .u8 w g zs) (hl : zs.length = n) (hd : Dg 256 zs) : BAt w (some ⟨g, 0, none⟩) n (toB zs) := by
  intro h0
  refine ⟨g, 0, rfl, fun i hi => ?_⟩
  unfold Row at h
  rw [Nat.zero_add, cell_of_row w g i _ _ _ h]
  have hi' : i < zs.length := by omega
  have hz := hd zs[i] (List.getElem_mem hi')
  simp [toB, List.getD, hi']
  omega
theorem own_made {w : World} {g n : Nat} {zs : List Int} {base : Nat} (h : Row 5 .u8 w g zs) (hl : zs.length = n) (hd : Dg 256 zs) (hb : base ≤ g) (hn : n ≤ 1000000) : w.ownsRow base 5 1 (.slice (some ⟨g, 0, none⟩) n n) n (Lib.byteCells (toB zs)) := by
  have hc : Lib.byteCells (toB zs) = zs.map (Value.int .u8) := by
    unfold Lib.byteCells toB
    rw [List.map_map]
    apply List.map_congr_left
    intro z hz
    have := hd z hz
    simp
    omega
  refine ⟨by rw [hc, List.length_map, hl, Nat.mul_one], .inr ⟨g, n, _, rfl, hb, h, Nat.le_refl _, by unfold maxLen; omega, by simp [hl], by rw [hc, Nat.mul_one]; exact List.take_of_length_le (by simp [hl])⟩⟩
theorem blen_room (V : Int) (h0 : 0 ≤ V) : V < 256 ^ ((blen V.toNat + 7) / 8) := by
  have h1 := blen_lt V.toNat
  have h2 : 2 ^ blen V.toNat ≤ 256 ^ ((blen V.toNat + 7) / 8) := by
    rw [show (256 : Nat) = 2 ^ 8 from rfl, ← Nat.pow_mul]
    exact Nat.pow_le_pow_right (by omega) (by omega)
  have h3 : V.toNat < 256 ^ ((blen V.toNat + 7) / 8) := Nat.lt_of_lt_of_le h1 h2
  have h4 : ((256 ^ ((blen V.toNat + 7) / 8) : Nat) : Int) = 256 ^ ((blen V.toNat + 7) / 8) := by simp
  omega
end Go.Proofs.Yticopomchoahnaa
/-
  The signer's Turned: bytes with some turned.
-/
namespace Go.Proofs.Yticopomchoahnaa
open Go.Shelf Go.RowKit
set_option linter.unusedVariables false
set_option linter.unusedSimpArgs false

theorem u8_powT (b : Nat) (h : b < 8) : IntKind.u8.wrap (2 ^ b) = 2 ^ b := by
  have h1 : ∀ b, b < 8 → IntKind.u8.wrap (2 ^ b) = 2 ^ b := by decide
  exact h1 b h
theorem OwnAt.own {w : World} {g cap base : Nat} {xs : List Int} (h : OwnAt 5 .u8 w g cap xs) (hb : base ≤ g) : Own 5 .u8 w base (.slice (some ⟨g, 0, none⟩) xs.length cap) xs := by
  obtain ⟨cur, h1, h2, h3⟩ := h.blk
  refine ⟨by simp, .inr ⟨g, cap, cur, rfl, hb, h1, h.lc, h.cm, by simpa using h3, ?_⟩⟩
  simp only [Nat.mul_one]
  exact h2
set_option maxRecDepth 100000 in
set_option maxHeartbeats 8000000 in
/-- Turned. -/
theorem hTurned (p : Option Addr) (n c : Nat) (bs : List Int) (pa : Option Addr) (na ca : Nat) (azs : List Int) (pb : Option Addr) (nb cb : Nat) (ds : List Int) (w : World) (h : NumIn .u8 256 w p n c bs) (hn : n ≤ 100000) (ha : Lies .i64 w pa na azs) (hac : na ≤ ca) (hcm : ca ≤ maxLen) (hda : ∀ x ∈ azs, -9223372036854775808 ≤ x ∧ x ≤ 9223372036854775807) (hb : Lies .u8 w pb nb ds) (hbc : nb ≤ cb) (hcm2 : cb ≤ maxLen) (hdb : Dg 256 ds) :
    Calls Try.prog 14 #[.slice p n c, .slice pa na ca, .slice pb nb cb] w fun e w' => ∃ q d zs, e = .returned (.slice q n d) ∧ Own 5 .u8 w' w.heap.size (.slice q n d) zs ∧ zs.length = n ∧ Dg 256 zs ∧ Below w.heap.size w w' := by
  have hl := h.lies.len
  have hl1 : ([] : List Int).length + n ≤ 1073741824 := by simp; omega
  unfold maxLen at hcm hcm2
  have HH : Hid (NumIn .u8 256 w p n c bs ∧ Lies .i64 w pa na azs ∧ Lies .u8 w pb nb ds ∧ Dg 256 ds ∧ (∀ x ∈ azs, -9223372036854775808 ≤ x ∧ x ≤ 9223372036854775807)) := ⟨h, ha, hb, hdb, hda⟩
  have HBL : Hid (bs.length = n) := hl
  clear h ha hb hdb hda hl
  go_enter Try.func14, Try.ntmps14
  go_wp2_with (at_builtin; refine wpList_append_nums rfl _ _ 39 rfl 5 .u8 1 Try.underlying39 Try.infoB w.heap.size (.slice (some ⟨w.heap.size, 0, none⟩) 0 0) [] (by rfl) (own_lit0 5 .u8 w w.heap.size (Nat.le_refl _)) p n c bs (by rfl) ((HH.out.1.old ((Below.refl _ _).alloc (Nat.le_refl _) _)).lies) HH.out.1.nn hl1 (by decide) w ((Below.refl _ _).alloc (Nat.le_refl _) _) (by simp) ?_; intro v8 w8 hown8 hb8 hk8 hs8; rw [List.nil_append] at hown8; obtain ⟨ta, tc, rfl, htn⟩ := hown8.num HH.out.1.dg (by rw [HBL.out]; exact HH.out.1.sm); rw [HBL.out] at hown8; clear hk8 hs8 htn; rw [HBL.out])
  have HO : Hid (Own 5 .u8 w8 w.heap.size (.slice ta n tc) bs ∧ Below w.heap.size w w8) := ⟨hown8, hb8⟩
  clear hown8 hb8
  go_loopw [8] (fun v8 wr => ∃ (i : Nat) (zs : List Int), i ≤ 4 ∧ v8 = .int .i64 (i : Int) ∧ Own 5 .u8 wr w.heap.size (.slice ta n tc) zs ∧ zs.length = n ∧ Dg 256 zs ∧ Below w.heap.size w wr) (fun v8 _ => 4 - (intOf v8).toNat)
  case atStart => exact ⟨0, bs, by omega, rfl, HO.out.1, HBL.out, HH.out.1.dg, HO.out.2⟩
  case round =>
    obtain ⟨i, zs, hi, rfl, hown, hzl, hzd, hbr⟩ := hrel
    have HR : Hid (Own 5 .u8 wr w.heap.size (.slice ta n tc) zs ∧ zs.length = n ∧ Dg 256 zs ∧ Below w.heap.size w wr) := ⟨hown, hzl, hzd, hbr⟩
    clear hown hzl hzd hbr
    have HEND : Hid (∃ q d zs, Ending.returned (.slice ta n tc) = .returned (.slice q n d) ∧ Own 5 .u8 wr w.heap.size (.slice q n d) zs ∧ zs.length = n ∧ Dg 256 zs ∧ Below w.heap.size w wr) := ⟨ta, tc, zs, rfl, HR.out⟩
    by_cases q1 : i < na
    rotate_left
    · have q1I : decide ((i : Int) < (na : Int)) = false := decide_eq_false (by omega)
      go_wp2_with fail
      go_ret
      exact HEND.out
    have q1I : decide ((i : Int) < (na : Int)) = true := decide_eq_true (by omega)
    by_cases q2 : i < nb
    rotate_left
    · have q2I : decide ((i : Int) < (nb : Int)) = false := decide_eq_false (by omega)
      go_wp2_with fail
      go_ret
      exact HEND.out
    have q2I : decide ((i : Int) < (nb : Int)) = true := decide_eq_true (by omega)
    by_cases q3 : i < 4
    rotate_left
    · have q3I : decide ((i : Int) < 4) = false := decide_eq_false (by omega)
      go_wp2_with fail
      go_ret
      exact HEND.out
    have q3I : decide ((i : Int) < 4) = true := decide_eq_true (by omega)
    by_cases q4 : 0 < n
    rotate_left
    · have q4I : decide ((0 : Int) < (n : Int)) = false := decide_eq_false (by omega)
      go_wp2_with fail
      go_ret
      exact HEND.out
    have q4I : decide ((0 : Int) < (n : Int)) = true := decide_eq_true (by omega)
    obtain ⟨g, cap, hv, hat, hgb⟩ := HR.out.1.at (by rw [HR.out.2.1]; exact q4)
    rw [HR.out.2.1] at hv
    injection hv with hv1 hv2 hv3
    subst hv1 hv3
    clear hv2
    have B0 := HR.out.2.2.2
    obtain ⟨ba, oa, rfl, hba, hca⟩ := HH.out.2.1.at (by omega)
    obtain ⟨bb, ob, rfl, hbb, hcb⟩ := HH.out.2.2.1.at (by omega)
    have ka := (B0.cell (p := ⟨ba, oa + i, none⟩) hba).trans (hca i q1)
    have kb := (B0.cell (p := ⟨bb, ob + i, none⟩) hbb).trans (hcb i q2)
    have hy0 := HH.out.2.2.2.1.getD (by decide) i
    obtain ⟨x, hx⟩ : ∃ x, azs.getD i 0 = x := ⟨_, rfl⟩
    obtain ⟨y, hy⟩ : ∃ y, ds.getD i 0 = y := ⟨_, rfl⟩
    rw [hx] at ka
    rw [hy] at kb hy0
    obtain ⟨U, hU⟩ : ∃ U, IntKind.u64.wrap x = U := ⟨_, rfl⟩
    have hU0 : 0 ≤ U ∧ U < 18446744073709551616 := by rw [← hU]; simp [IntKind.wrap, IntKind.bits, IntKind.signed]; omega
    have n0I : (0 : Int) < (n : Int) := by omega
    obtain ⟨k, hk, hkn⟩ : ∃ k : Nat, U.tmod (n : Int) = (k : Int) ∧ k < n := ⟨(U.tmod n).toNat, by have := Int.tmod_nonneg (n : Int) hU0.1; omega, by have := Int.tmod_lt_of_pos U n0I; have := Int.tmod_nonneg (n : Int) hU0.1; omega⟩
    obtain ⟨b, hb8, hbl⟩ : ∃ b : Nat, y.tmod 8 = (b : Int) ∧ b < 8 := ⟨(y.tmod 8).toNat, by have := Int.tmod_nonneg 8 hy0.1; omega, by have := Int.tmod_lt_of_pos y (show (0 : Int) < 8 by decide); have := Int.tmod_nonneg 8 hy0.1; omega⟩
    have hw8 := u8_powT b hbl
    have hnw : IntKind.u64.wrap (n : Int) = (n : Int) := by simp [IntKind.wrap, IntKind.bits, IntKind.signed]; omega
    have hkw : IntKind.i64.wrap (k : Int) = (k : Int) := IntWalk.i64_in _ (by omega)
    have hx0 := HR.out.2.2.1.getD (by decide) k
    have hc5 := hat.cell k (by rw [HR.out.2.1]; exact hkn)
    have hf5 := hat.frozen k
    obtain ⟨x5, hx5⟩ : ∃ x5, zs.getD k 0 = x5 := ⟨_, rfl⟩
    rw [hx5] at hc5 hx0
    obtain ⟨z5, hz5⟩ : ∃ z, bits .xor .u8 x5 (2 ^ b) = z := ⟨_, rfl⟩
    have hz0 := xor8z hx0 hbl
    rw [hz5] at hz0
    have hset := (hat.set k (by rw [HR.out.2.1]; exact hkn) z5).own hgb
    rw [List.length_set, HR.out.2.1] at hset
    have hbw := B0.setCell (p := ⟨g, k, none⟩) hgb (.int .u8 z5)
    have HREL : Hid (Own 5 .u8 ((wr.setCell ⟨g, k, none⟩ (.int .u8 z5)).drew) w.heap.size (.slice (some ⟨g, 0, none⟩) n tc) (zs.set k z5) ∧ (zs.set k z5).length = n ∧ Dg 256 (zs.set k z5) ∧ Below w.heap.size w ((wr.setCell ⟨g, k, none⟩ (.int .u8 z5)).drew)) := ⟨hset.below (Below.refl _ _).drew, by rw [List.length_set]; exact HR.out.2.1, HR.out.2.2.1.set k hz0, hbw.drew⟩
    have hkI : (k : Int) < (n : Int) := by omega
    have hkI0 : (0 : Int) ≤ (k : Int) := by omega
    have hbI : (b : Int) < 8 := by omega
    have hiI : (i : Int) < (na : Int) := by omega
    have hiJ : (i : Int) < (nb : Int) := by omega
    have hi0 : (0 : Int) ≤ (i : Int) := by omega
    have hnn : (n : Int) ≠ 0 := by omega
    clear hset hbw hz0 hx0 hat hgb hx5 hx hy hU0 hca hcb hba hbb B0 hy0 HEND HO
    go_wp2_with fail
    go_region
    go_wp2_with fail
    go_roundw
    case rel => exact ⟨i + 1, _, by omega, by go_num, HREL.out⟩
    case measure => simp [intOf]; omega
end Go.Proofs.Yticopomchoahnaa
/-
  The document's inverse.
-/
namespace Go.Proofs.Yticopomchoahnaa
open Go.RowKit
set_option linter.unusedVariables false
set_option linter.unusedSimpArgs false

/-- What the rounds keep. -/
structure Iv (m a r s x y : Int) : Prop where
  r0 : 0 ≤ r
  s0 : 0 ≤ s
  rm : r ≤ m
  sm : s ≤ m
  gd : gd r s = gd m a
  cx : Cg m (x * a) r
  cy : Cg m (y * a) s
  sg : (0 ≤ x ∧ y ≤ 0) ∨ (x ≤ 0 ∧ 0 ≤ y)
  eq : r * (if 0 ≤ y then y else -y) + s * (if 0 ≤ x then x else -x) = m
  bx : -m ≤ x ∧ x ≤ m
  by_ : -m ≤ y ∧ y ≤ m
theorem Iv.start {m a : Int} (hm : 0 < m) (ha : 0 ≤ a) (ham : a < m) : Iv m a m a 0 1 := by
  refine ⟨by omega, ha, by omega, by omega, rfl, ?_, ?_, .inr ⟨by omega, by omega⟩, by simp, by omega, by omega⟩
  · exact ⟨-1, by omega⟩
  · exact ⟨0, by omega⟩
theorem Iv.step {m a r s x y : Int} (h : Iv m a r s x y) (hm : 0 < m) (hs : s ≠ 0) : Iv m a s (r - r / s * s) y (x - r / s * y) ∧ 0 ≤ r / s ∧ r / s ≤ m ∧ -m - m ≤ r / s * y ∧ r / s * y ≤ m + m ∧ 0 ≤ r / s * s ∧ r / s * s ≤ r ∧ r - r / s * s < s := by
  obtain ⟨r0, s0, rm, sm, hg, cx, cy, sg, eq, bx, hy⟩ := h
  have hsp : 0 < s := by omega
  have hq0 : 0 ≤ r / s := Int.ediv_nonneg r0 s0
  have hmod : r - r / s * s = r % s := by have := Int.emod_add_mul_ediv r s; rw [Int.mul_comm] at this; omega
  have hm0 : 0 ≤ r % s := Int.emod_nonneg _ (by omega)
  have hm1 : r % s < s := Int.emod_lt_of_pos _ hsp
  obtain ⟨q, hq⟩ : ∃ q, r / s = q := ⟨_, rfl⟩
  rw [hq] at hq0 hmod ⊢
  have hqr : q ≤ r := by
    have : q * 1 ≤ q * s := Int.mul_le_mul_of_nonneg_left (by omega) hq0
    omega
  have heq2 : s * (if 0 ≤ x - q * y then x - q * y else -(x - q * y)) + (r - q * s) * (if 0 ≤ y then y else -y) = m := by
    rcases sg with ⟨hx, hyy⟩ | ⟨hx, hyy⟩
    · have hqy : q * y ≤ 0 := by
        have := Int.mul_nonneg hq0 (show 0 ≤ -y by omega)
        rw [Int.mul_neg] at this
        omega
      rw [if_pos (by omega)]
      rw [if_pos hx] at eq
      by_cases y0 : 0 ≤ y
      · have : y = 0 := by omega
        subst this
        simp at eq ⊢
        rw [eq]
      · rw [if_neg y0] at eq ⊢
        rw [← eq]
        grind
    · have hqy : 0 ≤ q * y := Int.mul_nonneg hq0 hyy
      rw [if_pos hyy] at eq ⊢
      by_cases x0 : 0 ≤ x
      · have : x = 0 := by omega
        subst this
        simp at eq
        by_cases h1 : 0 ≤ 0 - q * y
        · have : q * y = 0 := by omega
          rw [if_pos h1, ← eq]
          grind
        · rw [if_neg h1, ← eq]
          grind
      · rw [if_neg x0] at eq
        rw [if_neg (by omega), ← eq]
        grind
  have hab : ∀ z : Int, 0 ≤ (if 0 ≤ z then z else -z) := fun z => by split <;> omega
  have hby : -m ≤ x - q * y ∧ x - q * y ≤ m := by
    have h1 := hab (x - q * y)
    have h2 := Int.mul_nonneg (show 0 ≤ r - q * s by rw [hmod]; exact hm0) (hab y)
    have h3 : 1 * (if 0 ≤ x - q * y then x - q * y else -(x - q * y)) ≤ s * (if 0 ≤ x - q * y then x - q * y else -(x - q * y)) := Int.mul_le_mul_of_nonneg_right (by omega) h1
    have h4 : (if 0 ≤ x - q * y then x - q * y else -(x - q * y)) ≤ m := by omega
    split at h4 <;> omega
  refine ⟨⟨s0, by rw [hmod]; exact hm0, sm, by rw [hmod]; omega, ?_, cy, ?_, ?_, heq2, hy, hby⟩, hq0, by omega, by omega, by omega, Int.mul_nonneg hq0 s0, by omega, by rw [hmod]; exact hm1⟩
  · rw [hmod, ← gd_step r s r0 s0, hg]
  · have := cx.sub ((Cg.refl m q).mul cy)
    have e : (x - q * y) * a = x * a - q * (y * a) := by grind
    rw [e]
    exact this
  · rcases sg with ⟨hx, hyy⟩ | ⟨hx, hyy⟩
    · right
      have := Int.mul_nonneg hq0 (show 0 ≤ -y by omega)
      rw [Int.mul_neg] at this
      omega
    · left
      have hqy : 0 ≤ q * y := Int.mul_nonneg hq0 hyy
      omega
theorem gm_eq {a m : Int} (hm : 0 < m) : (a.tmod m + m).tmod m = a % m := by
  have h1 := Int.lt_tmod_of_pos a hm
  rw [Int.tmod_eq_emod_of_nonneg (by omega), Int.add_emod_right, Int.tmod_def, Int.sub_mul_emod_self_left]
theorem tm_zero {a m : Int} : (a.tmod m = 0) ↔ a % m = 0 := by
  rw [← Int.dvd_iff_tmod_eq_zero, ← Int.dvd_iff_emod_eq_zero]
theorem tm_em {a m : Int} : (a.tmod m) % m = a % m := by
  rw [Int.tmod_def, Int.sub_mul_emod_self_left]
/-- The inverse that Euclid's rounds end with. -/
theorem iv_done {m a r x y : Int} (h : Iv m a r 0 x y) (hm : 0 < m) (ha : 0 ≤ a) : r = gd m a ∧ (gd m a = 1 → Cg m ((x % m) * a) 1 ∧ 0 ≤ x % m ∧ x % m < m) := by
  have e : r = gd m a := by rw [← h.gd, gd_zero r h.r0]
  refine ⟨e, fun h1 => ⟨?_, Int.emod_nonneg _ (by omega), Int.emod_lt_of_pos _ hm⟩⟩
  have := h.cx
  rw [e, h1] at this
  exact ((Cg.mod m x).mul (Cg.refl m a)).trans this
end Go.Proofs.Yticopomchoahnaa
/-
  The code's sum of two points.
-/
namespace Go.Proofs.Yticopomchoahnaa
open Go.Shelf Go.RowKit
set_option linter.unusedVariables false
set_option linter.unusedSimpArgs false

def noZ : Pz := ⟨0, 0, true⟩
def ownZ (p : Pz) : Pz := if p.inf then noZ else p
/-- The sum's numbers; s: the slope. -/
def sumX (K : Cz) (p q : Pz) (s : Int) : Int := (((s * s) % K.p - p.x) % K.p - q.x) % K.p
def sumY (K : Cz) (p q : Pz) (s : Int) : Int := ((s * ((p.x - sumX K p q s) % K.p)) % K.p - p.y) % K.p
/-- The sum of two points that have numbers. -/
def AddN (K : Cz) (p q : Pz) (r : Option Pz) : Prop :=
  if runZ K p q = 0 then r = some noZ else if gd K.p (runZ K p q % K.p) ≠ 1 then r = none else ∃ n, 0 ≤ n ∧ n < K.p ∧ Cg K.p (n * runZ K p q) 1 ∧ r = some ⟨sumX K p q ((riseZ K p q * n) % K.p), sumY K p q ((riseZ K p q * n) % K.p), false⟩
/-- The sum. -/
def AddZ (K : Cz) (p q : Pz) (r : Option Pz) : Prop :=
  if K.p = 0 then r = none else if p.inf then r = some (ownZ q) else if q.inf then r = some (ownZ p) else AddN K p q r
/-- A point that was answered, or none. -/
def Pa (w w' : World) (e : Ending) (r : Option Pz) (L : Nat) : Prop := Below w.heap.size w w' ∧ ((∃ v p, r = some p ∧ e = .returned (.tuple #[v, .bool true]) ∧ Pv w' v p L) ∨ (r = none ∧ e = .returned (.tuple #[.agg #[.slice none 0 0, .slice none 0 0, .bool false], .bool false])))
theorem nv_nil (w : World) (L : Nat) : Nv w (.slice none 0 0) 0 L := ⟨none, 0, 0, [], rfl, NumIn.nil, rfl, Nat.zero_le _⟩
theorem pv_no (w : World) (L : Nat) : Pv w (.agg #[.slice none 0 0, .slice none 0 0, .bool true]) noZ L := ⟨_, _, rfl, nv_nil w L, nv_nil w L⟩
/-- But for block g the world w' is as w was. -/
structure Bt (g : Nat) (w w' : World) : Prop where
  os : w'.os = w.os
  tape : w'.tape = w.tape
  output : w'.output = w.output
  size : w.heap.size ≤ w'.heap.size
  block : ∀ k, k < w.heap.size → k ≠ g → w'.heap[k]? = w.heap[k]?
theorem Bt.below {g B : Nat} {w w' : World} (h : Bt g w w') (hB : B ≤ g) (hw : B ≤ w.heap.size) : Below B w w' := ⟨h.os, h.tape, h.output, h.size, fun k hk => h.block k (by omega) (by omega)⟩
theorem Bt.trans {g : Nat} {a b c : World} (h : Bt g a b) (k : Bt g b c) : Bt g a c :=
  ⟨k.os.trans h.os, k.tape.trans h.tape, k.output.trans h.output, Nat.le_trans h.size k.size, fun i hi hg => (k.block i (Nat.lt_of_lt_of_le hi h.size) hg).trans (h.block i hi hg)⟩
theorem Bt.setCell (g : Nat) (w : World) (j : Nat) (v : Value) : Bt g w (w.setCell ⟨g, j, none⟩ v) := ⟨rfl, rfl, rfl, by simp [World.setCell], fun k _ hk => Below.heap_setCell w ⟨g, j, none⟩ v k hk⟩
/-- A point's place. -/
def PSl (w : World) (r : Nat) (c0 c1 c2 : Value) : Prop := w.heap[r]? = some (.cells #[c0, c1, c2] 31 (0, 0))
theorem PSl.lt {w : World} {r : Nat} {c0 c1 c2 : Value} (h : PSl w r c0 c1 c2) : r < w.heap.size := (Array.getElem?_eq_some_iff.1 h).1
theorem PSl.keep {w w' : World} {r : Nat} {c0 c1 c2 : Value} (h : PSl w r c0 c1 c2) (hb : Below w.heap.size w w') : PSl w' r c0 c1 c2 := (hb.block _ h.lt).trans h
theorem PSl.facts {w : World} {r : Nat} {c0 c1 c2 : Value} (h : PSl w r c0 c1 c2) : w.cell? ⟨r, 0, none⟩ = some c0 ∧ w.cell? ⟨r, 1, none⟩ = some c1 ∧ w.cell? ⟨r, 2, none⟩ = some c2 ∧ w.frozen? ⟨r, 0, none⟩ = false ∧ w.frozen? ⟨r, 1, none⟩ = false ∧ w.frozen? ⟨r, 2, none⟩ = false :=
  ⟨by rw [cell_of_row _ _ _ _ _ _ h]; rfl, by rw [cell_of_row _ _ _ _ _ _ h]; rfl, by rw [cell_of_row _ _ _ _ _ _ h]; rfl, frozen_of_row w r 0 _ _ h, frozen_of_row w r 1 _ _ h, frozen_of_row w r 2 _ _ h⟩
theorem heap_set7 (w : World) (g j : Nat) (v : Value) (cs : Array Value) (t : TypeId) (fr : Nat × Nat) (h : w.heap[g]? = some (.cells cs t fr)) : (w.setCell ⟨g, j, none⟩ v).heap[g]? = some (.cells (cs.setIfInBounds j v) t fr) := by
  have hlt := (Array.getElem?_eq_some_iff.1 h).1
  have he : w.heap[g] = .cells cs t fr := (Array.getElem?_eq_some_iff.1 h).2
  simp [World.setCell, hlt]
  rw [Array.getElem_modify]
  simp [he]
theorem PSl.set3 {w : World} {r : Nat} {c0 c1 c2 : Value} (h : PSl w r c0 c1 c2) (d0 d1 d2 : Value) : PSl (((w.setCell ⟨r, 0, none⟩ d0).setCell ⟨r, 1, none⟩ d1).setCell ⟨r, 2, none⟩ d2) r d0 d1 d2 := by
  have h1 := heap_set7 w r 0 d0 _ _ _ h
  have h2 := heap_set7 _ r 1 d1 _ _ _ h1
  exact heap_set7 _ r 2 d2 _ _ _ h2
theorem Bt.set3 (w : World) (r : Nat) (d0 d1 d2 : Value) : Bt r w (((w.setCell ⟨r, 0, none⟩ d0).setCell ⟨r, 1, none⟩ d1).setCell ⟨r, 2, none⟩ d2) := ((Bt.setCell r w 0 d0).trans (Bt.setCell r _ 1 d1)).trans (Bt.setCell r _ 2 d2)
/-- Numbers don't lie where a point does. -/
theorem Nv.apart {w w' : World} {v : Value} {n : Int} {L r : Nat} {a1 a2 : Option Addr} {l1 k1 l2 k2 : Nat} {b : Bool} (h : Nv w v n L) (hs : PSl w r (.slice a1 l1 k1) (.slice a2 l2 k2) (.bool b)) (hb : Bt r w w') : Nv w' v n L := by
  obtain ⟨ao, len, cap, xs, e, h1, h2, h3⟩ := h
  refine ⟨ao, len, cap, xs, e, ⟨⟨h1.len, ?_⟩, h1.lc, h1.cm, h1.nn, h1.dg, h1.sm⟩, h2, h3⟩
  by_cases h0 : len = 0
  · exact .inl h0
  · obtain ⟨b', off, e2, hlt, hc⟩ := h1.lies.at (by omega)
    have hne : b' ≠ r := fun e3 => by
      subst e3
      have h4 := hc 0 (by omega)
      rw [cell_of_row _ _ _ _ _ _ hs] at h4
      obtain ⟨o, ho⟩ : ∃ o, off + 0 = o := ⟨_, rfl⟩
      rw [ho] at h4
      match o, h4 with
      | 0, h4 => cases h4
      | 1, h4 => cases h4
      | 2, h4 => cases h4
      | k + 3, h4 => simp at h4
    exact .inr ⟨b', off, e2, Nat.lt_of_lt_of_le hlt hb.size, fun i hi => (World.cell?_of_block (w := w) (hb.block b' hlt hne)).trans (hc i hi)⟩
theorem sizePt : (Try.prog.info? 31).map (·.size) = some 3 := by kernel_rfl
theorem ret_pt {fn : Func} {p u : Tmp} (h : fn.results = #[.cell p 31, .tmp u]) (tmps : Array Value) (w : World) (g : Nat) (c0 c1 c2 : Value) (hp : tmps.getD p undef = .pointer (some ⟨g, 0, none⟩)) (hg : PSl w g c0 c1 c2) :
    (results fn tmps).run Try.prog w = .ok (.tuple #[.agg #[c0, c1, c2], tmps.getD u undef]) w := by
  rw [results_cell_tmp h, hp]
  have hl := run_loadVar_row (P := Try.prog) w g 31 31 #[c0, c1, c2] (0, 0) _ hg Try.underlying31 rfl sizePt
  simp [asAddr, Result.andThen, hl]
theorem ret_pt1 {fn : Func} {p : Tmp} (h : fn.results = #[.cell p 31]) (tmps : Array Value) (w : World) (g : Nat) (c0 c1 c2 : Value) (hp : tmps.getD p undef = .pointer (some ⟨g, 0, none⟩)) (hg : PSl w g c0 c1 c2) :
    (results fn tmps).run Try.prog w = .ok (.agg #[c0, c1, c2]) w :=
  results_cell_row h tmps w g 31 _ (0, 0) _ hp hg Try.underlying31 rfl sizePt
/-- What addNumbers keeps in memory. -/
structure FrA (W : World) (b : Nat) (pv qv : Array Value) (m : Value) : Prop where
  p : W.heap[b + 1]? = some (.cells pv 31 (0, 0))
  q : W.heap[b + 1 + 1]? = some (.cells qv 31 (0, 0))
  r : PSl W (b + 1 + 1 + 1) (.slice none 0 0) (.slice none 0 0) (.bool false)
  f : W.heap[b + 1 + 1 + 1 + 1]? = some (.cells #[m] 173 (0, 0))
theorem frA_new (w : World) (cv pv qv : Array Value) (m : Value) : FrA (((((w.alloc (.cells cv 69)).alloc (.cells pv 31)).alloc (.cells qv 31)).alloc (.cells #[.slice none 0 0, .slice none 0 0, .bool false] 31)).alloc (.cells #[m] 173)) w.heap.size pv qv m ∧ Below w.heap.size w (((((w.alloc (.cells cv 69)).alloc (.cells pv 31)).alloc (.cells qv 31)).alloc (.cells #[.slice none 0 0, .slice none 0 0, .bool false] 31)).alloc (.cells #[m] 173)) := by
  obtain ⟨w1, e1⟩ : ∃ x, w.alloc (.cells cv 69) = x := ⟨_, rfl⟩
  obtain ⟨w2, e2⟩ : ∃ x, w1.alloc (.cells pv 31) = x := ⟨_, rfl⟩
  obtain ⟨w3, e3⟩ : ∃ x, w2.alloc (.cells qv 31) = x := ⟨_, rfl⟩
  obtain ⟨w4, e4⟩ : ∃ x, w3.alloc (.cells #[.slice none 0 0, .slice none 0 0, .bool false] 31) = x := ⟨_, rfl⟩
  have z1 : w1.heap.size = w.heap.size + 1 := by rw [← e1]; exact alloc_sz7 _ _
  have z2 : w2.heap.size = w.heap.size + 1 + 1 := by rw [← e2, alloc_sz7, z1]
  have z3 : w3.heap.size = w.heap.size + 1 + 1 + 1 := by rw [← e3, alloc_sz7, z2]
  have z4 : w4.heap.size = w.heap.size + 1 + 1 + 1 + 1 := by rw [← e4, alloc_sz7, z3]
  have n2 : w2.heap[w.heap.size + 1]? = some (.cells pv 31 (0, 0)) := by rw [← e2, ← z1]; exact heap_alloc_new w1 _
  have n3 : w3.heap[w.heap.size + 1 + 1]? = some (.cells qv 31 (0, 0)) := by rw [← e3, ← z2]; exact heap_alloc_new w2 _
  have n4 : w4.heap[w.heap.size + 1 + 1 + 1]? = some (.cells #[.slice none 0 0, .slice none 0 0, .bool false] 31 (0, 0)) := by rw [← e4, ← z3]; exact heap_alloc_new w3 _
  have n5 := heap_alloc_new w4 (.cells #[m] 173)
  rw [z4] at n5
  have m2 : w3.heap[w.heap.size + 1]? = some (.cells pv 31 (0, 0)) := by rw [← e3]; exact heap_new n2 (by omega)
  have k2 : w4.heap[w.heap.size + 1]? = some (.cells pv 31 (0, 0)) := by rw [← e4]; exact heap_new m2 (by omega)
  have k3 : w4.heap[w.heap.size + 1 + 1]? = some (.cells qv 31 (0, 0)) := by rw [← e4]; exact heap_new n3 (by omega)
  have bb : Below w.heap.size w (w4.alloc (.cells #[m] 173)) := by
    rw [← e4, ← e3, ← e2, ← e1]
    exact (((((Below.refl w.heap.size w).alloc (Nat.le_refl _) _).alloc (by rw [alloc_sz7]; omega) _).alloc (by rw [alloc_sz7, alloc_sz7]; omega) _).alloc (by rw [alloc_sz7, alloc_sz7, alloc_sz7]; omega) _).alloc (by rw [alloc_sz7, alloc_sz7, alloc_sz7, alloc_sz7]; omega) _
  rw [e1, e2, e3, e4]
  exact ⟨⟨heap_new k2 (by omega), heap_new k3 (by omega), heap_new n4 (by omega), n5⟩, bb⟩
theorem FrA.keep {W W' : World} {b : Nat} {pv qv : Array Value} {m : Value} (h : FrA W b pv qv m) (hb : Below W.heap.size W W') : FrA W' b pv qv m :=
  ⟨(hb.block _ (Array.getElem?_eq_some_iff.1 h.p).1).trans h.p, (hb.block _ (Array.getElem?_eq_some_iff.1 h.q).1).trans h.q, h.r.keep hb, (hb.block _ (Array.getElem?_eq_some_iff.1 h.f).1).trans h.f⟩
theorem FrA.cells {W : World} {b : Nat} {p0 p1 p2 q0 q1 q2 m : Value} (h : FrA W b #[p0, p1, p2] #[q0, q1, q2] m) : W.cell? ⟨b + 1, 0, none⟩ = some p0 ∧ W.cell? ⟨b + 1, 1, none⟩ = some p1 ∧ W.cell? ⟨b + 1 + 1, 0, none⟩ = some q0 ∧ W.cell? ⟨b + 1 + 1 + 1 + 1, 0, none⟩ = some m := by
  refine ⟨?_, ?_, ?_, ?_⟩
  · rw [cell_of_row _ _ _ _ _ _ h.p]; rfl
  · rw [cell_of_row _ _ _ _ _ _ h.p]; rfl
  · rw [cell_of_row _ _ _ _ _ _ h.q]; rfl
  · rw [cell_of_row _ _ _ _ _ _ h.f]; rfl
end Go.Proofs.Yticopomchoahnaa
/-
  The code's Add, Base, Size, On.
-/
namespace Go.Proofs.Yticopomchoahnaa
open Go.Shelf Go.RowKit
set_option linter.unusedVariables false
set_option linter.unusedSimpArgs false

theorem norm_nv (a : Value) (x : Int) (L : Nat) (w : World) (ha : Nv w a x L) : Calls Try.prog 126 #[a] w fun e w' => ∃ v, e = .returned v ∧ Na w w' v x L := by
  obtain ⟨ao, la, ca, xs, rfl, h1, rfl, h2⟩ := ha
  refine (Norm_any ao la ca xs w h1).mono ?_
  rintro e w' ⟨v, rfl, h⟩
  exact ⟨v, rfl, h.na.1.up h2, h.na.2⟩
theorem set3_other {w : World} {b j r : Nat} {v d0 d1 d2 : Value} (h : w.cell? ⟨b, j, none⟩ = some v) (hne : b ≠ r) : (((w.setCell ⟨r, 0, none⟩ d0).setCell ⟨r, 1, none⟩ d1).setCell ⟨r, 2, none⟩ d2).cell? ⟨b, j, none⟩ = some v :=
  (World.cell?_of_block (w := w) ((Bt.set3 w r d0 d1 d2).block b (World.block_lt_of_cell? w _ h) hne)).trans h
/-- Two places, one behind the other. -/
theorem two_new (w : World) (pv : Array Value) (t : TypeId) : ((w.alloc (.cells pv t)).alloc (.cells #[.slice none 0 0, .slice none 0 0, .bool false] 31)).heap[w.heap.size]? = some (.cells pv t (0, 0)) ∧ PSl ((w.alloc (.cells pv t)).alloc (.cells #[.slice none 0 0, .slice none 0 0, .bool false] 31)) (w.heap.size + 1) (.slice none 0 0) (.slice none 0 0) (.bool false) ∧ Below w.heap.size w ((w.alloc (.cells pv t)).alloc (.cells #[.slice none 0 0, .slice none 0 0, .bool false] 31)) := by
  have z1 := alloc_sz7 w (.cells pv t)
  have n1 := heap_alloc_new w (.cells pv t)
  have n2 := heap_alloc_new (w.alloc (.cells pv t)) (.cells #[.slice none 0 0, .slice none 0 0, .bool false] 31)
  rw [z1] at n2
  exact ⟨heap_new n1 (by omega), n2, ((Below.refl w.heap.size w).alloc (Nat.le_refl _) _).alloc (by omega) _⟩
theorem frB_new (w : World) (cv pv qv : Array Value) : PSl ((((w.alloc (.cells cv 69)).alloc (.cells pv 31)).alloc (.cells qv 31)).alloc (.cells #[.slice none 0 0, .slice none 0 0, .bool false] 31)) (w.heap.size + 1 + 1 + 1) (.slice none 0 0) (.slice none 0 0) (.bool false) ∧ Below w.heap.size w ((((w.alloc (.cells cv 69)).alloc (.cells pv 31)).alloc (.cells qv 31)).alloc (.cells #[.slice none 0 0, .slice none 0 0, .bool false] 31)) := by
  have n4 := heap_alloc_new (((w.alloc (.cells cv 69)).alloc (.cells pv 31)).alloc (.cells qv 31)) (.cells #[.slice none 0 0, .slice none 0 0, .bool false] 31)
  rw [alloc_sz7, alloc_sz7, alloc_sz7] at n4
  exact ⟨n4, ((((Below.refl w.heap.size w).alloc (Nat.le_refl _) _).alloc (by rw [alloc_sz7]; omega) _).alloc (by rw [alloc_sz7, alloc_sz7]; omega) _).alloc (by rw [alloc_sz7, alloc_sz7, alloc_sz7]; omega) _⟩
end Go.Proofs.Yticopomchoahnaa
