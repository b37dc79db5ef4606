/-
  The document's item: what it answers; its head.
-/
import Derived.Test.YtfmldcibhllpcaaDoorEB
import Derived.Deep.Cut
import Derived.Deep.CutBlock
namespace Go.Proofs.YtfmldcibhllpcaaDoor
open Go.Shelf Go.RowKit
set_option linter.unusedVariables false
set_option linter.unusedSimpArgs false

/-- What the document's item answers. -/
def RPost (d g : Nat) (w : World) (R : Except Nat (It × Nat × Bs)) (e : Ending) (w' : World) : Prop :=
  But g w w' ∧ ((∃ i t' ys c0 c1 c2 c3, R = .ok (i, t', ys) ∧ e = .returned (.agg #[c0, c1, c2, c3]) ∧ ItOk w' (fun b => b < g - 2 ∨ w.heap.size ≤ b) d [c0, c1, c2, c3] i ∧ Rr w' g ys t' 0)
    ∨ (∃ (k : Nat) (zs : Bs) (t' : Nat) (v0 v1 : Int) (p1 : Option Addr) (n1 d1 : Nat) (p2 : Option Addr) (n2 d2 : Nat), R = .error k ∧ 0 < k ∧ k < 100 ∧ e = .returned (.agg #[.int .u8 v0, .int .u64 v1, .slice p1 n1 d1, .slice p2 n2 d2]) ∧ Rr w' g zs t' k))
def RItemOK (d : Nat) : Prop := ∀ (g : Nat) (bs : Bs) (t o : Nat) (w : World), Rr w g bs t 0 → Gl g → Tabs w → d + o = 8 → t ≤ 512 → bs.length ≤ 8192 → Calls Tryd.prog 35 #[.pointer (some ⟨g, 0, none⟩), .int .i64 (o : Int)] w (RPost d g w (itemC d o t bs))
theorem RPost.forms {d g : Nat} {w : World} {R : Except Nat (It × Nat × Bs)} {e : Ending} {w' : World} (h : RPost d g w R e w') : ∃ (v0 v1 : Int) (p1 : Option Addr) (n1 d1 : Nat) (p2 : Option Addr) (n2 d2 : Nat), e = .returned (.agg #[.int .u8 v0, .int .u64 v1, .slice p1 n1 d1, .slice p2 n2 d2]) := by
  obtain ⟨h1, (⟨i', t1, ys', c0, c1, c2, c3, hR, e1, hi, hr⟩ | ⟨k, zs, t1, v0, v1, p1, n1, d1, p2, n2, d2, hR, h2, h3, h4, h5⟩)⟩ := h
  · obtain ⟨q, hq⟩ := hi.head
    obtain ⟨p, c, c', rfl, rfl, rfl, rfl, _⟩ := hq.cells
    exact ⟨_, _, _, _, _, _, _, _, e1⟩
  · exact ⟨_, _, _, _, _, _, _, _, h4⟩
theorem RPost.store {d g : Nat} {w w1 w2 : World} {R : Except Nat (It × Nat × Bs)} {v0 v1 v2 v3 : Value} (h : RPost d g w1 R (.returned (.agg #[v0, v1, v2, v3])) w2) (hb : But g w w1) (hr : w.heap.size < w1.heap.size) (hg : g < w.heap.size) :
    RPost d g w R (.returned (.agg #[v0, v1, v2, v3])) ((((w2.setCell ⟨w.heap.size, 0, none⟩ v0).setCell ⟨w.heap.size, 1, none⟩ v1).setCell ⟨w.heap.size, 2, none⟩ v2).setCell ⟨w.heap.size, 3, none⟩ v3) := by
  have b3 := But.set4 w2 w.heap.size v0 v1 v2 v3
  obtain ⟨h1, (⟨i', t1, ys', c0, c1, c2, c3, hR, e1, hi, hr1⟩ | ⟨k, zs, t1, u0, u1, p1, n1, d1, p2, n2, d2, hR, h2, h3, h4, h5⟩)⟩ := h
  · refine ⟨(hb.trans h1).fresh b3 (Nat.le_refl _), .inl ⟨i', t1, ys', c0, c1, c2, c3, hR, e1, ?_, hr1.slot b3 hg⟩⟩
    exact (hi.keep (fun k hk hlt => b3.block k hlt (by omega))).mono (fun k hk _ => by omega)
  · exact ⟨(hb.trans h1).fresh b3 (Nat.le_refl _), .inr ⟨k, zs, t1, u0, u1, p1, n1, d1, p2, n2, d2, hR, h2, h3, h4, h5.slot b3 hg⟩⟩
theorem ret_item1 {fn : Func} {p : Tmp} (h : fn.results = #[.cell p 35]) (tmps : Array Value) (w : World) (g : Nat) (c0 c1 c2 c3 : Value) (hp : tmps.getD p undef = .pointer (some ⟨g, 0, none⟩)) (hg : w.heap[g]? = some (.cells #[c0, c1, c2, c3] 35 (0, 0))) :
    (results fn tmps).run Tryd.prog w = .ok (.agg #[c0, c1, c2, c3]) w :=
  results_cell_row h tmps w g 35 _ (0, 0) _ hp hg Tryd.underlying35 rfl sizeItem
theorem RrAt.slice1 {w : World} {g : Nat} {p : Option Addr} {c t k : Nat} {bs : Bs} {x : UInt8} {ys : Bs} (h1 : RrAt w g (.slice p (x :: ys).length c) t k) (h2 : ByV w (fun b => b < g - 2) p c (x :: ys)) : ∃ b f, p = some ⟨b, f, none⟩ ∧ w.cell? ⟨b, f, none⟩ = some (.int .u8 (x.toNat : Int)) ∧ b ≠ g := by
  obtain ⟨b, f, e, hc⟩ := h2.lies (by simp)
  refine ⟨b, f, e, ?_, ?_⟩
  · have := hc 0 (by simp)
    simpa using this
  · have := h2.ok _ e (by simp)
    simp at this
    omega
/-- The reader behind its first bytes. -/
theorem Rr.drop {w : World} {g : Nat} {p : Option Addr} {c t k : Nat} {bs : Bs} (h1 : RrAt w g (.slice p bs.length c) t k) (h2 : ByV w (fun b => b < g - 2) p c bs) (n : Nat) (hn : n ≤ bs.length) (p' : Option Addr) (hp : p' = if c = n then p else p.map (fun x => x.add n)) : Rr (w.setCell ⟨g, 0, none⟩ (.slice p' (bs.length - n) (c - n))) g (bs.drop n) t k := by
  subst hp
  refine ⟨_, _, ?_, (h2.drop n hn).keep (fun k hk _ => Below.heap_setCell _ _ _ _ (by show k ≠ g; omega))⟩
  rw [List.length_drop]
  exact h1.setRest _
set_option maxRecDepth 100000 in
set_option maxHeartbeats 2000000 in
/-- item: too many, or no byte. -/
theorem ritem_many (d g : Nat) (bs : Bs) (t o : Nat) (w : World) (h : Rr w g bs t 0) (ht : t ≤ 512) (hc : t = 512 ∨ bs = []) (ho : o ≤ 8) : Calls Tryd.prog 35 #[.pointer (some ⟨g, 0, none⟩), .int .i64 (o : Int)] w (RPost d g w (itemC d o t bs)) := by
  have hg := h.lt
  obtain ⟨W0, hW0⟩ : ∃ W0, w.alloc (.cells #[.int .u8 0, .int .u64 0, .slice none 0 0, .slice none 0 0] 35) = W0 := ⟨_, rfl⟩
  have b0 : Below w.heap.size w W0 := by rw [← hW0]; exact (Below.refl _ _).alloc (Nat.le_refl _) _
  have z0 : W0.heap.size = w.heap.size + 1 := by rw [← hW0]; exact alloc_sz w _
  have r0 := h.below b0
  have s0 : Slot W0 w.heap.size (.int .u8 0) (.int .u64 0) (.slice none 0 0) (.slice none 0 0) := by rw [← hW0]; exact Slot.new w _ _ _ _
  have ci := r0.its
  have fi := r0.frz 1
  obtain ⟨W1, hW1⟩ : ∃ W1, W0.setCell ⟨g, 1, none⟩ (.int .i64 ((t + 1 : Nat) : Int)) = W1 := ⟨_, rfl⟩
  have et : ((t + 1 : Nat) : Int) = (t : Int) + 1 := by omega
  have r1 : Rr W1 g bs (t + 1) 0 := by rw [← hW1]; exact r0.setItems (t + 1)
  have b1 : But g W0 W1 := by rw [← hW1]; exact But.setCell g W0 1 _
  rw [et] at hW1
  have s1 := s0.same (b1.block _ (by omega) (by omega))
  have bw1 : But g w W1 := (But.ofBelow b0).trans b1
  have ci1 := r1.its
  rw [et] at ci1
  have htI : (t : Int) ≤ 512 := by omega
  rw [itemC_eq]
  by_cases h5 : t = 512
  · rw [if_pos (by omega)]
    have h5I : 512 < (t : Int) + 1 := by omega
    clear h5 hc
    have HBd := rbad_any g 14 bs (t + 1) W1 r1 (by decide)
    go_enter Tryd.func35, Tryd.ntmps35
    go_wp2_with (go_at_call 53; refine HBd.mono ?_; rintro e w2 ⟨rfl, b2, r2⟩; have s2 := s1.same (b2.block _ s1.lt (by omega)); obtain ⟨k0, k1, k2, k3, f0, f1, f2, f3⟩ := s2.facts)
    have s3 := s2.set4 (.int .u8 0) (.int .u64 0) (.slice none 0 0) (.slice none 0 0)
    have b3 := But.set4 w2 w.heap.size (.int .u8 0) (.int .u64 0) (.slice none 0 0) (.slice none 0 0)
    refine bodyPost_ret (ret_item1 rfl _ _ w.heap.size _ _ _ _ rfl s3) rfl ?_
    exact ⟨(bw1.trans b2).fresh b3 (Nat.le_refl _), .inr ⟨14, bs, t + 1, _, _, _, _, _, _, _, _, rfl, by decide, by decide, rfl, r2.slot b3 (by omega)⟩⟩
  · have hbs : bs = [] := hc.elim (fun h => absurd h h5) id
    subst hbs
    rw [if_neg (by omega)]
    simp only []
    obtain ⟨pr, cr, hra, hrb⟩ := r1
    have cr0 := hra.rest
    have htn : ¬ (512 < (t : Int) + 1) := by omega
    have HBd := rbad_any g 20 [] (t + 1) W1 ⟨pr, cr, hra, hrb⟩ (by decide)
    simp only [List.length_nil] at cr0
    go_enter Tryd.func35, Tryd.ntmps35
    go_wp2_with (go_at_call 53; refine HBd.mono ?_; rintro e w2 ⟨rfl, b2, r2⟩; have s2 := s1.same (b2.block _ s1.lt (by omega)); obtain ⟨k0, k1, k2, k3, f0, f1, f2, f3⟩ := s2.facts)
    have s3 := s2.set4 (.int .u8 0) (.int .u64 0) (.slice none 0 0) (.slice none 0 0)
    have b3 := But.set4 w2 w.heap.size (.int .u8 0) (.int .u64 0) (.slice none 0 0) (.slice none 0 0)
    refine bodyPost_ret (ret_item1 rfl _ _ w.heap.size _ _ _ _ rfl s3) rfl ?_
    exact ⟨(bw1.trans b2).fresh b3 (Nat.le_refl _), .inr ⟨20, [], t + 1, _, _, _, _, _, _, _, _, rfl, by decide, by decide, rfl, r2.slot b3 (by omega)⟩⟩
theorem drewN_heap (w : World) : ∀ q, (w.drewN q).heap = w.heap
  | 0 => rfl
  | q + 1 => (drewN_heap w q)
theorem drewN_but (g : Nat) (w : World) (q : Nat) : But g w (w.drewN q) := by
  have := below_drews (Below.refl w.heap.size w) q
  exact But.ofBelow this
theorem drewN_rr {w : World} {g : Nat} {rv : Value} {t k : Nat} (q : Nat) (h : RrAt w g rv t k) : RrAt (w.drewN q) g rv t k := h.same (by rw [drewN_heap])
/-- Where item stands behind its first byte. -/
structure RHd (d g o : Nat) (w wc : World) (ys : Bs) (t : Nat) : Prop where
  rd : Rr wc g ys t 0
  but : But g w wc
  slot : Slot wc w.heap.size (.int .u8 0) (.int .u64 0) (.slice none 0 0) (.slice none 0 0)
end Go.Proofs.YtfmldcibhllpcaaDoor
