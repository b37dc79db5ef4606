/-
  The code's reader: what stands behind a head, without kids.
-/
import Derived.Test.YtfmldcibhllpcabDoorCV
import Derived.Test.YtfmldcibhllpcabDoorCM
import Derived.Test.YtfmldcibhllpcabDoorCN
namespace Go.Proofs.YtfmldcibhllpcabDoor
open Go.Shelf Go.RowKit
set_option linter.unusedVariables false
set_option linter.unusedSimpArgs false

/-- What item answers. -/
def ItPost (d g o : Nat) (w : World) (R : Except Nat (It × Nat × Bs)) (e : Ending) (w' : World) : Prop :=
  But g w w' ∧ ((∃ i t' ys c0 c1 c2 c3, R = .ok (i, t', ys) ∧ e = .returned (.tuple #[.agg #[c0, c1, c2, c3], .int .i64 0]) ∧ ItOk w' (fun b => b < 0 ∨ w.heap.size ≤ b) d [c0, c1, c2, c3] i ∧ Cr w' g ys t' o)
    ∨ (∃ (k : Nat) (zs : Bs) (t' : Nat) (v0 v1 : Int) (p1 : Option Addr) (n1 d1 : Nat) (p2 : Option Addr) (n2 d2 : Nat), R = .error k ∧ 0 < k ∧ k < 100 ∧ e = .returned (.tuple #[.agg #[.int .u8 v0, .int .u64 v1, .slice p1 n1 d1, .slice p2 n2 d2], .int .i64 (k : Int)]) ∧ Cr w' g zs t' o))
def ItemOK (d : Nat) : Prop := ∀ (g : Nat) (bs : Bs) (t o : Nat) (w : World), Cr w g bs t o → Gl g → Tabs w → d + o = 8 → t ≤ 512 → bs.length ≤ 8192 → Calls Tryd.prog 15 #[.pointer (some ⟨g, 0, none⟩)] w (ItPost d g o w (itemC d o t bs))
theorem ItPost.down {d g o : Nat} {w w1 : World} {R : Except Nat (It × Nat × Bs)} {e : Ending} {w' : World} (h : ItPost d g o w1 R e w') (hb : But g w w1) : ItPost d g o w R e w' := by
  obtain ⟨h1, h2⟩ := h
  refine ⟨hb.trans h1, ?_⟩
  rcases h2 with ⟨i, t', ys, c0, c1, c2, c3, e1, e2, e3, e4⟩ | h2
  · exact .inl ⟨i, t', ys, c0, c1, c2, c3, e1, e2, e3.mono (fun b hb' _ => by have := hb.size; omega), e4⟩
  · exact .inr h2
theorem Cr.but {w w' : World} {g : Nat} {bs : Bs} {t o : Nat} (h : Cr w g bs t o) (hb : Below w.heap.size w w') : Cr w' g bs t o := h.below hb
theorem Tabs.cbut {w w' : World} {g : Nat} (h : Tabs w) (hG : Gl g) (hb : But g w w') (hg : g < w.heap.size) : Tabs w' := h.low hG (hb.below (Nat.le_refl _) (by omega))

theorem ItPost.okx {d g o : Nat} {w : World} {i : It} {t' : Nat} {ys : Bs} {e : Ending} {w' : World} (h : ItPost d g o w (.ok (i, t', ys)) e w') : But g w w' ∧ ∃ p c q c', e = .returned (.tuple #[.agg #[.int .u8 (i.kind : Int), .int .u64 (i.n : Int), .slice p i.b.length c, .slice q i.kids.length c'], .int .i64 0]) ∧ ItOk w' (fun b => b < 0 ∨ w.heap.size ≤ b) d [.int .u8 (i.kind : Int), .int .u64 (i.n : Int), .slice p i.b.length c, .slice q i.kids.length c'] i ∧ Cr w' g ys t' o := by
  obtain ⟨h1, (⟨i', t1, ys', c0, c1, c2, c3, hR, e1, hi, hr⟩ | ⟨k, zs, t1, v0, v1, p1, n1, d1, p2, n2, d2, hR, _⟩)⟩ := h
  · cases hR
    have hi0 := hi
    obtain ⟨q, hq⟩ := hi0.head
    obtain ⟨p, c, c', rfl, rfl, rfl, rfl, _⟩ := hq.cells
    exact ⟨h1, p, c, q, c', e1, hi, hr⟩
  · cases hR
theorem ItPost.errx {d g o : Nat} {w : World} {k : Nat} {e : Ending} {w' : World} (h : ItPost d g o w (.error k) e w') : But g w w' ∧ 0 < k ∧ k < 100 ∧ ∃ (zs : Bs) (t' : Nat) (v0 v1 : Int) (p1 : Option Addr) (n1 d1 : Nat) (p2 : Option Addr) (n2 d2 : Nat), e = .returned (.tuple #[.agg #[.int .u8 v0, .int .u64 v1, .slice p1 n1 d1, .slice p2 n2 d2], .int .i64 (k : Int)]) ∧ Cr w' g zs t' o := by
  obtain ⟨h1, (⟨i', t1, ys', c0, c1, c2, c3, hR, _⟩ | ⟨k', zs, t1, v0, v1, p1, n1, d1, p2, n2, d2, hR, h2, h3, h4, h5⟩)⟩ := h
  · cases hR
  · cases hR
    exact ⟨h1, h2, h3, zs, t1, v0, v1, p1, n1, d1, p2, n2, d2, h4, h5⟩
/-- A place for an item. -/
def Slot (w : World) (r : Nat) (c0 c1 c2 c3 : Value) : Prop := w.heap[r]? = some (.cells #[c0, c1, c2, c3] 29 (0, 0))
theorem Slot.lt {w : World} {r : Nat} {c0 c1 c2 c3 : Value} (h : Slot w r c0 c1 c2 c3) : r < w.heap.size := (Array.getElem?_eq_some_iff.1 h).1
theorem Slot.facts {w : World} {r : Nat} {c0 c1 c2 c3 : Value} (h : Slot w r c0 c1 c2 c3) : w.cell? ⟨r, 0, none⟩ = some c0 ∧ w.cell? ⟨r, 1, none⟩ = some c1 ∧ w.cell? ⟨r, 2, none⟩ = some c2 ∧ w.cell? ⟨r, 3, none⟩ = some c3 ∧ w.frozen? ⟨r, 0, none⟩ = false ∧ w.frozen? ⟨r, 1, none⟩ = false ∧ w.frozen? ⟨r, 2, none⟩ = false ∧ w.frozen? ⟨r, 3, none⟩ = false :=
  ⟨by rw [cell_of_row w r 0 _ _ _ h]; rfl, by rw [cell_of_row w r 1 _ _ _ h]; rfl, by rw [cell_of_row w r 2 _ _ _ h]; rfl, by rw [cell_of_row w r 3 _ _ _ h]; rfl, frozen_of_row w r 0 _ _ h, frozen_of_row w r 1 _ _ h, frozen_of_row w r 2 _ _ h, frozen_of_row w r 3 _ _ h⟩
theorem Slot.new (w : World) (c0 c1 c2 c3 : Value) : Slot (w.alloc (.cells #[c0, c1, c2, c3] 29)) w.heap.size c0 c1 c2 c3 := heap_alloc_new w _
theorem Slot.set4 {w : World} {r : Nat} {c0 c1 c2 c3 : Value} (h : Slot w r c0 c1 c2 c3) (d0 d1 d2 d3 : Value) : Slot ((((w.setCell ⟨r, 0, none⟩ d0).setCell ⟨r, 1, none⟩ d1).setCell ⟨r, 2, none⟩ d2).setCell ⟨r, 3, none⟩ d3) r d0 d1 d2 d3 := by
  unfold Slot
  rw [heap_set_at _ r 3 _ _ _ _ (heap_set_at _ r 2 _ _ _ _ (heap_set_at _ r 1 _ _ _ _ (heap_set_at w r 0 _ _ _ _ h)))]
  rfl
theorem But.set4 (w : World) (r : Nat) (d0 d1 d2 d3 : Value) : But r w ((((w.setCell ⟨r, 0, none⟩ d0).setCell ⟨r, 1, none⟩ d1).setCell ⟨r, 2, none⟩ d2).setCell ⟨r, 3, none⟩ d3) :=
  (((But.setCell r w 0 d0).trans (But.setCell r _ 1 d1)).trans (But.setCell r _ 2 d2)).trans (But.setCell r _ 3 d3)
theorem Slot.afacts {w : World} {r : Nat} {c0 c1 c2 c3 : Value} (h : Slot w r c0 c1 c2 c3) (o : Obj) : (w.alloc o).cell? ⟨r, 0, none⟩ = some c0 ∧ (w.alloc o).cell? ⟨r, 1, none⟩ = some c1 ∧ (w.alloc o).cell? ⟨r, 2, none⟩ = some c2 ∧ (w.alloc o).cell? ⟨r, 3, none⟩ = some c3 ∧ (w.alloc o).frozen? ⟨r, 0, none⟩ = false ∧ (w.alloc o).frozen? ⟨r, 1, none⟩ = false ∧ (w.alloc o).frozen? ⟨r, 2, none⟩ = false ∧ (w.alloc o).frozen? ⟨r, 3, none⟩ = false :=
  Slot.facts (w := w.alloc o) (show _ = _ from (heap_alloc_old w o h.lt).trans h)
theorem Slot.allfacts {w : World} {r : Nat} {c0 c1 c2 c3 : Value} (h : Slot w r c0 c1 c2 c3) : (∀ o, (w.alloc o).cell? ⟨r, 0, none⟩ = some c0) ∧ (∀ o, (w.alloc o).cell? ⟨r, 1, none⟩ = some c1) ∧ (∀ o, (w.alloc o).cell? ⟨r, 2, none⟩ = some c2) ∧ (∀ o, (w.alloc o).cell? ⟨r, 3, none⟩ = some c3) ∧ (∀ o, (w.alloc o).frozen? ⟨r, 0, none⟩ = false) ∧ (∀ o, (w.alloc o).frozen? ⟨r, 1, none⟩ = false) ∧ (∀ o, (w.alloc o).frozen? ⟨r, 2, none⟩ = false) ∧ (∀ o, (w.alloc o).frozen? ⟨r, 3, none⟩ = false) :=
  ⟨fun X => (h.afacts X).1, fun X => (h.afacts X).2.1, fun X => (h.afacts X).2.2.1, fun X => (h.afacts X).2.2.2.1, fun X => (h.afacts X).2.2.2.2.1, fun X => (h.afacts X).2.2.2.2.2.1, fun X => (h.afacts X).2.2.2.2.2.2.1, fun X => (h.afacts X).2.2.2.2.2.2.2⟩
theorem Slot.same {w w' : World} {r : Nat} {c0 c1 c2 c3 : Value} (h : Slot w r c0 c1 c2 c3) (hb : w'.heap[r]? = w.heap[r]?) : Slot w' r c0 c1 c2 c3 := by unfold Slot; rw [hb]; exact h
/-- A slot that is new changes nothing of what was. -/
theorem But.fresh {g : Nat} {w w1 w2 : World} {r : Nat} (h1 : But g w w1) (h2 : But r w1 w2) (hr : w.heap.size ≤ r) : But g w w2 :=
  ⟨h2.os.trans h1.os, h2.tape.trans h1.tape, h2.output.trans h1.output, Nat.le_trans h1.size h2.size, fun k hk hg => (h2.block k (Nat.lt_of_lt_of_le hk h1.size) (by omega)).trans (h1.block k hk hg)⟩
theorem Cr.slot {w w' : World} {g r : Nat} {bs : Bs} {t o : Nat} (h : Cr w g bs t o) (hb : But r w w') (hr : g < r) : Cr w' g bs t o := by
  obtain ⟨p, c, h1, h2⟩ := h
  exact ⟨p, c, h1.same (hb.block g h1.lt (by omega)), h2.keep (fun k hk hlt => hb.block k hlt (by omega))⟩
/-- What number answers. -/
def NumPost (g low t o : Nat) (bs : Bs) (w : World) (e : Ending) (w' : World) : Prop := But g w w' ∧
      ((∃ n ys, numC low bs = .ok (n, ys) ∧ n < 18446744073709551616 ∧ e = .returned (.tuple #[.int .u64 (n : Int), .int .i64 0]) ∧ Cr w' g ys t o)
      ∨ (∃ (k : Nat) (zs : Bs), numC low bs = .error k ∧ 0 < k ∧ k < 100 ∧ e = .returned (.tuple #[.int .u64 0, .int .i64 (k : Int)]) ∧ Cr w' g zs t o))
theorem NumPost.okx {g low t o : Nat} {bs : Bs} {w : World} {e : Ending} {w' : World} (h : NumPost g low t o bs w e w') {n : Nat} {ys : Bs} (hR : numC low bs = .ok (n, ys)) : But g w w' ∧ n < 18446744073709551616 ∧ e = .returned (.tuple #[.int .u64 (n : Int), .int .i64 0]) ∧ Cr w' g ys t o := by
  obtain ⟨h1, (⟨n', ys', e1, h2⟩ | ⟨k, zs, e1, _⟩)⟩ := h
  · rw [hR] at e1
    cases e1
    exact ⟨h1, h2⟩
  · rw [hR] at e1
    cases e1
theorem NumPost.errx {g low t o : Nat} {bs : Bs} {w : World} {e : Ending} {w' : World} (h : NumPost g low t o bs w e w') {k : Nat} (hR : numC low bs = .error k) : But g w w' ∧ 0 < k ∧ k < 100 ∧ e = .returned (.tuple #[.int .u64 0, .int .i64 (k : Int)]) ∧ ∃ zs, Cr w' g zs t o := by
  obtain ⟨h1, (⟨n', ys', e1, h2⟩ | ⟨k', zs, e1, h2, h3, h4, h5⟩)⟩ := h
  · rw [hR] at e1
    cases e1
  · rw [hR] at e1
    cases e1
    exact ⟨h1, h2, h3, h4, zs, h5⟩
set_option maxRecDepth 100000 in
set_option maxHeartbeats 2000000 in
/-- number. -/
theorem cnumber_any (low g : Nat) (bs : Bs) (t o : Nat) (w : World) (h : Cr w g bs t o) (hlow : low < 32) :
    Calls Tryd.prog 24 #[.pointer (some ⟨g, 0, none⟩), .int .u8 (low : Int)] w (NumPost g low t o bs w) := by
  by_cases h1 : low < 24
  · have hI : (low : Int) < 24 := by omega
    have HF : Hid (Cr w g bs t o ∧ numC low bs = .ok (low, bs)) := ⟨h, by unfold numC; rw [if_pos h1]⟩
    clear h
    go_enter Tryd.func24, Tryd.ntmps24
    go_wp2
    go_ret2
    exact ⟨But.refl _ _, .inl ⟨low, bs, HF.out.2, by omega, rfl, HF.out.1⟩⟩
  have hI : ¬ (low : Int) < 24 := by omega
  by_cases h2 : 27 < low
  · have hJ : 27 < (low : Int) := by omega
    have hlI : (low : Int) < 32 := by omega
    have HF : Hid (Cr w g bs t o ∧ numC low bs = .error 20) := ⟨h, by unfold numC; rw [if_neg h1, if_pos h2]⟩
    clear h
    go_enter Tryd.func24, Tryd.ntmps24
    go_wp2
    go_ret2
    exact ⟨But.refl _ _, .inr ⟨20, bs, HF.out.2, by decide, by decide, rfl, HF.out.1⟩⟩
  obtain ⟨k, hk⟩ : ∃ k, low = 24 + k := ⟨low - 24, by omega⟩
  have hk4 : k = 0 ∨ k = 1 ∨ k = 2 ∨ k = 3 := by omega
  have hnum : numC low bs = match beC (2 ^ k) 0 bs with
      | none => .error 20
      | some (n, ys) => if n < leastC k then .error 22 else .ok (n, ys) := by
    unfold numC
    rw [if_neg h1, if_neg h2, show low - 24 = k by omega]
    rfl
  by_cases hl : 2 ^ k ≤ bs.length
  · refine (cnumber_at (2 ^ k) k rfl hk4 low hk g bs t o w h hl).mono ?_
    rintro e w' ⟨a1, a2, rfl⟩
    refine ⟨a1, ?_⟩
    rw [beC_bv _ _ _ hl] at hnum
    simp only [] at hnum
    have hbv : (bs.take (2 ^ k)).foldl (fun a c => a * 256 + c.toNat) 0 = bv (bs.take (2 ^ k)) := rfl
    rw [hbv] at hnum
    by_cases hs : bv (bs.take (2 ^ k)) < leastC k
    · rw [if_pos hs] at hnum
      rw [if_pos hs]
      exact .inr ⟨22, _, hnum, by decide, by decide, rfl, a2⟩
    · rw [if_neg hs] at hnum
      rw [if_neg hs]
      refine .inl ⟨_, _, hnum, ?_, rfl, a2⟩
      have h3 := bv_lt (bs.take (2 ^ k))
      rw [List.length_take, Nat.min_eq_left hl] at h3
      have h4 : (256 : Nat) ^ (2 ^ k) ≤ 256 ^ 8 := Nat.pow_le_pow_right (by decide) (by rcases hk4 with rfl | rfl | rfl | rfl <;> decide)
      have h5 : (256 : Nat) ^ 8 = 18446744073709551616 := by decide
      omega
  · rw [beC_none _ _ _ (by omega)] at hnum
    simp only [] at hnum
    have HF : Hid (Cr w g bs t o ∧ numC low bs = .error 20) := ⟨h, hnum⟩
    obtain ⟨s, hs⟩ : ∃ s, 2 ^ k = s := ⟨_, rfl⟩
    have hs4 : s ≤ 8 := by rw [← hs]; rcases hk4 with rfl | rfl | rfl | rfl <;> decide
    rw [hs] at hl
    have HT := fun W (hW : Cr W g bs t o) => ctake_no g s bs t o W hW (by omega) (by omega)
    have hcs : low = 24 ∧ s = 1 ∨ low = 25 ∧ s = 2 ∨ low = 26 ∧ s = 4 ∨ low = 27 ∧ s = 8 := by rcases hk4 with rfl | rfl | rfl | rfl <;> simp at hs <;> omega
    clear hnum hs hk hk4 h1 h2 hI hlow hl
    rcases hcs with ⟨rfl, rfl⟩ | ⟨rfl, rfl⟩ | ⟨rfl, rfl⟩ | ⟨rfl, rfl⟩
    all_goals
      go_enter Tryd.func24, Tryd.ntmps24
      go_wp2_with (go_at_call 22; refine (HT _ h).mono ?_; rintro e w1 ⟨rfl, rfl⟩)
      go_ret2
      exact ⟨But.refl _ _, .inr ⟨20, bs, HF.out.2, by decide, by decide, rfl, HF.out.1⟩⟩

set_option maxRecDepth 100000 in
set_option maxHeartbeats 2000000 in
/-- behindNumber: a number. -/
theorem beh_num (d K n g : Nat) (bs : Bs) (t o : Nat) (w : World) (h : Cr w g bs t o) (hK : K = 0 ∨ K = 1) (hn : n < 18446744073709551616) :
    Calls Tryd.prog 25 #[.pointer (some ⟨g, 0, none⟩), .int .u8 ((K + 1 : Nat) : Int), .int .u64 (n : Int)] w (ItPost d g o w (behC d o K n t bs)) := by
  have hR : behC d o K n t bs = .ok (⟨K + 1, n, [], []⟩, t, bs) := by rcases hK with rfl | rfl <;> rfl
  rw [hR]
  have hit : ∀ W : World, ItOk W (fun b => b < 0 ∨ w.heap.size ≤ b) d [.int .u8 ((K + 1 : Nat) : Int), .int .u64 (n : Int), .slice none 0 0, .slice none 0 0] ⟨K + 1, n, [], []⟩ := fun W => ItOk.leaf (i := ⟨K + 1, n, [], []⟩) d (by show K + 1 < 256; omega) hn (ByV.nil W _) rfl
  have hb : Below w.heap.size w (w.alloc (.cells #[.int .u8 ((K + 1 : Nat) : Int), .int .u64 (n : Int), .slice none 0 0, .slice none 0 0] 29)) := (Below.refl _ _).alloc (Nat.le_refl _) _
  have HF : Hid (∀ W : World, ItOk W (fun b => b < 0 ∨ w.heap.size ≤ b) d [.int .u8 ((K + 1 : Nat) : Int), .int .u64 (n : Int), .slice none 0 0, .slice none 0 0] ⟨K + 1, n, [], []⟩) := hit
  have HC := h.below hb
  have HB : Hid (Below w.heap.size w (w.alloc (.cells #[.int .u8 ((K + 1 : Nat) : Int), .int .u64 (n : Int), .slice none 0 0, .slice none 0 0] 29)) ∧ Cr (w.alloc (.cells #[.int .u8 ((K + 1 : Nat) : Int), .int .u64 (n : Int), .slice none 0 0, .slice none 0 0] 29)) g bs t o) := ⟨hb, HC⟩
  clear hR hit hb h HC
  rcases hK with rfl | rfl
  · go_enter Tryd.func25, Tryd.ntmps25
    go_wp2
    refine bodyPost_ret (ret_item rfl _ _ w.heap.size _ _ _ _ rfl (heap_alloc_new w _)) rfl ?_
    exact ⟨But.ofBelow HB.out.1, .inl ⟨_, _, _, _, _, _, _, rfl, rfl, HF.out _, HB.out.2⟩⟩
  · go_enter Tryd.func25, Tryd.ntmps25
    go_wp2
    refine bodyPost_ret (ret_item rfl _ _ w.heap.size _ _ _ _ rfl (heap_alloc_new w _)) rfl ?_
    exact ⟨But.ofBelow HB.out.1, .inl ⟨_, _, _, _, _, _, _, rfl, rfl, HF.out _, HB.out.2⟩⟩
end Go.Proofs.YtfmldcibhllpcabDoor
