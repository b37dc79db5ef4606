/-
  Awake.
-/
import Derived.Test.YtfmldcibhllpcabDoorDB
namespace Go.Proofs.YtfmldcibhllpcabDoor
open Go.Shelf Go.RowKit
set_option linter.unusedVariables false
set_option linter.unusedSimpArgs false

theorem alloc_le (w : World) (o : Obj) : w.heap.size ≤ (w.alloc o).heap.size := by rw [alloc_sz]; omega
/-- Bytes as cells. -/
def u8sC (l : Bs) : Array Value := (l.map fun b => Value.int .u8 (b.toNat : Int)).toArray
theorem byv_lit (W : World) (l : Bs) (hl : l.length ≤ 1000) : ByV (W.alloc (.cells (u8sC l) 5)) (fun b => b < (W.alloc (.cells (u8sC l) 5)).heap.size) (some ⟨W.heap.size, 0, none⟩) l.length l := by
  refine ⟨Nat.le_refl _, by omega, fun _ => ⟨W.heap.size, 0, rfl, fun i hi => ?_⟩, fun a ha _ => by cases ha; rw [alloc_sz]; show W.heap.size < W.heap.size + 1; omega⟩
  rw [Nat.zero_add, cell_of_row _ W.heap.size i _ _ _ (heap_alloc_new W _)]
  simp [u8sC, List.getD, hi]
theorem whole_lit (W : World) (l : Bs) (m : Nat) (hm : l.length = m) (hl : m ≤ 1000) (hT : Tabs W) :
    Calls Tryd.prog 8 #[.slice (some ⟨W.heap.size, 0, none⟩) m m] (W.alloc (.cells (u8sC l) 5)) (WholePost (W.alloc (.cells (u8sC l) 5)) (wholeC l)) := by
  subst hm
  exact Whole_any _ l.length l.length l _ rfl (byv_lit W l hl) (hT.below ((Below.refl _ _).alloc (Nat.le_refl _) _))
theorem WholePost.okx {w : World} {i : It} {e : Ending} {w' : World} (h : WholePost w (.ok i) e w') : Below w.heap.size w w' ∧ ∃ (p : Option Addr) (c : Nat) (q : Option Addr) (c' : Nat), e = .returned (.tuple #[.agg #[.int .u8 (i.kind : Int), .int .u64 (i.n : Int), .slice p i.b.length c, .slice q i.kids.length c'], .int .i64 0]) ∧ ItOk w' (fun b => w.heap.size ≤ b) 8 [.int .u8 (i.kind : Int), .int .u64 (i.n : Int), .slice p i.b.length c, .slice q i.kids.length c'] i := by
  obtain ⟨h1, (⟨i', p, c, q, c', hR, h2⟩ | ⟨k, hR, _⟩)⟩ := h
  · cases hR
    exact ⟨h1, p, c, q, c', h2⟩
  · cases hR
theorem WholePost.errx {w : World} {k : Nat} {e : Ending} {w' : World} (h : WholePost w (.error k) e w') : Below w.heap.size w w' ∧ 0 < k ∧ k < 100 ∧ e = .returned (.tuple #[.agg #[.int .u8 0, .int .u64 0, .slice none 0 0, .slice none 0 0], .int .i64 (k : Int)]) := by
  obtain ⟨h1, (⟨i', p, c, q, c', hR, h2⟩ | ⟨k', hR, h2⟩)⟩ := h
  · cases hR
  · cases hR
    exact ⟨h1, h2⟩
/-- The map {1: 2}. -/
def aw1 : It := ⟨6, 0, [], [⟨1, 1, [], []⟩, ⟨1, 2, [], []⟩]⟩
theorem awk1 : wholeC [161, 1, 2] = .ok aw1 := by rfl
theorem awk2 : wholeC [24, 23] = .error 22 := by rfl
theorem awk3 : wholeC [162, 2, 0, 1, 0] = .error 21 := by rfl
theorem awk4 : wholeC [247] = .error 20 := by rfl

set_option maxRecDepth 100000 in
set_option maxHeartbeats 1000000 in
/-- Awake. -/
theorem CAwake_any (w : World) (hT : Tabs w) : Calls Tryd.prog 7 #[] w fun e w' => e = .returned (.bool true) ∧ Below w.heap.size w w' := by
  have A1 : ∀ W, Tabs W → Calls Tryd.prog 8 #[.slice (some ⟨W.heap.size, 0, none⟩) 3 3] (W.alloc (.cells #[.int .u8 161, .int .u8 1, .int .u8 2] 5)) (WholePost (W.alloc (.cells #[.int .u8 161, .int .u8 1, .int .u8 2] 5)) (.ok aw1)) := fun W h => by
    have := whole_lit W [161, 1, 2] 3 rfl (by decide) h
    rw [awk1] at this
    exact this
  have A2 : ∀ W, Tabs W → Calls Tryd.prog 8 #[.slice (some ⟨W.heap.size, 0, none⟩) 2 2] (W.alloc (.cells #[.int .u8 24, .int .u8 23] 5)) (WholePost (W.alloc (.cells #[.int .u8 24, .int .u8 23] 5)) (.error 22)) := fun W h => by
    have := whole_lit W [24, 23] 2 rfl (by decide) h
    rw [awk2] at this
    exact this
  have A3 : ∀ (W : World) (r : Nat), W.heap.size = r → Tabs W → Calls Tryd.prog 8 #[.slice (some ⟨r, 0, none⟩) 5 5] (W.alloc (.cells #[.int .u8 162, .int .u8 2, .int .u8 0, .int .u8 1, .int .u8 0] 5)) (WholePost (W.alloc (.cells #[.int .u8 162, .int .u8 2, .int .u8 0, .int .u8 1, .int .u8 0] 5)) (.error 21)) := fun W r hr h => by
    subst hr
    have := whole_lit W [162, 2, 0, 1, 0] 5 rfl (by decide) h
    rw [awk3] at this
    exact this
  have A4 : ∀ (W : World) (r : Nat), W.heap.size = r → Tabs W → Calls Tryd.prog 8 #[.slice (some ⟨r, 0, none⟩) 1 1] (W.alloc (.cells #[.int .u8 247] 5)) (WholePost (W.alloc (.cells #[.int .u8 247] 5)) (.error 20)) := fun W r hr h => by
    subst hr
    have := whole_lit W [247] 1 rfl (by decide) h
    rw [awk4] at this
    exact this
  have al : ∀ (W : World) (o : Obj), Below w.heap.size w W → Below w.heap.size w (W.alloc o) := fun W o h => h.alloc h.size o
  go_enter Tryd.func7, Tryd.ntmps7
  go_wp2_with fail
  go_at_call 8
  refine (A1 w hT).mono ?_
  intro e w1 hp
  obtain ⟨hb1, p, c, q, c', he, hi⟩ := hp.okx
  have he' : e = .returned (.tuple #[.agg #[.int .u8 6, .int .u64 0, .slice p 0 c, .slice q 2 c'], .int .i64 0]) := he
  subst he'
  have B1 : Below w.heap.size w w1 := (al w _ (Below.refl _ _)).trans (hb1.mono (by rw [alloc_sz]; omega))
  obtain ⟨qq, hh, hk⟩ := hi
  have hh2 := hh.cells
  obtain ⟨p9, c9, c9', _, _, _, e9, _⟩ := hh2
  have hq : q = qq := by simp only [Value.slice.injEq] at e9; exact e9.1
  subst hq
  obtain ⟨bk, ok, rfl, _, d0, d1, d2, d3, k0, k1, k2, k3, hkid⟩ := hk 1 ⟨1, 2, [], []⟩ rfl
  obtain ⟨q7, h7⟩ := hkid.head
  obtain ⟨p7, c7, c7', _, rfl, _⟩ := h7.cells
  clear hp he hh hk e9 A1 h7 hkid
  obtain ⟨r1, hr1⟩ : ∃ r, w1.heap.size = r := ⟨_, rfl⟩
  obtain ⟨W1, hW1⟩ : ∃ W, w1.alloc (.cells #[.int .u8 6, .int .u64 0, .slice p 0 c, .slice (some ⟨bk, ok, none⟩) 2 c'] 29) = W := ⟨_, rfl⟩
  have BB1 : Below w1.heap.size w1 W1 := by rw [← hW1]; exact (Below.refl _ _).alloc (Nat.le_refl _) _
  have BW1 : Below w.heap.size w W1 := B1.trans (BB1.mono B1.size)
  have S1 : Slot W1 r1 (.int .u8 6) (.int .u64 0) (.slice p 0 c) (.slice (some ⟨bk, ok, none⟩) 2 c') := by rw [← hW1, ← hr1]; exact Slot.new w1 _ _ _ _
  have kk1 : W1.cell? ⟨bk, ok + 1 * 4 + 1, none⟩ = some (.int .u64 2) := (BB1.cell (p := ⟨bk, ok + 1 * 4 + 1, none⟩) (World.block_lt_of_cell? w1 _ k1)).trans k1
  clear k0 k1 k2 k3
  go_wp2_with fail
  go_at_call 8
  refine (A2 W1 (hT.below BW1)).mono ?_
  intro e w2 hp
  obtain ⟨hb, _, _, rfl⟩ := hp.errx
  have bc : Below W1.heap.size W1 (w2.alloc (.cells #[.int .u8 0, .int .u64 0, .slice none 0 0, .slice none 0 0] 29)) := (((Below.refl _ _).alloc (Nat.le_refl _) _).trans (hb.mono (alloc_le _ _))).alloc (Nat.le_trans (alloc_le _ _) hb.size) _
  have BW2 : Below w.heap.size w (w2.alloc (.cells #[.int .u8 0, .int .u64 0, .slice none 0 0, .slice none 0 0] 29)) := BW1.trans (bc.mono BW1.size)
  have S2 := S1.same (bc.block r1 S1.lt)
  have kk2 := (bc.cell (p := ⟨bk, ok + 1 * 4 + 1, none⟩) (World.block_lt_of_cell? _ _ kk1)).trans kk1
  clear hp hb bc
  go_wp2_with fail
  go_at_call 8
  refine (A3 (w2.alloc (.cells #[.int .u8 0, .int .u64 0, .slice none 0 0, .slice none 0 0] 29)) (w2.heap.size + 1) (alloc_sz _ _) (hT.below BW2)).mono ?_
  intro e w3 hp
  obtain ⟨hb, _, _, rfl⟩ := hp.errx
  have bc : Below (w2.alloc (.cells #[.int .u8 0, .int .u64 0, .slice none 0 0, .slice none 0 0] 29)).heap.size (w2.alloc (.cells #[.int .u8 0, .int .u64 0, .slice none 0 0, .slice none 0 0] 29)) (w3.alloc (.cells #[.int .u8 0, .int .u64 0, .slice none 0 0, .slice none 0 0] 29)) := (((Below.refl _ _).alloc (Nat.le_refl _) _).trans (hb.mono (alloc_le _ _))).alloc (Nat.le_trans (alloc_le _ _) hb.size) _
  have BW3 : Below w.heap.size w (w3.alloc (.cells #[.int .u8 0, .int .u64 0, .slice none 0 0, .slice none 0 0] 29)) := BW2.trans (bc.mono BW2.size)
  have S3 := S2.same (bc.block r1 S2.lt)
  have kk3 := (bc.cell (p := ⟨bk, ok + 1 * 4 + 1, none⟩) (World.block_lt_of_cell? _ _ kk2)).trans kk2
  clear hp hb bc
  go_wp2_with fail
  go_at_call 8
  refine (A4 (w3.alloc (.cells #[.int .u8 0, .int .u64 0, .slice none 0 0, .slice none 0 0] 29)) (w3.heap.size + 1) (alloc_sz _ _) (hT.below BW3)).mono ?_
  intro e w4 hp
  obtain ⟨hb, _, _, rfl⟩ := hp.errx
  have bc : Below (w3.alloc (.cells #[.int .u8 0, .int .u64 0, .slice none 0 0, .slice none 0 0] 29)).heap.size (w3.alloc (.cells #[.int .u8 0, .int .u64 0, .slice none 0 0, .slice none 0 0] 29)) (w4.alloc (.cells #[.int .u8 0, .int .u64 0, .slice none 0 0, .slice none 0 0] 29)) := (((Below.refl _ _).alloc (Nat.le_refl _) _).trans (hb.mono (alloc_le _ _))).alloc (Nat.le_trans (alloc_le _ _) hb.size) _
  have BW4 : Below w.heap.size w (w4.alloc (.cells #[.int .u8 0, .int .u64 0, .slice none 0 0, .slice none 0 0] 29)) := BW3.trans (bc.mono BW3.size)
  have S4 := S3.same (bc.block r1 S3.lt)
  have kk4 := (bc.cell (p := ⟨bk, ok + 1 * 4 + 1, none⟩) (World.block_lt_of_cell? _ _ kk3)).trans kk3
  clear hp hb bc
  obtain ⟨f0, f1, f2, f3, _⟩ := S4.facts
  rw [show ok + 1 * 4 + 1 = ok + 5 by omega] at kk4
  have HBE : Hid (Below w.heap.size w (w4.alloc (.cells #[.int .u8 0, .int .u64 0, .slice none 0 0, .slice none 0 0] 29))) := BW4
  clear A2 A3 A4 al S1 S2 S3 S4 kk1 kk2 kk3 hW1 hr1 BB1 BW1 BW2 BW3 BW4 B1 hb1
  go_wp2_with fail
  go_ret
  exact ⟨rfl, HBE.out⟩
end Go.Proofs.YtfmldcibhllpcabDoor
