import Derived.Test.YtcobbbamocdbbaaK14
import Derived.Test.YtcobbbamocdbbaaK13
import Derived.Lib.ConvBytes
/-
  The law EcdsaKnown.
-/
namespace Go.Proofs.Ytcobbbamocdbbaa
open Go.Shelf Go.RowKit
set_option linter.unusedVariables false
set_option linter.unusedSimpArgs false

def kX : List Int := [16602909452612575158, 13855808666783054444, 14511138361138572648, 6989257567681289521]
def kY : List Int := [8620948056189575833, 17505968991938453329, 11825020959996820580, 8720092648338668697]
def kR : List Int := [14072920526640068374, 11325576126734727569, 1243237162801856982, 17281590685529975037]
def kS : List Int := [5603792056925998504, 17575579964503225350, 15291629082155065189, 17855396570382826561]
def kH : List Int := [175, 43, 219, 225, 170, 155, 110, 193, 226, 173, 225, 214, 148, 244, 31, 199, 26, 131, 29, 2, 104, 233, 137, 21, 98, 17, 61, 138, 98, 173, 209, 191]
theorem k_dg : Dg B64 kX ∧ Dg B64 kY ∧ Dg B64 kR ∧ Dg B64 kS ∧ Dg 256 kH := by
  refine ⟨?_, ?_, ?_, ?_, ?_⟩ <;> (intro x hx; simp only [kX, kY, kR, kS, kH, List.mem_cons, List.not_mem_nil, or_false] at hx; (try unfold B64); omega)
theorem k_val : val B64 kX = knownZ.x ∧ val B64 kY = knownZ.y ∧ val B64 kR = knownR ∧ val B64 kS = knownS := by decide +kernel
/-- A limb with a bit turned. -/
def kT (xs : List Int) (k b : Nat) : Int := bits .xor .u64 (xs.getD k 0) (2 ^ b)
theorem k_off : ∀ k, k < 4 → ∀ b, b < 64 → (onB greatZ ⟨val B64 (kX.set k (kT kX k b)), val B64 kY, false⟩ = false ∧ onB greatZ ⟨val B64 kX, val B64 (kY.set k (kT kY k b)), false⟩ = false) ∧ (0 ≤ kT kX k b ∧ kT kX k b < B64) ∧ (0 ≤ kT kY k b ∧ kT kY k b < B64) := by decide +kernel
theorem row_keepK {e : TypeId} {k : IntKind} {w : World} {g : Nat} {xs : List Int} (h : Row e k w g xs) {p : Addr} (hp : g ≠ p.block) (v : Value) : Row e k (w.setCell p v) g xs := by
  unfold Row at *
  rw [heap_setCell_other w p g v hp]
  exact h
/-- A text as bytes. -/
theorem conv_k (W : World) : (convert 9 45 (.string ⟨#[175, 43, 219, 225, 170, 155, 110, 193, 226, 173, 225, 214, 148, 244, 31, 199, 26, 131, 29, 2, 104, 233, 137, 21, 98, 17, 61, 138, 98, 173, 209, 191]⟩)).run Try.prog W = .ok (.slice (some ⟨W.heap.size, 0, none⟩) 32 (grownCap W 32 0 5)) (Lib.bytesWorld W 5 ⟨#[175, 43, 219, 225, 170, 155, 110, 193, 226, 173, 225, 214, 148, 244, 31, 199, 26, 131, 29, 2, 104, 233, 137, 21, 98, 17, 61, 138, 98, 173, 209, 191]⟩) :=
  Lib.run_convert_string_bytes (P := Try.prog) W 9 45 5 ⟨#[175, 43, 219, 225, 170, 155, 110, 193, 226, 173, 225, 214, 148, 244, 31, 199, 26, 131, 29, 2, 104, 233, 137, 21, 98, 17, 61, 138, 98, 173, 209, 191]⟩ Try.underlying9 Try.underlying45 Try.underlying5
theorem num_k (W : World) : NumIn .u8 256 (Lib.bytesWorld W 5 ⟨#[175, 43, 219, 225, 170, 155, 110, 193, 226, 173, 225, 214, 148, 244, 31, 199, 26, 131, 29, 2, 104, 233, 137, 21, 98, 17, 61, 138, 98, 173, 209, 191]⟩) (some ⟨W.heap.size, 0, none⟩) 32 (grownCap W 32 0 5) kH ∧ Below W.heap.size W (Lib.bytesWorld W 5 ⟨#[175, 43, 219, 225, 170, 155, 110, 193, 226, 173, 225, 214, 148, 244, 31, 199, 26, 131, 29, 2, 104, 233, 137, 21, 98, 17, 61, 138, 98, 173, 209, 191]⟩) := by
  refine ⟨⟨⟨rfl, .inr ⟨W.heap.size, 0, rfl, by rw [Lib.bytesWorld_size]; omega, fun i hi => ?_⟩⟩, grownCap_ge _ _ _ _, grownCap_le_maxLen _ _ _ _ (by decide), fun h => (by cases h), k_dg.2.2.2.2, by decide⟩, ⟨rfl, rfl, rfl, by rw [Lib.bytesWorld_size]; omega, fun k hk => Lib.bytesWorld_at_old _ _ _ _ hk⟩⟩
  rw [Nat.zero_add, Lib.bytesWorld_cell W 5 ⟨#[175, 43, 219, 225, 170, 155, 110, 193, 226, 173, 225, 214, 148, 244, 31, 199, 26, 131, 29, 2, 104, 233, 137, 21, 98, 17, 61, 138, 98, 173, 209, 191]⟩ i hi]
  have : ∀ i, i < 32 → (((([175, 43, 219, 225, 170, 155, 110, 193, 226, 173, 225, 214, 148, 244, 31, 199, 26, 131, 29, 2, 104, 233, 137, 21, 98, 17, 61, 138, 98, 173, 209, 191] : List UInt8).getD i 0).toNat : Nat) : Int) = kH.getD i 0 := by decide
  rw [← this i hi]
theorem idx_k0 (w : World) (p q : Option Addr) (a b c d : Nat) : (Instr.index 74 (.agg #[.slice p a b, .slice q c d]) (.int .u16 0)).run Try.prog w = .ok (.slice p a b) w := by kernel_rfl
theorem idx_k1 (w : World) (p q : Option Addr) (a b c d : Nat) : (Instr.index 74 (.agg #[.slice p a b, .slice q c d]) (.int .u16 1)).run Try.prog w = .ok (.slice q c d) w := by kernel_rfl
theorem u64_pow (b : Nat) (h : b < 64) : IntKind.u64.wrap (2 ^ b) = 2 ^ b := by
  have h1 : ∀ b, b < 64 → IntKind.u64.wrap (2 ^ b) = 2 ^ b := by decide
  exact h1 b h
/-- What lies in memory ahead of the first Verify. -/
structure KAt (w2 W : World) (v : Array Value) (xs ys : List Int) : Prop where
  below : Below w2.heap.size w2 W
  size : w2.heap.size + 6 ≤ W.heap.size
  cu : Cu w2 (.agg v) greatZ 4
  blk : W.heap[w2.heap.size]? = some (.cells v 29 (0, 0))
  x : Row 34 .u64 W (w2.heap.size + 1) xs
  y : Row 34 .u64 W (w2.heap.size + 1 + 1) ys
  key : W.heap[w2.heap.size + 1 + 1 + 1]? = some (.cells #[.slice (some ⟨w2.heap.size + 1, 0, none⟩) 4 4, .slice (some ⟨w2.heap.size + 1 + 1, 0, none⟩) 4 4, .bool false] 51 (0, 0))
  r : Row 34 .u64 W (w2.heap.size + 1 + 1 + 1 + 1) kR
  s : Row 34 .u64 W (w2.heap.size + 1 + 1 + 1 + 1 + 1) kS
theorem KAt.old {w2 W W' : World} {v : Array Value} {xs ys : List Int} (h : KAt w2 W v xs ys) (hb : Below W.heap.size W W') : KAt w2 W' v xs ys := by
  have hs := h.size
  refine ⟨h.below.trans (hb.mono h.below.size), Nat.le_trans hs hb.size, h.cu, ?_, h.x.below hb (by omega), h.y.below hb (by omega), ?_, h.r.below hb (by omega), h.s.below hb (by omega)⟩
  · rw [hb.block _ (by omega)]
    exact h.blk
  · rw [hb.block _ (by omega)]
    exact h.key
theorem KAt.setX {w2 W : World} {v : Array Value} {xs ys : List Int} (h : KAt w2 W v xs ys) (k : Nat) (z : Int) : KAt w2 (W.setCell ⟨w2.heap.size + 1, k, none⟩ (.int .u64 z)) v (xs.set k z) ys := by
  have hb : Below w2.heap.size w2 (W.setCell ⟨w2.heap.size + 1, k, none⟩ (.int .u64 z)) := h.below.setCell (by simp) _
  refine ⟨hb, by have := h.size; simpa using this, h.cu, ?_, h.x.set k z, row_keepK h.y (by simp) _, ?_, row_keepK h.r (by simp <;> omega) _, row_keepK h.s (by simp <;> omega) _⟩
  · rw [heap_setCell_other _ _ _ _ (by simp)]
    exact h.blk
  · rw [heap_setCell_other _ _ _ _ (by simp <;> omega)]
    exact h.key
theorem KAt.setY {w2 W : World} {v : Array Value} {xs ys : List Int} (h : KAt w2 W v xs ys) (k : Nat) (z : Int) : KAt w2 (W.setCell ⟨w2.heap.size + 1 + 1, k, none⟩ (.int .u64 z)) v xs (ys.set k z) := by
  have hb : Below w2.heap.size w2 (W.setCell ⟨w2.heap.size + 1 + 1, k, none⟩ (.int .u64 z)) := h.below.setCell (by simp <;> omega) _
  refine ⟨hb, by have := h.size; simpa using this, h.cu, ?_, row_keepK h.x (by simp <;> omega) _, h.y.set k z, ?_, row_keepK h.r (by simp <;> omega) _, row_keepK h.s (by simp <;> omega) _⟩
  · rw [heap_setCell_other _ _ _ _ (by simp <;> omega)]
    exact h.blk
  · rw [heap_setCell_other _ _ _ _ (by simp <;> omega)]
    exact h.key
theorem KAt.nvs {w2 W : World} {v : Array Value} {xs ys : List Int} (h : KAt w2 W v xs ys) (hx : Dg B64 xs) (hy : Dg B64 ys) (lx : xs.length = 4) (ly : ys.length = 4) : Pv W (.agg #[.slice (some ⟨w2.heap.size + 1, 0, none⟩) 4 4, .slice (some ⟨w2.heap.size + 1 + 1, 0, none⟩) 4 4, .bool false]) ⟨val B64 xs, val B64 ys, false⟩ 4 ∧ Nv W (.slice (some ⟨w2.heap.size + 1 + 1 + 1 + 1, 0, none⟩) 4 4) knownR 4 ∧ Nv W (.slice (some ⟨w2.heap.size + 1 + 1 + 1 + 1 + 1, 0, none⟩) 4 4) knownS 4 := by
  have h1 := h.x.num hx (by omega)
  have h2 := h.y.num hy (by omega)
  have h3 := h.r.num k_dg.2.2.1 (by decide)
  have h4 := h.s.num k_dg.2.2.2.1 (by decide)
  rw [lx] at h1
  rw [ly] at h2
  exact ⟨⟨_, _, rfl, ⟨_, _, _, _, rfl, h1, rfl, by omega⟩, ⟨_, _, _, _, rfl, h2, rfl, by omega⟩⟩, ⟨_, _, _, _, rfl, h3, k_val.2.2.1, by decide⟩, ⟨_, _, _, _, rfl, h4, k_val.2.2.2, by decide⟩⟩
set_option maxRecDepth 100000 in
set_option maxHeartbeats 8000000 in
theorem EcdsaKnown_at (w : World) (bit : Int) (hb0 : 0 ≤ bit) (hb1 : bit < 65536) : Calls Try.prog 7 #[.int .u16 bit] w fun e w' => e = .returned (.bool true) ∧ Below w.heap.size w w' := by
  have HCV := conv_k
  go_enter Try.func7, Try.ntmps7
  go_wp2_with fail
  refine (EAwake_any w).mono ?_
  rintro e wA ⟨rfl, hbA⟩
  go_wp2_with fail
  refine (Great_any wA).mono ?_
  rintro e w2 ⟨v, rfl, hcu, hb2⟩
  have HB2 : Hid (Below w.heap.size w w2) := hbA.trans (hb2.mono hbA.size)
  obtain ⟨g1, g2, oo, lo, co, a1, a2, a3, b1, b2, b3, d1, d2, d3, e1, e2, e3, f1, f2, f3, j1, j2, j3, rfl, -, -, -, -, -, -⟩ := hcu.slices
  obtain ⟨W, hW⟩ : ∃ W, ((((((w2.alloc (.cells #[.int .i64 g1, .int .i64 g2, .slice oo lo co, .slice a1 a2 a3, .slice b1 b2 b3, .slice d1 d2 d3, .slice e1 e2 e3, .slice f1 f2 f3, .slice j1 j2 j3] 29)).alloc (.cells #[.int .u64 16602909452612575158, .int .u64 13855808666783054444, .int .u64 14511138361138572648, .int .u64 6989257567681289521] 34)).alloc (.cells #[.int .u64 8620948056189575833, .int .u64 17505968991938453329, .int .u64 11825020959996820580, .int .u64 8720092648338668697] 34)).alloc (.cells #[.slice (some ⟨w2.heap.size + 1, 0, none⟩) 4 4, .slice (some ⟨w2.heap.size + 1 + 1, 0, none⟩) 4 4, .bool false] 51)).alloc (.cells #[.int .u64 14072920526640068374, .int .u64 11325576126734727569, .int .u64 1243237162801856982, .int .u64 17281590685529975037] 34)).alloc (.cells #[.int .u64 5603792056925998504, .int .u64 17575579964503225350, .int .u64 15291629082155065189, .int .u64 17855396570382826561] 34)) = W := ⟨_, rfl⟩
  have HK : Hid (KAt w2 W #[.int .i64 g1, .int .i64 g2, .slice oo lo co, .slice a1 a2 a3, .slice b1 b2 b3, .slice d1 d2 d3, .slice e1 e2 e3, .slice f1 f2 f3, .slice j1 j2 j3] kX kY) := by
    unfold Hid
    rw [← hW]
    have z1 := alloc_sz7 w2 (.cells #[.int .i64 g1, .int .i64 g2, .slice oo lo co, .slice a1 a2 a3, .slice b1 b2 b3, .slice d1 d2 d3, .slice e1 e2 e3, .slice f1 f2 f3, .slice j1 j2 j3] 29)
    generalize hw1 : w2.alloc (.cells #[.int .i64 g1, .int .i64 g2, .slice oo lo co, .slice a1 a2 a3, .slice b1 b2 b3, .slice d1 d2 d3, .slice e1 e2 e3, .slice f1 f2 f3, .slice j1 j2 j3] 29) = y1 at *
    have q1 : y1.heap[w2.heap.size]? = some (.cells #[.int .i64 g1, .int .i64 g2, .slice oo lo co, .slice a1 a2 a3, .slice b1 b2 b3, .slice d1 d2 d3, .slice e1 e2 e3, .slice f1 f2 f3, .slice j1 j2 j3] 29 (0, 0)) := by rw [← hw1]; exact heap_alloc_new w2 _
    have B1 : Below w2.heap.size w2 y1 := by rw [← hw1]; exact (Below.refl _ _).alloc (Nat.le_refl _) _
    have r2 : Row 34 .u64 (y1.alloc (.cells #[.int .u64 16602909452612575158, .int .u64 13855808666783054444, .int .u64 14511138361138572648, .int .u64 6989257567681289521] 34)) y1.heap.size kX := heap_alloc_new y1 _
    have B2 : Below y1.heap.size y1 (y1.alloc (.cells #[.int .u64 16602909452612575158, .int .u64 13855808666783054444, .int .u64 14511138361138572648, .int .u64 6989257567681289521] 34)) := (Below.refl _ _).alloc (Nat.le_refl _) _
    have z2 := alloc_sz7 y1 (.cells #[.int .u64 16602909452612575158, .int .u64 13855808666783054444, .int .u64 14511138361138572648, .int .u64 6989257567681289521] 34)
    generalize y1.alloc (.cells #[.int .u64 16602909452612575158, .int .u64 13855808666783054444, .int .u64 14511138361138572648, .int .u64 6989257567681289521] 34) = y2 at *
    have r3 : Row 34 .u64 (y2.alloc (.cells #[.int .u64 8620948056189575833, .int .u64 17505968991938453329, .int .u64 11825020959996820580, .int .u64 8720092648338668697] 34)) y2.heap.size kY := heap_alloc_new y2 _
    have B3 : Below y2.heap.size y2 (y2.alloc (.cells #[.int .u64 8620948056189575833, .int .u64 17505968991938453329, .int .u64 11825020959996820580, .int .u64 8720092648338668697] 34)) := (Below.refl _ _).alloc (Nat.le_refl _) _
    have z3 := alloc_sz7 y2 (.cells #[.int .u64 8620948056189575833, .int .u64 17505968991938453329, .int .u64 11825020959996820580, .int .u64 8720092648338668697] 34)
    generalize y2.alloc (.cells #[.int .u64 8620948056189575833, .int .u64 17505968991938453329, .int .u64 11825020959996820580, .int .u64 8720092648338668697] 34) = y3 at *
    have q4 : (y3.alloc (.cells #[.slice (some ⟨w2.heap.size + 1, 0, none⟩) 4 4, .slice (some ⟨w2.heap.size + 1 + 1, 0, none⟩) 4 4, .bool false] 51)).heap[y3.heap.size]? = some (.cells #[.slice (some ⟨w2.heap.size + 1, 0, none⟩) 4 4, .slice (some ⟨w2.heap.size + 1 + 1, 0, none⟩) 4 4, .bool false] 51 (0, 0)) := heap_alloc_new y3 _
    have B4 : Below y3.heap.size y3 (y3.alloc (.cells #[.slice (some ⟨w2.heap.size + 1, 0, none⟩) 4 4, .slice (some ⟨w2.heap.size + 1 + 1, 0, none⟩) 4 4, .bool false] 51)) := (Below.refl _ _).alloc (Nat.le_refl _) _
    have z4 := alloc_sz7 y3 (.cells #[.slice (some ⟨w2.heap.size + 1, 0, none⟩) 4 4, .slice (some ⟨w2.heap.size + 1 + 1, 0, none⟩) 4 4, .bool false] 51)
    generalize y3.alloc (.cells #[.slice (some ⟨w2.heap.size + 1, 0, none⟩) 4 4, .slice (some ⟨w2.heap.size + 1 + 1, 0, none⟩) 4 4, .bool false] 51) = y4 at *
    have r5 : Row 34 .u64 (y4.alloc (.cells #[.int .u64 14072920526640068374, .int .u64 11325576126734727569, .int .u64 1243237162801856982, .int .u64 17281590685529975037] 34)) y4.heap.size kR := heap_alloc_new y4 _
    have B5 : Below y4.heap.size y4 (y4.alloc (.cells #[.int .u64 14072920526640068374, .int .u64 11325576126734727569, .int .u64 1243237162801856982, .int .u64 17281590685529975037] 34)) := (Below.refl _ _).alloc (Nat.le_refl _) _
    have z5 := alloc_sz7 y4 (.cells #[.int .u64 14072920526640068374, .int .u64 11325576126734727569, .int .u64 1243237162801856982, .int .u64 17281590685529975037] 34)
    generalize y4.alloc (.cells #[.int .u64 14072920526640068374, .int .u64 11325576126734727569, .int .u64 1243237162801856982, .int .u64 17281590685529975037] 34) = y5 at *
    have r6 : Row 34 .u64 (y5.alloc (.cells #[.int .u64 5603792056925998504, .int .u64 17575579964503225350, .int .u64 15291629082155065189, .int .u64 17855396570382826561] 34)) y5.heap.size kS := heap_alloc_new y5 _
    have B6 : Below y5.heap.size y5 (y5.alloc (.cells #[.int .u64 5603792056925998504, .int .u64 17575579964503225350, .int .u64 15291629082155065189, .int .u64 17855396570382826561] 34)) := (Below.refl _ _).alloc (Nat.le_refl _) _
    have z6 := alloc_sz7 y5 (.cells #[.int .u64 5603792056925998504, .int .u64 17575579964503225350, .int .u64 15291629082155065189, .int .u64 17855396570382826561] 34)
    generalize y5.alloc (.cells #[.int .u64 5603792056925998504, .int .u64 17575579964503225350, .int .u64 15291629082155065189, .int .u64 17855396570382826561] 34) = y6 at *
    have C5 := B5.trans (B6.mono B5.size)
    have C4 := B4.trans (C5.mono B4.size)
    have C3 := B3.trans (C4.mono B3.size)
    have C2 := B2.trans (C3.mono B2.size)
    have C1 := B1.trans (C2.mono B1.size)
    have t1 : y1.heap.size = w2.heap.size + 1 := z1
    have t2 : y2.heap.size = w2.heap.size + 1 + 1 := by omega
    have t3 : y3.heap.size = w2.heap.size + 1 + 1 + 1 := by omega
    have t4 : y4.heap.size = w2.heap.size + 1 + 1 + 1 + 1 := by omega
    have t5 : y5.heap.size = w2.heap.size + 1 + 1 + 1 + 1 + 1 := by omega
    rw [t1] at r2
    rw [t2] at r3
    rw [t3] at q4
    rw [t4] at r5
    rw [t5] at r6
    refine ⟨C1, by omega, hcu, by rw [C2.block _ (by omega)]; exact q1, r2.below C3 (by omega), r3.below C4 (by omega), by rw [C5.block _ (by omega)]; exact q4, r5.below B6 (by omega), r6⟩
  have hWs : W.heap.size = w2.heap.size + 6 := by rw [← hW]; simp
  have HWS : Hid (W.heap.size = w2.heap.size + 6) := hWs
  have HWW : Hid (((((((w2.alloc (.cells #[.int .i64 g1, .int .i64 g2, .slice oo lo co, .slice a1 a2 a3, .slice b1 b2 b3, .slice d1 d2 d3, .slice e1 e2 e3, .slice f1 f2 f3, .slice j1 j2 j3] 29)).alloc (.cells #[.int .u64 16602909452612575158, .int .u64 13855808666783054444, .int .u64 14511138361138572648, .int .u64 6989257567681289521] 34)).alloc (.cells #[.int .u64 8620948056189575833, .int .u64 17505968991938453329, .int .u64 11825020959996820580, .int .u64 8720092648338668697] 34)).alloc (.cells #[.slice (some ⟨w2.heap.size + 1, 0, none⟩) 4 4, .slice (some ⟨w2.heap.size + 1 + 1, 0, none⟩) 4 4, .bool false] 51)).alloc (.cells #[.int .u64 14072920526640068374, .int .u64 11325576126734727569, .int .u64 1243237162801856982, .int .u64 17281590685529975037] 34)).alloc (.cells #[.int .u64 5603792056925998504, .int .u64 17575579964503225350, .int .u64 15291629082155065189, .int .u64 17855396570382826561] 34)) = W) := hW
  clear hbA hb2 hcu hW hWs
  go_wp2_with fail
  rw [HWW.out]
  clear HWW
  obtain ⟨hnk, hbk⟩ := num_k W
  rw [HWS.out] at hnk hbk
  have hbk2 : Below W.heap.size W (Lib.bytesWorld W 5 ⟨#[175, 43, 219, 225, 170, 155, 110, 193, 226, 173, 225, 214, 148, 244, 31, 199, 26, 131, 29, 2, 104, 233, 137, 21, 98, 17, 61, 138, 98, 173, 209, 191]⟩) := by rw [HWS.out]; exact hbk
  have hK8 := HK.out.old hbk2
  obtain ⟨hpv, hnr, hns⟩ := hK8.nvs k_dg.1 k_dg.2.1 rfl rfl
  rw [k_val.1, k_val.2.1] at hpv
  have HV := Verify_good great_good great_base known_q rfl _ _ _ 32 _ kH _ _ knownR knownS 115792089210356248762697446949407573529996955224135760342422259061068512044369 _ (hK8.cu.old hK8.below) hpv hnk (by decide) hnr hns rfl (by decide) (by decide) (by decide +kernel)
  rw [show digZ greatZ.n 32 kH = 79232240492262066599341792208678897019497196617930543451364792016062498329023 by decide +kernel] at HV
  refine HV.mono ?_
  rintro e w9 ⟨i, p1, p2, p3, hi, h1, h2, h3, rfl, hb9⟩
  have he : (!p3.inf && decide (p3.x % ((115792089210356248762697446949407573529996955224135760342422259061068512044369 : Nat) : Int) = knownR)) = true := known_end i p1 p2 p3 hi h1 h2 h3
  rw [he]
  have H9 : Hid (KAt w2 w9 #[.int .i64 g1, .int .i64 g2, .slice oo lo co, .slice a1 a2 a3, .slice b1 b2 b3, .slice d1 d2 d3, .slice e1 e2 e3, .slice f1 f2 f3, .slice j1 j2 j3] kX kY) := hK8.old hb9
  clear he HV hi h1 h2 h3 hnk hbk hbk2 hK8 hpv hnr hns hb9 HK HWS
  obtain ⟨k, hk, hk4⟩ : ∃ k : Nat, bit / 2 % 4 = (k : Int) ∧ k < 4 := ⟨(bit / 2 % 4).toNat, by omega, by omega⟩
  obtain ⟨b, hb, hb64⟩ : ∃ b : Nat, bit / 8 % 64 = (b : Int) ∧ b < 64 := ⟨(bit / 8 % 64).toNat, by omega, by omega⟩
  obtain ⟨y0, y1, y2, -⟩ := (⟨H9.out.key⟩ : PLift _) |> fun h => (show w9.cell? ⟨w2.heap.size + 1 + 1 + 1, 0, none⟩ = some (.slice (some ⟨w2.heap.size + 1, 0, none⟩) 4 4) ∧ w9.cell? ⟨w2.heap.size + 1 + 1 + 1, 1, none⟩ = some (.slice (some ⟨w2.heap.size + 1 + 1, 0, none⟩) 4 4) ∧ w9.cell? ⟨w2.heap.size + 1 + 1 + 1, 2, none⟩ = some (.bool false) ∧ True from ⟨by rw [cell_of_row _ _ _ _ _ _ h.down]; rfl, by rw [cell_of_row _ _ _ _ _ _ h.down]; rfl, by rw [cell_of_row _ _ _ _ _ _ h.down]; rfl, trivial⟩)
  obtain ⟨q2, he1, he2⟩ : ∃ q2 : Int, IntKind.u16.wrap (bit.tdiv 2) = q2 ∧ q2.tmod 4 = (k : Int) := ⟨bit / 2, by rw [Int.tdiv_eq_ediv_of_nonneg hb0]; simp [IntKind.wrap, IntKind.bits, IntKind.signed]; omega, by rw [Int.tmod_eq_emod_of_nonneg (by omega)]; exact hk⟩
  obtain ⟨q8, he3, he4⟩ : ∃ q8 : Int, IntKind.u16.wrap (bit.tdiv 8) = q8 ∧ q8.tmod 64 = (b : Int) := ⟨bit / 8, by rw [Int.tdiv_eq_ediv_of_nonneg hb0]; simp [IntKind.wrap, IntKind.bits, IntKind.signed]; omega, by rw [Int.tmod_eq_emod_of_nonneg (by omega)]; exact hb⟩
  have hk4' : (k : Int) < 4 := by omega
  have hb64' : (b : Int) < 64 := by omega
  rcases Int.emod_two_eq bit with hj | hj
  · have c1 := H9.out.x.cell k (by show k < 4; omega)
    have fz := H9.out.x.frozen k
    obtain ⟨z, hz⟩ : ∃ z, bits .xor .u64 (kX.getD k 0) (2 ^ b) = z := ⟨_, rfl⟩
    have HZ : Hid (kT kX k b = z) := hz
    have HN : Hid (KAt w2 (w9.setCell ⟨w2.heap.size + 1, k, none⟩ (.int .u64 z)) #[.int .i64 g1, .int .i64 g2, .slice oo lo co, .slice a1 a2 a3, .slice b1 b2 b3, .slice d1 d2 d3, .slice e1 e2 e3, .slice f1 f2 f3, .slice j1 j2 j3] (kX.set k z) kY) := H9.out.setX k z
    generalize kX.getD k 0 = xk at c1 hz
    have hw64 : IntKind.u64.wrap (2 ^ b) = 2 ^ b := u64_pow b hb64
    have HI := idx_k0
    obtain ⟨cC0, cC1, cC2, cC3, cC4, cC5, cC6, cC7, cC8⟩ := cells9 HN.out.blk
    have k0 : (w9.setCell ⟨w2.heap.size + 1, k, none⟩ (.int .u64 z)).cell? ⟨w2.heap.size + 1 + 1 + 1, 0, none⟩ = some (.slice (some ⟨w2.heap.size + 1, 0, none⟩) 4 4) := by rw [cell_of_row _ _ _ _ _ _ HN.out.key]; rfl
    have k1 : (w9.setCell ⟨w2.heap.size + 1, k, none⟩ (.int .u64 z)).cell? ⟨w2.heap.size + 1 + 1 + 1, 1, none⟩ = some (.slice (some ⟨w2.heap.size + 1 + 1, 0, none⟩) 4 4) := by rw [cell_of_row _ _ _ _ _ _ HN.out.key]; rfl
    have k2 : (w9.setCell ⟨w2.heap.size + 1, k, none⟩ (.int .u64 z)).cell? ⟨w2.heap.size + 1 + 1 + 1, 2, none⟩ = some (.bool false) := by rw [cell_of_row _ _ _ _ _ _ HN.out.key]; rfl
    have HKB : Hid (k < 4 ∧ b < 64) := ⟨hk4, hb64⟩
    clear hb hk hk4 hb64
    go_wp2_with fail
    clear cC0 cC1 cC2 cC3 cC4 cC5 cC6 cC7 cC8 k0 k1 k2 c1 fz hz hw64
    generalize w9.setCell ⟨w2.heap.size + 1, k, none⟩ (.int .u64 z) = Wn at *
    obtain ⟨ho, hx, hy⟩ := k_off k HKB.out.1 b HKB.out.2
    rw [HZ.out] at ho hx
    have hNk := HN.out.old (num_k Wn).2
    obtain ⟨hpv, hnr, hns⟩ := hNk.nvs (k_dg.1.set k hx) k_dg.2.1 (by simp [kX]) rfl
    refine (Verify_off _ _ greatZ _ _ 32 _ _ _ _ (hNk.cu.old hNk.below) hpv rfl ho.1 ⟨_, hnr⟩ ⟨_, hns⟩).mono ?_
    rintro e wE ⟨rfl, hbE⟩
    go_wp2
    go_ret
    have hE := hNk.below.trans (hbE.mono hNk.below.size)
    exact ⟨rfl, HB2.out.trans (hE.mono HB2.out.size)⟩
  · have c1 := H9.out.y.cell k (by show k < 4; omega)
    have fz := H9.out.y.frozen k
    obtain ⟨z, hz⟩ : ∃ z, bits .xor .u64 (kY.getD k 0) (2 ^ b) = z := ⟨_, rfl⟩
    have HZ : Hid (kT kY k b = z) := hz
    have HN : Hid (KAt w2 (w9.setCell ⟨w2.heap.size + 1 + 1, k, none⟩ (.int .u64 z)) #[.int .i64 g1, .int .i64 g2, .slice oo lo co, .slice a1 a2 a3, .slice b1 b2 b3, .slice d1 d2 d3, .slice e1 e2 e3, .slice f1 f2 f3, .slice j1 j2 j3] kX (kY.set k z)) := H9.out.setY k z
    generalize kY.getD k 0 = xk at c1 hz
    have hw64 : IntKind.u64.wrap (2 ^ b) = 2 ^ b := u64_pow b hb64
    have HI := idx_k1
    obtain ⟨cC0, cC1, cC2, cC3, cC4, cC5, cC6, cC7, cC8⟩ := cells9 HN.out.blk
    have k0 : (w9.setCell ⟨w2.heap.size + 1 + 1, k, none⟩ (.int .u64 z)).cell? ⟨w2.heap.size + 1 + 1 + 1, 0, none⟩ = some (.slice (some ⟨w2.heap.size + 1, 0, none⟩) 4 4) := by rw [cell_of_row _ _ _ _ _ _ HN.out.key]; rfl
    have k1 : (w9.setCell ⟨w2.heap.size + 1 + 1, k, none⟩ (.int .u64 z)).cell? ⟨w2.heap.size + 1 + 1 + 1, 1, none⟩ = some (.slice (some ⟨w2.heap.size + 1 + 1, 0, none⟩) 4 4) := by rw [cell_of_row _ _ _ _ _ _ HN.out.key]; rfl
    have k2 : (w9.setCell ⟨w2.heap.size + 1 + 1, k, none⟩ (.int .u64 z)).cell? ⟨w2.heap.size + 1 + 1 + 1, 2, none⟩ = some (.bool false) := by rw [cell_of_row _ _ _ _ _ _ HN.out.key]; rfl
    have HKB : Hid (k < 4 ∧ b < 64) := ⟨hk4, hb64⟩
    clear hb hk hk4 hb64
    go_wp2_with fail
    clear cC0 cC1 cC2 cC3 cC4 cC5 cC6 cC7 cC8 k0 k1 k2 c1 fz hz hw64
    generalize w9.setCell ⟨w2.heap.size + 1 + 1, k, none⟩ (.int .u64 z) = Wn at *
    obtain ⟨ho, hx, hy⟩ := k_off k HKB.out.1 b HKB.out.2
    rw [HZ.out] at ho hy
    have hNk := HN.out.old (num_k Wn).2
    obtain ⟨hpv, hnr, hns⟩ := hNk.nvs k_dg.1 (k_dg.2.1.set k hy) rfl (by simp [kY])
    refine (Verify_off _ _ greatZ _ _ 32 _ _ _ _ (hNk.cu.old hNk.below) hpv rfl ho.2 ⟨_, hnr⟩ ⟨_, hns⟩).mono ?_
    rintro e wE ⟨rfl, hbE⟩
    go_wp2
    go_ret
    have hE := hNk.below.trans (hbE.mono hNk.below.size)
    exact ⟨rfl, HB2.out.trans (hE.mono HB2.out.size)⟩
theorem EcdsaKnown_walk (w : World) (n0 : Int) (w0 : (Lit.int .u16 n0).wf = true) : Calls Try.prog 7 #[.int .u16 n0] w fun e w' => e = .returned (.bool true) ∧ Below w.heap.size w w' := by
  have h : 0 ≤ n0 ∧ n0 < 65536 := by
    simp [Lit.wf, IntKind.min, IntKind.max, IntKind.signed, IntKind.bits] at w0
    omega
  exact EcdsaKnown_at w n0 h.1 h.2
end Go.Proofs.Ytcobbbamocdbbaa
