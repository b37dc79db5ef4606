import Derived.Test.YtnacgkkklmlhaaaK08
import Derived.Test.YtnacgkkklmlhaaaK07
import Derived.WalkKit
/-
  The signer's key.
-/
namespace Go.Proofs.Ytnacgkkklmlhaaa
open Go.Shelf Go.RowKit
set_option linter.unusedVariables false
set_option linter.unusedSimpArgs false

theorem sizeKey : (Try.prog.info? 32).map (·.size) = some 7 := by kernel_rfl
theorem ret_key {fn : Func} {p : Tmp} (h : fn.results = #[.cell p 32]) (tmps : Array Value) (w : World) (g : Nat) (c0 c1 c2 c3 c4 c5 c6 : Value) (hp : tmps.getD p undef = .pointer (some ⟨g, 0, none⟩)) (hg : w.heap[g]? = some (.cells #[c0, c1, c2, c3, c4, c5, c6] 32 (0, 0))) :
    (results fn tmps).run Try.prog w = .ok (.agg #[c0, c1, c2, c3, c4, c5, c6]) w :=
  results_cell_row h tmps w g 32 _ (0, 0) _ hp hg Try.underlying32 rfl sizeKey
/-- A number that lies elsewhere stands. -/
theorem num_kept {w w' : World} {ao : Option Addr} {l c : Nat} {xs : List Int} {g : Nat} (h : NumIn .u64 B64 w ao l c xs) (hne : ∀ off x, w.cell? ⟨g, off, none⟩ ≠ some (.int .u64 x)) (hk : ∀ j, j ≠ g → w'.heap[j]? = w.heap[j]?) (hs : w.heap.size ≤ w'.heap.size) : NumIn .u64 B64 w' ao l c xs := by
  refine ⟨⟨h.lies.1, ?_⟩, h.lc, h.cm, h.nn, h.dg, h.sm⟩
  rcases h.lies.2 with h0 | ⟨b, off, e, hb, hc⟩
  · exact .inl h0
  · rcases Nat.eq_zero_or_pos l with h0 | h0
    · exact .inl h0
    · have hbg : b ≠ g := by
        rintro rfl
        have := hc 0 h0
        exact hne _ _ this
      refine .inr ⟨b, off, e, Nat.lt_of_lt_of_le hb hs, fun i hi => ?_⟩
      rw [← hc i hi]
      unfold World.cell?
      simp only [hk b hbg]
theorem key_ne {w : World} {g : Nat} {n1 n2 : Int} {v1 v2 : Option Addr} {b : Bool} {l1 c1 l2 c2 l3 c3 l4 c4 : Nat} {v3 v4 : Option Addr} (h : w.heap[g]? = some (.cells #[.int .u8 n1, .int .i64 n2, .slice v1 l1 c1, .slice v2 l2 c2, .bool b, .slice v3 l3 c3, .slice v4 l4 c4] 32 (0, 0))) (off : Nat) (x : Int) : w.cell? ⟨g, off, none⟩ ≠ some (.int .u64 x) := by
  rw [cell_of_row _ _ _ _ _ _ h]
  match off with
  | 0 => simp
  | 1 => simp
  | 2 => simp
  | 3 => simp
  | 4 => simp
  | 5 => simp
  | 6 => simp
  | n + 7 => simp
theorem rsa_small (i : Int) : 0 < rsaN i ∧ rsaN i < B64 ^ 8 ∧ 0 < rsaE i ∧ rsaE i < B64 ^ 8 := by
  unfold rsaN rsaE
  split <;> decide +kernel
set_option maxRecDepth 100000 in
set_option maxHeartbeats 4000000 in
theorem scurve_any (i : Int) (w : World) : Calls Try.prog 26 #[.agg #[.int .u8 15, .int .u8 i]] w fun e w' => e = .returned (.int .i64 (-1)) ∧ Below w.heap.size w w' := by
  have b0 := (Below.refl w.heap.size w).alloc (Nat.le_refl _) (.cells #[.int .u8 15, .int .u8 i] 34)
  go_enter Try.func26, Try.ntmps26
  go_wp2
  go_ret
  exact ⟨rfl, b0⟩
set_option maxRecDepth 100000 in
set_option maxHeartbeats 4000000 in
theorem skey_any (i : Int) (w : World) (h0 : 0 ≤ i) (h1 : i < 256) :
    Calls Try.prog 9 #[.agg #[.int .u8 15, .int .u8 i]] w fun e w' => ∃ vn ve, e = .returned (.agg #[.int .u8 2, .int .i64 0, .slice none 0 0, .slice none 0 0, .bool false, vn, ve]) ∧ Nv w' vn (rsaN i) 8 ∧ Nv w' ve (rsaE i) 8 ∧ Below w.heap.size w w' := by
  have HRS := fun W => rsa12_any i W h0 h1
  have hsm := rsa_small i
  obtain ⟨W0, hW0⟩ : ∃ W0, (w.alloc (.cells #[.int .u8 15, .int .u8 i] 34)).alloc (.cells #[.int .u8 0, .int .i64 0, .slice none 0 0, .slice none 0 0, .bool false, .slice none 0 0, .slice none 0 0] 32) = W0 := ⟨_, rfl⟩
  have b0 : Below w.heap.size w W0 := by rw [← hW0]; exact ((Below.refl w.heap.size w).alloc (Nat.le_refl _) _).alloc (by simp) _
  have HK : Hid (W0.heap[w.heap.size + 1]? = some (.cells #[.int .u8 0, .int .i64 0, .slice none 0 0, .slice none 0 0, .bool false, .slice none 0 0, .slice none 0 0] 32 (0, 0))) := by
    unfold Hid
    rw [← hW0]
    have h := heap_alloc_new (w.alloc (.cells #[.int .u8 15, .int .u8 i] 34)) (.cells #[.int .u8 0, .int .i64 0, .slice none 0 0, .slice none 0 0, .bool false, .slice none 0 0, .slice none 0 0] 32)
    rw [alloc_sz7] at h
    exact h
  have HS : Hid (W0.heap[w.heap.size]? = some (.cells #[.int .u8 15, .int .u8 i] 34 (0, 0))) := by
    unfold Hid
    rw [← hW0, Below.heap_alloc _ _ _ (by rw [alloc_sz7]; omega)]
    exact heap_alloc_new w _
  have HLT : Hid (w.heap.size + 1 < W0.heap.size) := (Array.getElem?_eq_some_iff.1 HK.out).1
  have HW0 : Hid ((w.alloc (.cells #[.int .u8 15, .int .u8 i] 34)).alloc (.cells #[.int .u8 0, .int .i64 0, .slice none 0 0, .slice none 0 0, .bool false, .slice none 0 0, .slice none 0 0] 32) = W0) := hW0
  have hiw : IntKind.i64.wrap i = i := by simp [IntKind.wrap, IntKind.bits, IntKind.signed]; omega
  have HB0 : Hid (Below w.heap.size w W0) := b0
  clear hW0 b0
  go_enter Try.func9, Try.ntmps9
  go_wp2_with fail
  rw [HW0.out]
  clear HW0
  refine (scurve_any i W0).mono ?_
  rintro e w1 ⟨rfl, d1⟩
  obtain ⟨x0, x1⟩ := cells2 (by rw [d1.block _ (by have := HLT.out; omega)]; exact HS.out : w1.heap[w.heap.size]? = _)
  have D1 : Hid (Below W0.heap.size W0 w1) := d1
  clear d1
  go_wp2_with fail
  refine (HRS w1).mono ?_
  rintro e w2 ⟨v1, v2, v3, rfl, r1, r2, r3, d2⟩
  have D2 : Hid (Below W0.heap.size W0 w2) := D1.out.trans (d2.mono D1.out.size)
  have HN1 := rNat_nv v1 (rsaN i) 32 8 w2 r1 (by decide) hsm.2.1
  have HN2 := fun W (hb : Below w2.heap.size w2 W) => rNat_nv v2 (rsaE i) 32 8 W (r2.old hb) (by decide) hsm.2.2.2
  obtain ⟨q1, q2, q3, q4, rfl, -⟩ := r1
  obtain ⟨s1, s2, s3, s4, rfl, -⟩ := r2
  obtain ⟨t1, t2, t3, t4, rfl, -⟩ := r3
  clear x0 x1 d2 HRS
  go_wp2_with fail
  refine HN1.mono ?_
  rintro e w3 ⟨vn, rfl, hn, d3⟩
  have HN2' := HN2 w3 d3
  have D3 : Hid (Below W0.heap.size W0 w3) := D2.out.trans (d3.mono D2.out.size)
  clear HN1 HN2
  go_wp2_with fail
  refine HN2'.mono ?_
  rintro e w4 ⟨ve, rfl, he, d4⟩
  have D4 : Hid (Below W0.heap.size W0 w4) := D3.out.trans (d4.mono D3.out.size)
  have hn4 := hn.old d4
  have hrow : w4.heap[w.heap.size + 1]? = some (.cells #[.int .u8 0, .int .i64 0, .slice none 0 0, .slice none 0 0, .bool false, .slice none 0 0, .slice none 0 0] 32 (0, 0)) := by rw [D4.out.block _ HLT.out]; exact HK.out
  obtain ⟨n1, n2, n3, n4, rfl, n5, n6, n7⟩ := hn4
  obtain ⟨m1, m2, m3, m4, rfl, m5, m6, m7⟩ := he
  have HR : Hid (NumIn .u64 B64 w4 n1 n2 n3 n4 ∧ val B64 n4 = rsaN i ∧ n2 ≤ 8 ∧ NumIn .u64 B64 w4 m1 m2 m3 m4 ∧ val B64 m4 = rsaE i ∧ m2 ≤ 8) := ⟨n5, n6, n7, m5, m6, m7⟩
  have HRW : Hid _ := hrow
  clear n5 n6 n7 m5 m6 m7 hn d3 d4 HN2' hrow hsm
  have y0 : w4.heap[w.heap.size + 1]? = some (.cells #[.int .u8 0, .int .i64 0, .slice none 0 0, .slice none 0 0, .bool false, .slice none 0 0, .slice none 0 0] 32 (0, 0)) := HRW.out
  have c0 : w4.cell? ⟨w.heap.size + 1, 0, none⟩ = some (.int .u8 0) := by rw [cell_of_row _ _ _ _ _ _ y0]; rfl
  have f0 : w4.frozen? ⟨w.heap.size + 1, 0, none⟩ = false := frozen_of_row _ _ _ _ _ y0
  have y1 : (w4.setCell ⟨w.heap.size + 1, 0, none⟩ (.int .u8 2)).heap[w.heap.size + 1]? = some (.cells #[.int .u8 2, .int .i64 0, .slice none 0 0, .slice none 0 0, .bool false, .slice none 0 0, .slice none 0 0] 32 (0, 0)) := heap_setCell_same _ _ 0 _ _ _ y0
  have c1 : (w4.setCell ⟨w.heap.size + 1, 0, none⟩ (.int .u8 2)).cell? ⟨w.heap.size + 1, 1, none⟩ = some (.int .i64 0) := by rw [cell_of_row _ _ _ _ _ _ y1]; rfl
  have f1 : (w4.setCell ⟨w.heap.size + 1, 0, none⟩ (.int .u8 2)).frozen? ⟨w.heap.size + 1, 1, none⟩ = false := frozen_of_row _ _ _ _ _ y1
  have y2 : ((w4.setCell ⟨w.heap.size + 1, 0, none⟩ (.int .u8 2)).setCell ⟨w.heap.size + 1, 1, none⟩ (.int .i64 0)).heap[w.heap.size + 1]? = some (.cells #[.int .u8 2, .int .i64 0, .slice none 0 0, .slice none 0 0, .bool false, .slice none 0 0, .slice none 0 0] 32 (0, 0)) := heap_setCell_same _ _ 1 _ _ _ y1
  have c2 : ((w4.setCell ⟨w.heap.size + 1, 0, none⟩ (.int .u8 2)).setCell ⟨w.heap.size + 1, 1, none⟩ (.int .i64 0)).cell? ⟨w.heap.size + 1, 2, none⟩ = some (.slice none 0 0) := by rw [cell_of_row _ _ _ _ _ _ y2]; rfl
  have f2 : ((w4.setCell ⟨w.heap.size + 1, 0, none⟩ (.int .u8 2)).setCell ⟨w.heap.size + 1, 1, none⟩ (.int .i64 0)).frozen? ⟨w.heap.size + 1, 2, none⟩ = false := frozen_of_row _ _ _ _ _ y2
  have y3 : (((w4.setCell ⟨w.heap.size + 1, 0, none⟩ (.int .u8 2)).setCell ⟨w.heap.size + 1, 1, none⟩ (.int .i64 0)).setCell ⟨w.heap.size + 1, 2, none⟩ (.slice none 0 0)).heap[w.heap.size + 1]? = some (.cells #[.int .u8 2, .int .i64 0, .slice none 0 0, .slice none 0 0, .bool false, .slice none 0 0, .slice none 0 0] 32 (0, 0)) := heap_setCell_same _ _ 2 _ _ _ y2
  have c3 : (((w4.setCell ⟨w.heap.size + 1, 0, none⟩ (.int .u8 2)).setCell ⟨w.heap.size + 1, 1, none⟩ (.int .i64 0)).setCell ⟨w.heap.size + 1, 2, none⟩ (.slice none 0 0)).cell? ⟨w.heap.size + 1, 3, none⟩ = some (.slice none 0 0) := by rw [cell_of_row _ _ _ _ _ _ y3]; rfl
  have f3 : (((w4.setCell ⟨w.heap.size + 1, 0, none⟩ (.int .u8 2)).setCell ⟨w.heap.size + 1, 1, none⟩ (.int .i64 0)).setCell ⟨w.heap.size + 1, 2, none⟩ (.slice none 0 0)).frozen? ⟨w.heap.size + 1, 3, none⟩ = false := frozen_of_row _ _ _ _ _ y3
  have y4 : ((((w4.setCell ⟨w.heap.size + 1, 0, none⟩ (.int .u8 2)).setCell ⟨w.heap.size + 1, 1, none⟩ (.int .i64 0)).setCell ⟨w.heap.size + 1, 2, none⟩ (.slice none 0 0)).setCell ⟨w.heap.size + 1, 3, none⟩ (.slice none 0 0)).heap[w.heap.size + 1]? = some (.cells #[.int .u8 2, .int .i64 0, .slice none 0 0, .slice none 0 0, .bool false, .slice none 0 0, .slice none 0 0] 32 (0, 0)) := heap_setCell_same _ _ 3 _ _ _ y3
  have c4 : ((((w4.setCell ⟨w.heap.size + 1, 0, none⟩ (.int .u8 2)).setCell ⟨w.heap.size + 1, 1, none⟩ (.int .i64 0)).setCell ⟨w.heap.size + 1, 2, none⟩ (.slice none 0 0)).setCell ⟨w.heap.size + 1, 3, none⟩ (.slice none 0 0)).cell? ⟨w.heap.size + 1, 4, none⟩ = some (.bool false) := by rw [cell_of_row _ _ _ _ _ _ y4]; rfl
  have f4 : ((((w4.setCell ⟨w.heap.size + 1, 0, none⟩ (.int .u8 2)).setCell ⟨w.heap.size + 1, 1, none⟩ (.int .i64 0)).setCell ⟨w.heap.size + 1, 2, none⟩ (.slice none 0 0)).setCell ⟨w.heap.size + 1, 3, none⟩ (.slice none 0 0)).frozen? ⟨w.heap.size + 1, 4, none⟩ = false := frozen_of_row _ _ _ _ _ y4
  have y5 : (((((w4.setCell ⟨w.heap.size + 1, 0, none⟩ (.int .u8 2)).setCell ⟨w.heap.size + 1, 1, none⟩ (.int .i64 0)).setCell ⟨w.heap.size + 1, 2, none⟩ (.slice none 0 0)).setCell ⟨w.heap.size + 1, 3, none⟩ (.slice none 0 0)).setCell ⟨w.heap.size + 1, 4, none⟩ (.bool false)).heap[w.heap.size + 1]? = some (.cells #[.int .u8 2, .int .i64 0, .slice none 0 0, .slice none 0 0, .bool false, .slice none 0 0, .slice none 0 0] 32 (0, 0)) := heap_setCell_same _ _ 4 _ _ _ y4
  have c5 : (((((w4.setCell ⟨w.heap.size + 1, 0, none⟩ (.int .u8 2)).setCell ⟨w.heap.size + 1, 1, none⟩ (.int .i64 0)).setCell ⟨w.heap.size + 1, 2, none⟩ (.slice none 0 0)).setCell ⟨w.heap.size + 1, 3, none⟩ (.slice none 0 0)).setCell ⟨w.heap.size + 1, 4, none⟩ (.bool false)).cell? ⟨w.heap.size + 1, 5, none⟩ = some (.slice none 0 0) := by rw [cell_of_row _ _ _ _ _ _ y5]; rfl
  have f5 : (((((w4.setCell ⟨w.heap.size + 1, 0, none⟩ (.int .u8 2)).setCell ⟨w.heap.size + 1, 1, none⟩ (.int .i64 0)).setCell ⟨w.heap.size + 1, 2, none⟩ (.slice none 0 0)).setCell ⟨w.heap.size + 1, 3, none⟩ (.slice none 0 0)).setCell ⟨w.heap.size + 1, 4, none⟩ (.bool false)).frozen? ⟨w.heap.size + 1, 5, none⟩ = false := frozen_of_row _ _ _ _ _ y5
  have y6 : ((((((w4.setCell ⟨w.heap.size + 1, 0, none⟩ (.int .u8 2)).setCell ⟨w.heap.size + 1, 1, none⟩ (.int .i64 0)).setCell ⟨w.heap.size + 1, 2, none⟩ (.slice none 0 0)).setCell ⟨w.heap.size + 1, 3, none⟩ (.slice none 0 0)).setCell ⟨w.heap.size + 1, 4, none⟩ (.bool false)).setCell ⟨w.heap.size + 1, 5, none⟩ (.slice n1 n2 n3)).heap[w.heap.size + 1]? = some (.cells #[.int .u8 2, .int .i64 0, .slice none 0 0, .slice none 0 0, .bool false, .slice n1 n2 n3, .slice none 0 0] 32 (0, 0)) := heap_setCell_same _ _ 5 _ _ _ y5
  have c6 : ((((((w4.setCell ⟨w.heap.size + 1, 0, none⟩ (.int .u8 2)).setCell ⟨w.heap.size + 1, 1, none⟩ (.int .i64 0)).setCell ⟨w.heap.size + 1, 2, none⟩ (.slice none 0 0)).setCell ⟨w.heap.size + 1, 3, none⟩ (.slice none 0 0)).setCell ⟨w.heap.size + 1, 4, none⟩ (.bool false)).setCell ⟨w.heap.size + 1, 5, none⟩ (.slice n1 n2 n3)).cell? ⟨w.heap.size + 1, 6, none⟩ = some (.slice none 0 0) := by rw [cell_of_row _ _ _ _ _ _ y6]; rfl
  have f6 : ((((((w4.setCell ⟨w.heap.size + 1, 0, none⟩ (.int .u8 2)).setCell ⟨w.heap.size + 1, 1, none⟩ (.int .i64 0)).setCell ⟨w.heap.size + 1, 2, none⟩ (.slice none 0 0)).setCell ⟨w.heap.size + 1, 3, none⟩ (.slice none 0 0)).setCell ⟨w.heap.size + 1, 4, none⟩ (.bool false)).setCell ⟨w.heap.size + 1, 5, none⟩ (.slice n1 n2 n3)).frozen? ⟨w.heap.size + 1, 6, none⟩ = false := frozen_of_row _ _ _ _ _ y6
  have HY : Hid ((((((((w4.setCell ⟨w.heap.size + 1, 0, none⟩ (.int .u8 2)).setCell ⟨w.heap.size + 1, 1, none⟩ (.int .i64 0)).setCell ⟨w.heap.size + 1, 2, none⟩ (.slice none 0 0)).setCell ⟨w.heap.size + 1, 3, none⟩ (.slice none 0 0)).setCell ⟨w.heap.size + 1, 4, none⟩ (.bool false)).setCell ⟨w.heap.size + 1, 5, none⟩ (.slice n1 n2 n3)).setCell ⟨w.heap.size + 1, 6, none⟩ (.slice m1 m2 m3)).heap[w.heap.size + 1]? = some (.cells #[.int .u8 2, .int .i64 0, .slice none 0 0, .slice none 0 0, .bool false, .slice n1 n2 n3, .slice m1 m2 m3] 32 (0, 0))) := heap_setCell_same _ _ 6 _ _ _ y6
  have HB7 : Hid (Below w4.heap.size w4 w4 ∧ Below w.heap.size w (((((((w4.setCell ⟨w.heap.size + 1, 0, none⟩ (.int .u8 2)).setCell ⟨w.heap.size + 1, 1, none⟩ (.int .i64 0)).setCell ⟨w.heap.size + 1, 2, none⟩ (.slice none 0 0)).setCell ⟨w.heap.size + 1, 3, none⟩ (.slice none 0 0)).setCell ⟨w.heap.size + 1, 4, none⟩ (.bool false)).setCell ⟨w.heap.size + 1, 5, none⟩ (.slice n1 n2 n3)).setCell ⟨w.heap.size + 1, 6, none⟩ (.slice m1 m2 m3)) ∧ (∀ j, j ≠ w.heap.size + 1 → (((((((w4.setCell ⟨w.heap.size + 1, 0, none⟩ (.int .u8 2)).setCell ⟨w.heap.size + 1, 1, none⟩ (.int .i64 0)).setCell ⟨w.heap.size + 1, 2, none⟩ (.slice none 0 0)).setCell ⟨w.heap.size + 1, 3, none⟩ (.slice none 0 0)).setCell ⟨w.heap.size + 1, 4, none⟩ (.bool false)).setCell ⟨w.heap.size + 1, 5, none⟩ (.slice n1 n2 n3)).setCell ⟨w.heap.size + 1, 6, none⟩ (.slice m1 m2 m3)).heap[j]? = w4.heap[j]?)) := by
    have hb4 := HB0.out.trans (D4.out.mono HB0.out.size)
    refine ⟨Below.refl _ _, ((((((hb4.setCell (by simp) _).setCell (by simp) _).setCell (by simp) _).setCell (by simp) _).setCell (by simp) _).setCell (by simp) _).setCell (by simp) _, fun j hj => ?_⟩
    simp only [heap_setCell_other _ _ j _ (show j ≠ (⟨w.heap.size + 1, _, none⟩ : Addr).block from hj)]
  generalize hWE : (((((((w4.setCell ⟨w.heap.size + 1, 0, none⟩ (.int .u8 2)).setCell ⟨w.heap.size + 1, 1, none⟩ (.int .i64 0)).setCell ⟨w.heap.size + 1, 2, none⟩ (.slice none 0 0)).setCell ⟨w.heap.size + 1, 3, none⟩ (.slice none 0 0)).setCell ⟨w.heap.size + 1, 4, none⟩ (.bool false)).setCell ⟨w.heap.size + 1, 5, none⟩ (.slice n1 n2 n3)).setCell ⟨w.heap.size + 1, 6, none⟩ (.slice m1 m2 m3)) = WE at HY HB7
  have HWE : Hid ((((((((w4.setCell ⟨w.heap.size + 1, 0, none⟩ (.int .u8 2)).setCell ⟨w.heap.size + 1, 1, none⟩ (.int .i64 0)).setCell ⟨w.heap.size + 1, 2, none⟩ (.slice none 0 0)).setCell ⟨w.heap.size + 1, 3, none⟩ (.slice none 0 0)).setCell ⟨w.heap.size + 1, 4, none⟩ (.bool false)).setCell ⟨w.heap.size + 1, 5, none⟩ (.slice n1 n2 n3)).setCell ⟨w.heap.size + 1, 6, none⟩ (.slice m1 m2 m3)) = WE) := hWE
  clear hWE y0 y1 y2 y3 y4 y5 y6
  go_wp2
  rw [HWE.out]
  have hsz : w4.heap.size ≤ WE.heap.size := by rw [← HWE.out]; simp
  have k1 := num_kept HR.out.1 (key_ne HRW.out) HB7.out.2.2 hsz
  have k2 := num_kept HR.out.2.2.2.1 (key_ne HRW.out) HB7.out.2.2 hsz
  refine bodyPost_ret (ret_key rfl _ _ _ _ _ _ _ _ _ _ rfl HY.out) rfl ?_
  exact ⟨_, _, rfl, ⟨_, _, _, _, rfl, k1, HR.out.2.1, HR.out.2.2.1⟩, ⟨_, _, _, _, rfl, k2, HR.out.2.2.2.2.1, HR.out.2.2.2.2.2⟩, HB7.out.2.1⟩
end Go.Proofs.Ytnacgkkklmlhaaa
/-
  Points of a curve in a ring without divisors of nothing: sums, in any order. No program in sight.
-/
namespace Go.Proofs.Ytnacgkkklmlhaaa
set_option linter.unusedVariables false
set_option linter.unusedSimpArgs false

/-- A ring in which a product is 0 only if one of the two is, and 2 isn't. -/
structure Dom (P : Nat) [NeZero P] : Prop where
  dom : ∀ a b : Fin P, a * b = 0 → a = 0 ∨ b = 0
  two : ∀ a : Fin P, a + a = 0 → a = 0
variable {P : Nat} [NeZero P]
theorem Dom.cancel (D : Dom P) {a b c : Fin P} (h : a * b = a * c) (ha : ¬ a = 0) : b = c := by
  have h1 : a * (b - c) = 0 := by grind
  rcases D.dom _ _ h1 with h2 | h2
  · exact absurd h2 ha
  · grind
/-- A point is on the curve. -/
def OnR (A B : Fin P) : Option (Fin P × Fin P) → Prop
  | none => True
  | some (x, y) => y * y = x * x * x + A * x + B
/-- The line through two points. -/
def LineR (A x1 y1 x2 y2 l : Fin P) : Prop := y2 - y1 = l * (x2 - x1) ∧ l * (y1 + y2) = x1 * x1 + x1 * x2 + x2 * x2 + A
/-- The sum of two points. -/
def SumR (A : Fin P) : Option (Fin P × Fin P) → Option (Fin P × Fin P) → Option (Fin P × Fin P) → Prop
  | none, q, r => r = q
  | some p, none, r => r = some p
  | some (x1, y1), some (x2, y2), r => (x1 = x2 ∧ y1 + y2 = 0 ∧ r = none) ∨ (¬ (x1 = x2 ∧ y1 + y2 = 0) ∧ ∃ l x3 y3, LineR A x1 y1 x2 y2 l ∧ x3 = l * l - x1 - x2 ∧ y3 = l * (x1 - x3) - y1 ∧ r = some (x3, y3))
/-- No point of the curve is singular. -/
def Smooth (A B : Fin P) : Prop := ∀ x : Fin P, x * x * x + A * x + B = 0 → x * x + x * x + x * x + A = 0 → False
theorem zero_of {a b : Fin P} (h : a - b = 0) : a = b := by grind
theorem sub_of {a b : Fin P} (h : a = b) : a - b = 0 := by rw [h]; grind
theorem eq_add {a b c : Fin P} (h : a - b = c) : a = b + c := by grind
theorem eq_sub {a b c : Fin P} (h : a = b + c) : c = a - b := by grind
theorem id_on (x1 y1 x2 l : Fin P) : (l * (x1 - (l * l - x1 - x2)) - y1) * (l * (x1 - (l * l - x1 - x2)) - y1) = (l * l - x1 - x2) * (l * l - x1 - x2) * (l * l - x1 - x2) + (l * (y1 + (y1 + l * (x2 - x1))) - (x1 * x1 + x1 * x2 + x2 * x2)) * (l * l - x1 - x2) + (y1 * y1 - x1 * x1 * x1 - (l * (y1 + (y1 + l * (x2 - x1))) - (x1 * x1 + x1 * x2 + x2 * x2)) * x1) := by grind
theorem line_on {A B x1 y1 x2 y2 l x3 y3 : Fin P} (h1 : y1 * y1 = x1 * x1 * x1 + A * x1 + B) (hl : LineR A x1 y1 x2 y2 l) (e3 : x3 = l * l - x1 - x2) (e4 : y3 = l * (x1 - x3) - y1) : y3 * y3 = x3 * x3 * x3 + A * x3 + B := by
  obtain ⟨a, b⟩ := hl
  obtain rfl := eq_add a
  obtain rfl := eq_sub b
  have hB : B = y1 * y1 - x1 * x1 * x1 - (l * (y1 + (y1 + l * (x2 - x1))) - (x1 * x1 + x1 * x2 + x2 * x2)) * x1 := by
    clear e3 e4 a b
    generalize (l * (y1 + (y1 + l * (x2 - x1))) - (x1 * x1 + x1 * x2 + x2 * x2)) = A at *
    grind
  subst hB
  subst e3 e4
  exact id_on x1 y1 x2 l
/-- What two lines through one point tell of its Y. -/
theorem mid_id (x1 x2 x3 y2 l m : Fin P) : (y2 + y2) * (l - m) - ((x1 - x2) * (x1 + x2 + x3 - l * l) + (x2 - x3) * (x1 + x2 + x3 - m * m)) = (l * ((y2 + l * (x1 - x2)) + y2) - (x1 * x1 + x1 * x2 + x2 * x2)) - (m * (y2 + (y2 + m * (x3 - x2))) - (x2 * x2 + x2 * x3 + x3 * x3)) := by grind
theorem mid_eq {A x1 y1 x2 y2 x3 y3 l m : Fin P} (h : LineR A x1 y1 x2 y2 l) (k : LineR A x2 y2 x3 y3 m) : (y2 + y2) * (l - m) = (x1 - x2) * (x1 + x2 + x3 - l * l) + (x2 - x3) * (x1 + x2 + x3 - m * m) := by
  obtain ⟨a, b⟩ := h
  obtain ⟨c, d⟩ := k
  have e1 : y1 = y2 + l * (x1 - x2) := by clear b c d; grind
  have e3 := eq_add c
  have e := mid_id x1 x2 x3 y2 l m
  rw [← e1, ← e3, b, d] at e
  clear a b c d e1 e3
  grind
/-- The slope from the sum of the first two on to the third. -/
theorem far_id (x1 x2 x3 y2 l m : Fin P) : (l - m) * ((y2 + m * (x3 - x2)) - (l * (x2 - (l * l - x1 - x2)) - y2)) - (x3 - (l * l - x1 - x2)) * (x1 - x3 - (l - m) * l) = (y2 + y2) * (l - m) - ((x1 - x2) * (x1 + x2 + x3 - l * l) + (x2 - x3) * (x1 + x2 + x3 - m * m)) := by grind
theorem line_comm {A x1 y1 x2 y2 l : Fin P} (h : LineR A x1 y1 x2 y2 l) : LineR A x2 y2 x1 y1 l := by
  obtain ⟨a, b⟩ := h
  constructor <;> grind
theorem line_uniq (D : Dom P) {A x1 y1 x2 y2 l m : Fin P} (h : LineR A x1 y1 x2 y2 l) (k : LineR A x1 y1 x2 y2 m) (hn : ¬ (x1 = x2 ∧ y1 + y2 = 0)) : l = m := by
  obtain ⟨a, b⟩ := h
  obtain ⟨c, d⟩ := k
  by_cases hx : x1 = x2
  · have hy : ¬ y1 + y2 = 0 := fun e => hn ⟨hx, e⟩
    exact D.cancel (a := y1 + y2) (by grind) hy
  · exact D.cancel (a := x2 - x1) (by grind) (fun e => hx (by grind))
theorem far_eq {A x1 y1 x2 y2 x3 y3 l m x12 y12 g : Fin P} (h : LineR A x1 y1 x2 y2 l) (k : LineR A x2 y2 x3 y3 m) (e12 : x12 = l * l - x1 - x2) (f12 : y12 = l * (x1 - x12) - y1) (hg : y3 - y12 = g * (x3 - x12)) : (x3 - x12) * (g * (l - m)) = (x3 - x12) * (x1 - x3 - (l - m) * l) := by
  have e := far_id x1 x2 x3 y2 l m
  have e0 := mid_eq h k
  have e1 : y1 = y2 + l * (x1 - x2) := by have a := h.1; clear h k e12 f12 hg e e0; grind
  have e3 : y3 = y2 + m * (x3 - x2) := eq_add k.1
  have f : y12 = l * (x2 - x12) - y2 := by clear h k e12 hg e e0 e3; grind
  rw [← e12, ← f, ← e3, e0, hg] at e
  clear h k e12 f12 hg e0 e1 e3 f
  grind
theorem fin_x {x1 x2 x3 l m t : Fin P} (ht : t * (l - m) = x1 - x3) : (t - l) * (t - l) - (l * l - x1 - x2) - x3 = (t - m) * (t - m) - x1 - (m * m - x2 - x3) := by grind
theorem fin_y {x1 x2 x3 y2 l m t : Fin P} (ht : t * (l - m) = x1 - x3) : (t - l) * (x3 - ((t - l) * (t - l) - (l * l - x1 - x2) - x3)) - (y2 + m * (x3 - x2)) = (t - m) * (x1 - ((t - m) * (t - m) - x1 - (m * m - x2 - x3))) - (y2 + l * (x1 - x2)) := by grind
theorem sum_comm {A : Fin P} : ∀ {p q r : Option (Fin P × Fin P)}, SumR A p q r → SumR A q p r
  | none, none, r, h => h
  | none, some q, r, h => h
  | some p, none, r, h => h
  | some (x1, y1), some (x2, y2), r, h => by
    rcases h with ⟨h1, h2, h3⟩ | ⟨h0, l, x3, y3, hl, e3, e4, e5⟩
    · exact .inl ⟨h1.symm, by rw [← h2]; grind, h3⟩
    · refine .inr ⟨fun e => h0 ⟨e.1.symm, by rw [← e.2]; grind⟩, l, x3, y3, line_comm hl, by rw [e3]; grind, ?_, e5⟩
      have a := hl.1
      rw [e4]
      clear hl e3 e4 e5 h0
      grind
theorem sum_uniq (D : Dom P) {A : Fin P} : ∀ {p q r r' : Option (Fin P × Fin P)}, SumR A p q r → SumR A p q r' → r = r'
  | none, q, r, r', h, k => h.trans k.symm
  | some p, none, r, r', h, k => h.trans k.symm
  | some (x1, y1), some (x2, y2), r, r', h, k => by
    rcases h with ⟨h1, h2, h3⟩ | ⟨h0, l, x3, y3, hl, e3, e4, e5⟩
    · rcases k with ⟨k1, k2, k3⟩ | ⟨k0, _⟩
      · rw [h3, k3]
      · exact absurd ⟨h1, h2⟩ k0
    · rcases k with ⟨k1, k2, k3⟩ | ⟨k0, m, x4, y4, hm, f3, f4, f5⟩
      · exact absurd ⟨k1, k2⟩ h0
      · obtain rfl := line_uniq D hl hm h0
        rw [e5, f5, e4, f4, e3, f3]
theorem sum_on {A B : Fin P} : ∀ {p q r : Option (Fin P × Fin P)}, OnR A B p → OnR A B q → SumR A p q r → OnR A B r
  | none, q, r, hp, hq, h => by rw [show r = q from h]; exact hq
  | some p, none, r, hp, hq, h => by rw [show r = some p from h]; exact hp
  | some (x1, y1), some (x2, y2), r, hp, hq, h => by
    rcases h with ⟨h1, h2, h3⟩ | ⟨h0, l, x3, y3, hl, e3, e4, e5⟩
    · rw [h3]; trivial
    · rw [e5]; exact line_on hp hl e3 e4
/-- The slope on to the third point, wherever it is. -/
theorem claimG (D : Dom P) {A B x1 y1 x2 y2 x3 y3 l m x12 y12 : Fin P} {r : Option (Fin P × Fin P)} (o1 : y1 * y1 = x1 * x1 * x1 + A * x1 + B) (o3 : y3 * y3 = x3 * x3 * x3 + A * x3 + B) (h : LineR A x1 y1 x2 y2 l) (k : LineR A x2 y2 x3 y3 m) (hlm : ¬ l - m = 0) (n23 : ¬ (x2 = x3 ∧ y2 + y3 = 0)) (e12 : x12 = l * l - x1 - x2) (f12 : y12 = l * (x1 - x12) - y1) (hs : SumR A (some (x12, y12)) (some (x3, y3)) r) :
    ∃ g X Y, LineR A x12 y12 x3 y3 g ∧ X = g * g - x12 - x3 ∧ Y = g * (x12 - X) - y12 ∧ r = some (X, Y) ∧ g * (l - m) = x1 - x3 - (l - m) * l := by
  have e0 := mid_eq h k
  have e1 : y1 = y2 + l * (x1 - x2) := by have a := h.1; clear h k e12 f12 hs e0 o1 o3; grind
  have e3 : y3 = y2 + m * (x3 - x2) := eq_add k.1
  have f : y12 = l * (x2 - x12) - y2 := by clear h k e12 hs e0 e3 o1 o3; grind
  by_cases hu : x3 - x12 = 0
  · have hx : x12 = x3 := by clear h k e12 f12 hs e0 e1 e3 f o1 o3; grind
    -- not each other's opposites
    have hn : ¬ (x12 = x3 ∧ y12 + y3 = 0) := fun ⟨_, hy⟩ => by
      have h1 : (l - m) * (x3 - x2) = 0 := by
        rw [hx] at f
        clear h k e12 f12 hs e0 e1 o1 o3 hu hx
        grind
      rcases D.dom _ _ h1 with h2 | h2
      · exact hlm h2
      have h3 : x2 = x3 := by clear h k e12 f12 hs e0 e1 e3 f o1 o3 hu hx hy h1; grind
      have h4 : y2 = y3 := by clear h k e12 f12 hs e0 e1 f o1 o3 hu hx hy h1 h2; grind
      have h5 : (y2 + y2) * (l - m) = 0 := by
        have h6 : x1 + x2 + x3 - l * l = 0 := by clear h k f12 hs e0 e1 e3 f o1 o3 hy h1 h2 h3 h4; grind
        rw [e0, h6, h3]
        clear h k f12 hs e0 e1 e3 f o1 o3 hy h1 h2 h3 h4 h6
        grind
      rcases D.dom _ _ h5 with h6 | h6
      · exact n23 ⟨h3, by rw [← h4]; exact h6⟩
      · exact hlm h6
    rcases hs with ⟨a, b, _⟩ | ⟨_, g, X, Y, hl, eX, eY, eR⟩
    · exact absurd ⟨a, b⟩ hn
    · refine ⟨g, X, Y, hl, eX, eY, eR, ?_⟩
      have o12 := line_on o1 h e12 f12
      have hp : (y12 - y3) * (y12 + y3) = 0 := by
        rw [hx] at o12
        clear h k e12 f12 e0 e1 e3 f hl eX eY eR o1 hu hx
        grind
      have hy : y12 = y3 := by
        rcases D.dom _ _ hp with h1 | h1
        · exact zero_of h1
        · exact absurd ⟨hx, h1⟩ hn
      have hg := hl.2
      rw [hx, hy] at hg
      have hA : A = m * (y2 + y3) - (x2 * x2 + x2 * x3 + x3 * x3) := by have a := k.2; clear h k e12 f12 e0 e1 e3 f hl eX eY eR o1 o3 hu hx o12 hp hy hg; grind
      -- 2 y3 = (l - m) (x2 - x3)
      have h2y : y3 + y3 = (l - m) * (x2 - x3) := by
        rw [hx, hy] at f
        clear h k e12 f12 e0 e1 hl eX eY eR o1 o3 hu hx o12 hp hy hg hA
        grind
      have hll : l * l = x1 + x2 + x3 := by rw [hx] at e12; clear h k f12 e0 e1 e3 f hl eX eY eR o1 o3 hu hx o12 hp hy hg hA h2y; grind
      have hq : ¬ x2 - x3 = 0 := fun e => by
        rw [e] at h2y
        have h3 : y3 + y3 = 0 := by rw [h2y]; clear h k e12 f12 e0 e1 e3 f hl eX eY eR o1 o3 hu hx o12 hp hy hg hA h2y hll e; grind
        exact hn ⟨hx, by rw [hy]; exact h3⟩
      refine D.cancel (a := x2 - x3) ?_ hq
      have h4 : (x2 - x3) * (g * (l - m)) = g * (y3 + y3) := by rw [h2y]; clear h k e12 f12 e0 e1 e3 f hl eX eY eR o1 o3 hu hx o12 hp hy hg hA h2y hll hq; grind
      rw [h4, hg, hA]
      have h5 : y2 + y3 = l * (x2 - x3) := by rw [hx, hy] at f; clear h k e12 f12 e0 e1 e3 hl eX eY eR o1 o3 hu hx o12 hp hy hg hA h2y hll hq h4; grind
      rw [h5]
      clear h k e12 f12 e0 e1 e3 f hl eX eY eR o1 o3 hu hx o12 hp hy hg hA h2y hq h4 h5
      grind
  · rcases hs with ⟨a, b, _⟩ | ⟨_, g, X, Y, hl, eX, eY, eR⟩
    · exact absurd (by rw [a]; clear h k e12 f12 e0 e1 e3 f o1 o3; grind) hu
    · exact ⟨g, X, Y, hl, eX, eY, eR, D.cancel (far_eq h k e12 f12 hl.1) hu⟩
/-- A point, and the opposite of another one behind their sum. -/
theorem opp_line {A x2 y2 x3 y3 m x23 y23 : Fin P} (k : LineR A x2 y2 x3 y3 m) (e : x23 = m * m - x2 - x3) (f : y23 = m * (x2 - x23) - y2) : LineR A x2 (-y2) x23 y23 (-m) := by
  obtain ⟨c, d⟩ := k
  have e3 := eq_add c
  subst e3
  have hA := eq_sub d
  subst hA
  subst f
  subst e
  constructor
  · clear c d; grind
  · clear c d; grind
theorem sum_back (D : Dom P) {A B : Fin P} (S : Smooth A B) {x2 y2 : Fin P} (o2 : y2 * y2 = x2 * x2 * x2 + A * x2 + B) : ∀ {p3 p23 r : Option (Fin P × Fin P)}, SumR A (some (x2, y2)) p3 p23 → SumR A (some (x2, -y2)) p23 r → r = p3
  | none, p23, r, h, k => by
    rw [show p23 = some (x2, y2) from h] at k
    rcases k with ⟨_, _, k3⟩ | ⟨k0, _⟩
    · exact k3
    · exact absurd ⟨rfl, by clear o2; grind⟩ k0
  | some (x3, y3), p23, r, h, k => by
    rcases h with ⟨h1, h2, h3⟩ | ⟨h0, m, x23, y23, hl, e3, e4, e5⟩
    · rw [h3] at k
      rw [show r = some (x2, -y2) from k, h1, show -y2 = y3 by clear o2; grind]
    · rw [e5] at k
      have hop := opp_line hl e3 e4
      rcases k with ⟨k1, k2, _⟩ | ⟨k0, g, X, Y, hg, eX, eY, eR⟩
      · exfalso
        have hy : y2 = 0 := D.two _ (by rw [← k1] at e4; clear o2 hl hop e3 e5 h0; grind)
        have hm : m * m = x2 + x2 + x3 := by rw [← k1] at e3; clear o2 hl hop e4 e5 h0 k2 hy; grind
        have h3 : y3 = m * (x3 - x2) := by have c := hl.1; rw [hy] at c; clear o2 hl hop e3 e4 e5 h0 k2 hm; grind
        have h4 : m * (m * (x3 - x2)) = x2 * x2 + x2 * x3 + x3 * x3 + A := by have d := hl.2; rw [hy, h3] at d; clear o2 hl hop e3 e4 e5 h0 k2 hm h3; grind
        have h5 : (x2 + x2 + x3) * (x3 - x2) = x2 * x2 + x2 * x3 + x3 * x3 + A := by rw [← hm, ← h4]; clear o2 hl hop e3 e4 e5 h0 k2 hm h3 h4; grind
        refine S x2 ?_ ?_
        · rw [← o2, hy]; clear o2 hl hop e3 e4 e5 h0 k2 hm h3 h4 h5; grind
        · clear o2 hl hop e3 e4 e5 h0 k2 hm h3 h4; grind
      · obtain rfl := line_uniq D hg hop k0
        rw [eR]
        have hX : X = x3 := by rw [eX, e3]; clear o2 hl hop e3 e4 e5 h0 k0 hg eX eY eR; grind
        have hY : Y = y3 := by rw [eY, hX]; have c := hl.1; clear o2 hl hop e3 e4 e5 h0 k0 hg eX eY eR hX; grind
        rw [hX, hY]
/-- Sums in any order. -/
theorem sum_assoc (D : Dom P) {A B : Fin P} (S : Smooth A B) {p1 p2 p3 p12 p23 r r' : Option (Fin P × Fin P)} (o1 : OnR A B p1) (o2 : OnR A B p2) (o3 : OnR A B p3) (h12 : SumR A p1 p2 p12) (h123 : SumR A p12 p3 r) (h23 : SumR A p2 p3 p23) (h123' : SumR A p1 p23 r') : r = r' := by
  match p1, p2, p3, o1, o2, o3, h12, h23 with
  | none, p2, p3, o1, o2, o3, h12, h23 =>
    rw [show p12 = p2 from h12] at h123
    rw [show r' = p23 from h123']
    exact sum_uniq D h123 h23
  | some p1, none, p3, o1, o2, o3, h12, h23 =>
    rw [show p12 = some p1 from h12] at h123
    rw [show p23 = p3 from h23] at h123'
    exact sum_uniq D h123 h123'
  | some p1, some p2, none, o1, o2, o3, h12, h23 =>
    rw [show p23 = some p2 from h23] at h123'
    have h4 := sum_comm h123
    rw [show r = p12 from h4]
    exact sum_uniq D h12 h123'
  | some (x1, y1), some (x2, y2), some (x3, y3), o1, o2, o3, h12, h23 =>
    have h12c := h12
    have h23c := h23
    rcases h12 with ⟨a1, a2, a3⟩ | ⟨n12, l, x12, y12, hl, e12, f12, rfl⟩
    · subst a3
      rw [show r = some (x3, y3) from h123]
      obtain rfl := a1
      obtain rfl : y1 = -y2 := by clear o1 o2 o3 h23 h23c h123 h123' h12c; grind
      exact (sum_back D S o2 h23c h123').symm
    rcases h23 with ⟨a1, a2, a3⟩ | ⟨n23, m, x23, y23, hm, e23, f23, rfl⟩
    · subst a3
      rw [show r' = some (x1, y1) from h123']
      obtain rfl := a1
      obtain rfl : y3 = -y2 := by clear o1 o2 o3 h12c h123 h123' h23c hl e12 f12; grind
      exact sum_back D S o2 (sum_comm h12c) (sum_comm h123)
    by_cases hlm : l - m = 0
    · have elm : l = m := zero_of hlm
      subst elm
      have e0 := mid_eq hl hm
      have e1 : y1 = y2 + l * (x1 - x2) := by have a := hl.1; clear o1 o2 o3 hl hm e12 f12 e23 f23 e0 h123 h123' h12c h23c; grind
      have e3 : y3 = y2 + l * (x3 - x2) := eq_add hm.1
      have hz : (x1 - x3) * (x1 + x2 + x3 - l * l) = 0 := by clear o1 o2 o3 hl hm e12 f12 e23 f23 e1 e3 h123 h123' h12c h23c; grind
      rcases D.dom _ _ hz with hx | hu
      · obtain rfl : x1 = x3 := zero_of hx
        obtain rfl : y1 = y3 := by rw [e1, e3]
        have h5 := sum_uniq D (sum_comm h23c) h12c
        rw [h5] at h123'
        exact sum_uniq D h123 (sum_comm h123')
      · have hx3 : x12 = x3 := by rw [e12]; clear o1 o2 o3 hl hm e12 f12 e23 f23 e0 e1 e3 h123 h123' hz hlm h12c h23c; grind
        have hx1 : x1 = x23 := by rw [e23]; clear o1 o2 o3 hl hm e12 f12 e23 f23 e0 e1 e3 h123 h123' hz hlm hx3 h12c h23c; grind
        have hy3 : y12 + y3 = 0 := by rw [f12, hx3, e1, e3]; clear o1 o2 o3 hl hm e12 f12 e23 f23 e0 e1 e3 h123 h123' hz hlm hx1 hu h12c h23c hx3; grind
        have hy1 : y1 + y23 = 0 := by rw [f23, ← hx1, e1]; clear o1 o2 o3 hl hm e12 f12 e23 f23 e0 e1 e3 h123 h123' hz hlm hx1 hu hx3 hy3 h12c h23c; grind
        rcases h123 with ⟨_, _, b3⟩ | ⟨b0, _⟩
        · rcases h123' with ⟨_, _, c3⟩ | ⟨c0, _⟩
          · rw [b3, c3]
          · exact absurd ⟨hx1, hy1⟩ c0
        · exact absurd ⟨hx3, hy3⟩ b0
    · obtain ⟨g, X, Y, hg, eX, eY, eR, hgt⟩ := claimG D o1 o3 hl hm hlm n23 e12 f12 h123
      have f23' : y23 = m * (x3 - x23) - y3 := by rw [f23]; have c := hm.1; clear o1 o2 o3 hl hm e12 f12 e23 f23 h123 h123' hg eX eY eR hgt h12c h23c; grind
      obtain ⟨d, X', Y', hd, eX', eY', eR', hdt⟩ := claimG D (x1 := x3) (y1 := y3) (x3 := x1) (y3 := y1) (l := m) (m := l) o3 o1 (line_comm hm) (line_comm hl) (fun e => hlm (by clear o1 o2 o3 hl hm e12 f12 e23 f23 h123 h123' hg eX eY eR hgt f23' h12c h23c; grind)) (fun e => n12 ⟨e.1.symm, by rw [← e.2]; clear o1 o2 o3 hl hm e12 f12 e23 f23 h123 h123' hg eX eY eR hgt f23' h12c h23c; grind⟩) (by rw [e23]; clear o1 o2 o3 hl hm e12 f12 e23 f23 h123 h123' hg eX eY eR hgt f23' h12c h23c; grind) f23' (sum_comm h123')
      have ht : (g + l) * (l - m) = x1 - x3 := by clear o1 o2 o3 hl hm e12 f12 e23 f23 h123 h123' hg eX eY eR f23' hd eX' eY' eR' hdt h12c h23c; grind
      have hdg : d + m = g + l := by
        refine D.cancel (a := l - m) ?_ hlm
        clear o1 o2 o3 hl hm e12 f12 e23 f23 h123 h123' hg eX eY eR f23' hd eX' eY' eR' h12c h23c hgt
        grind
      obtain ⟨t, htt⟩ : ∃ t, g + l = t := ⟨_, rfl⟩
      rw [htt] at ht hdg
      have hg' : g = t - l := by clear o1 o2 o3 hl hm e12 f12 e23 f23 h123 h123' hg eX eY eR f23' hd eX' eY' eR' h12c h23c hgt hdt ht hdg; grind
      have hd' : d = t - m := by clear o1 o2 o3 hl hm e12 f12 e23 f23 h123 h123' hg eX eY eR f23' hd eX' eY' eR' h12c h23c hgt hdt ht htt hg'; grind
      have e1 : y1 = y2 + l * (x1 - x2) := by have a := hl.1; clear o1 o2 o3 hl hm e12 f12 e23 f23 h123 h123' h12c h23c hg eX eY eR f23' hd eX' eY' eR' hgt hdt ht htt hg' hdg hd'; grind
      have e3 : y3 = y2 + m * (x3 - x2) := eq_add hm.1
      have hX : X = X' := by
        have := fin_x (x2 := x2) ht
        rw [eX, eX', hg', hd', e12, e23, this]
        clear o1 o2 o3 hl hm e12 f12 e23 f23 h123 h123' h12c h23c hg eX eY eR f23' hd eX' eY' eR' hgt hdt ht htt hg' hdg hd' e1 e3 this
        grind
      have hY : Y = Y' := by
        have h1 : Y = g * (x3 - X) - y3 := by rw [eY]; have c := hg.1; clear o1 o2 o3 hl hm e12 f12 e23 f23 h123 h123' h12c h23c hg eX eY eR f23' hd eX' eY' eR' hgt hdt ht htt hg' hdg hd' e1 e3 hX; grind
        have h2 : Y' = d * (x1 - X') - y1 := by rw [eY']; have c := hd.1; clear o1 o2 o3 hl hm e12 f12 e23 f23 h123 h123' h12c h23c hg eX eY eR f23' hd eX' eY' eR' hgt hdt ht htt hg' hdg hd' e1 e3 hX h1; grind
        have h3 := fin_y (x2 := x2) (y2 := y2) ht
        have h4 : X' = (t - m) * (t - m) - x1 - (m * m - x2 - x3) := by rw [eX', hd', e23]; clear o1 o2 o3 hl hm e12 f12 e23 f23 h123 h123' h12c h23c hg eX eY eR f23' hd eX' eY' eR' hgt hdt ht htt hg' hdg hd' e1 e3 hX h1 h2 h3; grind
        have h5 : X = (t - l) * (t - l) - (l * l - x1 - x2) - x3 := by rw [eX, hg', e12]
        rw [h1, h2, h4, h5, hg', hd', e1, e3]
        exact h3
      rw [eR, eR', hX, hY]
end Go.Proofs.Ytnacgkkklmlhaaa
/-
  Numbers below a prime, as a ring without divisors of nothing.
-/
namespace Go.Proofs.Ytnacgkkklmlhaaa
set_option linter.unusedVariables false
set_option linter.unusedSimpArgs false

/-- A number as one below P. -/
def fp (P : Nat) [NeZero P] (a : Int) : Fin P := ⟨(a % (P : Int)).toNat, by
  have h0 : (0 : Int) < P := by have := Nat.pos_of_ne_zero (NeZero.ne P); omega
  have h1 := Int.emod_lt_of_pos a h0
  have h2 := Int.emod_nonneg a (b := (P : Int)) (by omega)
  omega⟩
theorem fp_val (P : Nat) [NeZero P] (a : Int) : ((fp P a).val : Int) = a % P := by
  have h0 : (0 : Int) < P := by have := Nat.pos_of_ne_zero (NeZero.ne P); omega
  have h2 := Int.emod_nonneg a (b := (P : Int)) (by omega)
  show (((a % (P : Int)).toNat : Nat) : Int) = _
  omega
theorem fp_eq (P : Nat) [NeZero P] {a b : Int} : fp P a = fp P b ↔ a % P = b % P := by
  constructor
  · intro h
    rw [← fp_val, ← fp_val, h]
  · intro h
    apply Fin.ext
    have := fp_val P a
    have := fp_val P b
    omega
theorem fp_mod (P : Nat) [NeZero P] (a : Int) : fp P (a % P) = fp P a := by
  rw [fp_eq, Int.emod_emod]
theorem fp_add (P : Nat) [NeZero P] (a b : Int) : fp P (a + b) = fp P a + fp P b := by
  apply Fin.ext
  have h1 := fp_val P (a + b)
  have h2 : ((fp P a + fp P b).val : Int) = ((fp P a).val + (fp P b).val : Nat) % P := by rw [Fin.val_add]; simp
  have h3 := fp_val P a
  have h4 := fp_val P b
  have : ((fp P (a + b)).val : Int) = ((fp P a + fp P b).val : Int) := by
    rw [h1, h2, Int.natCast_add, h3, h4, ← Int.add_emod]
  omega
theorem fp_mul (P : Nat) [NeZero P] (a b : Int) : fp P (a * b) = fp P a * fp P b := by
  apply Fin.ext
  have h1 := fp_val P (a * b)
  have h2 : ((fp P a * fp P b).val : Int) = ((fp P a).val * (fp P b).val : Nat) % P := by rw [Fin.val_mul]; simp
  have h3 := fp_val P a
  have h4 := fp_val P b
  have : ((fp P (a * b)).val : Int) = ((fp P a * fp P b).val : Int) := by
    rw [h1, h2, Int.natCast_mul, h3, h4, ← Int.mul_emod]
  omega
theorem fp_zero (P : Nat) [NeZero P] : fp P 0 = 0 := by
  apply Fin.ext
  have h1 := fp_val P 0
  rw [Int.zero_emod] at h1
  have : ((0 : Fin P).val : Int) = 0 := by simp
  omega
theorem fp_sub (P : Nat) [NeZero P] (a b : Int) : fp P (a - b) = fp P a - fp P b := by
  have h := fp_add P (a - b) b
  rw [show a - b + b = a by omega] at h
  rw [h]
  grind
theorem fp_self (P : Nat) [NeZero P] (x : Fin P) : fp P (x.val : Int) = x := by
  apply Fin.ext
  have h1 := fp_val P (x.val : Int)
  rw [Int.emod_eq_of_lt (by omega) (by have := x.isLt; omega)] at h1
  omega
/-- A product is a multiple of P only if one of the two is. -/
def PrimeN (P : Nat) : Prop := ∀ a b : Nat, P ∣ a * b → P ∣ a ∨ P ∣ b
theorem fin_zero {P : Nat} [NeZero P] {x : Fin P} : x = 0 ↔ P ∣ x.val := by
  constructor
  · intro h; rw [h]; exact ⟨0, by simp⟩
  · intro h
    apply Fin.ext
    have h1 := x.isLt
    have : x.val = 0 := Nat.eq_zero_of_dvd_of_lt h h1
    simpa using this
theorem dom_fin {P : Nat} [NeZero P] (hp : PrimeN P) (h2 : P % 2 = 1) : Dom P := by
  refine ⟨fun a b h => ?_, fun a h => ?_⟩
  · have h1 : P ∣ a.val * b.val := by
      have h3 := congrArg Fin.val h
      rw [Fin.val_mul] at h3
      exact Nat.dvd_of_mod_eq_zero (by simpa using h3)
    rcases hp _ _ h1 with h3 | h3
    · exact .inl (fin_zero.2 h3)
    · exact .inr (fin_zero.2 h3)
  · have h1 : P ∣ a.val + a.val := by
      have h3 := congrArg Fin.val h
      rw [Fin.val_add] at h3
      exact Nat.dvd_of_mod_eq_zero (by simpa using h3)
    refine fin_zero.2 ?_
    obtain ⟨k, hk⟩ := h1
    have h5 := a.isLt
    have : a.val = 0 := by
      rcases k with _ | _ | k
      · omega
      · omega
      · have h6 : P * (k + 1 + 1) = P * k + P + P := by rw [Nat.mul_add, Nat.mul_add]; omega
        omega
    rw [this]
    exact ⟨0, by simp⟩
/-- A prime, by divisors. -/
theorem prime_of {P : Nat} (h : ∀ a, a < P → a ≠ 0 → Nat.gcd P a = 1) : PrimeN P := by
  intro a b hab
  by_cases h0 : a % P = 0
  · exact .inl (Nat.dvd_of_mod_eq_zero h0)
  · right
    rcases Nat.eq_zero_or_pos P with rfl | hP
    · simp at h0
      obtain ⟨k, hk⟩ := hab
      rw [Nat.zero_mul] at hk
      rcases Nat.mul_eq_zero.1 hk with h1 | h1
      · exact absurd h1 h0
      · rw [h1]; exact ⟨0, rfl⟩
    · have hg := h (a % P) (Nat.mod_lt _ hP) h0
      have hc : Nat.gcd P a = 1 := by rw [Nat.gcd_rec, Nat.gcd_comm]; exact hg
      exact Nat.Coprime.dvd_of_dvd_mul_left hc hab
/-- No point is singular where the discriminant isn't 0. -/
theorem smooth_of {P : Nat} [NeZero P] {A B : Fin P} (h : ¬ 4 * (A * A * A) + 27 * (B * B) = 0) : Smooth A B := by
  intro x h1 h2
  apply h
  have hA : A = -(x * x + x * x + x * x) := by clear h h1; grind
  have hB : B = x * x * x + x * x * x := by rw [hA] at h1; clear h h2 hA; grind
  rw [hA, hB]
  clear h h1 h2 hA hB
  grind
end Go.Proofs.Ytnacgkkklmlhaaa
/-
  Multiples of a point, in a ring in which all but 0 has an inverse. No program in sight.
-/
namespace Go.Proofs.Ytnacgkkklmlhaaa
set_option linter.unusedVariables false
set_option linter.unusedSimpArgs false

/-- All but 0 has an inverse. -/
def Invs (P : Nat) [NeZero P] : Prop := ∀ a : Fin P, ¬ a = 0 → ∃ b : Fin P, b * a = 1
variable {P : Nat} [NeZero P]
/-- A slope, where two points of the curve differ in X. -/
theorem line_apart {A B x1 y1 x2 y2 l n : Fin P} (o1 : y1 * y1 = x1 * x1 * x1 + A * x1 + B) (o2 : y2 * y2 = x2 * x2 * x2 + A * x2 + B) (hn : n * (x2 - x1) = 1) (hl : l = (y2 - y1) * n) : LineR A x1 y1 x2 y2 l := by
  subst hl
  refine ⟨?_, ?_⟩
  · have e : (y2 - y1) * n * (x2 - x1) = (y2 - y1) * (n * (x2 - x1)) := by clear o1 o2 hn; grind
    rw [e, hn]
    clear o1 o2 hn e
    grind
  · have e : (y2 - y1) * n * (y1 + y2) = n * (y2 * y2 - y1 * y1) := by clear o1 o2 hn; grind
    rw [e, o1, o2]
    have e2 : n * (x2 * x2 * x2 + A * x2 + B - (x1 * x1 * x1 + A * x1 + B)) = (n * (x2 - x1)) * (x1 * x1 + x1 * x2 + x2 * x2 + A) := by clear o1 o2 hn e; grind
    rw [e2, hn]
    clear o1 o2 hn e e2
    grind
/-- A slope, where two points of the curve have the same X. -/
theorem line_same (D : Dom P) {A B x1 y1 x2 y2 l n : Fin P} (o1 : y1 * y1 = x1 * x1 * x1 + A * x1 + B) (o2 : y2 * y2 = x2 * x2 * x2 + A * x2 + B) (hx : x1 = x2) (hy : ¬ y1 + y2 = 0) (hn : n * (y1 + y2) = 1) (hl : l = (x1 * x1 + x1 * x1 + x1 * x1 + A) * n) : LineR A x1 y1 x2 y2 l := by
  subst hx
  have hd : (y1 + y2) * (y2 - y1) = (y1 + y2) * 0 := by
    have : (y1 + y2) * (y2 - y1) = y2 * y2 - y1 * y1 := by clear o1 o2 hy hn hl; grind
    rw [this, o1, o2]
    clear o1 o2 hy hn hl this
    grind
  have h0 := D.cancel hd hy
  subst hl
  refine ⟨?_, ?_⟩
  · rw [h0]
    clear o1 o2 hy hn hd h0
    grind
  · have e : (x1 * x1 + x1 * x1 + x1 * x1 + A) * n * (y1 + y2) = (x1 * x1 + x1 * x1 + x1 * x1 + A) * (n * (y1 + y2)) := by clear o1 o2 hy hn hd h0; grind
    rw [e, hn]
    clear o1 o2 hy hn hd h0 e
    grind
/-- There is a sum. -/
theorem sum_ex (D : Dom P) (I : Invs P) {A B : Fin P} : ∀ {p q : Option (Fin P × Fin P)}, OnR A B p → OnR A B q → ∃ r, SumR A p q r
  | none, q, _, _ => ⟨q, rfl⟩
  | some p, none, _, _ => ⟨some p, rfl⟩
  | some (x1, y1), some (x2, y2), o1, o2 => by
    by_cases h : x1 = x2 ∧ y1 + y2 = 0
    · exact ⟨none, .inl ⟨h.1, h.2, rfl⟩⟩
    · by_cases hx : x1 = x2
      · have hy : ¬ y1 + y2 = 0 := fun e => h ⟨hx, e⟩
        obtain ⟨n, hn⟩ := I _ hy
        exact ⟨_, .inr ⟨h, _, _, _, line_same D o1 o2 hx hy hn rfl, rfl, rfl, rfl⟩⟩
      · have hy : ¬ x2 - x1 = 0 := fun e => hx (zero_of e).symm
        obtain ⟨n, hn⟩ := I _ hy
        exact ⟨_, .inr ⟨h, _, _, _, line_apart o1 o2 hn rfl, rfl, rfl, rfl⟩⟩
/-- So often a point. -/
def Tm (A : Fin P) (G : Option (Fin P × Fin P)) : Nat → Option (Fin P × Fin P) → Prop
  | 0, q => q = none
  | k + 1, r => ∃ q, Tm A G k q ∧ SumR A q G r
theorem Tm.on {A B : Fin P} {G : Option (Fin P × Fin P)} (hG : OnR A B G) : ∀ (k : Nat) (q : Option (Fin P × Fin P)), Tm A G k q → OnR A B q
  | 0, q, h => by rw [show q = none from h]; trivial
  | k + 1, r, ⟨q, h, hs⟩ => sum_on (Tm.on hG k q h) hG hs
theorem Tm.ex (D : Dom P) (I : Invs P) {A B : Fin P} {G : Option (Fin P × Fin P)} (hG : OnR A B G) : ∀ k, ∃ q, Tm A G k q
  | 0 => ⟨none, rfl⟩
  | k + 1 => by
    obtain ⟨q, h⟩ := Tm.ex D I hG k
    obtain ⟨r, hr⟩ := sum_ex D I (Tm.on hG k q h) hG
    exact ⟨r, q, h, hr⟩
theorem Tm.uniq (D : Dom P) {A : Fin P} {G : Option (Fin P × Fin P)} : ∀ (k : Nat) (q r : Option (Fin P × Fin P)), Tm A G k q → Tm A G k r → q = r
  | 0, q, r, h, h' => by rw [show q = none from h, show r = none from h']
  | k + 1, q, r, ⟨q', h, hs⟩, ⟨r', h', hs'⟩ => by
    rw [Tm.uniq D k q' r' h h'] at hs
    exact sum_uniq D hs hs'
theorem sum_none {A : Fin P} : ∀ p : Option (Fin P × Fin P), SumR A p none p
  | none => rfl
  | some _ => rfl
/-- Sums of multiples are multiples. -/
theorem Tm.add (D : Dom P) (I : Invs P) {A B : Fin P} (S : Smooth A B) {G : Option (Fin P × Fin P)} (hG : OnR A B G) (a : Nat) (p : Option (Fin P × Fin P)) (ha : Tm A G a p) : ∀ (b : Nat) (q r : Option (Fin P × Fin P)), Tm A G b q → SumR A p q r → Tm A G (a + b) r
  | 0, q, r, h, hs => by
    rw [show q = none from h] at hs
    rw [← sum_uniq D (sum_none p) hs]
    exact ha
  | b + 1, q, r, ⟨q', h, hq⟩, hs => by
    have o1 := Tm.on hG a p ha
    have o2 := Tm.on hG b q' h
    obtain ⟨s, hs'⟩ := sum_ex D I o1 o2
    have h1 := Tm.add D I S hG a p ha b q' s h hs'
    obtain ⟨r', hr'⟩ := sum_ex D I (sum_on o1 o2 hs') hG
    have := sum_assoc D S o1 o2 hG hs' hr' hq hs
    subst this
    exact ⟨s, h1, hr'⟩
/-- A multiple that is nothing: so often more is where it was. -/
theorem Tm.round (D : Dom P) (I : Invs P) {A B : Fin P} (S : Smooth A B) {G : Option (Fin P × Fin P)} (hG : OnR A B G) {N : Nat} (hN : Tm A G N none) {a : Nat} {p : Option (Fin P × Fin P)} (ha : Tm A G a p) : Tm A G (a + N) p := Tm.add D I S hG a p ha N none p hN (sum_none p)
theorem Tm.times (D : Dom P) (I : Invs P) {A B : Fin P} (S : Smooth A B) {G : Option (Fin P × Fin P)} (hG : OnR A B G) {N : Nat} (hN : Tm A G N none) : ∀ k, Tm A G (k * N) none
  | 0 => by rw [Nat.zero_mul]; rfl
  | k + 1 => by rw [Nat.succ_mul]; exact Tm.round D I S hG hN (Tm.times D I S hG hN k)
/-- The opposite. -/
def negR : Option (Fin P × Fin P) → Option (Fin P × Fin P)
  | none => none
  | some (x, y) => some (x, -y)
theorem neg_on {A B : Fin P} : ∀ {p : Option (Fin P × Fin P)}, OnR A B p → OnR A B (negR p)
  | none, _ => trivial
  | some (x, y), h => by
    show -y * -y = _
    have h : y * y = _ := h
    rw [← h]
    grind
theorem neg_sum {A : Fin P} : ∀ {p q r : Option (Fin P × Fin P)}, SumR A p q r → SumR A (negR p) (negR q) (negR r)
  | none, q, r, h => by rw [show r = q from h]; rfl
  | some (x, y), none, r, h => by rw [show r = some (x, y) from h]; rfl
  | some (x1, y1), some (x2, y2), r, h => by
    rcases h with ⟨h1, h2, rfl⟩ | ⟨h1, l, x3, y3, hl, e3, e4, rfl⟩
    · exact .inl ⟨h1, by grind, rfl⟩
    · refine .inr ⟨fun ⟨e1, e2⟩ => h1 ⟨e1, by clear hl e3 e4; grind⟩, -l, x3, -y3, ⟨?_, ?_⟩, ?_, ?_, rfl⟩
      · have := hl.1
        clear e3 e4 h1 hl
        grind
      · have := hl.2
        clear e3 e4 h1 hl
        rw [← this]
        grind
      · rw [e3]; grind
      · rw [e4]; clear e4 hl h1; grind
theorem neg_self {A : Fin P} : ∀ p : Option (Fin P × Fin P), SumR A p (negR p) none
  | none => rfl
  | some (x, y) => .inl ⟨rfl, by grind, rfl⟩
/-- Bezout. -/
theorem bez (a b : Nat) : ∃ x y : Int, (Nat.gcd a b : Int) = a * x + b * y := by
  induction a, b using Nat.gcd.induction with
  | H0 n => exact ⟨0, 1, by simp⟩
  | H1 m n hm ih =>
    obtain ⟨x, y, h⟩ := ih
    refine ⟨y - (n / m : Nat) * x, x, ?_⟩
    rw [Nat.gcd_rec, h]
    have h1 : ((n % m : Nat) : Int) = n - m * (n / m : Nat) := by
      have := Nat.div_add_mod n m
      have h2 : ((m * (n / m) + n % m : Nat) : Int) = n := by rw [this]
      rw [Int.natCast_add, Int.natCast_mul] at h2
      omega
    rw [h1]
    grind
theorem prime_gcd {P a : Nat} (hp : PrimeN P) (h0 : 0 < a) (ha : a < P) : Nat.gcd P a = 1 := by
  obtain ⟨k, hk⟩ := Nat.gcd_dvd_left P a
  have hg : Nat.gcd P a ≤ a := Nat.le_of_dvd h0 (Nat.gcd_dvd_right P a)
  have hd : P ∣ Nat.gcd P a * k := ⟨1, by omega⟩
  rcases hp _ _ hd with h | h
  · have h3 : 0 < Nat.gcd P a := Nat.gcd_pos_of_pos_right _ h0
    have := Nat.le_of_dvd h3 h
    omega
  · have hk0 : 0 < k := by
      rcases Nat.eq_zero_or_pos k with e | e
      · rw [e, Nat.mul_zero] at hk; omega
      · exact e
    have h4 := Nat.le_of_dvd hk0 h
    have h5 : 0 < Nat.gcd P a := Nat.gcd_pos_of_pos_right _ h0
    generalize Nat.gcd P a = g at *
    rcases g with _ | _ | g
    · omega
    · rfl
    · have h6 : (g + 1 + 1) * k = g * k + k + k := by rw [Nat.add_mul, Nat.add_mul]; omega
      have h7 : 0 ≤ g * k := Nat.zero_le _
      omega
theorem fp_one (P : Nat) [NeZero P] : fp P 1 = 1 := by
  apply Fin.ext
  have h1 := fp_val P 1
  have h2 : ((1 : Fin P).val : Int) = ((1 % P : Nat) : Int) := rfl
  rw [Int.natCast_emod] at h2
  have : ((fp P 1).val : Int) = ((1 : Fin P).val : Int) := by rw [h1, h2]; rfl
  omega
theorem invs_fin {P : Nat} [NeZero P] (hp : PrimeN P) : Invs P := by
  intro a ha
  have h0 : 0 < a.val := by
    rcases Nat.eq_zero_or_pos a.val with e | e
    · exact absurd (Fin.ext (by simpa using e)) ha
    · exact e
  have hg := prime_gcd hp h0 a.isLt
  obtain ⟨x, y, h⟩ := bez P a.val
  rw [hg] at h
  refine ⟨fp P y, ?_⟩
  have h1 : fp P y * a = fp P (y * a.val) := by rw [fp_mul, fp_self]
  rw [h1, ← fp_one P, fp_eq]
  have h2 : y * (a.val : Int) = 1 + P * (-x) := by grind
  rw [h2, Int.add_mul_emod_self_left]
end Go.Proofs.Ytnacgkkklmlhaaa
