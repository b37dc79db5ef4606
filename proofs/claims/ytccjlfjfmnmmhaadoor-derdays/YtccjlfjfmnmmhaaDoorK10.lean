import Derived.Test.YtccjlfjfmnmmhaaDoorK09
import Derived.Laws.EntriesVeiled
/-
  DerDays.
-/
namespace Go.Proofs.YtccjlfjfmnmmhaaDoor
open Go.Shelf Go.RowKit
set_option linter.unusedVariables false
set_option linter.unusedSimpArgs false

theorem wf_u16 {x : Int} (h : (Lit.int .u16 x).wf = true) : 0 ≤ x ∧ x < 65536 := by
  simp [Lit.wf, IntKind.min, IntKind.max, IntKind.signed, IntKind.bits] at h
  exact ⟨by omega, by omega⟩
theorem wf_u32 {x : Int} (h : (Lit.int .u32 x).wf = true) : 0 ≤ x ∧ x < 4294967296 := by
  simp [Lit.wf, IntKind.min, IntKind.max, IntKind.signed, IntKind.bits] at h
  exact ⟨by omega, by omega⟩
set_option maxRecDepth 100000 in
set_option maxHeartbeats 4000000 in
theorem DerDays_walk (w : World) (n0 : Int) (w0 : (Lit.int .u16 n0).wf = true) (n1 : Int) (w1 : (Lit.int .u32 n1).wf = true) (hL : laidMet Tryd.prog Rows.derDaysRow.laid w) :
    Calls Tryd.prog 5 #[.int .u16 n0, .int .u32 n1] w fun e w' => e = .returned (.bool true) ∧ Below w.heap.size w w' := by
  have hT : Md w := md_laid hL
  obtain ⟨h00, h01⟩ := wf_u16 w0
  obtain ⟨h10, h11⟩ := wf_u32 w1
  obtain ⟨N, rfl⟩ : ∃ T : Nat, n0 = (T : Int) := ⟨n0.toNat, by omega⟩
  obtain ⟨M, rfl⟩ : ∃ T : Nat, n1 = (T : Int) := ⟨n1.toNat, by omega⟩
  clear w0 w1 hL
  obtain ⟨S, hS⟩ : ∃ S, M % 86400 = S := ⟨_, rfl⟩
  have hSI : (M : Int) % 86400 = (S : Int) := by omega
  have hN : N < 65536 := by omega
  have hS2 : S < 86400 := by omega
  clear hS
  go_enter Tryd.func5, Tryd.ntmps5
  go_wp2_with fail
  go_at_call 6
  refine (DAwake_any w hT).mono ?_
  rintro e w1 ⟨rfl, b1⟩
  have hM1 := hT.below b1
  have H1 : Hid (Below w.heap.size w w1 ∧ Md w1) := ⟨b1, hM1⟩
  clear b1 hM1 hT
  obtain ⟨W2, hW2⟩ : ∃ W2, w1.alloc (.cells #[Value.nilFunc] 46) = W2 := ⟨_, rfl⟩
  have r2 : W2.heap[w1.heap.size]? = some (.cells #[Value.nilFunc] 46 (0, 0)) := by rw [← hW2]; exact heap_alloc_new w1 _
  have b2 : Below w1.heap.size w1 W2 := by rw [← hW2]; exact (Below.refl _ _).alloc (Nat.le_refl _) _
  have c2 : W2.cell? ⟨w1.heap.size, 0, none⟩ = some Value.nilFunc := by rw [cell_of_row W2 _ _ _ _ _ r2]; rfl
  have f2 : W2.frozen? ⟨w1.heap.size, 0, none⟩ = false := frozen_of_row W2 _ 0 _ _ r2
  have c3 : (W2.setCell ⟨w1.heap.size, 0, none⟩ twoV).cell? ⟨w1.heap.size, 0, none⟩ = some twoV := by
    rw [cell_of_row _ _ _ _ _ _ (heap_set_at W2 w1.heap.size 0 _ _ _ _ r2)]
    rfl
  have b3 := But.setCell w1.heap.size W2 0 twoV
  have hb13 : Below w1.heap.size w1 (W2.setCell ⟨w1.heap.size, 0, none⟩ twoV) := b2.trans (b3.below (Nat.le_refl _) b2.size)
  have H3 : Hid (Below w.heap.size w (W2.setCell ⟨w1.heap.size, 0, none⟩ twoV) ∧ Md (W2.setCell ⟨w1.heap.size, 0, none⟩ twoV)) := ⟨H1.out.1.trans (hb13.mono H1.out.1.size), H1.out.2.below hb13⟩
  have HWR := write_any N S w1.heap.size hN hS2 (W2.setCell ⟨w1.heap.size, 0, none⟩ twoV) c3
  clear r2 b2 c3 b3 hb13
  go_wp2_with fail
  go_at_call 15
  refine HWR.mono ?_
  rintro e w4 ⟨t, p, n, c, bs, rfl, ht, hl, hn, hv, htd, b4⟩
  have hM4 : Md w4 := H3.out.2.below b4
  have HT := derTime t ht p n c bs _ w4 hl hv hM4
  rw [htd] at HT
  have H4 : Hid (Below w.heap.size w w4) := H3.out.1.trans (b4.mono H3.out.1.size)
  obtain ⟨V, hV⟩ : ∃ V, N * 86400 + S = V := ⟨_, rfl⟩
  rw [hV] at HT
  have hVI : (N : Int) * 86400 + (S : Int) = (V : Int) := by omega
  have hNN : (N : Int) * 86400 ≤ 9000000000 := by omega
  have hVV : (V : Int) ≤ 9000000000 := by omega
  have hE : ((V : Int) == (V : Int)) = true := by simp
  clear htd hv hM4 b4 HWR c2 f2 hW2 hl hn hV hSI
  go_wp2_with (go_at_call 12; refine HT.mono ?_; rintro e w5 ⟨rfl, b5⟩; simp only [timeV])
  go_ret
  exact ⟨rfl, H4.out.trans (b5.mono H4.out.size)⟩
end Go.Proofs.YtccjlfjfmnmmhaaDoor
