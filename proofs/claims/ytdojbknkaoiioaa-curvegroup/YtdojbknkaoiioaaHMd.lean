/-
  The law CurveGroup.
-/
import Derived.Test.YtdojbknkaoiioaaHMc
namespace Go.Proofs.Ytdojbknkaoiioaa
open Go.Shelf Go.RowKit
set_option linter.unusedVariables false
set_option linter.unusedSimpArgs false

set_option maxRecDepth 100000 in
set_option maxHeartbeats 8000000 in
theorem CurveGroup_at (w : World) (which x y z : Int) (hw0 : 0 ≤ which ∧ which < 256) (hx0 : 0 ≤ x ∧ x < 4294967296) (hy0 : 0 ≤ y ∧ y < 4294967296) (hz0 : 0 ≤ z ∧ z < 4294967296) : Calls Try.prog 4 #[.int .u8 which, .int .u32 x, .int .u32 y, .int .u32 z] w fun e w' => e = .returned (.bool true) ∧ Below w.heap.size w w' := by
  obtain ⟨j, hj, hj3⟩ : ∃ j : Nat, which % 3 = (j : Int) ∧ j < 3 := ⟨(which % 3).toNat, by omega, by omega⟩
  obtain ⟨P, N, inst, hR⟩ := curRight j hj3
  go_enter Try.func4, Try.ntmps4
  go_wp2_with fail
  go_at_call 9
  refine (CAwake_any w).mono ?_
  rintro e wA ⟨rfl, hbA⟩
  have HBA : Hid (Below w.heap.size w wA) := hbA
  clear hbA
  go_wp2_with fail
  go_at_call 11
  refine (Curves_any wA).mono ?_
  rintro e w2 ⟨v, xs, rfl, ho, hl, hb2⟩
  obtain ⟨g, cap, rfl, hcap, hcm, hall⟩ := cur_at ho hl
  obtain ⟨g1, g2, oo, lo, co, b0, b1, b2, b3, b4, b5, hA, hcu⟩ := hall j hj3
  rw [Nat.mul_comm 9 j] at hA
  obtain ⟨x0, x1, x2, x3, x4, x5, x6, x7, x8⟩ := hA
  obtain ⟨K, hK⟩ : ∃ K, curZ j = K := ⟨_, rfl⟩
  rw [hK] at hR hcu
  have HR : Hid (RightK K P N) := hR
  have HBW : Hid (Below w.heap.size w w2) := HBA.out.trans (hb2.mono HBA.out.size)
  have HCU : Hid (Cu w2 (Value.agg #[Value.int IntKind.i64 g1, Value.int IntKind.i64 g2, Value.slice oo lo co, Value.slice (some { block := b0, off := 0 }) 1 1, Value.slice (some { block := b1, off := 0 }) 1 1, Value.slice (some { block := b2, off := 0 }) 1 1, Value.slice (some { block := b3, off := 0 }) 1 1, Value.slice (some { block := b4, off := 0 }) 1 1, Value.slice (some { block := b5, off := 0 }) 1 1]) K 3) := hcu.up (by decide)
  have HKP : Hid (Nv w2 (Value.slice (some { block := b0, off := 0 }) 1 1) K.p 1) := hcu.nums.1
  have HKN : Hid (Nv w2 (Value.slice (some { block := b5, off := 0 }) 1 1) K.n 1) := hcu.nums.2
  clear hall ho hl hK hR hcu hb2 HBA
  unfold maxLen at hcm
  obtain ⟨W0, hW0⟩ : ∃ W0, w2.alloc (.cells #[Value.int IntKind.i64 g1, Value.int IntKind.i64 g2, Value.slice oo lo co, Value.slice (some { block := b0, off := 0 }) 1 1, Value.slice (some { block := b1, off := 0 }) 1 1, Value.slice (some { block := b2, off := 0 }) 1 1, Value.slice (some { block := b3, off := 0 }) 1 1, Value.slice (some { block := b4, off := 0 }) 1 1, Value.slice (some { block := b5, off := 0 }) 1 1] 29) = W0 := ⟨_, rfl⟩
  have hbw : Below w2.heap.size w2 W0 := by rw [← hW0]; exact (Below.refl _ _).alloc (Nat.le_refl _) _
  have HW : Hid (W0.heap[w2.heap.size]? = some (.cells #[Value.int IntKind.i64 g1, Value.int IntKind.i64 g2, Value.slice oo lo co, Value.slice (some { block := b0, off := 0 }) 1 1, Value.slice (some { block := b1, off := 0 }) 1 1, Value.slice (some { block := b2, off := 0 }) 1 1, Value.slice (some { block := b3, off := 0 }) 1 1, Value.slice (some { block := b4, off := 0 }) 1 1, Value.slice (some { block := b5, off := 0 }) 1 1] 29 (0, 0))) := by rw [← hW0]; exact heap_alloc_new w2 _
  replace HBW : Hid (Below w.heap.size w W0) := HBW.out.trans (hbw.mono HBW.out.size)
  replace HCU : Hid (Cu W0 (Value.agg #[Value.int IntKind.i64 g1, Value.int IntKind.i64 g2, Value.slice oo lo co, Value.slice (some { block := b0, off := 0 }) 1 1, Value.slice (some { block := b1, off := 0 }) 1 1, Value.slice (some { block := b2, off := 0 }) 1 1, Value.slice (some { block := b3, off := 0 }) 1 1, Value.slice (some { block := b4, off := 0 }) 1 1, Value.slice (some { block := b5, off := 0 }) 1 1]) K 3) := HCU.out.old hbw
  replace HKP : Hid (Nv W0 (Value.slice (some { block := b0, off := 0 }) 1 1) K.p 1) := HKP.out.old hbw
  replace HKN : Hid (Nv W0 (Value.slice (some { block := b5, off := 0 }) 1 1) K.n 1) := HKN.out.old hbw
  clear hbw
  go_wp2_with fail
  clear hW0 x0 x1 x2 x3 x4 x5 x6 x7 x8
  go_at_call 16
  refine (gmul_any HR.out w2.heap.size x x.toNat W0 _ _ _ _ _ _ _ _ _ HW.out HCU.out (by omega) (by omega)).mono ?_
  rintro e W1 ⟨vA, rfl, sA, hvA, hmA, hbw⟩
  replace HW : Hid (W1.heap[w2.heap.size]? = some (.cells #[Value.int IntKind.i64 g1, Value.int IntKind.i64 g2, Value.slice oo lo co, Value.slice (some { block := b0, off := 0 }) 1 1, Value.slice (some { block := b1, off := 0 }) 1 1, Value.slice (some { block := b2, off := 0 }) 1 1, Value.slice (some { block := b3, off := 0 }) 1 1, Value.slice (some { block := b4, off := 0 }) 1 1, Value.slice (some { block := b5, off := 0 }) 1 1] 29 (0, 0))) := blk_old HW.out hbw
  replace HCU : Hid (Cu W1 (Value.agg #[Value.int IntKind.i64 g1, Value.int IntKind.i64 g2, Value.slice oo lo co, Value.slice (some { block := b0, off := 0 }) 1 1, Value.slice (some { block := b1, off := 0 }) 1 1, Value.slice (some { block := b2, off := 0 }) 1 1, Value.slice (some { block := b3, off := 0 }) 1 1, Value.slice (some { block := b4, off := 0 }) 1 1, Value.slice (some { block := b5, off := 0 }) 1 1]) K 3) := HCU.out.old hbw
  replace HKP : Hid (Nv W1 (Value.slice (some { block := b0, off := 0 }) 1 1) K.p 1) := HKP.out.old hbw
  replace HKN : Hid (Nv W1 (Value.slice (some { block := b5, off := 0 }) 1 1) K.n 1) := HKN.out.old hbw
  replace HBW : Hid (Below w.heap.size w W1) := HBW.out.trans (hbw.mono HBW.out.size)
  have HAV : Hid (Pv W1 vA sA 3) := hvA
  have HMA : Hid (Mt K P (baseZ K) x.toNat sA) := hmA
  obtain ⟨_, _, rfl, ⟨Ao1, Ao2, Ao3, _, rfl, _⟩, ⟨Ar1, Ar2, Ar3, _, rfl, _⟩⟩ := hvA
  clear hmA hbw
  go_wp2_with fail
  go_at_call 16
  refine (gmul_any HR.out w2.heap.size y y.toNat W1 _ _ _ _ _ _ _ _ _ HW.out HCU.out (by omega) (by omega)).mono ?_
  rintro e W2 ⟨vB, rfl, sB, hvB, hmB, hbw⟩
  replace HW : Hid (W2.heap[w2.heap.size]? = some (.cells #[Value.int IntKind.i64 g1, Value.int IntKind.i64 g2, Value.slice oo lo co, Value.slice (some { block := b0, off := 0 }) 1 1, Value.slice (some { block := b1, off := 0 }) 1 1, Value.slice (some { block := b2, off := 0 }) 1 1, Value.slice (some { block := b3, off := 0 }) 1 1, Value.slice (some { block := b4, off := 0 }) 1 1, Value.slice (some { block := b5, off := 0 }) 1 1] 29 (0, 0))) := blk_old HW.out hbw
  replace HCU : Hid (Cu W2 (Value.agg #[Value.int IntKind.i64 g1, Value.int IntKind.i64 g2, Value.slice oo lo co, Value.slice (some { block := b0, off := 0 }) 1 1, Value.slice (some { block := b1, off := 0 }) 1 1, Value.slice (some { block := b2, off := 0 }) 1 1, Value.slice (some { block := b3, off := 0 }) 1 1, Value.slice (some { block := b4, off := 0 }) 1 1, Value.slice (some { block := b5, off := 0 }) 1 1]) K 3) := HCU.out.old hbw
  replace HKP : Hid (Nv W2 (Value.slice (some { block := b0, off := 0 }) 1 1) K.p 1) := HKP.out.old hbw
  replace HKN : Hid (Nv W2 (Value.slice (some { block := b5, off := 0 }) 1 1) K.n 1) := HKN.out.old hbw
  replace HBW : Hid (Below w.heap.size w W2) := HBW.out.trans (hbw.mono HBW.out.size)
  replace HAV : Hid (Pv W2 (Value.agg #[Value.slice Ao1 Ao2 Ao3, Value.slice Ar1 Ar2 Ar3, Value.bool sA.inf]) sA 3) := HAV.out.old hbw
  have HBV : Hid (Pv W2 vB sB 3) := hvB
  have HMB : Hid (Mt K P (baseZ K) y.toNat sB) := hmB
  obtain ⟨_, _, rfl, ⟨Bo1, Bo2, Bo3, _, rfl, _⟩, ⟨Br1, Br2, Br3, _, rfl, _⟩⟩ := hvB
  clear hmB hbw
  go_wp2_with fail
  go_at_call 16
  refine (gmul_any HR.out w2.heap.size z z.toNat W2 _ _ _ _ _ _ _ _ _ HW.out HCU.out (by omega) (by omega)).mono ?_
  rintro e W3 ⟨vC, rfl, sC, hvC, hmC, hbw⟩
  replace HW : Hid (W3.heap[w2.heap.size]? = some (.cells #[Value.int IntKind.i64 g1, Value.int IntKind.i64 g2, Value.slice oo lo co, Value.slice (some { block := b0, off := 0 }) 1 1, Value.slice (some { block := b1, off := 0 }) 1 1, Value.slice (some { block := b2, off := 0 }) 1 1, Value.slice (some { block := b3, off := 0 }) 1 1, Value.slice (some { block := b4, off := 0 }) 1 1, Value.slice (some { block := b5, off := 0 }) 1 1] 29 (0, 0))) := blk_old HW.out hbw
  replace HCU : Hid (Cu W3 (Value.agg #[Value.int IntKind.i64 g1, Value.int IntKind.i64 g2, Value.slice oo lo co, Value.slice (some { block := b0, off := 0 }) 1 1, Value.slice (some { block := b1, off := 0 }) 1 1, Value.slice (some { block := b2, off := 0 }) 1 1, Value.slice (some { block := b3, off := 0 }) 1 1, Value.slice (some { block := b4, off := 0 }) 1 1, Value.slice (some { block := b5, off := 0 }) 1 1]) K 3) := HCU.out.old hbw
  replace HKP : Hid (Nv W3 (Value.slice (some { block := b0, off := 0 }) 1 1) K.p 1) := HKP.out.old hbw
  replace HKN : Hid (Nv W3 (Value.slice (some { block := b5, off := 0 }) 1 1) K.n 1) := HKN.out.old hbw
  replace HBW : Hid (Below w.heap.size w W3) := HBW.out.trans (hbw.mono HBW.out.size)
  replace HAV : Hid (Pv W3 (Value.agg #[Value.slice Ao1 Ao2 Ao3, Value.slice Ar1 Ar2 Ar3, Value.bool sA.inf]) sA 3) := HAV.out.old hbw
  replace HBV : Hid (Pv W3 (Value.agg #[Value.slice Bo1 Bo2 Bo3, Value.slice Br1 Br2 Br3, Value.bool sB.inf]) sB 3) := HBV.out.old hbw
  have HCV : Hid (Pv W3 vC sC 3) := hvC
  have HMC : Hid (Mt K P (baseZ K) z.toNat sC) := hmC
  obtain ⟨_, _, rfl, ⟨Co1, Co2, Co3, _, rfl, _⟩, ⟨Cr1, Cr2, Cr3, _, rfl, _⟩⟩ := hvC
  clear hmC hbw
  obtain ⟨n1, n2, hn⟩ := pair_new W3 #[Value.slice Ao1 Ao2 Ao3, Value.slice Ar1 Ar2 Ar3, Value.bool sA.inf] #[Value.slice Bo1 Bo2 Bo3, Value.slice Br1 Br2 Br3, Value.bool sB.inf] 43 43
  obtain ⟨W4, hW4⟩ : ∃ W4, ((W3.alloc (.cells #[Value.slice Ao1 Ao2 Ao3, Value.slice Ar1 Ar2 Ar3, Value.bool sA.inf] 43)).alloc (.cells #[Value.slice Bo1 Bo2 Bo3, Value.slice Br1 Br2 Br3, Value.bool sB.inf] 43)).alloc (.cells #[Value.slice Co1 Co2 Co3, Value.slice Cr1 Cr2 Cr3, Value.bool sC.inf] 43) = W4 := ⟨_, rfl⟩
  have z2 : ((W3.alloc (.cells #[Value.slice Ao1 Ao2 Ao3, Value.slice Ar1 Ar2 Ar3, Value.bool sA.inf] 43)).alloc (.cells #[Value.slice Bo1 Bo2 Bo3, Value.slice Br1 Br2 Br3, Value.bool sB.inf] 43)).heap.size = W3.heap.size + 1 + 1 := by rw [alloc_sz7, alloc_sz7]
  have hn3 := hn.alloc (show W3.heap.size ≤ _ by rw [z2]; omega) (.cells #[Value.slice Co1 Co2 Co3, Value.slice Cr1 Cr2 Cr3, Value.bool sC.inf] 43)
  have n3 := heap_alloc_new ((W3.alloc (.cells #[Value.slice Ao1 Ao2 Ao3, Value.slice Ar1 Ar2 Ar3, Value.bool sA.inf] 43)).alloc (.cells #[Value.slice Bo1 Bo2 Bo3, Value.slice Br1 Br2 Br3, Value.bool sB.inf] 43)) (.cells #[Value.slice Co1 Co2 Co3, Value.slice Cr1 Cr2 Cr3, Value.bool sC.inf] 43)
  rw [z2] at n3
  have HA : Hid (PSl W4 W3.heap.size (Value.slice Ao1 Ao2 Ao3) (Value.slice Ar1 Ar2 Ar3) (Value.bool sA.inf)) := by rw [← hW4]; exact heap_new n1 (by omega)
  have HB : Hid (PSl W4 (W3.heap.size + 1) (Value.slice Bo1 Bo2 Bo3) (Value.slice Br1 Br2 Br3) (Value.bool sB.inf)) := by rw [← hW4]; exact heap_new n2 (by omega)
  have HC : Hid (PSl W4 (W3.heap.size + 1 + 1) (Value.slice Co1 Co2 Co3) (Value.slice Cr1 Cr2 Cr3) (Value.bool sC.inf)) := by rw [← hW4]; exact n3
  rw [hW4] at hn3
  have hbw : Below W3.heap.size W3 W4 := hn3
  replace HW : Hid (W4.heap[w2.heap.size]? = some (.cells #[Value.int IntKind.i64 g1, Value.int IntKind.i64 g2, Value.slice oo lo co, Value.slice (some { block := b0, off := 0 }) 1 1, Value.slice (some { block := b1, off := 0 }) 1 1, Value.slice (some { block := b2, off := 0 }) 1 1, Value.slice (some { block := b3, off := 0 }) 1 1, Value.slice (some { block := b4, off := 0 }) 1 1, Value.slice (some { block := b5, off := 0 }) 1 1] 29 (0, 0))) := blk_old HW.out hbw
  replace HCU : Hid (Cu W4 (Value.agg #[Value.int IntKind.i64 g1, Value.int IntKind.i64 g2, Value.slice oo lo co, Value.slice (some { block := b0, off := 0 }) 1 1, Value.slice (some { block := b1, off := 0 }) 1 1, Value.slice (some { block := b2, off := 0 }) 1 1, Value.slice (some { block := b3, off := 0 }) 1 1, Value.slice (some { block := b4, off := 0 }) 1 1, Value.slice (some { block := b5, off := 0 }) 1 1]) K 3) := HCU.out.old hbw
  replace HKP : Hid (Nv W4 (Value.slice (some { block := b0, off := 0 }) 1 1) K.p 1) := HKP.out.old hbw
  replace HKN : Hid (Nv W4 (Value.slice (some { block := b5, off := 0 }) 1 1) K.n 1) := HKN.out.old hbw
  replace HBW : Hid (Below w.heap.size w W4) := HBW.out.trans (hbw.mono HBW.out.size)
  replace HAV : Hid (Pv W4 (Value.agg #[Value.slice Ao1 Ao2 Ao3, Value.slice Ar1 Ar2 Ar3, Value.bool sA.inf]) sA 3) := HAV.out.old hbw
  replace HBV : Hid (Pv W4 (Value.agg #[Value.slice Bo1 Bo2 Bo3, Value.slice Br1 Br2 Br3, Value.bool sB.inf]) sB 3) := HBV.out.old hbw
  replace HCV : Hid (Pv W4 (Value.agg #[Value.slice Co1 Co2 Co3, Value.slice Cr1 Cr2 Cr3, Value.bool sC.inf]) sC 3) := HCV.out.old hbw
  clear hbw hn3 n1 n2 n3 hn z2
  go_wp2_with fail
  clear hW4
  dsimp only [List.append]
  refine wp_region_frames 1 [[37], [38], [39], [40], [41], [42], [43], [44], [45], [46], [47], [48], [49], [50], [51], [52], [53], [54], [55], [56], [57], [58], [59], [60], [61], [62], [63], [64], [65], [66], [67], [68], [69], [70], [71], [72], [73], [74], [75], [76], [77], [78], [79], [80], [81], [82], [83], [84], [85], [86], [87], [88], [89], [90], [91], [92], [93], [94], [95], [96], [97], [98], [99], [100], [101], [8]] (([.eq (Value.agg #[Value.int IntKind.i64 g1, Value.int IntKind.i64 g2, Value.slice oo lo co, Value.slice (some { block := b0, off := 0 }) 1 1, Value.slice (some { block := b1, off := 0 }) 1 1, Value.slice (some { block := b2, off := 0 }) 1 1, Value.slice (some { block := b3, off := 0 }) 1 1, Value.slice (some { block := b4, off := 0 }) 1 1, Value.slice (some { block := b5, off := 0 }) 1 1]), .eq (Value.agg #[Value.slice Ao1 Ao2 Ao3, Value.slice Ar1 Ar2 Ar3, Value.bool sA.inf]), .eq (Value.bool true), .eq (Value.bool true), .eq (Value.agg #[Value.int IntKind.i64 g1, Value.int IntKind.i64 g2, Value.slice oo lo co, Value.slice (some { block := b0, off := 0 }) 1 1, Value.slice (some { block := b1, off := 0 }) 1 1, Value.slice (some { block := b2, off := 0 }) 1 1, Value.slice (some { block := b3, off := 0 }) 1 1, Value.slice (some { block := b4, off := 0 }) 1 1, Value.slice (some { block := b5, off := 0 }) 1 1]), .eq (Value.func (Fn.func 19) #[] #[Value.pointer (some { block := w2.heap.size, off := 0 })]), .eq (Value.agg #[Value.slice Ao1 Ao2 Ao3, Value.slice Ar1 Ar2 Ar3, Value.bool sA.inf]), .eq (Value.agg #[Value.slice Bo1 Bo2 Bo3, Value.slice Br1 Br2 Br3, Value.bool sB.inf]), .pv (fun p => Mt K P (baseZ K) (x.toNat + y.toNat) p) 3, .eq (Value.bool true), .eq (Value.bool true), .eq (Value.bool true), .eq (Value.func (Fn.func 21) #[] #[]), .eq (Value.func (Fn.func 19) #[] #[Value.pointer (some { block := w2.heap.size, off := 0 })]), .eq (Value.agg #[Value.slice Ao1 Ao2 Ao3, Value.slice Ar1 Ar2 Ar3, Value.bool sA.inf]), .eq (Value.agg #[Value.slice Bo1 Bo2 Bo3, Value.slice Br1 Br2 Br3, Value.bool sB.inf]), .pv (fun p => Mt K P (baseZ K) (x.toNat + y.toNat) p) 3, .eq (Value.func (Fn.func 19) #[] #[Value.pointer (some { block := w2.heap.size, off := 0 })]), .eq (Value.agg #[Value.slice Bo1 Bo2 Bo3, Value.slice Br1 Br2 Br3, Value.bool sB.inf]), .eq (Value.agg #[Value.slice Ao1 Ao2 Ao3, Value.slice Ar1 Ar2 Ar3, Value.bool sA.inf]), .pv (fun p => Mt K P (baseZ K) (y.toNat + x.toNat) p) 3, .eq (Value.bool true), .eq (Value.bool true), .eq (Value.bool true), .eq (Value.func (Fn.func 21) #[] #[]), .eq (Value.func (Fn.func 19) #[] #[Value.pointer (some { block := w2.heap.size, off := 0 })]), .eq (Value.func (Fn.func 19) #[] #[Value.pointer (some { block := w2.heap.size, off := 0 })]), .eq (Value.agg #[Value.slice Ao1 Ao2 Ao3, Value.slice Ar1 Ar2 Ar3, Value.bool sA.inf]), .eq (Value.agg #[Value.slice Bo1 Bo2 Bo3, Value.slice Br1 Br2 Br3, Value.bool sB.inf]), .pv (fun p => Mt K P (baseZ K) (x.toNat + y.toNat) p) 3, .eq (Value.agg #[Value.slice Co1 Co2 Co3, Value.slice Cr1 Cr2 Cr3, Value.bool sC.inf]), .pv (fun p => Mt K P (baseZ K) (x.toNat + y.toNat + z.toNat) p) 3, .eq (Value.func (Fn.func 19) #[] #[Value.pointer (some { block := w2.heap.size, off := 0 })]), .eq (Value.agg #[Value.slice Ao1 Ao2 Ao3, Value.slice Ar1 Ar2 Ar3, Value.bool sA.inf]), .eq (Value.func (Fn.func 19) #[] #[Value.pointer (some { block := w2.heap.size, off := 0 })]), .eq (Value.agg #[Value.slice Bo1 Bo2 Bo3, Value.slice Br1 Br2 Br3, Value.bool sB.inf]), .eq (Value.agg #[Value.slice Co1 Co2 Co3, Value.slice Cr1 Cr2 Cr3, Value.bool sC.inf]), .pv (fun p => Mt K P (baseZ K) (y.toNat + z.toNat) p) 3, .pv (fun p => Mt K P (baseZ K) (x.toNat + (y.toNat + z.toNat)) p) 3, .eq (Value.bool true), .eq (Value.bool true), .eq (Value.bool true), .eq (Value.func (Fn.func 21) #[] #[]), .eq (Value.func (Fn.func 19) #[] #[Value.pointer (some { block := w2.heap.size, off := 0 })]), .eq (Value.agg #[Value.slice Ao1 Ao2 Ao3, Value.slice Ar1 Ar2 Ar3, Value.bool sA.inf]), .eq (Value.agg #[Value.slice Bo1 Bo2 Bo3, Value.slice Br1 Br2 Br3, Value.bool sB.inf]), .pv (fun p => Mt K P (baseZ K) (x.toNat + y.toNat) p) 3, .eq (Value.func (Fn.func 16) #[] #[Value.pointer (some { block := w2.heap.size, off := 0 })]), .eq (Value.int IntKind.u32 x), .eq (Value.int IntKind.u64 x), .eq (Value.int IntKind.u32 y), .eq (Value.int IntKind.u64 y), .eq (Value.int IntKind.u64 (x + y)), .pv (fun p => Mt K P (baseZ K) (x.toNat + y.toNat) p) 3, .eq (Value.bool true), .eq (Value.bool true), .eq (Value.bool true), .eq (Value.func (Fn.func 21) #[] #[]), .eq (Value.func (Fn.func 19) #[] #[Value.pointer (some { block := w2.heap.size, off := 0 })]), .eq (Value.agg #[Value.slice Ao1 Ao2 Ao3, Value.slice Ar1 Ar2 Ar3, Value.bool sA.inf]), .eq (Value.agg #[Value.slice none 0 0, Value.slice none 0 0, Value.bool true]), .pv (fun p => Mt K P (baseZ K) x.toNat p) 3, .eq (Value.agg #[Value.slice Ao1 Ao2 Ao3, Value.slice Ar1 Ar2 Ar3, Value.bool sA.inf]), .eq (Value.bool true), .eq (Value.bool true), .eq (Value.bool true)] : List Fk).map Fk.sem) [0, 1, 2, 3, 4, 5, 6, 7, 8, 9, 10, 11, 12, 13, 14, 15, 16, 17, 18, 19, 20, 21, 22, 23, 24, 25, 26, 27, 28, 29, 30, 31, 32, 33, 34, 35, 36, 37, 38, 39, 40, 41, 42, 43, 44, 45, 46, 47, 48, 49, 50, 51, 52, 53, 54, 55, 56, 57, 58, 59, 60, 61, 62, 63, 64, 65] (by kernel_rfl) (by kernel_rfl) (by kernel_rfl) ?step ?done
  case step =>
    intro i o ho listed a wx hI hli hne KK hK
    have hlt : i < 66 := (Array.getElem?_eq_some_iff.1 ho).1
    have hsz : Hid (a.tmps.size = 102) := hI.slots
    have hbw : Below W4.heap.size W4 wx := (Below.refl _ _).drew.trans hI.below
    obtain rfl | rfl | rfl | rfl | rfl | rfl | rfl | rfl | rfl | rfl | rfl | rfl | rfl | rfl | rfl | rfl | rfl | rfl | rfl | rfl | rfl | rfl | rfl | rfl | rfl | rfl | rfl | rfl | rfl | rfl | rfl | rfl | rfl | rfl | rfl | rfl | rfl | rfl | rfl | rfl | rfl | rfl | rfl | rfl | rfl | rfl | rfl | rfl | rfl | rfl | rfl | rfl | rfl | rfl | rfl | rfl | rfl | rfl | rfl | rfl | rfl | rfl | rfl | rfl | rfl | rfl : i = 0 ∨ i = 1 ∨ i = 2 ∨ i = 3 ∨ i = 4 ∨ i = 5 ∨ i = 6 ∨ i = 7 ∨ i = 8 ∨ i = 9 ∨ i = 10 ∨ i = 11 ∨ i = 12 ∨ i = 13 ∨ i = 14 ∨ i = 15 ∨ i = 16 ∨ i = 17 ∨ i = 18 ∨ i = 19 ∨ i = 20 ∨ i = 21 ∨ i = 22 ∨ i = 23 ∨ i = 24 ∨ i = 25 ∨ i = 26 ∨ i = 27 ∨ i = 28 ∨ i = 29 ∨ i = 30 ∨ i = 31 ∨ i = 32 ∨ i = 33 ∨ i = 34 ∨ i = 35 ∨ i = 36 ∨ i = 37 ∨ i = 38 ∨ i = 39 ∨ i = 40 ∨ i = 41 ∨ i = 42 ∨ i = 43 ∨ i = 44 ∨ i = 45 ∨ i = 46 ∨ i = 47 ∨ i = 48 ∨ i = 49 ∨ i = 50 ∨ i = 51 ∨ i = 52 ∨ i = 53 ∨ i = 54 ∨ i = 55 ∨ i = 56 ∨ i = 57 ∨ i = 58 ∨ i = 59 ∨ i = 60 ∨ i = 61 ∨ i = 62 ∨ i = 63 ∨ i = 64 ∨ i = 65 := by omega
    · simp only [List.getElem?_toArray, List.getElem?_cons_succ, List.getElem?_cons_zero, Option.some.injEq] at ho
      subst ho
      rw [if_pos (by rfl)]
      have eH9 : a.tmps.getD 9 undef = Value.pointer (some { block := w2.heap.size, off := 0 }) := hI.stays hli 1 9 (by decide +kernel)
      obtain ⟨cC0, cC1, cC2, cC3, cC4, cC5, cC6, cC7, cC8⟩ := cells9 (blk_old HW.out hbw)
      go_simp
      exact hI.grow hK _ _ (Below.refl _ _) (put_self _ _ _ (by rw [hsz.out]; decide))
    · simp only [List.getElem?_toArray, List.getElem?_cons_succ, List.getElem?_cons_zero, Option.some.injEq] at ho
      subst ho
      rw [if_pos (by rfl)]
      have eH13 : a.tmps.getD 13 undef = Value.pointer (some { block := W3.heap.size, off := 0 }) := hI.stays hli 1 13 (by decide +kernel)
      obtain ⟨yY0, yY1, yY2, _, _, _⟩ := (HA.out.keep hbw).facts
      go_simp
      exact hI.grow hK _ _ (Below.refl _ _) (put_self _ _ _ (by rw [hsz.out]; decide))
    · simp only [List.getElem?_toArray, List.getElem?_cons_succ, List.getElem?_cons_zero, Option.some.injEq] at ho
      subst ho
      rw [if_pos (by rfl)]
      have eH37 : a.tmps.getD 37 undef = (Value.agg #[Value.int IntKind.i64 g1, Value.int IntKind.i64 g2, Value.slice oo lo co, Value.slice (some { block := b0, off := 0 }) 1 1, Value.slice (some { block := b1, off := 0 }) 1 1, Value.slice (some { block := b2, off := 0 }) 1 1, Value.slice (some { block := b3, off := 0 }) 1 1, Value.slice (some { block := b4, off := 0 }) 1 1, Value.slice (some { block := b5, off := 0 }) 1 1]) := hI.deep hne 0 0 (by decide +kernel)
      have eH38 : a.tmps.getD 38 undef = (Value.agg #[Value.slice Ao1 Ao2 Ao3, Value.slice Ar1 Ar2 Ar3, Value.bool sA.inf]) := hI.deep hne 0 1 (by decide +kernel)
      have ho := On_any _ _ K sA 3 wx (HCU.out.old hbw) (HAV.out.old hbw) (by decide)
      rw [on_good HR.out.good (HMA.out.gd HR.out.base)] at ho
      go_simp
      go_at_call 23
      refine ho.mono ?_
      rintro e w5' ⟨rfl, hb5⟩
      exact hI.grow hK _ _ hb5 (put_self _ _ _ (by rw [hsz.out]; decide))
    · simp only [List.getElem?_toArray, List.getElem?_cons_succ, List.getElem?_cons_zero, Option.some.injEq] at ho
      subst ho
      rw [if_pos (by rfl)]
      have eH39 : a.tmps.getD 39 undef = (Value.bool true) := hI.deep hne 0 2 (by decide +kernel)
      go_simp
      exact hI.grow hK _ _ (Below.refl _ _) (put_self _ _ _ (by rw [hsz.out]; decide))
    · simp only [List.getElem?_toArray, List.getElem?_cons_succ, List.getElem?_cons_zero, Option.some.injEq] at ho
      subst ho
      have eGd : a.tmps.getD 40 undef = (Value.bool true) := hI.deep hne 0 3 (by decide +kernel)
      rw [if_pos (by simp only [Region.wanted]; exact wanted_at rfl rfl eGd)]
      clear eGd
      have eH9 : a.tmps.getD 9 undef = Value.pointer (some { block := w2.heap.size, off := 0 }) := hI.stays hli 1 9 (by decide +kernel)
      obtain ⟨cC0, cC1, cC2, cC3, cC4, cC5, cC6, cC7, cC8⟩ := cells9 (blk_old HW.out hbw)
      go_simp
      exact hI.grow hK _ _ (Below.refl _ _) (put_self _ _ _ (by rw [hsz.out]; decide))
    · simp only [List.getElem?_toArray, List.getElem?_cons_succ, List.getElem?_cons_zero, Option.some.injEq] at ho
      subst ho
      have eGd : a.tmps.getD 40 undef = (Value.bool true) := hI.deep hne 0 3 (by decide +kernel)
      rw [if_pos (by simp only [Region.wanted]; exact wanted_at rfl rfl eGd)]
      clear eGd
      have eH11 : a.tmps.getD 11 undef = Value.func (Fn.func 19) #[] #[Value.pointer (some { block := w2.heap.size, off := 0 })] := hI.stays hli 1 11 (by decide +kernel)
      go_simp
      exact hI.grow hK _ _ (Below.refl _ _) (put_self _ _ _ (by rw [hsz.out]; decide))
    · simp only [List.getElem?_toArray, List.getElem?_cons_succ, List.getElem?_cons_zero, Option.some.injEq] at ho
      subst ho
      have eGd : a.tmps.getD 40 undef = (Value.bool true) := hI.deep hne 0 3 (by decide +kernel)
      rw [if_pos (by simp only [Region.wanted]; exact wanted_at rfl rfl eGd)]
      clear eGd
      have eH13 : a.tmps.getD 13 undef = Value.pointer (some { block := W3.heap.size, off := 0 }) := hI.stays hli 1 13 (by decide +kernel)
      obtain ⟨yY0, yY1, yY2, _, _, _⟩ := (HA.out.keep hbw).facts
      go_simp
      exact hI.grow hK _ _ (Below.refl _ _) (put_self _ _ _ (by rw [hsz.out]; decide))
    · simp only [List.getElem?_toArray, List.getElem?_cons_succ, List.getElem?_cons_zero, Option.some.injEq] at ho
      subst ho
      have eGd : a.tmps.getD 40 undef = (Value.bool true) := hI.deep hne 0 3 (by decide +kernel)
      rw [if_pos (by simp only [Region.wanted]; exact wanted_at rfl rfl eGd)]
      clear eGd
      have eH14 : a.tmps.getD 14 undef = Value.pointer (some { block := W3.heap.size + 1, off := 0 }) := hI.stays hli 1 14 (by decide +kernel)
      obtain ⟨yY0, yY1, yY2, _, _, _⟩ := (HB.out.keep hbw).facts
      go_simp
      exact hI.grow hK _ _ (Below.refl _ _) (put_self _ _ _ (by rw [hsz.out]; decide))
    · simp only [List.getElem?_toArray, List.getElem?_cons_succ, List.getElem?_cons_zero, Option.some.injEq] at ho
      subst ho
      have eGd : a.tmps.getD 40 undef = (Value.bool true) := hI.deep hne 0 3 (by decide +kernel)
      rw [if_pos (by simp only [Region.wanted]; exact wanted_at rfl rfl eGd)]
      clear eGd
      have eH42 : a.tmps.getD 42 undef = (Value.func (Fn.func 19) #[] #[Value.pointer (some { block := w2.heap.size, off := 0 })]) := hI.deep hne 0 5 (by decide +kernel)
      have eH43 : a.tmps.getD 43 undef = (Value.agg #[Value.slice Ao1 Ao2 Ao3, Value.slice Ar1 Ar2 Ar3, Value.bool sA.inf]) := hI.deep hne 0 6 (by decide +kernel)
      have eH44 : a.tmps.getD 44 undef = (Value.agg #[Value.slice Bo1 Bo2 Bo3, Value.slice Br1 Br2 Br3, Value.bool sB.inf]) := hI.deep hne 0 7 (by decide +kernel)
      go_simp
      go_at_call 19
      refine (gadd_any HR.out w2.heap.size _ _ _ _ _ _ wx _ _ _ _ _ _ _ _ _ (blk_old HW.out hbw) (HCU.out.old hbw) (HAV.out.old hbw) (HBV.out.old hbw) HMA.out HMB.out).mono ?_
      rintro e w5' ⟨v5, rfl, s5, hv5, hm5, hb5⟩
      exact hI.grow hK _ _ hb5 ⟨s5, hm5, by have hp := put_self a 45 v5 (by rw [hsz.out]; decide); show Pv w5' ((a.put (some 45) v5).tmps.getD 45 undef) _ _; rw [hp]; exact hv5⟩
    · simp only [List.getElem?_toArray, List.getElem?_cons_succ, List.getElem?_cons_zero, Option.some.injEq] at ho
      subst ho
      have eGd : a.tmps.getD 40 undef = (Value.bool true) := hI.deep hne 0 3 (by decide +kernel)
      rw [if_pos (by simp only [Region.wanted]; exact wanted_at rfl rfl eGd)]
      clear eGd
      have eH41 : a.tmps.getD 41 undef = (Value.agg #[Value.int IntKind.i64 g1, Value.int IntKind.i64 g2, Value.slice oo lo co, Value.slice (some { block := b0, off := 0 }) 1 1, Value.slice (some { block := b1, off := 0 }) 1 1, Value.slice (some { block := b2, off := 0 }) 1 1, Value.slice (some { block := b3, off := 0 }) 1 1, Value.slice (some { block := b4, off := 0 }) 1 1, Value.slice (some { block := b5, off := 0 }) 1 1]) := hI.deep hne 0 4 (by decide +kernel)
      have fA8 : Fk.sem (.pv (fun p => Mt K P (baseZ K) (x.toNat + y.toNat) p) 3) [a.tmps.getD 45 undef] wx := hI.deep hne 0 8 (by decide +kernel)
      obtain ⟨zX45, eH45⟩ : ∃ x, a.tmps.getD 45 undef = x := ⟨_, rfl⟩
      simp only [eH45] at fA8
      obtain ⟨pz8, hz8, hpv8⟩ := fA8
      have hpw8 : Pv wx zX45 pz8 3 := hpv8
      clear hpv8
      have ho := On_any _ _ K pz8 3 wx (HCU.out.old hbw) hpw8 (by decide)
      rw [on_good HR.out.good (Mt.gd HR.out.base hz8)] at ho
      go_simp
      go_at_call 23
      refine ho.mono ?_
      rintro e w5' ⟨rfl, hb5⟩
      exact hI.grow hK _ _ hb5 (put_self _ _ _ (by rw [hsz.out]; decide))
    · simp only [List.getElem?_toArray, List.getElem?_cons_succ, List.getElem?_cons_zero, Option.some.injEq] at ho
      subst ho
      rw [if_pos (by rfl)]
      have eH40 : a.tmps.getD 40 undef = (Value.bool true) := hI.deep hne 0 3 (by decide +kernel)
      have eH46 : a.tmps.getD 46 undef = (Value.bool true) := hI.deep hne 0 9 (by decide +kernel)
      go_simp
      exact hI.grow hK _ _ (Below.refl _ _) (put_self _ _ _ (by rw [hsz.out]; decide))
    · simp only [List.getElem?_toArray, List.getElem?_cons_succ, List.getElem?_cons_zero, Option.some.injEq] at ho
      subst ho
      rw [if_pos (by rfl)]
      have eH47 : a.tmps.getD 47 undef = (Value.bool true) := hI.deep hne 0 10 (by decide +kernel)
      go_simp
      exact hI.grow hK _ _ (Below.refl _ _) (put_self _ _ _ (by rw [hsz.out]; decide))
    · simp only [List.getElem?_toArray, List.getElem?_cons_succ, List.getElem?_cons_zero, Option.some.injEq] at ho
      subst ho
      have eGd : a.tmps.getD 48 undef = (Value.bool true) := hI.deep hne 0 11 (by decide +kernel)
      rw [if_pos (by simp only [Region.wanted]; exact wanted_at rfl rfl eGd)]
      clear eGd
      have eH12 : a.tmps.getD 12 undef = Value.func (Fn.func 21) #[] #[] := hI.stays hli 1 12 (by decide +kernel)
      go_simp
      exact hI.grow hK _ _ (Below.refl _ _) (put_self _ _ _ (by rw [hsz.out]; decide))
    · simp only [List.getElem?_toArray, List.getElem?_cons_succ, List.getElem?_cons_zero, Option.some.injEq] at ho
      subst ho
      have eGd : a.tmps.getD 48 undef = (Value.bool true) := hI.deep hne 0 11 (by decide +kernel)
      rw [if_pos (by simp only [Region.wanted]; exact wanted_at rfl rfl eGd)]
      clear eGd
      have eH11 : a.tmps.getD 11 undef = Value.func (Fn.func 19) #[] #[Value.pointer (some { block := w2.heap.size, off := 0 })] := hI.stays hli 1 11 (by decide +kernel)
      go_simp
      exact hI.grow hK _ _ (Below.refl _ _) (put_self _ _ _ (by rw [hsz.out]; decide))
    · simp only [List.getElem?_toArray, List.getElem?_cons_succ, List.getElem?_cons_zero, Option.some.injEq] at ho
      subst ho
      have eGd : a.tmps.getD 48 undef = (Value.bool true) := hI.deep hne 0 11 (by decide +kernel)
      rw [if_pos (by simp only [Region.wanted]; exact wanted_at rfl rfl eGd)]
      clear eGd
      have eH13 : a.tmps.getD 13 undef = Value.pointer (some { block := W3.heap.size, off := 0 }) := hI.stays hli 1 13 (by decide +kernel)
      obtain ⟨yY0, yY1, yY2, _, _, _⟩ := (HA.out.keep hbw).facts
      go_simp
      exact hI.grow hK _ _ (Below.refl _ _) (put_self _ _ _ (by rw [hsz.out]; decide))
    · simp only [List.getElem?_toArray, List.getElem?_cons_succ, List.getElem?_cons_zero, Option.some.injEq] at ho
      subst ho
      have eGd : a.tmps.getD 48 undef = (Value.bool true) := hI.deep hne 0 11 (by decide +kernel)
      rw [if_pos (by simp only [Region.wanted]; exact wanted_at rfl rfl eGd)]
      clear eGd
      have eH14 : a.tmps.getD 14 undef = Value.pointer (some { block := W3.heap.size + 1, off := 0 }) := hI.stays hli 1 14 (by decide +kernel)
      obtain ⟨yY0, yY1, yY2, _, _, _⟩ := (HB.out.keep hbw).facts
      go_simp
      exact hI.grow hK _ _ (Below.refl _ _) (put_self _ _ _ (by rw [hsz.out]; decide))
    · simp only [List.getElem?_toArray, List.getElem?_cons_succ, List.getElem?_cons_zero, Option.some.injEq] at ho
      subst ho
      have eGd : a.tmps.getD 48 undef = (Value.bool true) := hI.deep hne 0 11 (by decide +kernel)
      rw [if_pos (by simp only [Region.wanted]; exact wanted_at rfl rfl eGd)]
      clear eGd
      have eH50 : a.tmps.getD 50 undef = (Value.func (Fn.func 19) #[] #[Value.pointer (some { block := w2.heap.size, off := 0 })]) := hI.deep hne 0 13 (by decide +kernel)
      have eH51 : a.tmps.getD 51 undef = (Value.agg #[Value.slice Ao1 Ao2 Ao3, Value.slice Ar1 Ar2 Ar3, Value.bool sA.inf]) := hI.deep hne 0 14 (by decide +kernel)
      have eH52 : a.tmps.getD 52 undef = (Value.agg #[Value.slice Bo1 Bo2 Bo3, Value.slice Br1 Br2 Br3, Value.bool sB.inf]) := hI.deep hne 0 15 (by decide +kernel)
      go_simp
      go_at_call 19
      refine (gadd_any HR.out w2.heap.size _ _ _ _ _ _ wx _ _ _ _ _ _ _ _ _ (blk_old HW.out hbw) (HCU.out.old hbw) (HAV.out.old hbw) (HBV.out.old hbw) HMA.out HMB.out).mono ?_
      rintro e w5' ⟨v5, rfl, s5, hv5, hm5, hb5⟩
      exact hI.grow hK _ _ hb5 ⟨s5, hm5, by have hp := put_self a 53 v5 (by rw [hsz.out]; decide); show Pv w5' ((a.put (some 53) v5).tmps.getD 53 undef) _ _; rw [hp]; exact hv5⟩
    · simp only [List.getElem?_toArray, List.getElem?_cons_succ, List.getElem?_cons_zero, Option.some.injEq] at ho
      subst ho
      have eGd : a.tmps.getD 48 undef = (Value.bool true) := hI.deep hne 0 11 (by decide +kernel)
      rw [if_pos (by simp only [Region.wanted]; exact wanted_at rfl rfl eGd)]
      clear eGd
      have eH11 : a.tmps.getD 11 undef = Value.func (Fn.func 19) #[] #[Value.pointer (some { block := w2.heap.size, off := 0 })] := hI.stays hli 1 11 (by decide +kernel)
      go_simp
      exact hI.grow hK _ _ (Below.refl _ _) (put_self _ _ _ (by rw [hsz.out]; decide))
    · simp only [List.getElem?_toArray, List.getElem?_cons_succ, List.getElem?_cons_zero, Option.some.injEq] at ho
      subst ho
      have eGd : a.tmps.getD 48 undef = (Value.bool true) := hI.deep hne 0 11 (by decide +kernel)
      rw [if_pos (by simp only [Region.wanted]; exact wanted_at rfl rfl eGd)]
      clear eGd
      have eH14 : a.tmps.getD 14 undef = Value.pointer (some { block := W3.heap.size + 1, off := 0 }) := hI.stays hli 1 14 (by decide +kernel)
      obtain ⟨yY0, yY1, yY2, _, _, _⟩ := (HB.out.keep hbw).facts
      go_simp
      exact hI.grow hK _ _ (Below.refl _ _) (put_self _ _ _ (by rw [hsz.out]; decide))
    · simp only [List.getElem?_toArray, List.getElem?_cons_succ, List.getElem?_cons_zero, Option.some.injEq] at ho
      subst ho
      have eGd : a.tmps.getD 48 undef = (Value.bool true) := hI.deep hne 0 11 (by decide +kernel)
      rw [if_pos (by simp only [Region.wanted]; exact wanted_at rfl rfl eGd)]
      clear eGd
      have eH13 : a.tmps.getD 13 undef = Value.pointer (some { block := W3.heap.size, off := 0 }) := hI.stays hli 1 13 (by decide +kernel)
      obtain ⟨yY0, yY1, yY2, _, _, _⟩ := (HA.out.keep hbw).facts
      go_simp
      exact hI.grow hK _ _ (Below.refl _ _) (put_self _ _ _ (by rw [hsz.out]; decide))
    · simp only [List.getElem?_toArray, List.getElem?_cons_succ, List.getElem?_cons_zero, Option.some.injEq] at ho
      subst ho
      have eGd : a.tmps.getD 48 undef = (Value.bool true) := hI.deep hne 0 11 (by decide +kernel)
      rw [if_pos (by simp only [Region.wanted]; exact wanted_at rfl rfl eGd)]
      clear eGd
      have eH54 : a.tmps.getD 54 undef = (Value.func (Fn.func 19) #[] #[Value.pointer (some { block := w2.heap.size, off := 0 })]) := hI.deep hne 0 17 (by decide +kernel)
      have eH55 : a.tmps.getD 55 undef = (Value.agg #[Value.slice Bo1 Bo2 Bo3, Value.slice Br1 Br2 Br3, Value.bool sB.inf]) := hI.deep hne 0 18 (by decide +kernel)
      have eH56 : a.tmps.getD 56 undef = (Value.agg #[Value.slice Ao1 Ao2 Ao3, Value.slice Ar1 Ar2 Ar3, Value.bool sA.inf]) := hI.deep hne 0 19 (by decide +kernel)
      go_simp
      go_at_call 19
      refine (gadd_any HR.out w2.heap.size _ _ _ _ _ _ wx _ _ _ _ _ _ _ _ _ (blk_old HW.out hbw) (HCU.out.old hbw) (HBV.out.old hbw) (HAV.out.old hbw) HMB.out HMA.out).mono ?_
      rintro e w5' ⟨v5, rfl, s5, hv5, hm5, hb5⟩
      exact hI.grow hK _ _ hb5 ⟨s5, hm5, by have hp := put_self a 57 v5 (by rw [hsz.out]; decide); show Pv w5' ((a.put (some 57) v5).tmps.getD 57 undef) _ _; rw [hp]; exact hv5⟩
    · simp only [List.getElem?_toArray, List.getElem?_cons_succ, List.getElem?_cons_zero, Option.some.injEq] at ho
      subst ho
      have eGd : a.tmps.getD 48 undef = (Value.bool true) := hI.deep hne 0 11 (by decide +kernel)
      rw [if_pos (by simp only [Region.wanted]; exact wanted_at rfl rfl eGd)]
      clear eGd
      have eH49 : a.tmps.getD 49 undef = (Value.func (Fn.func 21) #[] #[]) := hI.deep hne 0 12 (by decide +kernel)
      have fA16 : Fk.sem (.pv (fun p => Mt K P (baseZ K) (x.toNat + y.toNat) p) 3) [a.tmps.getD 53 undef] wx := hI.deep hne 0 16 (by decide +kernel)
      have fA20 : Fk.sem (.pv (fun p => Mt K P (baseZ K) (y.toNat + x.toNat) p) 3) [a.tmps.getD 57 undef] wx := hI.deep hne 0 20 (by decide +kernel)
      obtain ⟨zX53, eH53⟩ : ∃ x, a.tmps.getD 53 undef = x := ⟨_, rfl⟩
      obtain ⟨zX57, eH57⟩ : ∃ x, a.tmps.getD 57 undef = x := ⟨_, rfl⟩
      simp only [eH53, eH57] at fA16 fA20
      obtain ⟨pz16, hz16, hpv16⟩ := fA16
      have hpw16 : Pv wx zX53 pz16 3 := hpv16
      clear hpv16
      obtain ⟨pz20, hz20, hpv20⟩ := fA20
      have hpw20 : Pv wx zX57 pz20 3 := hpv20
      clear hpv20
      have hmm := hz20
      rw [show y.toNat + x.toNat = x.toNat + y.toNat by omega] at hmm
      have hss := Mt.uniq HR.out.good hz16 hmm
      have hp1 := hpw16
      rw [hss] at hp1
      have hsm := gsame_any _ _ _ wx hp1 hpw20
      clear hp1 hmm
      go_simp
      go_at_call 21
      refine hsm.mono ?_
      rintro e w5' ⟨rfl, hb5⟩
      exact hI.grow hK _ _ hb5 (put_self _ _ _ (by rw [hsz.out]; decide))
    · simp only [List.getElem?_toArray, List.getElem?_cons_succ, List.getElem?_cons_zero, Option.some.injEq] at ho
      subst ho
      rw [if_pos (by rfl)]
      have eH48 : a.tmps.getD 48 undef = (Value.bool true) := hI.deep hne 0 11 (by decide +kernel)
      have eH58 : a.tmps.getD 58 undef = (Value.bool true) := hI.deep hne 0 21 (by decide +kernel)
      go_simp
      exact hI.grow hK _ _ (Below.refl _ _) (put_self _ _ _ (by rw [hsz.out]; decide))
    · simp only [List.getElem?_toArray, List.getElem?_cons_succ, List.getElem?_cons_zero, Option.some.injEq] at ho
      subst ho
      rw [if_pos (by rfl)]
      have eH59 : a.tmps.getD 59 undef = (Value.bool true) := hI.deep hne 0 22 (by decide +kernel)
      go_simp
      exact hI.grow hK _ _ (Below.refl _ _) (put_self _ _ _ (by rw [hsz.out]; decide))
    · simp only [List.getElem?_toArray, List.getElem?_cons_succ, List.getElem?_cons_zero, Option.some.injEq] at ho
      subst ho
      have eGd : a.tmps.getD 60 undef = (Value.bool true) := hI.deep hne 0 23 (by decide +kernel)
      rw [if_pos (by simp only [Region.wanted]; exact wanted_at rfl rfl eGd)]
      clear eGd
      have eH12 : a.tmps.getD 12 undef = Value.func (Fn.func 21) #[] #[] := hI.stays hli 1 12 (by decide +kernel)
      go_simp
      exact hI.grow hK _ _ (Below.refl _ _) (put_self _ _ _ (by rw [hsz.out]; decide))
    · simp only [List.getElem?_toArray, List.getElem?_cons_succ, List.getElem?_cons_zero, Option.some.injEq] at ho
      subst ho
      have eGd : a.tmps.getD 60 undef = (Value.bool true) := hI.deep hne 0 23 (by decide +kernel)
      rw [if_pos (by simp only [Region.wanted]; exact wanted_at rfl rfl eGd)]
      clear eGd
      have eH11 : a.tmps.getD 11 undef = Value.func (Fn.func 19) #[] #[Value.pointer (some { block := w2.heap.size, off := 0 })] := hI.stays hli 1 11 (by decide +kernel)
      go_simp
      exact hI.grow hK _ _ (Below.refl _ _) (put_self _ _ _ (by rw [hsz.out]; decide))
    · simp only [List.getElem?_toArray, List.getElem?_cons_succ, List.getElem?_cons_zero, Option.some.injEq] at ho
      subst ho
      have eGd : a.tmps.getD 60 undef = (Value.bool true) := hI.deep hne 0 23 (by decide +kernel)
      rw [if_pos (by simp only [Region.wanted]; exact wanted_at rfl rfl eGd)]
      clear eGd
      have eH11 : a.tmps.getD 11 undef = Value.func (Fn.func 19) #[] #[Value.pointer (some { block := w2.heap.size, off := 0 })] := hI.stays hli 1 11 (by decide +kernel)
      go_simp
      exact hI.grow hK _ _ (Below.refl _ _) (put_self _ _ _ (by rw [hsz.out]; decide))
    · simp only [List.getElem?_toArray, List.getElem?_cons_succ, List.getElem?_cons_zero, Option.some.injEq] at ho
      subst ho
      have eGd : a.tmps.getD 60 undef = (Value.bool true) := hI.deep hne 0 23 (by decide +kernel)
      rw [if_pos (by simp only [Region.wanted]; exact wanted_at rfl rfl eGd)]
      clear eGd
      have eH13 : a.tmps.getD 13 undef = Value.pointer (some { block := W3.heap.size, off := 0 }) := hI.stays hli 1 13 (by decide +kernel)
      obtain ⟨yY0, yY1, yY2, _, _, _⟩ := (HA.out.keep hbw).facts
      go_simp
      exact hI.grow hK _ _ (Below.refl _ _) (put_self _ _ _ (by rw [hsz.out]; decide))
    · simp only [List.getElem?_toArray, List.getElem?_cons_succ, List.getElem?_cons_zero, Option.some.injEq] at ho
      subst ho
      have eGd : a.tmps.getD 60 undef = (Value.bool true) := hI.deep hne 0 23 (by decide +kernel)
      rw [if_pos (by simp only [Region.wanted]; exact wanted_at rfl rfl eGd)]
      clear eGd
      have eH14 : a.tmps.getD 14 undef = Value.pointer (some { block := W3.heap.size + 1, off := 0 }) := hI.stays hli 1 14 (by decide +kernel)
      obtain ⟨yY0, yY1, yY2, _, _, _⟩ := (HB.out.keep hbw).facts
      go_simp
      exact hI.grow hK _ _ (Below.refl _ _) (put_self _ _ _ (by rw [hsz.out]; decide))
    · simp only [List.getElem?_toArray, List.getElem?_cons_succ, List.getElem?_cons_zero, Option.some.injEq] at ho
      subst ho
      have eGd : a.tmps.getD 60 undef = (Value.bool true) := hI.deep hne 0 23 (by decide +kernel)
      rw [if_pos (by simp only [Region.wanted]; exact wanted_at rfl rfl eGd)]
      clear eGd
      have eH63 : a.tmps.getD 63 undef = (Value.func (Fn.func 19) #[] #[Value.pointer (some { block := w2.heap.size, off := 0 })]) := hI.deep hne 0 26 (by decide +kernel)
      have eH64 : a.tmps.getD 64 undef = (Value.agg #[Value.slice Ao1 Ao2 Ao3, Value.slice Ar1 Ar2 Ar3, Value.bool sA.inf]) := hI.deep hne 0 27 (by decide +kernel)
      have eH65 : a.tmps.getD 65 undef = (Value.agg #[Value.slice Bo1 Bo2 Bo3, Value.slice Br1 Br2 Br3, Value.bool sB.inf]) := hI.deep hne 0 28 (by decide +kernel)
      go_simp
      go_at_call 19
      refine (gadd_any HR.out w2.heap.size _ _ _ _ _ _ wx _ _ _ _ _ _ _ _ _ (blk_old HW.out hbw) (HCU.out.old hbw) (HAV.out.old hbw) (HBV.out.old hbw) HMA.out HMB.out).mono ?_
      rintro e w5' ⟨v5, rfl, s5, hv5, hm5, hb5⟩
      exact hI.grow hK _ _ hb5 ⟨s5, hm5, by have hp := put_self a 66 v5 (by rw [hsz.out]; decide); show Pv w5' ((a.put (some 66) v5).tmps.getD 66 undef) _ _; rw [hp]; exact hv5⟩
    · simp only [List.getElem?_toArray, List.getElem?_cons_succ, List.getElem?_cons_zero, Option.some.injEq] at ho
      subst ho
      have eGd : a.tmps.getD 60 undef = (Value.bool true) := hI.deep hne 0 23 (by decide +kernel)
      rw [if_pos (by simp only [Region.wanted]; exact wanted_at rfl rfl eGd)]
      clear eGd
      have eH15 : a.tmps.getD 15 undef = Value.pointer (some { block := W3.heap.size + 1 + 1, off := 0 }) := hI.stays hli 1 15 (by decide +kernel)
      obtain ⟨yY0, yY1, yY2, _, _, _⟩ := (HC.out.keep hbw).facts
      go_simp
      exact hI.grow hK _ _ (Below.refl _ _) (put_self _ _ _ (by rw [hsz.out]; decide))
    · simp only [List.getElem?_toArray, List.getElem?_cons_succ, List.getElem?_cons_zero, Option.some.injEq] at ho
      subst ho
      have eGd : a.tmps.getD 60 undef = (Value.bool true) := hI.deep hne 0 23 (by decide +kernel)
      rw [if_pos (by simp only [Region.wanted]; exact wanted_at rfl rfl eGd)]
      clear eGd
      have eH62 : a.tmps.getD 62 undef = (Value.func (Fn.func 19) #[] #[Value.pointer (some { block := w2.heap.size, off := 0 })]) := hI.deep hne 0 25 (by decide +kernel)
      have eH67 : a.tmps.getD 67 undef = (Value.agg #[Value.slice Co1 Co2 Co3, Value.slice Cr1 Cr2 Cr3, Value.bool sC.inf]) := hI.deep hne 0 30 (by decide +kernel)
      have fA29 : Fk.sem (.pv (fun p => Mt K P (baseZ K) (x.toNat + y.toNat) p) 3) [a.tmps.getD 66 undef] wx := hI.deep hne 0 29 (by decide +kernel)
      obtain ⟨zX66, eH66⟩ : ∃ x, a.tmps.getD 66 undef = x := ⟨_, rfl⟩
      simp only [eH66] at fA29
      obtain ⟨pz29, hz29, hpv29⟩ := fA29
      have hpw29 : Pv wx zX66 pz29 3 := hpv29
      clear hpv29
      go_simp
      go_at_call 19
      refine (gadd_any HR.out w2.heap.size _ _ _ _ _ _ wx _ _ _ _ _ _ _ _ _ (blk_old HW.out hbw) (HCU.out.old hbw) hpw29 (HCV.out.old hbw) hz29 HMC.out).mono ?_
      rintro e w5' ⟨v5, rfl, s5, hv5, hm5, hb5⟩
      exact hI.grow hK _ _ hb5 ⟨s5, hm5, by have hp := put_self a 68 v5 (by rw [hsz.out]; decide); show Pv w5' ((a.put (some 68) v5).tmps.getD 68 undef) _ _; rw [hp]; exact hv5⟩
    · simp only [List.getElem?_toArray, List.getElem?_cons_succ, List.getElem?_cons_zero, Option.some.injEq] at ho
      subst ho
      have eGd : a.tmps.getD 60 undef = (Value.bool true) := hI.deep hne 0 23 (by decide +kernel)
      rw [if_pos (by simp only [Region.wanted]; exact wanted_at rfl rfl eGd)]
      clear eGd
      have eH11 : a.tmps.getD 11 undef = Value.func (Fn.func 19) #[] #[Value.pointer (some { block := w2.heap.size, off := 0 })] := hI.stays hli 1 11 (by decide +kernel)
      go_simp
      exact hI.grow hK _ _ (Below.refl _ _) (put_self _ _ _ (by rw [hsz.out]; decide))
    · simp only [List.getElem?_toArray, List.getElem?_cons_succ, List.getElem?_cons_zero, Option.some.injEq] at ho
      subst ho
      have eGd : a.tmps.getD 60 undef = (Value.bool true) := hI.deep hne 0 23 (by decide +kernel)
      rw [if_pos (by simp only [Region.wanted]; exact wanted_at rfl rfl eGd)]
      clear eGd
      have eH13 : a.tmps.getD 13 undef = Value.pointer (some { block := W3.heap.size, off := 0 }) := hI.stays hli 1 13 (by decide +kernel)
      obtain ⟨yY0, yY1, yY2, _, _, _⟩ := (HA.out.keep hbw).facts
      go_simp
      exact hI.grow hK _ _ (Below.refl _ _) (put_self _ _ _ (by rw [hsz.out]; decide))
    · simp only [List.getElem?_toArray, List.getElem?_cons_succ, List.getElem?_cons_zero, Option.some.injEq] at ho
      subst ho
      have eGd : a.tmps.getD 60 undef = (Value.bool true) := hI.deep hne 0 23 (by decide +kernel)
      rw [if_pos (by simp only [Region.wanted]; exact wanted_at rfl rfl eGd)]
      clear eGd
      have eH11 : a.tmps.getD 11 undef = Value.func (Fn.func 19) #[] #[Value.pointer (some { block := w2.heap.size, off := 0 })] := hI.stays hli 1 11 (by decide +kernel)
      go_simp
      exact hI.grow hK _ _ (Below.refl _ _) (put_self _ _ _ (by rw [hsz.out]; decide))
    · simp only [List.getElem?_toArray, List.getElem?_cons_succ, List.getElem?_cons_zero, Option.some.injEq] at ho
      subst ho
      have eGd : a.tmps.getD 60 undef = (Value.bool true) := hI.deep hne 0 23 (by decide +kernel)
      rw [if_pos (by simp only [Region.wanted]; exact wanted_at rfl rfl eGd)]
      clear eGd
      have eH14 : a.tmps.getD 14 undef = Value.pointer (some { block := W3.heap.size + 1, off := 0 }) := hI.stays hli 1 14 (by decide +kernel)
      obtain ⟨yY0, yY1, yY2, _, _, _⟩ := (HB.out.keep hbw).facts
      go_simp
      exact hI.grow hK _ _ (Below.refl _ _) (put_self _ _ _ (by rw [hsz.out]; decide))
    · simp only [List.getElem?_toArray, List.getElem?_cons_succ, List.getElem?_cons_zero, Option.some.injEq] at ho
      subst ho
      have eGd : a.tmps.getD 60 undef = (Value.bool true) := hI.deep hne 0 23 (by decide +kernel)
      rw [if_pos (by simp only [Region.wanted]; exact wanted_at rfl rfl eGd)]
      clear eGd
      have eH15 : a.tmps.getD 15 undef = Value.pointer (some { block := W3.heap.size + 1 + 1, off := 0 }) := hI.stays hli 1 15 (by decide +kernel)
      obtain ⟨yY0, yY1, yY2, _, _, _⟩ := (HC.out.keep hbw).facts
      go_simp
      exact hI.grow hK _ _ (Below.refl _ _) (put_self _ _ _ (by rw [hsz.out]; decide))
    · simp only [List.getElem?_toArray, List.getElem?_cons_succ, List.getElem?_cons_zero, Option.some.injEq] at ho
      subst ho
      have eGd : a.tmps.getD 60 undef = (Value.bool true) := hI.deep hne 0 23 (by decide +kernel)
      rw [if_pos (by simp only [Region.wanted]; exact wanted_at rfl rfl eGd)]
      clear eGd
      have eH71 : a.tmps.getD 71 undef = (Value.func (Fn.func 19) #[] #[Value.pointer (some { block := w2.heap.size, off := 0 })]) := hI.deep hne 0 34 (by decide +kernel)
      have eH72 : a.tmps.getD 72 undef = (Value.agg #[Value.slice Bo1 Bo2 Bo3, Value.slice Br1 Br2 Br3, Value.bool sB.inf]) := hI.deep hne 0 35 (by decide +kernel)
      have eH73 : a.tmps.getD 73 undef = (Value.agg #[Value.slice Co1 Co2 Co3, Value.slice Cr1 Cr2 Cr3, Value.bool sC.inf]) := hI.deep hne 0 36 (by decide +kernel)
      go_simp
      go_at_call 19
      refine (gadd_any HR.out w2.heap.size _ _ _ _ _ _ wx _ _ _ _ _ _ _ _ _ (blk_old HW.out hbw) (HCU.out.old hbw) (HBV.out.old hbw) (HCV.out.old hbw) HMB.out HMC.out).mono ?_
      rintro e w5' ⟨v5, rfl, s5, hv5, hm5, hb5⟩
      exact hI.grow hK _ _ hb5 ⟨s5, hm5, by have hp := put_self a 74 v5 (by rw [hsz.out]; decide); show Pv w5' ((a.put (some 74) v5).tmps.getD 74 undef) _ _; rw [hp]; exact hv5⟩
    · simp only [List.getElem?_toArray, List.getElem?_cons_succ, List.getElem?_cons_zero, Option.some.injEq] at ho
      subst ho
      have eGd : a.tmps.getD 60 undef = (Value.bool true) := hI.deep hne 0 23 (by decide +kernel)
      rw [if_pos (by simp only [Region.wanted]; exact wanted_at rfl rfl eGd)]
      clear eGd
      have eH69 : a.tmps.getD 69 undef = (Value.func (Fn.func 19) #[] #[Value.pointer (some { block := w2.heap.size, off := 0 })]) := hI.deep hne 0 32 (by decide +kernel)
      have eH70 : a.tmps.getD 70 undef = (Value.agg #[Value.slice Ao1 Ao2 Ao3, Value.slice Ar1 Ar2 Ar3, Value.bool sA.inf]) := hI.deep hne 0 33 (by decide +kernel)
      have fA37 : Fk.sem (.pv (fun p => Mt K P (baseZ K) (y.toNat + z.toNat) p) 3) [a.tmps.getD 74 undef] wx := hI.deep hne 0 37 (by decide +kernel)
      obtain ⟨zX74, eH74⟩ : ∃ x, a.tmps.getD 74 undef = x := ⟨_, rfl⟩
      simp only [eH74] at fA37
      obtain ⟨pz37, hz37, hpv37⟩ := fA37
      have hpw37 : Pv wx zX74 pz37 3 := hpv37
      clear hpv37
      go_simp
      go_at_call 19
      refine (gadd_any HR.out w2.heap.size _ _ _ _ _ _ wx _ _ _ _ _ _ _ _ _ (blk_old HW.out hbw) (HCU.out.old hbw) (HAV.out.old hbw) hpw37 HMA.out hz37).mono ?_
      rintro e w5' ⟨v5, rfl, s5, hv5, hm5, hb5⟩
      exact hI.grow hK _ _ hb5 ⟨s5, hm5, by have hp := put_self a 75 v5 (by rw [hsz.out]; decide); show Pv w5' ((a.put (some 75) v5).tmps.getD 75 undef) _ _; rw [hp]; exact hv5⟩
    · simp only [List.getElem?_toArray, List.getElem?_cons_succ, List.getElem?_cons_zero, Option.some.injEq] at ho
      subst ho
      have eGd : a.tmps.getD 60 undef = (Value.bool true) := hI.deep hne 0 23 (by decide +kernel)
      rw [if_pos (by simp only [Region.wanted]; exact wanted_at rfl rfl eGd)]
      clear eGd
      have eH61 : a.tmps.getD 61 undef = (Value.func (Fn.func 21) #[] #[]) := hI.deep hne 0 24 (by decide +kernel)
      have fA31 : Fk.sem (.pv (fun p => Mt K P (baseZ K) (x.toNat + y.toNat + z.toNat) p) 3) [a.tmps.getD 68 undef] wx := hI.deep hne 0 31 (by decide +kernel)
      have fA38 : Fk.sem (.pv (fun p => Mt K P (baseZ K) (x.toNat + (y.toNat + z.toNat)) p) 3) [a.tmps.getD 75 undef] wx := hI.deep hne 0 38 (by decide +kernel)
      obtain ⟨zX68, eH68⟩ : ∃ x, a.tmps.getD 68 undef = x := ⟨_, rfl⟩
      obtain ⟨zX75, eH75⟩ : ∃ x, a.tmps.getD 75 undef = x := ⟨_, rfl⟩
      simp only [eH68, eH75] at fA31 fA38
      obtain ⟨pz31, hz31, hpv31⟩ := fA31
      have hpw31 : Pv wx zX68 pz31 3 := hpv31
      clear hpv31
      obtain ⟨pz38, hz38, hpv38⟩ := fA38
      have hpw38 : Pv wx zX75 pz38 3 := hpv38
      clear hpv38
      have hmm := hz38
      rw [show x.toNat + (y.toNat + z.toNat) = x.toNat + y.toNat + z.toNat by omega] at hmm
      have hss := Mt.uniq HR.out.good hz31 hmm
      have hp1 := hpw31
      rw [hss] at hp1
      have hsm := gsame_any _ _ _ wx hp1 hpw38
      clear hp1 hmm
      go_simp
      go_at_call 21
      refine hsm.mono ?_
      rintro e w5' ⟨rfl, hb5⟩
      exact hI.grow hK _ _ hb5 (put_self _ _ _ (by rw [hsz.out]; decide))
    · simp only [List.getElem?_toArray, List.getElem?_cons_succ, List.getElem?_cons_zero, Option.some.injEq] at ho
      subst ho
      rw [if_pos (by rfl)]
      have eH60 : a.tmps.getD 60 undef = (Value.bool true) := hI.deep hne 0 23 (by decide +kernel)
      have eH76 : a.tmps.getD 76 undef = (Value.bool true) := hI.deep hne 0 39 (by decide +kernel)
      go_simp
      exact hI.grow hK _ _ (Below.refl _ _) (put_self _ _ _ (by rw [hsz.out]; decide))
    · simp only [List.getElem?_toArray, List.getElem?_cons_succ, List.getElem?_cons_zero, Option.some.injEq] at ho
      subst ho
      rw [if_pos (by rfl)]
      have eH77 : a.tmps.getD 77 undef = (Value.bool true) := hI.deep hne 0 40 (by decide +kernel)
      go_simp
      exact hI.grow hK _ _ (Below.refl _ _) (put_self _ _ _ (by rw [hsz.out]; decide))
    · simp only [List.getElem?_toArray, List.getElem?_cons_succ, List.getElem?_cons_zero, Option.some.injEq] at ho
      subst ho
      have eGd : a.tmps.getD 78 undef = (Value.bool true) := hI.deep hne 0 41 (by decide +kernel)
      rw [if_pos (by simp only [Region.wanted]; exact wanted_at rfl rfl eGd)]
      clear eGd
      have eH12 : a.tmps.getD 12 undef = Value.func (Fn.func 21) #[] #[] := hI.stays hli 1 12 (by decide +kernel)
      go_simp
      exact hI.grow hK _ _ (Below.refl _ _) (put_self _ _ _ (by rw [hsz.out]; decide))
    · simp only [List.getElem?_toArray, List.getElem?_cons_succ, List.getElem?_cons_zero, Option.some.injEq] at ho
      subst ho
      have eGd : a.tmps.getD 78 undef = (Value.bool true) := hI.deep hne 0 41 (by decide +kernel)
      rw [if_pos (by simp only [Region.wanted]; exact wanted_at rfl rfl eGd)]
      clear eGd
      have eH11 : a.tmps.getD 11 undef = Value.func (Fn.func 19) #[] #[Value.pointer (some { block := w2.heap.size, off := 0 })] := hI.stays hli 1 11 (by decide +kernel)
      go_simp
      exact hI.grow hK _ _ (Below.refl _ _) (put_self _ _ _ (by rw [hsz.out]; decide))
    · simp only [List.getElem?_toArray, List.getElem?_cons_succ, List.getElem?_cons_zero, Option.some.injEq] at ho
      subst ho
      have eGd : a.tmps.getD 78 undef = (Value.bool true) := hI.deep hne 0 41 (by decide +kernel)
      rw [if_pos (by simp only [Region.wanted]; exact wanted_at rfl rfl eGd)]
      clear eGd
      have eH13 : a.tmps.getD 13 undef = Value.pointer (some { block := W3.heap.size, off := 0 }) := hI.stays hli 1 13 (by decide +kernel)
      obtain ⟨yY0, yY1, yY2, _, _, _⟩ := (HA.out.keep hbw).facts
      go_simp
      exact hI.grow hK _ _ (Below.refl _ _) (put_self _ _ _ (by rw [hsz.out]; decide))
    · simp only [List.getElem?_toArray, List.getElem?_cons_succ, List.getElem?_cons_zero, Option.some.injEq] at ho
      subst ho
      have eGd : a.tmps.getD 78 undef = (Value.bool true) := hI.deep hne 0 41 (by decide +kernel)
      rw [if_pos (by simp only [Region.wanted]; exact wanted_at rfl rfl eGd)]
      clear eGd
      have eH14 : a.tmps.getD 14 undef = Value.pointer (some { block := W3.heap.size + 1, off := 0 }) := hI.stays hli 1 14 (by decide +kernel)
      obtain ⟨yY0, yY1, yY2, _, _, _⟩ := (HB.out.keep hbw).facts
      go_simp
      exact hI.grow hK _ _ (Below.refl _ _) (put_self _ _ _ (by rw [hsz.out]; decide))
    · simp only [List.getElem?_toArray, List.getElem?_cons_succ, List.getElem?_cons_zero, Option.some.injEq] at ho
      subst ho
      have eGd : a.tmps.getD 78 undef = (Value.bool true) := hI.deep hne 0 41 (by decide +kernel)
      rw [if_pos (by simp only [Region.wanted]; exact wanted_at rfl rfl eGd)]
      clear eGd
      have eH80 : a.tmps.getD 80 undef = (Value.func (Fn.func 19) #[] #[Value.pointer (some { block := w2.heap.size, off := 0 })]) := hI.deep hne 0 43 (by decide +kernel)
      have eH81 : a.tmps.getD 81 undef = (Value.agg #[Value.slice Ao1 Ao2 Ao3, Value.slice Ar1 Ar2 Ar3, Value.bool sA.inf]) := hI.deep hne 0 44 (by decide +kernel)
      have eH82 : a.tmps.getD 82 undef = (Value.agg #[Value.slice Bo1 Bo2 Bo3, Value.slice Br1 Br2 Br3, Value.bool sB.inf]) := hI.deep hne 0 45 (by decide +kernel)
      go_simp
      go_at_call 19
      refine (gadd_any HR.out w2.heap.size _ _ _ _ _ _ wx _ _ _ _ _ _ _ _ _ (blk_old HW.out hbw) (HCU.out.old hbw) (HAV.out.old hbw) (HBV.out.old hbw) HMA.out HMB.out).mono ?_
      rintro e w5' ⟨v5, rfl, s5, hv5, hm5, hb5⟩
      exact hI.grow hK _ _ hb5 ⟨s5, hm5, by have hp := put_self a 83 v5 (by rw [hsz.out]; decide); show Pv w5' ((a.put (some 83) v5).tmps.getD 83 undef) _ _; rw [hp]; exact hv5⟩
    · simp only [List.getElem?_toArray, List.getElem?_cons_succ, List.getElem?_cons_zero, Option.some.injEq] at ho
      subst ho
      have eGd : a.tmps.getD 78 undef = (Value.bool true) := hI.deep hne 0 41 (by decide +kernel)
      rw [if_pos (by simp only [Region.wanted]; exact wanted_at rfl rfl eGd)]
      clear eGd
      have eH10 : a.tmps.getD 10 undef = Value.func (Fn.func 16) #[] #[Value.pointer (some { block := w2.heap.size, off := 0 })] := hI.stays hli 1 10 (by decide +kernel)
      go_simp
      exact hI.grow hK _ _ (Below.refl _ _) (put_self _ _ _ (by rw [hsz.out]; decide))
    · simp only [List.getElem?_toArray, List.getElem?_cons_succ, List.getElem?_cons_zero, Option.some.injEq] at ho
      subst ho
      have eGd : a.tmps.getD 78 undef = (Value.bool true) := hI.deep hne 0 41 (by decide +kernel)
      rw [if_pos (by simp only [Region.wanted]; exact wanted_at rfl rfl eGd)]
      clear eGd
      have eH1 : a.tmps.getD 1 undef = Value.int IntKind.u32 x := hI.stays hli 1 1 (by decide +kernel)
      go_simp
      exact hI.grow hK _ _ (Below.refl _ _) (put_self _ _ _ (by rw [hsz.out]; decide))
    · simp only [List.getElem?_toArray, List.getElem?_cons_succ, List.getElem?_cons_zero, Option.some.injEq] at ho
      subst ho
      have eGd : a.tmps.getD 78 undef = (Value.bool true) := hI.deep hne 0 41 (by decide +kernel)
      rw [if_pos (by simp only [Region.wanted]; exact wanted_at rfl rfl eGd)]
      clear eGd
      have eH85 : a.tmps.getD 85 undef = (Value.int IntKind.u32 x) := hI.deep hne 0 48 (by decide +kernel)
      have hwr : IntKind.u64.wrap x = x := IntWalk.u64_in _ (by omega)
      go_simp
      exact hI.grow hK _ _ (Below.refl _ _) (put_self _ _ _ (by rw [hsz.out]; decide))
    · simp only [List.getElem?_toArray, List.getElem?_cons_succ, List.getElem?_cons_zero, Option.some.injEq] at ho
      subst ho
      have eGd : a.tmps.getD 78 undef = (Value.bool true) := hI.deep hne 0 41 (by decide +kernel)
      rw [if_pos (by simp only [Region.wanted]; exact wanted_at rfl rfl eGd)]
      clear eGd
      have eH2 : a.tmps.getD 2 undef = Value.int IntKind.u32 y := hI.stays hli 1 2 (by decide +kernel)
      go_simp
      exact hI.grow hK _ _ (Below.refl _ _) (put_self _ _ _ (by rw [hsz.out]; decide))
    · simp only [List.getElem?_toArray, List.getElem?_cons_succ, List.getElem?_cons_zero, Option.some.injEq] at ho
      subst ho
      have eGd : a.tmps.getD 78 undef = (Value.bool true) := hI.deep hne 0 41 (by decide +kernel)
      rw [if_pos (by simp only [Region.wanted]; exact wanted_at rfl rfl eGd)]
      clear eGd
      have eH87 : a.tmps.getD 87 undef = (Value.int IntKind.u32 y) := hI.deep hne 0 50 (by decide +kernel)
      have hwr : IntKind.u64.wrap y = y := IntWalk.u64_in _ (by omega)
      go_simp
      exact hI.grow hK _ _ (Below.refl _ _) (put_self _ _ _ (by rw [hsz.out]; decide))
    · simp only [List.getElem?_toArray, List.getElem?_cons_succ, List.getElem?_cons_zero, Option.some.injEq] at ho
      subst ho
      have eGd : a.tmps.getD 78 undef = (Value.bool true) := hI.deep hne 0 41 (by decide +kernel)
      rw [if_pos (by simp only [Region.wanted]; exact wanted_at rfl rfl eGd)]
      clear eGd
      have eH86 : a.tmps.getD 86 undef = (Value.int IntKind.u64 x) := hI.deep hne 0 49 (by decide +kernel)
      have eH88 : a.tmps.getD 88 undef = (Value.int IntKind.u64 y) := hI.deep hne 0 51 (by decide +kernel)
      have hwr : IntKind.u64.wrap (x + y) = x + y := IntWalk.u64_in _ (by omega)
      go_simp
      exact hI.grow hK _ _ (Below.refl _ _) (put_self _ _ _ (by rw [hsz.out]; decide))
    · simp only [List.getElem?_toArray, List.getElem?_cons_succ, List.getElem?_cons_zero, Option.some.injEq] at ho
      subst ho
      have eGd : a.tmps.getD 78 undef = (Value.bool true) := hI.deep hne 0 41 (by decide +kernel)
      rw [if_pos (by simp only [Region.wanted]; exact wanted_at rfl rfl eGd)]
      clear eGd
      have eH84 : a.tmps.getD 84 undef = (Value.func (Fn.func 16) #[] #[Value.pointer (some { block := w2.heap.size, off := 0 })]) := hI.deep hne 0 47 (by decide +kernel)
      have eH89 : a.tmps.getD 89 undef = (Value.int IntKind.u64 (x + y)) := hI.deep hne 0 52 (by decide +kernel)
      go_simp
      go_at_call 16
      refine (gmul_any HR.out w2.heap.size (x + y) (x.toNat + y.toNat) wx _ _ _ _ _ _ _ _ _ (blk_old HW.out hbw) (HCU.out.old hbw) (by omega) (by omega)).mono ?_
      rintro e w5' ⟨v5, rfl, s5, hv5, hm5, hb5⟩
      exact hI.grow hK _ _ hb5 ⟨s5, hm5, by have hp := put_self a 90 v5 (by rw [hsz.out]; decide); show Pv w5' ((a.put (some 90) v5).tmps.getD 90 undef) _ _; rw [hp]; exact hv5⟩
    · simp only [List.getElem?_toArray, List.getElem?_cons_succ, List.getElem?_cons_zero, Option.some.injEq] at ho
      subst ho
      have eGd : a.tmps.getD 78 undef = (Value.bool true) := hI.deep hne 0 41 (by decide +kernel)
      rw [if_pos (by simp only [Region.wanted]; exact wanted_at rfl rfl eGd)]
      clear eGd
      have eH79 : a.tmps.getD 79 undef = (Value.func (Fn.func 21) #[] #[]) := hI.deep hne 0 42 (by decide +kernel)
      have fA46 : Fk.sem (.pv (fun p => Mt K P (baseZ K) (x.toNat + y.toNat) p) 3) [a.tmps.getD 83 undef] wx := hI.deep hne 0 46 (by decide +kernel)
      have fA53 : Fk.sem (.pv (fun p => Mt K P (baseZ K) (x.toNat + y.toNat) p) 3) [a.tmps.getD 90 undef] wx := hI.deep hne 0 53 (by decide +kernel)
      obtain ⟨zX83, eH83⟩ : ∃ x, a.tmps.getD 83 undef = x := ⟨_, rfl⟩
      obtain ⟨zX90, eH90⟩ : ∃ x, a.tmps.getD 90 undef = x := ⟨_, rfl⟩
      simp only [eH83, eH90] at fA46 fA53
      obtain ⟨pz46, hz46, hpv46⟩ := fA46
      have hpw46 : Pv wx zX83 pz46 3 := hpv46
      clear hpv46
      obtain ⟨pz53, hz53, hpv53⟩ := fA53
      have hpw53 : Pv wx zX90 pz53 3 := hpv53
      clear hpv53
      have hmm := hz53
      skip
      have hss := Mt.uniq HR.out.good hz46 hmm
      have hp1 := hpw46
      rw [hss] at hp1
      have hsm := gsame_any _ _ _ wx hp1 hpw53
      clear hp1 hmm
      go_simp
      go_at_call 21
      refine hsm.mono ?_
      rintro e w5' ⟨rfl, hb5⟩
      exact hI.grow hK _ _ hb5 (put_self _ _ _ (by rw [hsz.out]; decide))
    · simp only [List.getElem?_toArray, List.getElem?_cons_succ, List.getElem?_cons_zero, Option.some.injEq] at ho
      subst ho
      rw [if_pos (by rfl)]
      have eH78 : a.tmps.getD 78 undef = (Value.bool true) := hI.deep hne 0 41 (by decide +kernel)
      have eH91 : a.tmps.getD 91 undef = (Value.bool true) := hI.deep hne 0 54 (by decide +kernel)
      go_simp
      exact hI.grow hK _ _ (Below.refl _ _) (put_self _ _ _ (by rw [hsz.out]; decide))
    · simp only [List.getElem?_toArray, List.getElem?_cons_succ, List.getElem?_cons_zero, Option.some.injEq] at ho
      subst ho
      rw [if_pos (by rfl)]
      have eH92 : a.tmps.getD 92 undef = (Value.bool true) := hI.deep hne 0 55 (by decide +kernel)
      go_simp
      exact hI.grow hK _ _ (Below.refl _ _) (put_self _ _ _ (by rw [hsz.out]; decide))
    · simp only [List.getElem?_toArray, List.getElem?_cons_succ, List.getElem?_cons_zero, Option.some.injEq] at ho
      subst ho
      have eGd : a.tmps.getD 93 undef = (Value.bool true) := hI.deep hne 0 56 (by decide +kernel)
      rw [if_pos (by simp only [Region.wanted]; exact wanted_at rfl rfl eGd)]
      clear eGd
      have eH12 : a.tmps.getD 12 undef = Value.func (Fn.func 21) #[] #[] := hI.stays hli 1 12 (by decide +kernel)
      go_simp
      exact hI.grow hK _ _ (Below.refl _ _) (put_self _ _ _ (by rw [hsz.out]; decide))
    · simp only [List.getElem?_toArray, List.getElem?_cons_succ, List.getElem?_cons_zero, Option.some.injEq] at ho
      subst ho
      have eGd : a.tmps.getD 93 undef = (Value.bool true) := hI.deep hne 0 56 (by decide +kernel)
      rw [if_pos (by simp only [Region.wanted]; exact wanted_at rfl rfl eGd)]
      clear eGd
      have eH11 : a.tmps.getD 11 undef = Value.func (Fn.func 19) #[] #[Value.pointer (some { block := w2.heap.size, off := 0 })] := hI.stays hli 1 11 (by decide +kernel)
      go_simp
      exact hI.grow hK _ _ (Below.refl _ _) (put_self _ _ _ (by rw [hsz.out]; decide))
    · simp only [List.getElem?_toArray, List.getElem?_cons_succ, List.getElem?_cons_zero, Option.some.injEq] at ho
      subst ho
      have eGd : a.tmps.getD 93 undef = (Value.bool true) := hI.deep hne 0 56 (by decide +kernel)
      rw [if_pos (by simp only [Region.wanted]; exact wanted_at rfl rfl eGd)]
      clear eGd
      have eH13 : a.tmps.getD 13 undef = Value.pointer (some { block := W3.heap.size, off := 0 }) := hI.stays hli 1 13 (by decide +kernel)
      obtain ⟨yY0, yY1, yY2, _, _, _⟩ := (HA.out.keep hbw).facts
      go_simp
      exact hI.grow hK _ _ (Below.refl _ _) (put_self _ _ _ (by rw [hsz.out]; decide))
    · simp only [List.getElem?_toArray, List.getElem?_cons_succ, List.getElem?_cons_zero, Option.some.injEq] at ho
      subst ho
      have eGd : a.tmps.getD 93 undef = (Value.bool true) := hI.deep hne 0 56 (by decide +kernel)
      rw [if_pos (by simp only [Region.wanted]; exact wanted_at rfl rfl eGd)]
      clear eGd
      go_simp
      exact hI.grow hK _ _ (Below.refl _ _) (put_self _ _ _ (by rw [hsz.out]; decide))
    · simp only [List.getElem?_toArray, List.getElem?_cons_succ, List.getElem?_cons_zero, Option.some.injEq] at ho
      subst ho
      have eGd : a.tmps.getD 93 undef = (Value.bool true) := hI.deep hne 0 56 (by decide +kernel)
      rw [if_pos (by simp only [Region.wanted]; exact wanted_at rfl rfl eGd)]
      clear eGd
      have eH95 : a.tmps.getD 95 undef = (Value.func (Fn.func 19) #[] #[Value.pointer (some { block := w2.heap.size, off := 0 })]) := hI.deep hne 0 58 (by decide +kernel)
      have eH96 : a.tmps.getD 96 undef = (Value.agg #[Value.slice Ao1 Ao2 Ao3, Value.slice Ar1 Ar2 Ar3, Value.bool sA.inf]) := hI.deep hne 0 59 (by decide +kernel)
      have eH97 : a.tmps.getD 97 undef = (Value.agg #[Value.slice none 0 0, Value.slice none 0 0, Value.bool true]) := hI.deep hne 0 60 (by decide +kernel)
      have hga := gadd_any HR.out w2.heap.size (Value.agg #[Value.slice Ao1 Ao2 Ao3, Value.slice Ar1 Ar2 Ar3, Value.bool sA.inf]) (Value.agg #[Value.slice none 0 0, Value.slice none 0 0, Value.bool true]) sA noZ x.toNat 0 wx _ _ _ _ _ _ _ _ _ (blk_old HW.out hbw) (HCU.out.old hbw) (HAV.out.old hbw) (pv_no wx 3) HMA.out Mt.zero
      rw [Nat.add_zero] at hga
      go_simp
      go_at_call 19
      refine hga.mono ?_
      rintro e w5' ⟨v5, rfl, s5, hv5, hm5, hb5⟩
      exact hI.grow hK _ _ hb5 ⟨s5, hm5, by have hp := put_self a 98 v5 (by rw [hsz.out]; decide); show Pv w5' ((a.put (some 98) v5).tmps.getD 98 undef) _ _; rw [hp]; exact hv5⟩
    · simp only [List.getElem?_toArray, List.getElem?_cons_succ, List.getElem?_cons_zero, Option.some.injEq] at ho
      subst ho
      have eGd : a.tmps.getD 93 undef = (Value.bool true) := hI.deep hne 0 56 (by decide +kernel)
      rw [if_pos (by simp only [Region.wanted]; exact wanted_at rfl rfl eGd)]
      clear eGd
      have eH13 : a.tmps.getD 13 undef = Value.pointer (some { block := W3.heap.size, off := 0 }) := hI.stays hli 1 13 (by decide +kernel)
      obtain ⟨yY0, yY1, yY2, _, _, _⟩ := (HA.out.keep hbw).facts
      go_simp
      exact hI.grow hK _ _ (Below.refl _ _) (put_self _ _ _ (by rw [hsz.out]; decide))
    · simp only [List.getElem?_toArray, List.getElem?_cons_succ, List.getElem?_cons_zero, Option.some.injEq] at ho
      subst ho
      have eGd : a.tmps.getD 93 undef = (Value.bool true) := hI.deep hne 0 56 (by decide +kernel)
      rw [if_pos (by simp only [Region.wanted]; exact wanted_at rfl rfl eGd)]
      clear eGd
      have eH94 : a.tmps.getD 94 undef = (Value.func (Fn.func 21) #[] #[]) := hI.deep hne 0 57 (by decide +kernel)
      have eH99 : a.tmps.getD 99 undef = (Value.agg #[Value.slice Ao1 Ao2 Ao3, Value.slice Ar1 Ar2 Ar3, Value.bool sA.inf]) := hI.deep hne 0 62 (by decide +kernel)
      have fA61 : Fk.sem (.pv (fun p => Mt K P (baseZ K) x.toNat p) 3) [a.tmps.getD 98 undef] wx := hI.deep hne 0 61 (by decide +kernel)
      obtain ⟨zX98, eH98⟩ : ∃ x, a.tmps.getD 98 undef = x := ⟨_, rfl⟩
      simp only [eH98] at fA61
      obtain ⟨pz61, hz61, hpv61⟩ := fA61
      have hpw61 : Pv wx zX98 pz61 3 := hpv61
      clear hpv61
      have hmm := HMA.out
      skip
      have hss := Mt.uniq HR.out.good hz61 hmm
      have hp1 := hpw61
      rw [hss] at hp1
      have hsm := gsame_any _ _ _ wx hp1 (HAV.out.old hbw)
      clear hp1 hmm
      go_simp
      go_at_call 21
      refine hsm.mono ?_
      rintro e w5' ⟨rfl, hb5⟩
      exact hI.grow hK _ _ hb5 (put_self _ _ _ (by rw [hsz.out]; decide))
    · simp only [List.getElem?_toArray, List.getElem?_cons_succ, List.getElem?_cons_zero, Option.some.injEq] at ho
      subst ho
      rw [if_pos (by rfl)]
      have eH93 : a.tmps.getD 93 undef = (Value.bool true) := hI.deep hne 0 56 (by decide +kernel)
      have eH100 : a.tmps.getD 100 undef = (Value.bool true) := hI.deep hne 0 63 (by decide +kernel)
      go_simp
      exact hI.grow hK _ _ (Below.refl _ _) (put_self _ _ _ (by rw [hsz.out]; decide))
    · simp only [List.getElem?_toArray, List.getElem?_cons_succ, List.getElem?_cons_zero, Option.some.injEq] at ho
      subst ho
      rw [if_pos (by rfl)]
      have eH101 : a.tmps.getD 101 undef = (Value.bool true) := hI.deep hne 0 64 (by decide +kernel)
      go_simp
      exact hI.grow hK _ _ (Below.refl _ _) (put_self _ _ _ (by rw [hsz.out]; decide))
  case done =>
    intro listed a W5 hI hall
    obtain ⟨tm, df⟩ := a
    have hdf : df = [] := hI.defers
    subst hdf
    have hTM : tm = #[tm.getD 0 undef, tm.getD 1 undef, tm.getD 2 undef, tm.getD 3 undef, tm.getD 4 undef, tm.getD 5 undef, tm.getD 6 undef, tm.getD 7 undef, tm.getD 8 undef, tm.getD 9 undef, tm.getD 10 undef, tm.getD 11 undef, tm.getD 12 undef, tm.getD 13 undef, tm.getD 14 undef, tm.getD 15 undef, tm.getD 16 undef, tm.getD 17 undef, tm.getD 18 undef, tm.getD 19 undef, tm.getD 20 undef, tm.getD 21 undef, tm.getD 22 undef, tm.getD 23 undef, tm.getD 24 undef, tm.getD 25 undef, tm.getD 26 undef, tm.getD 27 undef, tm.getD 28 undef, tm.getD 29 undef, tm.getD 30 undef, tm.getD 31 undef, tm.getD 32 undef, tm.getD 33 undef, tm.getD 34 undef, tm.getD 35 undef, tm.getD 36 undef, tm.getD 37 undef, tm.getD 38 undef, tm.getD 39 undef, tm.getD 40 undef, tm.getD 41 undef, tm.getD 42 undef, tm.getD 43 undef, tm.getD 44 undef, tm.getD 45 undef, tm.getD 46 undef, tm.getD 47 undef, tm.getD 48 undef, tm.getD 49 undef, tm.getD 50 undef, tm.getD 51 undef, tm.getD 52 undef, tm.getD 53 undef, tm.getD 54 undef, tm.getD 55 undef, tm.getD 56 undef, tm.getD 57 undef, tm.getD 58 undef, tm.getD 59 undef, tm.getD 60 undef, tm.getD 61 undef, tm.getD 62 undef, tm.getD 63 undef, tm.getD 64 undef, tm.getD 65 undef, tm.getD 66 undef, tm.getD 67 undef, tm.getD 68 undef, tm.getD 69 undef, tm.getD 70 undef, tm.getD 71 undef, tm.getD 72 undef, tm.getD 73 undef, tm.getD 74 undef, tm.getD 75 undef, tm.getD 76 undef, tm.getD 77 undef, tm.getD 78 undef, tm.getD 79 undef, tm.getD 80 undef, tm.getD 81 undef, tm.getD 82 undef, tm.getD 83 undef, tm.getD 84 undef, tm.getD 85 undef, tm.getD 86 undef, tm.getD 87 undef, tm.getD 88 undef, tm.getD 89 undef, tm.getD 90 undef, tm.getD 91 undef, tm.getD 92 undef, tm.getD 93 undef, tm.getD 94 undef, tm.getD 95 undef, tm.getD 96 undef, tm.getD 97 undef, tm.getD 98 undef, tm.getD 99 undef, tm.getD 100 undef, tm.getD 101 undef] := arr_of tm 102 hI.slots
    have oS0 : tm.getD 0 undef = Value.int IntKind.u8 which := hI.kept 0 (by decide +kernel)
    have oS1 : tm.getD 1 undef = Value.int IntKind.u32 x := hI.kept 1 (by decide +kernel)
    have oS2 : tm.getD 2 undef = Value.int IntKind.u32 y := hI.kept 2 (by decide +kernel)
    have oS3 : tm.getD 3 undef = Value.int IntKind.u32 z := hI.kept 3 (by decide +kernel)
    have oS4 : tm.getD 4 undef = undef := hI.kept 4 (by decide +kernel)
    have oS5 : tm.getD 5 undef = undef := hI.kept 5 (by decide +kernel)
    have oS6 : tm.getD 6 undef = undef := hI.kept 6 (by decide +kernel)
    have oS7 : tm.getD 7 undef = undef := hI.kept 7 (by decide +kernel)
    have oS9 : tm.getD 9 undef = Value.pointer (some { block := w2.heap.size, off := 0 }) := hI.kept 9 (by decide +kernel)
    have oS10 : tm.getD 10 undef = Value.func (Fn.func 16) #[] #[Value.pointer (some { block := w2.heap.size, off := 0 })] := hI.kept 10 (by decide +kernel)
    have oS11 : tm.getD 11 undef = Value.func (Fn.func 19) #[] #[Value.pointer (some { block := w2.heap.size, off := 0 })] := hI.kept 11 (by decide +kernel)
    have oS12 : tm.getD 12 undef = Value.func (Fn.func 21) #[] #[] := hI.kept 12 (by decide +kernel)
    have oS13 : tm.getD 13 undef = Value.pointer (some { block := W3.heap.size, off := 0 }) := hI.kept 13 (by decide +kernel)
    have oS14 : tm.getD 14 undef = Value.pointer (some { block := W3.heap.size + 1, off := 0 }) := hI.kept 14 (by decide +kernel)
    have oS15 : tm.getD 15 undef = Value.pointer (some { block := W3.heap.size + 1 + 1, off := 0 }) := hI.kept 15 (by decide +kernel)
    have oS16 : tm.getD 16 undef = Value.bool true := hI.kept 16 (by decide +kernel)
    have oS17 : tm.getD 17 undef = Value.bool false := hI.kept 17 (by decide +kernel)
    have oS18 : tm.getD 18 undef = Value.slice (some { block := g, off := 0 }) 3 cap := hI.kept 18 (by decide +kernel)
    have oS19 : tm.getD 19 undef = Value.int IntKind.u8 which := hI.kept 19 (by decide +kernel)
    have oS20 : tm.getD 20 undef = Value.int IntKind.u8 ↑j := hI.kept 20 (by decide +kernel)
    have oS21 : tm.getD 21 undef = Value.pointer (some { block := g, off := j * 9 }) := hI.kept 21 (by decide +kernel)
    have oS22 : tm.getD 22 undef = Value.agg #[Value.int IntKind.i64 g1, Value.int IntKind.i64 g2, Value.slice oo lo co, Value.slice (some { block := b0, off := 0 }) 1 1, Value.slice (some { block := b1, off := 0 }) 1 1, Value.slice (some { block := b2, off := 0 }) 1 1, Value.slice (some { block := b3, off := 0 }) 1 1, Value.slice (some { block := b4, off := 0 }) 1 1, Value.slice (some { block := b5, off := 0 }) 1 1] := hI.kept 22 (by decide +kernel)
    have oS23 : tm.getD 23 undef = Value.func (Fn.func 16) #[] #[Value.pointer (some { block := w2.heap.size, off := 0 })] := hI.kept 23 (by decide +kernel)
    have oS24 : tm.getD 24 undef = Value.func (Fn.func 19) #[] #[Value.pointer (some { block := w2.heap.size, off := 0 })] := hI.kept 24 (by decide +kernel)
    have oS25 : tm.getD 25 undef = Value.func (Fn.func 16) #[] #[Value.pointer (some { block := w2.heap.size, off := 0 })] := hI.kept 25 (by decide +kernel)
    have oS26 : tm.getD 26 undef = Value.int IntKind.u32 x := hI.kept 26 (by decide +kernel)
    have oS27 : tm.getD 27 undef = Value.int IntKind.u64 x := hI.kept 27 (by decide +kernel)
    have oS28 : tm.getD 28 undef = Value.agg #[Value.slice Ao1 Ao2 Ao3, Value.slice Ar1 Ar2 Ar3, Value.bool sA.inf] := hI.kept 28 (by decide +kernel)
    have oS29 : tm.getD 29 undef = Value.func (Fn.func 16) #[] #[Value.pointer (some { block := w2.heap.size, off := 0 })] := hI.kept 29 (by decide +kernel)
    have oS30 : tm.getD 30 undef = Value.int IntKind.u32 y := hI.kept 30 (by decide +kernel)
    have oS31 : tm.getD 31 undef = Value.int IntKind.u64 y := hI.kept 31 (by decide +kernel)
    have oS32 : tm.getD 32 undef = Value.agg #[Value.slice Bo1 Bo2 Bo3, Value.slice Br1 Br2 Br3, Value.bool sB.inf] := hI.kept 32 (by decide +kernel)
    have oS33 : tm.getD 33 undef = Value.func (Fn.func 16) #[] #[Value.pointer (some { block := w2.heap.size, off := 0 })] := hI.kept 33 (by decide +kernel)
    have oS34 : tm.getD 34 undef = Value.int IntKind.u32 z := hI.kept 34 (by decide +kernel)
    have oS35 : tm.getD 35 undef = Value.int IntKind.u64 z := hI.kept 35 (by decide +kernel)
    have oS36 : tm.getD 36 undef = Value.agg #[Value.slice Co1 Co2 Co3, Value.slice Cr1 Cr2 Cr3, Value.bool sC.inf] := hI.kept 36 (by decide +kernel)
    have fA0 : tm.getD 37 undef = (Value.agg #[Value.int IntKind.i64 g1, Value.int IntKind.i64 g2, Value.slice oo lo co, Value.slice (some { block := b0, off := 0 }) 1 1, Value.slice (some { block := b1, off := 0 }) 1 1, Value.slice (some { block := b2, off := 0 }) 1 1, Value.slice (some { block := b3, off := 0 }) 1 1, Value.slice (some { block := b4, off := 0 }) 1 1, Value.slice (some { block := b5, off := 0 }) 1 1]) := hI.facts 0 (hall 0 (by decide))
    have fA1 : tm.getD 38 undef = (Value.agg #[Value.slice Ao1 Ao2 Ao3, Value.slice Ar1 Ar2 Ar3, Value.bool sA.inf]) := hI.facts 1 (hall 1 (by decide))
    have fA2 : tm.getD 39 undef = (Value.bool true) := hI.facts 2 (hall 2 (by decide))
    have fA3 : tm.getD 40 undef = (Value.bool true) := hI.facts 3 (hall 3 (by decide))
    have fA4 : tm.getD 41 undef = (Value.agg #[Value.int IntKind.i64 g1, Value.int IntKind.i64 g2, Value.slice oo lo co, Value.slice (some { block := b0, off := 0 }) 1 1, Value.slice (some { block := b1, off := 0 }) 1 1, Value.slice (some { block := b2, off := 0 }) 1 1, Value.slice (some { block := b3, off := 0 }) 1 1, Value.slice (some { block := b4, off := 0 }) 1 1, Value.slice (some { block := b5, off := 0 }) 1 1]) := hI.facts 4 (hall 4 (by decide))
    have fA5 : tm.getD 42 undef = (Value.func (Fn.func 19) #[] #[Value.pointer (some { block := w2.heap.size, off := 0 })]) := hI.facts 5 (hall 5 (by decide))
    have fA6 : tm.getD 43 undef = (Value.agg #[Value.slice Ao1 Ao2 Ao3, Value.slice Ar1 Ar2 Ar3, Value.bool sA.inf]) := hI.facts 6 (hall 6 (by decide))
    have fA7 : tm.getD 44 undef = (Value.agg #[Value.slice Bo1 Bo2 Bo3, Value.slice Br1 Br2 Br3, Value.bool sB.inf]) := hI.facts 7 (hall 7 (by decide))
    have fA9 : tm.getD 46 undef = (Value.bool true) := hI.facts 9 (hall 9 (by decide))
    have fA10 : tm.getD 47 undef = (Value.bool true) := hI.facts 10 (hall 10 (by decide))
    have fA11 : tm.getD 48 undef = (Value.bool true) := hI.facts 11 (hall 11 (by decide))
    have fA12 : tm.getD 49 undef = (Value.func (Fn.func 21) #[] #[]) := hI.facts 12 (hall 12 (by decide))
    have fA13 : tm.getD 50 undef = (Value.func (Fn.func 19) #[] #[Value.pointer (some { block := w2.heap.size, off := 0 })]) := hI.facts 13 (hall 13 (by decide))
    have fA14 : tm.getD 51 undef = (Value.agg #[Value.slice Ao1 Ao2 Ao3, Value.slice Ar1 Ar2 Ar3, Value.bool sA.inf]) := hI.facts 14 (hall 14 (by decide))
    have fA15 : tm.getD 52 undef = (Value.agg #[Value.slice Bo1 Bo2 Bo3, Value.slice Br1 Br2 Br3, Value.bool sB.inf]) := hI.facts 15 (hall 15 (by decide))
    have fA17 : tm.getD 54 undef = (Value.func (Fn.func 19) #[] #[Value.pointer (some { block := w2.heap.size, off := 0 })]) := hI.facts 17 (hall 17 (by decide))
    have fA18 : tm.getD 55 undef = (Value.agg #[Value.slice Bo1 Bo2 Bo3, Value.slice Br1 Br2 Br3, Value.bool sB.inf]) := hI.facts 18 (hall 18 (by decide))
    have fA19 : tm.getD 56 undef = (Value.agg #[Value.slice Ao1 Ao2 Ao3, Value.slice Ar1 Ar2 Ar3, Value.bool sA.inf]) := hI.facts 19 (hall 19 (by decide))
    have fA21 : tm.getD 58 undef = (Value.bool true) := hI.facts 21 (hall 21 (by decide))
    have fA22 : tm.getD 59 undef = (Value.bool true) := hI.facts 22 (hall 22 (by decide))
    have fA23 : tm.getD 60 undef = (Value.bool true) := hI.facts 23 (hall 23 (by decide))
    have fA24 : tm.getD 61 undef = (Value.func (Fn.func 21) #[] #[]) := hI.facts 24 (hall 24 (by decide))
    have fA25 : tm.getD 62 undef = (Value.func (Fn.func 19) #[] #[Value.pointer (some { block := w2.heap.size, off := 0 })]) := hI.facts 25 (hall 25 (by decide))
    have fA26 : tm.getD 63 undef = (Value.func (Fn.func 19) #[] #[Value.pointer (some { block := w2.heap.size, off := 0 })]) := hI.facts 26 (hall 26 (by decide))
    have fA27 : tm.getD 64 undef = (Value.agg #[Value.slice Ao1 Ao2 Ao3, Value.slice Ar1 Ar2 Ar3, Value.bool sA.inf]) := hI.facts 27 (hall 27 (by decide))
    have fA28 : tm.getD 65 undef = (Value.agg #[Value.slice Bo1 Bo2 Bo3, Value.slice Br1 Br2 Br3, Value.bool sB.inf]) := hI.facts 28 (hall 28 (by decide))
    have fA30 : tm.getD 67 undef = (Value.agg #[Value.slice Co1 Co2 Co3, Value.slice Cr1 Cr2 Cr3, Value.bool sC.inf]) := hI.facts 30 (hall 30 (by decide))
    have fA32 : tm.getD 69 undef = (Value.func (Fn.func 19) #[] #[Value.pointer (some { block := w2.heap.size, off := 0 })]) := hI.facts 32 (hall 32 (by decide))
    have fA33 : tm.getD 70 undef = (Value.agg #[Value.slice Ao1 Ao2 Ao3, Value.slice Ar1 Ar2 Ar3, Value.bool sA.inf]) := hI.facts 33 (hall 33 (by decide))
    have fA34 : tm.getD 71 undef = (Value.func (Fn.func 19) #[] #[Value.pointer (some { block := w2.heap.size, off := 0 })]) := hI.facts 34 (hall 34 (by decide))
    have fA35 : tm.getD 72 undef = (Value.agg #[Value.slice Bo1 Bo2 Bo3, Value.slice Br1 Br2 Br3, Value.bool sB.inf]) := hI.facts 35 (hall 35 (by decide))
    have fA36 : tm.getD 73 undef = (Value.agg #[Value.slice Co1 Co2 Co3, Value.slice Cr1 Cr2 Cr3, Value.bool sC.inf]) := hI.facts 36 (hall 36 (by decide))
    have fA39 : tm.getD 76 undef = (Value.bool true) := hI.facts 39 (hall 39 (by decide))
    have fA40 : tm.getD 77 undef = (Value.bool true) := hI.facts 40 (hall 40 (by decide))
    have fA41 : tm.getD 78 undef = (Value.bool true) := hI.facts 41 (hall 41 (by decide))
    have fA42 : tm.getD 79 undef = (Value.func (Fn.func 21) #[] #[]) := hI.facts 42 (hall 42 (by decide))
    have fA43 : tm.getD 80 undef = (Value.func (Fn.func 19) #[] #[Value.pointer (some { block := w2.heap.size, off := 0 })]) := hI.facts 43 (hall 43 (by decide))
    have fA44 : tm.getD 81 undef = (Value.agg #[Value.slice Ao1 Ao2 Ao3, Value.slice Ar1 Ar2 Ar3, Value.bool sA.inf]) := hI.facts 44 (hall 44 (by decide))
    have fA45 : tm.getD 82 undef = (Value.agg #[Value.slice Bo1 Bo2 Bo3, Value.slice Br1 Br2 Br3, Value.bool sB.inf]) := hI.facts 45 (hall 45 (by decide))
    have fA47 : tm.getD 84 undef = (Value.func (Fn.func 16) #[] #[Value.pointer (some { block := w2.heap.size, off := 0 })]) := hI.facts 47 (hall 47 (by decide))
    have fA48 : tm.getD 85 undef = (Value.int IntKind.u32 x) := hI.facts 48 (hall 48 (by decide))
    have fA49 : tm.getD 86 undef = (Value.int IntKind.u64 x) := hI.facts 49 (hall 49 (by decide))
    have fA50 : tm.getD 87 undef = (Value.int IntKind.u32 y) := hI.facts 50 (hall 50 (by decide))
    have fA51 : tm.getD 88 undef = (Value.int IntKind.u64 y) := hI.facts 51 (hall 51 (by decide))
    have fA52 : tm.getD 89 undef = (Value.int IntKind.u64 (x + y)) := hI.facts 52 (hall 52 (by decide))
    have fA54 : tm.getD 91 undef = (Value.bool true) := hI.facts 54 (hall 54 (by decide))
    have fA55 : tm.getD 92 undef = (Value.bool true) := hI.facts 55 (hall 55 (by decide))
    have fA56 : tm.getD 93 undef = (Value.bool true) := hI.facts 56 (hall 56 (by decide))
    have fA57 : tm.getD 94 undef = (Value.func (Fn.func 21) #[] #[]) := hI.facts 57 (hall 57 (by decide))
    have fA58 : tm.getD 95 undef = (Value.func (Fn.func 19) #[] #[Value.pointer (some { block := w2.heap.size, off := 0 })]) := hI.facts 58 (hall 58 (by decide))
    have fA59 : tm.getD 96 undef = (Value.agg #[Value.slice Ao1 Ao2 Ao3, Value.slice Ar1 Ar2 Ar3, Value.bool sA.inf]) := hI.facts 59 (hall 59 (by decide))
    have fA60 : tm.getD 97 undef = (Value.agg #[Value.slice none 0 0, Value.slice none 0 0, Value.bool true]) := hI.facts 60 (hall 60 (by decide))
    have fA62 : tm.getD 99 undef = (Value.agg #[Value.slice Ao1 Ao2 Ao3, Value.slice Ar1 Ar2 Ar3, Value.bool sA.inf]) := hI.facts 62 (hall 62 (by decide))
    have fA63 : tm.getD 100 undef = (Value.bool true) := hI.facts 63 (hall 63 (by decide))
    have fA64 : tm.getD 101 undef = (Value.bool true) := hI.facts 64 (hall 64 (by decide))
    have fA65 : tm.getD 8 undef = (Value.bool true) := hI.facts 65 (hall 65 (by decide))
    have hbw : Below W4.heap.size W4 W5 := (Below.refl _ _).drew.trans hI.below
    clear hI hall listed
    simp only [oS0, oS1, oS2, oS3, oS4, oS5, oS6, oS7, oS9, oS10, oS11, oS12, oS13, oS14, oS15, oS16, oS17, oS18, oS19, oS20, oS21, oS22, oS23, oS24, oS25, oS26, oS27, oS28, oS29, oS30, oS31, oS32, oS33, oS34, oS35, oS36, fA0, fA1, fA2, fA3, fA4, fA5, fA6, fA7, fA9, fA10, fA11, fA12, fA13, fA14, fA15, fA17, fA18, fA19, fA21, fA22, fA23, fA24, fA25, fA26, fA27, fA28, fA30, fA32, fA33, fA34, fA35, fA36, fA39, fA40, fA41, fA42, fA43, fA44, fA45, fA47, fA48, fA49, fA50, fA51, fA52, fA54, fA55, fA56, fA57, fA58, fA59, fA60, fA62, fA63, fA64, fA65] at hTM
    clear oS0 oS1 oS2 oS3 oS4 oS5 oS6 oS7 oS9 oS10 oS11 oS12 oS13 oS14 oS15 oS16 oS17 oS18 oS19 oS20 oS21 oS22 oS23 oS24 oS25 oS26 oS27 oS28 oS29 oS30 oS31 oS32 oS33 oS34 oS35 oS36 fA0 fA1 fA2 fA3 fA4 fA5 fA6 fA7 fA9 fA10 fA11 fA12 fA13 fA14 fA15 fA17 fA18 fA19 fA21 fA22 fA23 fA24 fA25 fA26 fA27 fA28 fA30 fA32 fA33 fA34 fA35 fA36 fA39 fA40 fA41 fA42 fA43 fA44 fA45 fA47 fA48 fA49 fA50 fA51 fA52 fA54 fA55 fA56 fA57 fA58 fA59 fA60 fA62 fA63 fA64 fA65
    generalize tm.getD 45 undef = zX45 at hTM 
    generalize tm.getD 53 undef = zX53 at hTM 
    generalize tm.getD 57 undef = zX57 at hTM 
    generalize tm.getD 66 undef = zX66 at hTM 
    generalize tm.getD 68 undef = zX68 at hTM 
    generalize tm.getD 74 undef = zX74 at hTM 
    generalize tm.getD 75 undef = zX75 at hTM 
    generalize tm.getD 83 undef = zX83 at hTM 
    generalize tm.getD 90 undef = zX90 at hTM 
    generalize tm.getD 98 undef = zX98 at hTM 
    subst hTM
    replace HW : Hid (W5.heap[w2.heap.size]? = some (.cells #[Value.int IntKind.i64 g1, Value.int IntKind.i64 g2, Value.slice oo lo co, Value.slice (some { block := b0, off := 0 }) 1 1, Value.slice (some { block := b1, off := 0 }) 1 1, Value.slice (some { block := b2, off := 0 }) 1 1, Value.slice (some { block := b3, off := 0 }) 1 1, Value.slice (some { block := b4, off := 0 }) 1 1, Value.slice (some { block := b5, off := 0 }) 1 1] 29 (0, 0))) := blk_old HW.out hbw
    replace HCU : Hid (Cu W5 (Value.agg #[Value.int IntKind.i64 g1, Value.int IntKind.i64 g2, Value.slice oo lo co, Value.slice (some { block := b0, off := 0 }) 1 1, Value.slice (some { block := b1, off := 0 }) 1 1, Value.slice (some { block := b2, off := 0 }) 1 1, Value.slice (some { block := b3, off := 0 }) 1 1, Value.slice (some { block := b4, off := 0 }) 1 1, Value.slice (some { block := b5, off := 0 }) 1 1]) K 3) := HCU.out.old hbw
    replace HKP : Hid (Nv W5 (Value.slice (some { block := b0, off := 0 }) 1 1) K.p 1) := HKP.out.old hbw
    replace HKN : Hid (Nv W5 (Value.slice (some { block := b5, off := 0 }) 1 1) K.n 1) := HKN.out.old hbw
    replace HBW : Hid (Below w.heap.size w W5) := HBW.out.trans (hbw.mono HBW.out.size)
    replace HAV : Hid (Pv W5 (Value.agg #[Value.slice Ao1 Ao2 Ao3, Value.slice Ar1 Ar2 Ar3, Value.bool sA.inf]) sA 3) := HAV.out.old hbw
    replace HBV : Hid (Pv W5 (Value.agg #[Value.slice Bo1 Bo2 Bo3, Value.slice Br1 Br2 Br3, Value.bool sB.inf]) sB 3) := HBV.out.old hbw
    replace HCV : Hid (Pv W5 (Value.agg #[Value.slice Co1 Co2 Co3, Value.slice Cr1 Cr2 Cr3, Value.bool sC.inf]) sC 3) := HCV.out.old hbw
    replace HA : Hid (PSl W5 (W3.heap.size) (Value.slice Ao1 Ao2 Ao3) (Value.slice Ar1 Ar2 Ar3) (Value.bool sA.inf)) := HA.out.keep hbw
    replace HB : Hid (PSl W5 (W3.heap.size + 1) (Value.slice Bo1 Bo2 Bo3) (Value.slice Br1 Br2 Br3) (Value.bool sB.inf)) := HB.out.keep hbw
    replace HC : Hid (PSl W5 (W3.heap.size + 1 + 1) (Value.slice Co1 Co2 Co3) (Value.slice Cr1 Cr2 Cr3) (Value.bool sC.inf)) := HC.out.keep hbw
    go_wp2
    go_ret
    exact ⟨rfl, HBW.out⟩
theorem CurveGroup_walk (w : World) (n0 : Int) (w0 : (Lit.int .u8 n0).wf = true) (n1 : Int) (w1 : (Lit.int .u32 n1).wf = true) (n2 : Int) (w2 : (Lit.int .u32 n2).wf = true) (n3 : Int) (w3 : (Lit.int .u32 n3).wf = true) : Calls Try.prog 4 #[.int .u8 n0, .int .u32 n1, .int .u32 n2, .int .u32 n3] w fun e w' => e = .returned (.bool true) ∧ Below w.heap.size w w' :=
  CurveGroup_at w n0 n1 n2 n3 (by simp [Lit.wf, IntKind.min, IntKind.max, IntKind.signed, IntKind.bits] at w0; omega) (by simp [Lit.wf, IntKind.min, IntKind.max, IntKind.signed, IntKind.bits] at w1; omega) (by simp [Lit.wf, IntKind.min, IntKind.max, IntKind.signed, IntKind.bits] at w2; omega) (by simp [Lit.wf, IntKind.min, IntKind.max, IntKind.signed, IntKind.bits] at w3; omega)
end Go.Proofs.Ytdojbknkaoiioaa
