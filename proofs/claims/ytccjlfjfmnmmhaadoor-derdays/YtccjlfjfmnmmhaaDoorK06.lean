import Derived.Test.YtccjlfjfmnmmhaaDoorK05
import Derived.Test.YtccjlfjfmnmmhaaDoorK02
import Derived.Lib.LaidU8
/-
  Layer 10's Awake.
-/
namespace Go.Proofs.YtccjlfjfmnmmhaaDoor
open Go.Shelf Go.RowKit
set_option linter.unusedVariables false
set_option linter.unusedSimpArgs false

theorem md_laid {w : World} (h : laidMet Tryd.prog [("latchkey/der.monthDays", Rows.laid_latchkey_der_monthDays)] w) : Md w := by
  obtain ⟨g, t, cs, fuel, p, hg, hty, hvar, hd⟩ := Lib.laidMet.reads h (.head _)
  obtain rfl := Option.some.inj ((show Tryd.prog.globalNamed "latchkey/der.monthDays" = some 0 by kernel_rfl).symm.trans hg)
  obtain rfl := Option.some.inj ((show (Tryd.prog.globals[0]?).map (·.type) = some 47 by kernel_rfl).symm.trans hty)
  rw [show (Rows.laid_latchkey_der_monthDays : DataW Unit) = Lib.tabData .i64 mdL by kernel_rfl] at hd
  have hcs := Lib.cells_of_tab (zs := mdL) Tryd.underlying47 Tryd.underlying3 (by kernel_rfl) (by kernel_rfl) hd
  intro i hi
  rw [World.var?_cell hg hvar i, ← Array.getElem?_toList, hcs]
  have hml : i < mdL.length := hi
  simp [List.getD, hml]
theorem awake_read : readD [48, 3, 2, 1, 5] = .ok ((48, [2, 1, 5]), []) := rfl
theorem awake_int : intL [0, 5] = none := rfl
theorem awake_oid : oidD 6 [42, 134, 72] = .ok [1, 2, 840] := rfl
theorem awake_t1 : timeD 23 [55, 48, 48, 49, 48, 49, 48, 48, 48, 48, 48, 49, 90] = some 1 := by decide +kernel
theorem awake_t2 : timeD 23 [53, 48, 48, 49, 48, 49, 48, 48, 48, 48, 48, 48, 90] = none := by decide +kernel
theorem byv_litF (W : World) (l : Bs) (fz : Nat × Nat) (hl : l.length ≤ 1000) : ByV (W.alloc (.cells (u8sC l) 5 fz)) (fun b => b < (W.alloc (.cells (u8sC l) 5 fz)).heap.size) (some ⟨W.heap.size, 0, none⟩) l.length l := by
  refine ⟨Nat.le_refl _, by omega, fun _ => ⟨W.heap.size, 0, rfl, fun i hi => ?_⟩, fun a ha _ => by cases ha; rw [alloc_sz]; show W.heap.size < W.heap.size + 1; omega⟩
  rw [Nat.zero_add, cell_of_row _ W.heap.size i _ _ _ (heap_alloc_new W _)]
  simp [u8sC, List.getD, hi]
theorem byv_cellsF (W : World) (l : Bs) (cs : Array Value) (n : Nat) (fz : Nat × Nat) (hc : u8sC l = cs) (hn : l.length = n) (hl : n ≤ 1000) : ByV (W.alloc (.cells cs 5 fz)) (fun b => b < (W.alloc (.cells cs 5 fz)).heap.size) (some ⟨W.heap.size, 0, none⟩) n l := by
  subst hc hn
  exact byv_litF W l fz hl
theorem byv_cells (W : World) (l : Bs) (cs : Array Value) (n : Nat) (hc : u8sC l = cs) (hn : l.length = n) (hl : n ≤ 1000) : ByV (W.alloc (.cells cs 5)) (fun b => b < (W.alloc (.cells cs 5)).heap.size) (some ⟨W.heap.size, 0, none⟩) n l := by
  subst hc hn
  exact byv_lit W l hl
theorem conv_litT (cs : Array Value) (n : Nat) (hn : cs.size = n) (w : World) : (convert 22 22 (.slice (some ⟨w.heap.size, 0, none⟩) n n)).run Tryd.prog (w.alloc (.cells cs 5)) = .ok (.slice (some ⟨w.heap.size, 0, none⟩) n n) (w.alloc (.cells cs 5 (n, n + 1))) := by
  have hsh : (w.alloc (.cells cs 5)).shape? w.heap.size = some (5, n) := by
    unfold World.shape?
    rw [heap_alloc_new w]
    simp [hn]
  have hfr : (w.alloc (.cells cs 5)).freeze ⟨w.heap.size, n, none⟩ 1 = w.alloc (.cells cs 5 (n, n + 1)) := by
    simp only [World.freeze, World.alloc]
    simp only [Nat.one_ne_zero, if_false]
    congr 1
    apply Array.ext_getElem?
    intro i
    rw [Array.getElem?_modify]
    by_cases h : w.heap.size = i
    · subst h
      simp
    · have h' : ¬ i = w.heap.size := fun e => h e.symm
      simp [h, h', Array.getElem?_push]
  simp [convert, run_underlying Tryd.underlying22, run_underlying Tryd.underlying5, markStringish, hsh, hfr]
set_option maxRecDepth 100000 in
set_option maxHeartbeats 4000000 in
/-- Awake. -/
theorem DAwake_any (w : World) (hM : Md w) : Calls Tryd.prog 6 #[] w fun e w' => e = .returned (.bool true) ∧ Below w.heap.size w w' := by
  have HM : Hid (Md w) := hM
  clear hM
  go_enter Tryd.func6, Tryd.ntmps6
  go_wp2_with fail
  go_at_call 16
  have v1 := byv_cells w [48, 3, 2, 1, 5] #[.int .u8 48, .int .u8 3, .int .u8 2, .int .u8 1, .int .u8 5] 5 rfl rfl (by omega)
  have b1 : Below w.heap.size w (w.alloc (.cells #[.int .u8 48, .int .u8 3, .int .u8 2, .int .u8 1, .int .u8 5] 5)) := (Below.refl _ _).alloc (Nat.le_refl _) _
  generalize w.alloc (.cells #[.int .u8 48, .int .u8 3, .int .u8 2, .int .u8 1, .int .u8 5] 5) = W1 at v1 b1 ⊢
  refine (derRead _ 5 5 _ _ W1 rfl v1).mono ?_
  rw [awake_read]
  intro e w2 hp
  obtain ⟨b2, p1, c1, p2, c2, he, _, _⟩ := hp.okx
  subst he
  have B2 : Below w.heap.size w w2 := b1.trans (b2.mono b1.size)
  clear hp v1 b1 b2
  simp only [List.length_cons, List.length_nil]
  go_wp2_with fail
  go_at_call 17
  have s3 : Tl (w2.alloc (.cells #[.int .u8 48, .slice p1 3 c1] 24)) w2.heap.size (.int .u8 48) (.slice p1 3 c1) := Tl.new w2 _ _
  have B3 : Below w.heap.size w (w2.alloc (.cells #[.int .u8 48, .slice p1 3 c1] 24)) := B2.alloc B2.size _
  have z3 := alloc_sz w2 (.cells #[.int .u8 48, .slice p1 3 c1] 24)
  obtain ⟨G, hG⟩ : ∃ G, w2.heap.size = G := ⟨_, rfl⟩
  rw [hG] at s3 z3
  generalize w2.alloc (.cells #[.int .u8 48, .slice p1 3 c1] 24) = W3 at s3 B3 z3 ⊢
  rw [hG, ← z3]
  clear hG B2
  have v4 := byv_cells W3 [0, 5] #[.int .u8 0, .int .u8 5] 2 rfl rfl (by omega)
  have b4 : Below W3.heap.size W3 (W3.alloc (.cells #[.int .u8 0, .int .u8 5] 5)) := (Below.refl _ _).alloc (Nat.le_refl _) _
  generalize W3.alloc (.cells #[.int .u8 0, .int .u8 5] 5) = W4 at v4 b4 ⊢
  refine (derInt 2 (by omega) _ 2 2 _ _ W4 rfl v4 (by omega)).mono ?_
  rintro e w5 ⟨b5, (⟨_, rfl⟩ | ⟨l, _, hl, _⟩)⟩
  rotate_left
  · rw [awake_int] at hl
    cases hl
  have s5 : Tl w5 G (.int .u8 48) (.slice p1 3 c1) := (s3.below b4).below b5
  have B5 : Below w.heap.size w w5 := B3.trans ((b4.mono B3.size).trans (b5.mono (Nat.le_trans B3.size b4.size)))
  clear s3 B3 b4 v4 b5 z3
  go_wp2_with fail
  go_at_call 7
  have v6 := byv_cells w5 [42, 134, 72] #[.int .u8 42, .int .u8 134, .int .u8 72] 3 rfl rfl (by omega)
  have b6 : Below w5.heap.size w5 (w5.alloc (.cells #[.int .u8 42, .int .u8 134, .int .u8 72] 5)) := (Below.refl _ _).alloc (Nat.le_refl _) _
  generalize w5.alloc (.cells #[.int .u8 42, .int .u8 134, .int .u8 72] 5) = W6 at v6 b6 ⊢
  refine (derOid 6 (by omega) _ 3 3 _ _ W6 rfl v6).mono ?_
  rw [awake_oid]
  rintro e w7 ⟨b7, (⟨k, hk, _⟩ | ⟨l, v, hl, _, rfl, o7⟩)⟩
  · cases hk
  cases hl
  obtain ⟨g7, c7, rfl⟩ : ∃ g c, v = .slice (some ⟨g, 0, none⟩) 3 c := by
    rcases o7.2 with ⟨_, hh⟩ | ⟨g, cap, cur, e, _⟩
    · cases hh
    · exact ⟨g, cap, e⟩
  have x7 : w7.cell? ⟨g7, 2, none⟩ = some (.int .u64 840) := by rw [owns_cell o7 2 (by decide)]; rfl
  have s7 : Tl w7 G (.int .u8 48) (.slice p1 3 c1) := (s5.below b6).below b7
  have B7 : Below w.heap.size w w7 := B5.trans ((b6.mono B5.size).trans (b7.mono (Nat.le_trans B5.size b6.size)))
  have m7 : Md w7 := HM.out.below B7
  clear s5 B5 b6 v6 b7 o7
  have hcv := conv_litT #[.int .u8 55, .int .u8 48, .int .u8 48, .int .u8 49, .int .u8 48, .int .u8 49, .int .u8 48, .int .u8 48, .int .u8 48, .int .u8 48, .int .u8 48, .int .u8 49, .int .u8 90] 13 rfl w7
  go_wp2_with fail
  clear hcv
  go_at_call 12
  have v8 := byv_cellsF w7 [55, 48, 48, 49, 48, 49, 48, 48, 48, 48, 48, 49, 90] #[.int .u8 55, .int .u8 48, .int .u8 48, .int .u8 49, .int .u8 48, .int .u8 49, .int .u8 48, .int .u8 48, .int .u8 48, .int .u8 48, .int .u8 48, .int .u8 49, .int .u8 90] 13 (13, 14) rfl rfl (by omega)
  have b8 : Below w7.heap.size w7 (w7.alloc (.cells #[.int .u8 55, .int .u8 48, .int .u8 48, .int .u8 49, .int .u8 48, .int .u8 49, .int .u8 48, .int .u8 48, .int .u8 48, .int .u8 48, .int .u8 48, .int .u8 49, .int .u8 90] 5 (13, 14))) := (Below.refl _ _).alloc (Nat.le_refl _) _
  generalize w7.alloc (.cells #[.int .u8 55, .int .u8 48, .int .u8 48, .int .u8 49, .int .u8 48, .int .u8 49, .int .u8 48, .int .u8 48, .int .u8 48, .int .u8 48, .int .u8 48, .int .u8 49, .int .u8 90] 5 (13, 14)) = W8 at v8 b8 ⊢
  refine (derTime 23 (by omega) _ 13 13 _ _ W8 rfl v8 (m7.below b8)).mono ?_
  rw [awake_t1]
  rintro e w9 ⟨rfl, b9⟩
  simp only [timeV]
  have x9 : w9.cell? ⟨g7, 2, none⟩ = some (.int .u64 840) := by
    have h1 := World.block_lt_of_cell? w7 _ x7
    exact (b9.cell (p := ⟨g7, 2, none⟩) (Nat.lt_of_lt_of_le h1 b8.size)).trans ((b8.cell (p := ⟨g7, 2, none⟩) h1).trans x7)
  have s9 : Tl w9 G (.int .u8 48) (.slice p1 3 c1) := (s7.below b8).below b9
  have m9 : Md w9 := (m7.below b8).below b9
  have B9 : Below w.heap.size w w9 := B7.trans ((b8.mono B7.size).trans (b9.mono (Nat.le_trans B7.size b8.size)))
  clear x7 s7 m7 B7 b8 b9 v8
  have hcv := conv_litT #[.int .u8 53, .int .u8 48, .int .u8 48, .int .u8 49, .int .u8 48, .int .u8 49, .int .u8 48, .int .u8 48, .int .u8 48, .int .u8 48, .int .u8 48, .int .u8 48, .int .u8 90] 13 rfl w9
  go_wp2_with fail
  clear hcv
  go_at_call 12
  have v8 := byv_cellsF w9 [53, 48, 48, 49, 48, 49, 48, 48, 48, 48, 48, 48, 90] #[.int .u8 53, .int .u8 48, .int .u8 48, .int .u8 49, .int .u8 48, .int .u8 49, .int .u8 48, .int .u8 48, .int .u8 48, .int .u8 48, .int .u8 48, .int .u8 48, .int .u8 90] 13 (13, 14) rfl rfl (by omega)
  have b8 : Below w9.heap.size w9 (w9.alloc (.cells #[.int .u8 53, .int .u8 48, .int .u8 48, .int .u8 49, .int .u8 48, .int .u8 49, .int .u8 48, .int .u8 48, .int .u8 48, .int .u8 48, .int .u8 48, .int .u8 48, .int .u8 90] 5 (13, 14))) := (Below.refl _ _).alloc (Nat.le_refl _) _
  generalize w9.alloc (.cells #[.int .u8 53, .int .u8 48, .int .u8 48, .int .u8 49, .int .u8 48, .int .u8 49, .int .u8 48, .int .u8 48, .int .u8 48, .int .u8 48, .int .u8 48, .int .u8 48, .int .u8 90] 5 (13, 14)) = W8 at v8 b8 ⊢
  refine (derTime 23 (by omega) _ 13 13 _ _ W8 rfl v8 (m9.below b8)).mono ?_
  rw [awake_t2]
  rintro e wA ⟨rfl, b9⟩
  simp only [timeV]
  have xA : wA.cell? ⟨g7, 2, none⟩ = some (.int .u64 840) := by
    have h1 := World.block_lt_of_cell? w9 _ x9
    exact (b9.cell (p := ⟨g7, 2, none⟩) (Nat.lt_of_lt_of_le h1 b8.size)).trans ((b8.cell (p := ⟨g7, 2, none⟩) h1).trans x9)
  have sA : Tl wA G (.int .u8 48) (.slice p1 3 c1) := (s9.below b8).below b9
  have BA : Below w.heap.size w wA := B9.trans ((b8.mono B9.size).trans (b9.mono (Nat.le_trans B9.size b8.size)))
  obtain ⟨y0, y1, y2, y3⟩ := sA.facts
  clear x9 s9 m9 B9 b8 b9 v8
  go_wp2_with fail
  go_ret
  exact ⟨rfl, BA⟩
end Go.Proofs.YtccjlfjfmnmmhaaDoor
