/-
  The reader's elements.
-/
import Derived.Test.YtbobgebhdafciabDoorJV0
import Derived.Deep.RegionLaw
namespace Go.Proofs.YtbobgebhdafciabDoor
open Go.Shelf Go.RowKit
set_option linter.unusedVariables false
set_option linter.unusedSimpArgs false

set_option maxRecDepth 100000 in
set_option maxHeartbeats 8000000 in
/-- element. -/
theorem element_any (f : Nat) (IH : ValOK f) : ElemOK f := by
  intro g i bs ns nd o w h hG hf hl ho hn hi hk
  obtain ⟨nv, hs, hR, hN, hT⟩ := h
  have hil : i < ns.length := (List.getElem?_eq_some_iff.1 hi).1
  obtain ⟨gn, cap, rfl, hgn, hgl⟩ := hN.form (by omega)
  have hl' := hN.len
  have hx : hs[i]? = some hs[i] := List.getElem?_eq_getElem (by omega)
  obtain ⟨x, hx0⟩ : ∃ x, hs[i] = x := ⟨_, rfl⟩
  rw [hx0] at hx
  have hrep := hN.rep i x nd hx hi
  have hg := hR.lt
  have c1 := hR.nodes
  have c2 : w.cell? ⟨gn, i * 4 + 3, none⟩ = some x.ks := by
    have hrow := hN.row
    rw [hl'] at hrow
    rw [owns_cell hrow (i * 4 + 3) (by omega), flat_get hs i 3 x hx (by decide)]
    rfl
  have f2 : w.frozen? ⟨gn, i * 4 + 3, none⟩ = false := by
    have hrow := hN.row
    rw [hl'] at hrow
    exact owns_frozen hrow _
  obtain ⟨i0, hi0, hz0, hz1, hz2⟩ := info_parts infoInt
  have hown := hrep.kids
  obtain ⟨vK, hvK⟩ : ∃ vK, x.ks = vK := ⟨_, rfl⟩
  rw [hvK] at hown c2
  obtain ⟨n, hnn⟩ : ∃ n, ns.length = n := ⟨_, rfl⟩
  rw [hnn] at c1 hil hn
  obtain ⟨kk, hkk⟩ : ∃ kk, nd.kids.length = kk := ⟨_, rfl⟩
  rw [hkk] at hown hk
  have hiI : (i : Int) < (n : Int) := by omega
  have hi0' : (0 : Int) ≤ (i : Int) := by omega
  have hneN : some gn ≠ vK.ownBlock := fun e => owns_apart hown hN.row (by decide) e.symm rfl
  have hneG : some g ≠ vK.ownBlock := fun e => by have := (owns_lt hown e.symm).1; omega
  have HD : Hid (∀ (W w1 : World) (g' cap' : Nat), W.heap = (w.alloc (.cells #[.int .i64 (n : Int)] 3)).heap → W.os = w.os → W.tape = w.tape → W.output = w.output → w1.ownsRow (g + 1) 3 1 (.slice (some ⟨g', 0, none⟩) (kk + 1) cap') (kk + 1) (ints nd.kids ++ [.int .i64 (n : Int)]) → W.grownBy w1 vK.ownBlock → (vK.ownBlock = some g' ∨ g' = w.heap.size + 1) →
      St (w1.setCell ⟨gn, i * 4 + 3, none⟩ (.slice (some ⟨g', 0, none⟩) (kk + 1) cap')) g bs (ns.set i { nd with kids := nd.kids ++ [ns.length] }) o ∧ Fr g w (w1.setCell ⟨gn, i * 4 + 3, none⟩ (.slice (some ⟨g', 0, none⟩) (kk + 1) cap'))) := by
    intro W w1 g' cap' hW h1 h2 h3 o1 gr at1
    have hb : Below w.heap.size w W := by
      have := (Below.refl w.heap.size w).alloc (Nat.le_refl _) (.cells #[.int .i64 (n : Int)] 3)
      exact ⟨h1, h2, h3, by rw [hW]; exact this.size, fun k hk => by rw [hW]; exact this.block k hk⟩
    have hws : W.heap.size = w.heap.size + 1 := by rw [hW]; simp
    have hNW : Nodes W (g + 1) (.slice (some ⟨gn, 0, none⟩) ns.length cap) hs ns := hN.keep (fun k _ hk => hb.block k hk)
    have hk3 := hNW.kid i x nd hx hi ns.length (.slice (some ⟨g', 0, none⟩) (kk + 1) cap') (by rw [hkk, hnn]; exact o1) (by rw [hvK]; exact gr) (by
      rw [hvK, hws]
      rcases at1 with e | e
      · exact .inl e.symm
      · right; rw [e]; rfl)
    have hb2 : Below (g + 1) w w1 := ⟨gr.os.trans h1, gr.tape.trans h2, gr.output.trans h3, Nat.le_trans hb.size gr.size, fun k hk => (gr.block k (by omega) (fun e => by have := (owns_lt hown e.symm).1; omega)).trans (hb.block k (by omega))⟩
    have hb3 : Below (g + 1) w (w1.setCell ⟨gn, i * 4 + 3, none⟩ (.slice (some ⟨g', 0, none⟩) (kk + 1) cap')) := hb2.setCell (p := ⟨gn, i * 4 + 3, none⟩) hgn _
    refine ⟨⟨_, _, hR.keep hb3, hk3, hT.low hG (hb3.mono (by omega))⟩, hb3.mono (by omega), fun k cs fr hk => ?_⟩
    have hkl := (Array.getElem?_eq_some_iff.1 hk).1
    have hkn : k ≠ gn := fun e => by
      obtain ⟨_, _, c, hc⟩ := owns_lt hN.row (g := gn) rfl
      rw [e, hc] at hk
      cases hk
    have hkv : some k ≠ vK.ownBlock := fun e => by
      obtain ⟨_, _, c, hc⟩ := owns_lt hown e.symm
      rw [hc] at hk
      cases hk
    rw [Below.heap_setCell _ _ _ _ hkn, gr.block k (by omega) hkv]
    exact hb.block k hkl
  have HI : Hid (∀ W, St W g bs (ns.set i { nd with kids := nd.kids ++ [ns.length] }) o → Calls Tryd.prog 11 #[.pointer (some ⟨g, 0, none⟩)] W (ValPost f g o bs ns (ns.set i { nd with kids := nd.kids ++ [ns.length] }) W)) := by
    intro W hW
    have := IH g bs (ns.set i { nd with kids := nd.kids ++ [ns.length] }) o W hW hG hf hl ho (by rw [List.length_set]; omega)
    unfold ValPost at this ⊢
    rw [List.length_set] at this
    exact this
  have p1 : kk + 1 ≤ maxLen := by unfold maxLen; omega
  have p2 : (kk + 1) * 8 ≤ 140737488355328 := by omega
  have p3 : g + 1 ≤ (w.alloc (.cells #[.int .i64 (n : Int)] 3)).heap.size := by simp; omega
  have p4 : (w.alloc (.cells #[.int .i64 (n : Int)] 3)).heap.size = w.heap.size + 1 := by simp
  have p5 : g < (w.alloc (.cells #[.int .i64 (n : Int)] 3)).heap.size := by omega
  have p6 : gn < (w.alloc (.cells #[.int .i64 (n : Int)] 3)).heap.size := by omega
  have q1 : (w.alloc (.cells #[.int .i64 (n : Int)] 3)).cell? ⟨g, 1, none⟩ = some (.slice (some ⟨gn, 0, none⟩) n cap) := more_cell _ c1
  have q2 : (w.alloc (.cells #[.int .i64 (n : Int)] 3)).cell? ⟨gn, i * 4 + 3, none⟩ = some vK := more_cell _ c2
  have q3 : (w.alloc (.cells #[.int .i64 (n : Int)] 3)).frozen? ⟨gn, i * 4 + 3, none⟩ = false := more_frozen _ c2 f2
  have hone : ∀ u ∈ [Value.int .i64 (n : Int)], u.oneCell' = true := by simp [Value.oneCell']
  have hown2 := hown.alloc (.cells #[.int .i64 (n : Int)] 3)
  have HP : Hid (kk + 1 ≤ maxLen ∧ (kk + 1) * 8 ≤ 140737488355328 ∧ g + 1 ≤ (w.alloc (.cells #[.int .i64 (n : Int)] 3)).heap.size ∧ (w.alloc (.cells #[.int .i64 (n : Int)] 3)).heap.size = w.heap.size + 1 ∧ g < (w.alloc (.cells #[.int .i64 (n : Int)] 3)).heap.size ∧ gn < (w.alloc (.cells #[.int .i64 (n : Int)] 3)).heap.size ∧ (w.alloc (.cells #[.int .i64 (n : Int)] 3)).cell? ⟨g, 1, none⟩ = some (.slice (some ⟨gn, 0, none⟩) n cap) ∧ (w.alloc (.cells #[.int .i64 (n : Int)] 3)).cell? ⟨gn, i * 4 + 3, none⟩ = some vK ∧ (w.alloc (.cells #[.int .i64 (n : Int)] 3)).frozen? ⟨gn, i * 4 + 3, none⟩ = false) := ⟨p1, p2, p3, p4, p5, p6, q1, q2, q3⟩
  have HO : Hid ((w.alloc (.cells #[.int .i64 (n : Int)] 3)).ownsRow (g + 1) 3 1 vK kk (ints nd.kids) ∧ (∀ u ∈ [Value.int .i64 (n : Int)], u.oneCell' = true) ∧ some gn ≠ vK.ownBlock ∧ some g ≠ vK.ownBlock) := ⟨hown2, hone, hneN, hneG⟩
  clear hR hN hT hrep hx hi hG IH p1 p2 p3 p4 p5 p6 q3 hown hown2 hone hneN hneG hvK hnn hkk hf hl ho hn hk hl' hx0 hgn hgl hg
  go_enter Tryd.func18, Tryd.ntmps18
  go_upto_region 1 with fail
  go_cut [] from 5 (fun wc => St wc g bs (ns.set i { nd with kids := nd.kids ++ [ns.length] }) o ∧ Fr g w wc)
  case first =>
    go_region_law (refine step_append_lies _ rfl (.tmp 17) (.tmp 23) 36 rfl (g + 1) 3 i0 (.int .i64 0) 1 8 Tryd.underlying36 hi0 hz0 hz1 hz2 rfl (by decide) vK kk (ints nd.kids) rfl HO.out.1 ⟨w.heap.size, 0, none⟩ 1 1 [.int .i64 (n : Int)] rfl rfl (cell_one_new _ _ _) HO.out.2.1 (by decide) HP.out.1 HP.out.2.1 HP.out.2.2.1 (w.heap.size + 1) HP.out.2.2.2.1 ?_; intro g' cap' w1 o1 gr1 at1 lt1; have HG : Hid (_ ∧ _ ∧ _) := ⟨o1, gr1, at1⟩; have c1' := (gr1.cell_far ⟨g, 1, none⟩ HP.out.2.2.2.2.1 HO.out.2.2.2).trans HP.out.2.2.2.2.2.2.1; have c2' := (gr1.cell_far ⟨gn, i * 4 + 3, none⟩ HP.out.2.2.2.2.2.1 HO.out.2.2.1).trans HP.out.2.2.2.2.2.2.2.1; have f2' := (gr1.frozen_far ⟨gn, i * 4 + 3, none⟩ HP.out.2.2.2.2.2.1 HO.out.2.2.1).trans HP.out.2.2.2.2.2.2.2.2; clear o1 gr1 at1 lt1)
    all_goals (go_wp2_with fail; go_meet; exact HD.out (w.alloc (.cells #[.int .i64 (n : Int)] 3)).drew _ _ _ rfl rfl rfl rfl HG.out.1 HG.out.2.1 HG.out.2.2)
  case rest =>
  obtain ⟨hS, hB⟩ := hcut
  go_wp2_with (go_at_call 11; refine (HI.out _ hS).mono ?_; rintro e w2 ⟨b2, (⟨new, ys, v1, rfl, v3⟩ | ⟨k, v1, v2, v3, rfl, v4⟩)⟩)
  · go_ret
    exact ⟨hB.trans b2, .inl ⟨new, ys, v1, rfl, v3⟩⟩
  · go_ret
    exact ⟨hB.trans b2, .inr ⟨k, v1, v2, v3, rfl, v4⟩⟩
end Go.Proofs.YtbobgebhdafciabDoor
