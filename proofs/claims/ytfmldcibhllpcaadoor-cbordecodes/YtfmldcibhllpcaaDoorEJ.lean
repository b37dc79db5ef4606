/-
  The document's group, of a map: a list with one more put behind it.
-/
import Derived.Test.YtfmldcibhllpcaaDoorEG
import Derived.Test.YtfmldcibhllpcaaDoorEH
namespace Go.Proofs.YtfmldcibhllpcaaDoor
open Go.Shelf Go.RowKit
set_option linter.unusedVariables false
set_option linter.unusedSimpArgs false

/-- Behind one more: kb: where that one lies besides. -/
structure GMid (d g : Nat) (w : World) (rb kb : Nat) (w7 : World) (nv : Value) (css : List (List Value)) (kids : List It) (t' : Nat) (ys : Bs) (c0 c1 c2 c3 : Value) (i : It) : Prop where
  kl : Kl w7 (rb + 1) g (g - 2) d nv css kids
  rd : Rr w7 g ys t' 0
  but : But g w w7
  out : Slot w7 rb (.int .u8 6) (.int .u64 0) (.slice none 0 0) nv
  ret : Slot w7 w.heap.size (.int .u8 0) (.int .u64 0) (.slice none 0 0) (.slice none 0 0)
  own : Slot w7 kb c0 c1 c2 c3
  it : ItOk w7 (fun b => b < g - 2 ∨ rb + 1 ≤ b) d [c0, c1, c2, c3] i
  size : rb + 1 ≤ w7.heap.size
  at_ : rb < kb
theorem gmid {d g rb t1 : Nat} {w wr w4 : World} {nv : Value} {css : List (List Value)} {kids : List It} {us : Bs} {c0 c1 c2 c3 : Value} {i : It} (hK : Kl wr (rb + 1) g (g - 2) d nv css kids) (hbut : But g w wr) (ho : Slot w4 rb (.int .u8 6) (.int .u64 0) (.slice none 0 0) nv) (ht : Slot w4 w.heap.size (.int .u8 0) (.int .u64 0) (.slice none 0 0) (.slice none 0 0)) (hb4 : But g wr w4) (hg : g < w.heap.size) (hs : w.heap.size + 1 = rb) (hsz : rb + 1 ≤ wr.heap.size) (hr4 : Rr w4 g us t1 0) (hi : ItOk w4 (fun b => b < g - 2 ∨ wr.heap.size ≤ b) d [c0, c1, c2, c3] i) (Y : Obj) (gk ck N : Nat) (hN : css.length = N) (w6 : World)
    (own6 : w6.ownsRow (rb + 1) 35 4 (.slice (some ⟨gk, 0, none⟩) (N + 1) ck) (N + 1) (css.flatten ++ [c0, c1, c2, c3])) (gr6 : ((w4.alloc (.cells #[c0, c1, c2, c3] 35)).alloc Y).grownBy w6 nv.ownBlock) (at6 : nv.ownBlock = some gk ∨ gk = ((w4.alloc (.cells #[c0, c1, c2, c3] 35)).alloc Y).heap.size) :
    GMid d g w rb w4.heap.size (w6.setCell ⟨rb, 3, none⟩ (.slice (some ⟨gk, 0, none⟩) (N + 1) ck)) (.slice (some ⟨gk, 0, none⟩) (N + 1) ck) (css ++ [[c0, c1, c2, c3]]) (kids ++ [i]) t1 us c0 c1 c2 c3 i := by
  subst hN
  obtain ⟨kl6, but6, low6, sz6⟩ := (kids_pushG (w := w) hK hb4 (by omega) (by omega) (Nat.sub_le _ _) hsz (.cells #[c0, c1, c2, c3] 35) Y).2.2 gk ck c0 c1 c2 c3 w6 own6 gr6 at6
  have b7 := But.setCell rb w6 3 (.slice (some ⟨gk, 0, none⟩) (css.length + 1) ck)
  have hold : ∀ b, nv.ownBlock = some b → rb + 1 ≤ b ∧ b < wr.heap.size := fun b hb => ⟨(owns_lt hK.row hb).1, (owns_lt hK.row hb).2.1⟩
  have hz4 := hb4.size
  have hzA : ((w4.alloc (.cells #[c0, c1, c2, c3] 35)).alloc Y).heap.size = w4.heap.size + 2 := by rw [alloc_sz, alloc_sz]
  have hz6 := gr6.size
  have hbw : Below w4.heap.size w4 ((w4.alloc (.cells #[c0, c1, c2, c3] 35)).alloc Y) := ((Below.refl _ _).alloc (Nat.le_refl _) _).alloc (by rw [alloc_sz]; omega) _
  have S6 : Slot w6 w4.heap.size c0 c1 c2 c3 := by
    refine Slot.same ((Slot.new w4 c0 c1 c2 c3).same (heap_alloc_old _ Y (by rw [alloc_sz]; omega))) (gr6.block _ (by omega) (fun e => ?_))
    have := hold _ e.symm
    omega
  have I6 : ItOk w6 (fun b => b < g - 2 ∨ wr.heap.size ≤ b) d [c0, c1, c2, c3] i := hi.keep (fun b hP hlt => (gr6.block b (by omega) (fun e => by have := hold _ e.symm; omega)).trans (hbw.block b hlt))
  exact ⟨(kl6 i hi).slot b7 (by omega) (by omega), (hr4.low low6 (by omega)).slot b7 (by omega), (but6 hbut).fresh b7 (by omega), (ho.same (low6 rb (by omega))).set3 _, (ht.same (low6 _ (by omega))).same (b7.block _ (by omega) (by omega)), S6.same (b7.block _ S6.lt (by omega)), (I6.keep (fun b hP hlt => b7.block b hlt (by omega))).mono (fun b hP _ => by omega), Nat.le_trans sz6 b7.size, by omega⟩
theorem GMid.below {d g : Nat} {w : World} {rb kb : Nat} {w7 w8 : World} {nv : Value} {css : List (List Value)} {kids : List It} {t' : Nat} {ys : Bs} {c0 c1 c2 c3 : Value} {i : It} (h : GMid d g w rb kb w7 nv css kids t' ys c0 c1 c2 c3 i) (hb : Below w7.heap.size w7 w8) (hg : g ≤ rb) : GMid d g w rb kb w8 nv css kids t' ys c0 c1 c2 c3 i :=
  ⟨h.kl.keep (fun b _ hlt => hb.block b hlt) (by omega) (Nat.sub_le _ _), h.rd.below hb, h.but.trans (But.ofBelow hb), h.out.same (hb.block _ h.out.lt), h.ret.same (hb.block _ h.ret.lt), h.own.same (hb.block _ h.own.lt), h.it.below hb, Nat.le_trans h.size hb.size, h.at_⟩
/-- A fault behind one more. -/
theorem GMid.bad {d g : Nat} {w : World} {rb kb : Nat} {w7 w8 : World} {nv : Value} {css : List (List Value)} {kids : List It} {t' : Nat} {ys : Bs} {c0 c1 c2 c3 : Value} {i : It} (h : GMid d g w rb kb w7 nv css kids t' ys c0 c1 c2 c3 i) (hb : But g w7 w8) (hg : g < rb) (hg2 : g < w.heap.size) (k : Nat) (hk : 0 < k ∧ k < 100) (R : Except Nat (List It × Nat × Bs)) (hR : R = .error k) (zs : Bs) (t2 : Nat) (hr : Rr w8 g zs t2 k) : GErr g k R 6 w rb w8 := by
  obtain ⟨q, c, hq, _⟩ := h.kl.kids (by omega)
  refine ⟨hR, hk, ⟨zs, t2, hr⟩, h.but.trans hb, ⟨q, kids.length, c, ?_⟩, h.ret.same (hb.block _ h.ret.lt (by omega))⟩
  rw [← hq]
  exact h.out.same (hb.block _ h.out.lt (by omega))
end Go.Proofs.YtfmldcibhllpcaaDoor
