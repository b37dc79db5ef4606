import Derived.Test.YtcobbbamocdbbaaK06
import Derived.Test.YtcobbbamocdbbaaK03
import Derived.LoopN
import Derived.Deep.CutRange
import Derived.Deep.AppendLies
import Derived.Test.YtcobbbamocdbbaaK04
/-
  The laws' three curves.
-/
namespace Go.Proofs.Ytcobbbamocdbbaa
open Go.Shelf Go.RowKit
set_option linter.unusedVariables false
set_option linter.unusedSimpArgs false

/-- Their numbers. -/
def curZ (k : Nat) : Cz := match k with
  | 0 => ⟨251, 1, 4, 7, 75, 271⟩
  | 1 => ⟨10007, 1, 28, 2, 4582, 9851⟩
  | _ => ⟨65521, 1, 35, 2, 29470, 65761⟩
theorem idx0 (w : World) : (Instr.index 85 (.agg #[.int .u64 251, .int .u64 1, .int .u64 4, .int .u64 7, .int .u64 75, .int .u64 271, .int .u64 10007, .int .u64 1, .int .u64 28, .int .u64 2, .int .u64 4582, .int .u64 9851, .int .u64 65521, .int .u64 1, .int .u64 35, .int .u64 2, .int .u64 29470, .int .u64 65761]) (.int .i64 0)).run Try.prog w = .ok (.agg #[.int .u64 251, .int .u64 1, .int .u64 4, .int .u64 7, .int .u64 75, .int .u64 271]) w := by kernel_rfl
theorem idx1 (w : World) : (Instr.index 85 (.agg #[.int .u64 251, .int .u64 1, .int .u64 4, .int .u64 7, .int .u64 75, .int .u64 271, .int .u64 10007, .int .u64 1, .int .u64 28, .int .u64 2, .int .u64 4582, .int .u64 9851, .int .u64 65521, .int .u64 1, .int .u64 35, .int .u64 2, .int .u64 29470, .int .u64 65761]) (.int .i64 1)).run Try.prog w = .ok (.agg #[.int .u64 10007, .int .u64 1, .int .u64 28, .int .u64 2, .int .u64 4582, .int .u64 9851]) w := by kernel_rfl
theorem idx2 (w : World) : (Instr.index 85 (.agg #[.int .u64 251, .int .u64 1, .int .u64 4, .int .u64 7, .int .u64 75, .int .u64 271, .int .u64 10007, .int .u64 1, .int .u64 28, .int .u64 2, .int .u64 4582, .int .u64 9851, .int .u64 65521, .int .u64 1, .int .u64 35, .int .u64 2, .int .u64 29470, .int .u64 65761]) (.int .i64 2)).run Try.prog w = .ok (.agg #[.int .u64 65521, .int .u64 1, .int .u64 35, .int .u64 2, .int .u64 29470, .int .u64 65761]) w := by kernel_rfl
theorem idxk (k : Nat) (hk : k < 3) (w : World) : (Instr.index 85 (.agg #[.int .u64 251, .int .u64 1, .int .u64 4, .int .u64 7, .int .u64 75, .int .u64 271, .int .u64 10007, .int .u64 1, .int .u64 28, .int .u64 2, .int .u64 4582, .int .u64 9851, .int .u64 65521, .int .u64 1, .int .u64 35, .int .u64 2, .int .u64 29470, .int .u64 65761]) (.int .i64 (k : Int))).run Try.prog w = .ok (.agg #[.int .u64 (curZ k).p, .int .u64 (curZ k).a, .int .u64 (curZ k).b, .int .u64 (curZ k).gx, .int .u64 (curZ k).gy, .int .u64 (curZ k).n]) w := by
  match k, hk with
  | 0, _ => exact idx0 w
  | 1, _ => exact idx1 w
  | 2, _ => exact idx2 w
/-- A number of one limb, made behind H. -/
def Nb (W : World) (v : Value) (n : Int) : Prop := ∃ b, v = .slice (some ⟨b, 0, none⟩) 1 1 ∧ W.heap[b]? = some (.cells #[.int .u64 n] 34 (0, 0))
theorem Nb.keep {W W' : World} {v : Value} {n : Int} (h : Nb W v n) (hb : Below W.heap.size W W') : Nb W' v n := by
  obtain ⟨b, e, h1⟩ := h
  exact ⟨b, e, (hb.block _ (Array.getElem?_eq_some_iff.1 h1).1).trans h1⟩
theorem Nb.grown {W W' : World} {v : Value} {n : Int} (h : Nb W v n) {base k : Nat} {vo : Value} {xs : List Value} (ho : W.ownsRow base 29 9 vo k xs) (hg : W.grownBy W' vo.ownBlock) : Nb W' v n := by
  obtain ⟨b, e, h1⟩ := h
  refine ⟨b, e, (hg.block _ (Array.getElem?_eq_some_iff.1 h1).1 ?_).trans h1⟩
  intro e2
  rcases ho.2 with ⟨rfl, _⟩ | ⟨g, cap, cur, rfl, _, h2, _⟩
  · cases e2
  · cases e2
    rw [h1] at h2
    injection h2 with h2
    injection h2 with _ h2
    exact absurd h2 (by decide)
theorem Nb.nv {W : World} {v : Value} {n : Int} (h : Nb W v n) (h0 : 0 ≤ n ∧ n < 18446744073709551616) : Nv W v n 1 := by
  obtain ⟨b, rfl, h1⟩ := h
  refine ⟨_, 1, 1, [n], rfl, ⟨⟨rfl, .inr ⟨b, 0, rfl, (Array.getElem?_eq_some_iff.1 h1).1, fun i hi => ?_⟩⟩, Nat.le_refl _, by unfold maxLen; omega, fun h => (by cases h), ?_, by omega⟩, by simp [val], Nat.le_refl _⟩
  · obtain rfl : i = 0 := by omega
    rw [cell_of_row _ _ _ _ _ _ h1]
    rfl
  · intro x hx
    rw [List.mem_singleton] at hx
    subst hx
    exact h0
/-- A curve of such numbers. -/
def CuN (W : World) (v : Value) (c : Cz) : Prop := ∃ (g1 g2 : Int) (oo : Option Addr) (lo co : Nat) (vp va vb vx vy vn : Value), v = .agg #[.int .i64 g1, .int .i64 g2, .slice oo lo co, vp, va, vb, vx, vy, vn] ∧ Nb W vp c.p ∧ Nb W va c.a ∧ Nb W vb c.b ∧ Nb W vx c.gx ∧ Nb W vy c.gy ∧ Nb W vn c.n
theorem CuN.keep {W W' : World} {v : Value} {c : Cz} (h : CuN W v c) (hb : Below W.heap.size W W') : CuN W' v c := by
  obtain ⟨g1, g2, oo, lo, co, vp, va, vb, vx, vy, vn, e, h1, h2, h3, h4, h5, h6⟩ := h
  exact ⟨g1, g2, oo, lo, co, vp, va, vb, vx, vy, vn, e, h1.keep hb, h2.keep hb, h3.keep hb, h4.keep hb, h5.keep hb, h6.keep hb⟩
theorem CuN.grown {W W' : World} {v : Value} {c : Cz} (h : CuN W v c) {base k : Nat} {vo : Value} {xs : List Value} (ho : W.ownsRow base 29 9 vo k xs) (hg : W.grownBy W' vo.ownBlock) : CuN W' v c := by
  obtain ⟨g1, g2, oo, lo, co, vp, va, vb, vx, vy, vn, e, h1, h2, h3, h4, h5, h6⟩ := h
  exact ⟨g1, g2, oo, lo, co, vp, va, vb, vx, vy, vn, e, h1.grown ho hg, h2.grown ho hg, h3.grown ho hg, h4.grown ho hg, h5.grown ho hg, h6.grown ho hg⟩
/-- Curves that were made. -/
def CuL (W : World) (k : Nat) (xs : List Value) : Prop := ∀ j, j < k → CuN W (.agg ((xs.drop (9 * j)).take 9).toArray) (curZ j)
theorem CuL.push {W : World} {k : Nat} {xs : List Value} {cs : Array Value} (h : CuL W k xs) (hl : xs.length = k * 9) (hc : CuN W (.agg cs) (curZ k)) : CuL W (k + 1) (xs ++ cs.toList) := by
  have hs : cs.toList.length = 9 := by
    obtain ⟨g1, g2, oo, lo, co, vp, va, vb, vx, vy, vn, e, _⟩ := hc
    injection e with e
    rw [e]
    rfl
  intro j hj
  by_cases hjk : j < k
  · rw [List.drop_append_of_le_length (by omega), List.take_append_of_le_length (by rw [List.length_drop]; omega)]
    exact h j hjk
  · obtain rfl : j = k := by omega
    rw [List.drop_append, List.drop_eq_nil_of_le (by omega), List.nil_append, show 9 * j - xs.length = 0 by omega, List.drop_zero, List.take_of_length_le (by omega)]
    exact hc
theorem curInfo : ∃ i z, Try.prog.info? 29 = some i ∧ i.zero = some z ∧ i.size = 9 ∧ i.bytes = 184 ∧ z.cells.size = 9 := by
  have h : (Try.prog.info? 29).map (fun i => (i.size, i.bytes, i.zero.map (fun z => z.cells.size))) = some (9, 184, some 9) := by kernel_rfl
  cases hi : Try.prog.info? 29 with
  | none => rw [hi] at h; cases h
  | some i =>
    rw [hi] at h
    simp only [Option.map_some, Option.some.injEq, Prod.mk.injEq] at h
    cases hz : i.zero with
    | none => rw [hz] at h; simp at h
    | some z =>
      rw [hz] at h
      simp at h
      exact ⟨i, z, rfl, hz, h.1, h.2.1, h.2.2⟩
/-- What each operation of the statement leaves. -/
def curF (b3 k : Nat) (vo : Value) (c : Cz) : Nat → Value → World → Prop
  | 0, v, _ => v = vo
  | 1, v, W => ∃ g t, v = .slice (some ⟨g, 0, none⟩) 3 3 ∧ W.heap[g]? = some (.cells #[.int .i64 (-7), .int .i64 (-35), .int .i64 (-36)] t (0, 0))
  | 2, v, _ => v = .int .i64 k
  | 3, v, W => ∃ g t, v = .pointer (some ⟨g, k, none⟩) ∧ W.heap[g]? = some (.cells #[.int .i64 (-7), .int .i64 (-35), .int .i64 (-36)] t (0, 0))
  | 4, v, _ => ∃ z, v = .int .i64 z
  | 5, v, _ => v = .int .i64 k
  | 6, v, _ => ∃ z, v = .int .i64 z
  | 7, v, _ => v = .int .i64 k
  | 8, v, _ => ∃ z, v = .int .u64 z
  | 9, v, _ => ∃ oo l c, v = .slice oo l c
  | 10, v, _ => v = .pointer (some ⟨b3, 0, none⟩)
  | 11, v, _ => v = .int .u64 c.p
  | 12, v, W => Nb W v c.p
  | 13, v, _ => v = .pointer (some ⟨b3, 1, none⟩)
  | 14, v, _ => v = .int .u64 c.a
  | 15, v, W => Nb W v c.a
  | 16, v, _ => v = .pointer (some ⟨b3, 2, none⟩)
  | 17, v, _ => v = .int .u64 c.b
  | 18, v, W => Nb W v c.b
  | 19, v, _ => v = .pointer (some ⟨b3, 3, none⟩)
  | 20, v, _ => v = .int .u64 c.gx
  | 21, v, W => Nb W v c.gx
  | 22, v, _ => v = .pointer (some ⟨b3, 4, none⟩)
  | 23, v, _ => v = .int .u64 c.gy
  | 24, v, W => Nb W v c.gy
  | 25, v, _ => v = .pointer (some ⟨b3, 5, none⟩)
  | 26, v, _ => v = .int .u64 c.n
  | 27, v, W => Nb W v c.n
  | 28, v, W => CuN W v c
  | 29, v, W => ∃ g t cs, v = .slice (some ⟨g, 0, none⟩) 1 1 ∧ W.heap[g]? = some (.cells cs t (0, 0)) ∧ CuN W (.agg cs) c
  | _, _, _ => True
theorem blk_up {W W' : World} {g : Nat} {o : Obj} (h : W.heap[g]? = some o) (hb : Below W.heap.size W W') : W'.heap[g]? = some o := (hb.block _ (Array.getElem?_eq_some_iff.1 h).1).trans h
theorem curF_keep (b3 k : Nat) (vo : Value) (c : Cz) (i : Nat) (v : Value) (w w' : World) (hi : i < 30) (h : curF b3 k vo c i v w) (hb : Below w.heap.size w w') : curF b3 k vo c i v w' := by
  obtain rfl | rfl | rfl | rfl | rfl | rfl | rfl | rfl | rfl | rfl | rfl | rfl | rfl | rfl | rfl | rfl | rfl | rfl | rfl | rfl | rfl | rfl | rfl | rfl | rfl | rfl | rfl | rfl | rfl | rfl : i = 0 ∨ i = 1 ∨ i = 2 ∨ i = 3 ∨ i = 4 ∨ i = 5 ∨ i = 6 ∨ i = 7 ∨ i = 8 ∨ i = 9 ∨ i = 10 ∨ i = 11 ∨ i = 12 ∨ i = 13 ∨ i = 14 ∨ i = 15 ∨ i = 16 ∨ i = 17 ∨ i = 18 ∨ i = 19 ∨ i = 20 ∨ i = 21 ∨ i = 22 ∨ i = 23 ∨ i = 24 ∨ i = 25 ∨ i = 26 ∨ i = 27 ∨ i = 28 ∨ i = 29 := by omega
  · exact h
  · obtain ⟨g, t, e, h1⟩ := h; exact ⟨g, t, e, blk_up h1 hb⟩
  · exact h
  · obtain ⟨g, t, e, h1⟩ := h; exact ⟨g, t, e, blk_up h1 hb⟩
  · exact h
  · exact h
  · exact h
  · exact h
  · exact h
  · exact h
  · exact h
  · exact h
  · exact Nb.keep h hb
  · exact h
  · exact h
  · exact Nb.keep h hb
  · exact h
  · exact h
  · exact Nb.keep h hb
  · exact h
  · exact h
  · exact Nb.keep h hb
  · exact h
  · exact h
  · exact Nb.keep h hb
  · exact h
  · exact h
  · exact Nb.keep h hb
  · exact CuN.keep h hb
  · obtain ⟨g, t, cs, e, h1, h2⟩ := h; exact ⟨g, t, cs, e, blk_up h1 hb, h2.keep hb⟩
/-- The frame behind the statement. -/
def CurQ (tm : List Value) (base k : Nat) (xs : List Value) (c : Cz) (w : World) (e : Exit) (a : Act) (W : World) : Prop := e = .normal ∧ a.defers = [] ∧ a.tmps.size = 45 ∧ (∀ s, s < 12 → s ≠ 1 → a.tmps.getD s undef = tm.getD s undef) ∧ a.tmps.getD 44 undef = undef ∧ ∃ g cap cs, a.tmps.getD 1 undef = .slice (some ⟨g, 0, none⟩) (k + 1) cap ∧ W.ownsRow base 29 9 (.slice (some ⟨g, 0, none⟩) (k + 1) cap) (k + 1) (xs ++ cs.toList) ∧ (CuL W k xs ∧ CuN W (.agg cs) c) ∧ Below base w W
set_option maxRecDepth 100000 in
set_option maxHeartbeats 8000000 in
theorem Curves_any (w : World) :
    Calls Try.prog 10 #[] w fun e w' => ∃ v xs, e = .returned v ∧ w'.ownsRow w.heap.size 29 9 v 3 xs ∧ CuL w' 3 xs ∧ Below w.heap.size w w' := by
  obtain ⟨ci, cz, ci1, ci2, ci3, ci4, ci5⟩ := curInfo
  have HCI : Hid (_ ∧ _ ∧ _ ∧ _ ∧ _) := ⟨ci1, ci2, ci3, ci4, ci5⟩
  clear ci1 ci2 ci3 ci4 ci5
  go_enter Try.func10, Try.ntmps10
  go_wp2_with fail
  go_loopw [1, 8] (fun vo vi wr => ∃ (k : Nat) (xs : List Value), k ≤ 3 ∧ vi = .int .i64 k ∧ wr.ownsRow w.heap.size 29 9 vo k xs ∧ CuL wr k xs ∧ Below w.heap.size w wr) (fun _ vi _ => 3 - (intOf vi).toNat)
  case atStart => exact ⟨0, [], by omega, rfl, World.ownsRow_nil _ _ _ _, fun j hj => by omega, Below.refl _ _⟩
  case round =>
    obtain ⟨k, xs, hk, rfl, hown, hcl, hb⟩ := hrel
    by_cases hk3 : k < 3
    · have HIk := idxk k hk3
      obtain ⟨c, hc⟩ : ∃ c, curZ k = c := ⟨_, rfl⟩
      rw [hc] at HIk
      have HC : Hid (curZ k = c) := hc
      have HO : Hid (wr.ownsRow w.heap.size 29 9 u1 k xs ∧ CuL wr k xs ∧ Below w.heap.size w wr) := ⟨hown, hcl, hb⟩
      clear hc hown hcl hb
      go_wp2_with fail
      obtain ⟨W, hW⟩ : ∃ W, (wr.alloc (.cells #[.int .u64 c.p, .int .u64 c.a, .int .u64 c.b, .int .u64 c.gx, .int .u64 c.gy, .int .u64 c.n] 84)) = W := ⟨_, rfl⟩
      have HW6 : Hid (W.heap[wr.heap.size]? = some (.cells #[.int .u64 c.p, .int .u64 c.a, .int .u64 c.b, .int .u64 c.gx, .int .u64 c.gy, .int .u64 c.n] 84 (0, 0)) ∧ Below wr.heap.size wr W) := by rw [← hW]; exact ⟨heap_alloc_new wr _, (Below.refl _ _).alloc (Nat.le_refl _) _⟩
      rw [hW]
      clear hW
      refine wp_mono (Q := CurQ [.slice none 0 0, u1, .int .i64 k, .pointer (some ⟨wr.heap.size, 0, none⟩), .agg #[.int .u64 251, .int .u64 1, .int .u64 4, .int .u64 7, .int .u64 75, .int .u64 271], .agg #[.int .u64 10007, .int .u64 1, .int .u64 28, .int .u64 2, .int .u64 4582, .int .u64 9851], .agg #[.int .u64 65521, .int .u64 1, .int .u64 35, .int .u64 2, .int .u64 29470, .int .u64 65761], .agg #[.int .u64 251, .int .u64 1, .int .u64 4, .int .u64 7, .int .u64 75, .int .u64 271, .int .u64 10007, .int .u64 1, .int .u64 28, .int .u64 2, .int .u64 4582, .int .u64 9851, .int .u64 65521, .int .u64 1, .int .u64 35, .int .u64 2, .int .u64 29470, .int .u64 65761], .int .i64 k, .bool (decide ((k : Int) < 3)), .int .i64 k, .agg #[.int .u64 c.p, .int .u64 c.a, .int .u64 c.b, .int .u64 c.gx, .int .u64 c.gy, .int .u64 c.n]] w.heap.size k xs c w) (wp_region_facts 30 6 (curF wr.heap.size k u1 c) (by kernel_rfl) (by kernel_rfl) (by kernel_rfl) (curF_keep _ _ _ _) ?step ?rest) ?_
      case step =>
        intro i o hi ho a wx hda hsz hbw hold hdeps KK hK
        obtain rfl | rfl | rfl | rfl | rfl | rfl | rfl | rfl | rfl | rfl | rfl | rfl | rfl | rfl | rfl | rfl | rfl | rfl | rfl | rfl | rfl | rfl | rfl | rfl | rfl | rfl | rfl | rfl | rfl | rfl : i = 0 ∨ i = 1 ∨ i = 2 ∨ i = 3 ∨ i = 4 ∨ i = 5 ∨ i = 6 ∨ i = 7 ∨ i = 8 ∨ i = 9 ∨ i = 10 ∨ i = 11 ∨ i = 12 ∨ i = 13 ∨ i = 14 ∨ i = 15 ∨ i = 16 ∨ i = 17 ∨ i = 18 ∨ i = 19 ∨ i = 20 ∨ i = 21 ∨ i = 22 ∨ i = 23 ∨ i = 24 ∨ i = 25 ∨ i = 26 ∨ i = 27 ∨ i = 28 ∨ i = 29 := by omega
        · simp only [List.getElem?_toArray, List.getElem?_cons_succ, List.getElem?_cons_zero, Option.some.injEq] at ho
          subst ho
          have d0 : a.tmps.getD 1 undef = u1 := hold 1 (by decide +kernel)
          clear hdeps hold hda hsz
          go_simp
          exact hK _ _ (Below.refl _ _) rfl
        · simp only [List.getElem?_toArray, List.getElem?_cons_succ, List.getElem?_cons_zero, Option.some.injEq] at ho
          subst ho
          clear hdeps hold hda hsz
          go_simp
          exact hK _ _ ((Below.refl _ _).alloc (Nat.le_refl _) _) ⟨_, _, rfl, heap_alloc_new _ _⟩
        · simp only [List.getElem?_toArray, List.getElem?_cons_succ, List.getElem?_cons_zero, Option.some.injEq] at ho
          subst ho
          have d0 : a.tmps.getD 2 undef = .int .i64 k := hold 2 (by decide +kernel)
          clear hdeps hold hda hsz
          go_simp
          exact hK _ _ (Below.refl _ _) rfl
        · simp only [List.getElem?_toArray, List.getElem?_cons_succ, List.getElem?_cons_zero, Option.some.injEq] at ho
          subst ho
          have d1 : curF wr.heap.size k u1 c 1 (a.tmps.getD 13 undef) wx := hdeps 1 (by decide +kernel)
          have d2 : curF wr.heap.size k u1 c 2 (a.tmps.getD 14 undef) wx := hdeps 2 (by decide +kernel)
          clear hdeps hold hda hsz
          obtain ⟨g, t, e1, h1⟩ := d1
          have e2 : a.tmps.getD 14 undef = .int .i64 k := d2
          have hk0 : (0 : Int) ≤ k ∧ (k : Int) < 3 := by omega
          go_simp
          exact hK _ _ (Below.refl _ _) ⟨g, t, rfl, h1⟩
        · simp only [List.getElem?_toArray, List.getElem?_cons_succ, List.getElem?_cons_zero, Option.some.injEq] at ho
          subst ho
          have d3 : curF wr.heap.size k u1 c 3 (a.tmps.getD 15 undef) wx := hdeps 3 (by decide +kernel)
          clear hdeps hold hda hsz
          obtain ⟨g, t, e1, h1⟩ := d3
          obtain ⟨z, hz⟩ : ∃ z, wx.cell? ⟨g, k, none⟩ = some (.int .i64 z) := by
            rw [cell_of_row _ _ _ _ _ _ h1]
            match k, hk3 with
            | 0, _ => exact ⟨_, rfl⟩
            | 1, _ => exact ⟨_, rfl⟩
            | 2, _ => exact ⟨_, rfl⟩
          go_simp
          exact hK _ _ (Below.refl _ _) ⟨_, rfl⟩
        · simp only [List.getElem?_toArray, List.getElem?_cons_succ, List.getElem?_cons_zero, Option.some.injEq] at ho
          subst ho
          have d0 : a.tmps.getD 2 undef = .int .i64 k := hold 2 (by decide +kernel)
          clear hdeps hold hda hsz
          go_simp
          exact hK _ _ (Below.refl _ _) rfl
        · simp only [List.getElem?_toArray, List.getElem?_cons_succ, List.getElem?_cons_zero, Option.some.injEq] at ho
          subst ho
          have d5 : curF wr.heap.size k u1 c 5 (a.tmps.getD 17 undef) wx := hdeps 5 (by decide +kernel)
          clear hdeps hold hda hsz
          have e1 : a.tmps.getD 17 undef = .int .i64 k := d5
          go_simp
          exact hK _ _ (Below.refl _ _) ⟨_, rfl⟩
        · simp only [List.getElem?_toArray, List.getElem?_cons_succ, List.getElem?_cons_zero, Option.some.injEq] at ho
          subst ho
          have d0 : a.tmps.getD 2 undef = .int .i64 k := hold 2 (by decide +kernel)
          clear hdeps hold hda hsz
          go_simp
          exact hK _ _ (Below.refl _ _) rfl
        · simp only [List.getElem?_toArray, List.getElem?_cons_succ, List.getElem?_cons_zero, Option.some.injEq] at ho
          subst ho
          have d7 : curF wr.heap.size k u1 c 7 (a.tmps.getD 19 undef) wx := hdeps 7 (by decide +kernel)
          clear hdeps hold hda hsz
          have e1 : a.tmps.getD 19 undef = .int .i64 k := d7
          go_simp
          exact hK _ _ (Below.refl _ _) ⟨_, rfl⟩
        · simp only [List.getElem?_toArray, List.getElem?_cons_succ, List.getElem?_cons_zero, Option.some.injEq] at ho
          subst ho
          have d8 : curF wr.heap.size k u1 c 8 (a.tmps.getD 20 undef) wx := hdeps 8 (by decide +kernel)
          clear hdeps hold hda hsz
          obtain ⟨z, e1⟩ := d8
          rw [Array.getD_eq_getD_getElem?] at e1
          go_simp
          exact hK _ _ ((Below.refl _ _).alloc (Nat.le_refl _) _) ⟨_, _, _, rfl⟩
        · simp only [List.getElem?_toArray, List.getElem?_cons_succ, List.getElem?_cons_zero, Option.some.injEq] at ho
          subst ho
          have d0 : a.tmps.getD 3 undef = .pointer (some ⟨wr.heap.size, 0, none⟩) := hold 3 (by decide +kernel)
          clear hdeps hold hda hsz
          go_simp
          exact hK _ _ (Below.refl _ _) rfl
        · simp only [List.getElem?_toArray, List.getElem?_cons_succ, List.getElem?_cons_zero, Option.some.injEq] at ho
          subst ho
          have d10 : curF wr.heap.size k u1 c 10 (a.tmps.getD 22 undef) wx := hdeps 10 (by decide +kernel)
          clear hdeps hold hda hsz
          have e1 : a.tmps.getD 22 undef = .pointer (some ⟨wr.heap.size, 0, none⟩) := d10
          have hc : wx.cell? ⟨wr.heap.size, 0, none⟩ = some (.int .u64 c.p) := by
            rw [cell_of_row _ _ _ _ _ _ (blk_up HW6.out.1 hbw)]
            rfl
          go_simp
          exact hK _ _ (Below.refl _ _) rfl
        · simp only [List.getElem?_toArray, List.getElem?_cons_succ, List.getElem?_cons_zero, Option.some.injEq] at ho
          subst ho
          have d11 : curF wr.heap.size k u1 c 11 (a.tmps.getD 23 undef) wx := hdeps 11 (by decide +kernel)
          clear hdeps hold hda hsz
          have e1 : a.tmps.getD 23 undef = .int .u64 c.p := d11
          rw [Array.getD_eq_getD_getElem?] at e1
          go_simp
          exact hK _ _ ((Below.refl _ _).alloc (Nat.le_refl _) _) ⟨_, rfl, heap_alloc_new _ _⟩
        · simp only [List.getElem?_toArray, List.getElem?_cons_succ, List.getElem?_cons_zero, Option.some.injEq] at ho
          subst ho
          have d0 : a.tmps.getD 3 undef = .pointer (some ⟨wr.heap.size, 0, none⟩) := hold 3 (by decide +kernel)
          clear hdeps hold hda hsz
          go_simp
          exact hK _ _ (Below.refl _ _) rfl
        · simp only [List.getElem?_toArray, List.getElem?_cons_succ, List.getElem?_cons_zero, Option.some.injEq] at ho
          subst ho
          have d13 : curF wr.heap.size k u1 c 13 (a.tmps.getD 25 undef) wx := hdeps 13 (by decide +kernel)
          clear hdeps hold hda hsz
          have e1 : a.tmps.getD 25 undef = .pointer (some ⟨wr.heap.size, 1, none⟩) := d13
          have hc : wx.cell? ⟨wr.heap.size, 1, none⟩ = some (.int .u64 c.a) := by
            rw [cell_of_row _ _ _ _ _ _ (blk_up HW6.out.1 hbw)]
            rfl
          go_simp
          exact hK _ _ (Below.refl _ _) rfl
        · simp only [List.getElem?_toArray, List.getElem?_cons_succ, List.getElem?_cons_zero, Option.some.injEq] at ho
          subst ho
          have d14 : curF wr.heap.size k u1 c 14 (a.tmps.getD 26 undef) wx := hdeps 14 (by decide +kernel)
          clear hdeps hold hda hsz
          have e1 : a.tmps.getD 26 undef = .int .u64 c.a := d14
          rw [Array.getD_eq_getD_getElem?] at e1
          go_simp
          exact hK _ _ ((Below.refl _ _).alloc (Nat.le_refl _) _) ⟨_, rfl, heap_alloc_new _ _⟩
        · simp only [List.getElem?_toArray, List.getElem?_cons_succ, List.getElem?_cons_zero, Option.some.injEq] at ho
          subst ho
          have d0 : a.tmps.getD 3 undef = .pointer (some ⟨wr.heap.size, 0, none⟩) := hold 3 (by decide +kernel)
          clear hdeps hold hda hsz
          go_simp
          exact hK _ _ (Below.refl _ _) rfl
        · simp only [List.getElem?_toArray, List.getElem?_cons_succ, List.getElem?_cons_zero, Option.some.injEq] at ho
          subst ho
          have d16 : curF wr.heap.size k u1 c 16 (a.tmps.getD 28 undef) wx := hdeps 16 (by decide +kernel)
          clear hdeps hold hda hsz
          have e1 : a.tmps.getD 28 undef = .pointer (some ⟨wr.heap.size, 2, none⟩) := d16
          have hc : wx.cell? ⟨wr.heap.size, 2, none⟩ = some (.int .u64 c.b) := by
            rw [cell_of_row _ _ _ _ _ _ (blk_up HW6.out.1 hbw)]
            rfl
          go_simp
          exact hK _ _ (Below.refl _ _) rfl
        · simp only [List.getElem?_toArray, List.getElem?_cons_succ, List.getElem?_cons_zero, Option.some.injEq] at ho
          subst ho
          have d17 : curF wr.heap.size k u1 c 17 (a.tmps.getD 29 undef) wx := hdeps 17 (by decide +kernel)
          clear hdeps hold hda hsz
          have e1 : a.tmps.getD 29 undef = .int .u64 c.b := d17
          rw [Array.getD_eq_getD_getElem?] at e1
          go_simp
          exact hK _ _ ((Below.refl _ _).alloc (Nat.le_refl _) _) ⟨_, rfl, heap_alloc_new _ _⟩
        · simp only [List.getElem?_toArray, List.getElem?_cons_succ, List.getElem?_cons_zero, Option.some.injEq] at ho
          subst ho
          have d0 : a.tmps.getD 3 undef = .pointer (some ⟨wr.heap.size, 0, none⟩) := hold 3 (by decide +kernel)
          clear hdeps hold hda hsz
          go_simp
          exact hK _ _ (Below.refl _ _) rfl
        · simp only [List.getElem?_toArray, List.getElem?_cons_succ, List.getElem?_cons_zero, Option.some.injEq] at ho
          subst ho
          have d19 : curF wr.heap.size k u1 c 19 (a.tmps.getD 31 undef) wx := hdeps 19 (by decide +kernel)
          clear hdeps hold hda hsz
          have e1 : a.tmps.getD 31 undef = .pointer (some ⟨wr.heap.size, 3, none⟩) := d19
          have hc : wx.cell? ⟨wr.heap.size, 3, none⟩ = some (.int .u64 c.gx) := by
            rw [cell_of_row _ _ _ _ _ _ (blk_up HW6.out.1 hbw)]
            rfl
          go_simp
          exact hK _ _ (Below.refl _ _) rfl
        · simp only [List.getElem?_toArray, List.getElem?_cons_succ, List.getElem?_cons_zero, Option.some.injEq] at ho
          subst ho
          have d20 : curF wr.heap.size k u1 c 20 (a.tmps.getD 32 undef) wx := hdeps 20 (by decide +kernel)
          clear hdeps hold hda hsz
          have e1 : a.tmps.getD 32 undef = .int .u64 c.gx := d20
          rw [Array.getD_eq_getD_getElem?] at e1
          go_simp
          exact hK _ _ ((Below.refl _ _).alloc (Nat.le_refl _) _) ⟨_, rfl, heap_alloc_new _ _⟩
        · simp only [List.getElem?_toArray, List.getElem?_cons_succ, List.getElem?_cons_zero, Option.some.injEq] at ho
          subst ho
          have d0 : a.tmps.getD 3 undef = .pointer (some ⟨wr.heap.size, 0, none⟩) := hold 3 (by decide +kernel)
          clear hdeps hold hda hsz
          go_simp
          exact hK _ _ (Below.refl _ _) rfl
        · simp only [List.getElem?_toArray, List.getElem?_cons_succ, List.getElem?_cons_zero, Option.some.injEq] at ho
          subst ho
          have d22 : curF wr.heap.size k u1 c 22 (a.tmps.getD 34 undef) wx := hdeps 22 (by decide +kernel)
          clear hdeps hold hda hsz
          have e1 : a.tmps.getD 34 undef = .pointer (some ⟨wr.heap.size, 4, none⟩) := d22
          have hc : wx.cell? ⟨wr.heap.size, 4, none⟩ = some (.int .u64 c.gy) := by
            rw [cell_of_row _ _ _ _ _ _ (blk_up HW6.out.1 hbw)]
            rfl
          go_simp
          exact hK _ _ (Below.refl _ _) rfl
        · simp only [List.getElem?_toArray, List.getElem?_cons_succ, List.getElem?_cons_zero, Option.some.injEq] at ho
          subst ho
          have d23 : curF wr.heap.size k u1 c 23 (a.tmps.getD 35 undef) wx := hdeps 23 (by decide +kernel)
          clear hdeps hold hda hsz
          have e1 : a.tmps.getD 35 undef = .int .u64 c.gy := d23
          rw [Array.getD_eq_getD_getElem?] at e1
          go_simp
          exact hK _ _ ((Below.refl _ _).alloc (Nat.le_refl _) _) ⟨_, rfl, heap_alloc_new _ _⟩
        · simp only [List.getElem?_toArray, List.getElem?_cons_succ, List.getElem?_cons_zero, Option.some.injEq] at ho
          subst ho
          have d0 : a.tmps.getD 3 undef = .pointer (some ⟨wr.heap.size, 0, none⟩) := hold 3 (by decide +kernel)
          clear hdeps hold hda hsz
          go_simp
          exact hK _ _ (Below.refl _ _) rfl
        · simp only [List.getElem?_toArray, List.getElem?_cons_succ, List.getElem?_cons_zero, Option.some.injEq] at ho
          subst ho
          have d25 : curF wr.heap.size k u1 c 25 (a.tmps.getD 37 undef) wx := hdeps 25 (by decide +kernel)
          clear hdeps hold hda hsz
          have e1 : a.tmps.getD 37 undef = .pointer (some ⟨wr.heap.size, 5, none⟩) := d25
          have hc : wx.cell? ⟨wr.heap.size, 5, none⟩ = some (.int .u64 c.n) := by
            rw [cell_of_row _ _ _ _ _ _ (blk_up HW6.out.1 hbw)]
            rfl
          go_simp
          exact hK _ _ (Below.refl _ _) rfl
        · simp only [List.getElem?_toArray, List.getElem?_cons_succ, List.getElem?_cons_zero, Option.some.injEq] at ho
          subst ho
          have d26 : curF wr.heap.size k u1 c 26 (a.tmps.getD 38 undef) wx := hdeps 26 (by decide +kernel)
          clear hdeps hold hda hsz
          have e1 : a.tmps.getD 38 undef = .int .u64 c.n := d26
          rw [Array.getD_eq_getD_getElem?] at e1
          go_simp
          exact hK _ _ ((Below.refl _ _).alloc (Nat.le_refl _) _) ⟨_, rfl, heap_alloc_new _ _⟩
        · simp only [List.getElem?_toArray, List.getElem?_cons_succ, List.getElem?_cons_zero, Option.some.injEq] at ho
          subst ho
          have d4 : curF wr.heap.size k u1 c 4 (a.tmps.getD 16 undef) wx := hdeps 4 (by decide +kernel)
          have d6 : curF wr.heap.size k u1 c 6 (a.tmps.getD 18 undef) wx := hdeps 6 (by decide +kernel)
          have d9 : curF wr.heap.size k u1 c 9 (a.tmps.getD 21 undef) wx := hdeps 9 (by decide +kernel)
          have d12 : curF wr.heap.size k u1 c 12 (a.tmps.getD 24 undef) wx := hdeps 12 (by decide +kernel)
          have d15 : curF wr.heap.size k u1 c 15 (a.tmps.getD 27 undef) wx := hdeps 15 (by decide +kernel)
          have d18 : curF wr.heap.size k u1 c 18 (a.tmps.getD 30 undef) wx := hdeps 18 (by decide +kernel)
          have d21 : curF wr.heap.size k u1 c 21 (a.tmps.getD 33 undef) wx := hdeps 21 (by decide +kernel)
          have d24 : curF wr.heap.size k u1 c 24 (a.tmps.getD 36 undef) wx := hdeps 24 (by decide +kernel)
          have d27 : curF wr.heap.size k u1 c 27 (a.tmps.getD 39 undef) wx := hdeps 27 (by decide +kernel)
          clear hdeps hold hda hsz
          obtain ⟨z4, e4⟩ := d4
          obtain ⟨z6, e6⟩ := d6
          obtain ⟨oo, lo, co, e9⟩ := d9
          rw [Array.getD_eq_getD_getElem?] at e4 e6 e9
          obtain ⟨b0, f0, x0⟩ := d12
          rw [Array.getD_eq_getD_getElem?] at f0
          obtain ⟨b1, f1, x1⟩ := d15
          rw [Array.getD_eq_getD_getElem?] at f1
          obtain ⟨b2, f2, x2⟩ := d18
          rw [Array.getD_eq_getD_getElem?] at f2
          obtain ⟨b3, f3, x3⟩ := d21
          rw [Array.getD_eq_getD_getElem?] at f3
          obtain ⟨b4, f4, x4⟩ := d24
          rw [Array.getD_eq_getD_getElem?] at f4
          obtain ⟨b5, f5, x5⟩ := d27
          rw [Array.getD_eq_getD_getElem?] at f5
          go_simp
          exact hK _ _ (Below.refl _ _) ⟨z4, z6, oo, lo, co, _, _, _, _, _, _, rfl, ⟨b0, rfl, x0⟩, ⟨b1, rfl, x1⟩, ⟨b2, rfl, x2⟩, ⟨b3, rfl, x3⟩, ⟨b4, rfl, x4⟩, ⟨b5, rfl, x5⟩⟩
        · simp only [List.getElem?_toArray, List.getElem?_cons_succ, List.getElem?_cons_zero, Option.some.injEq] at ho
          subst ho
          have d28 : curF wr.heap.size k u1 c 28 (a.tmps.getD 40 undef) wx := hdeps 28 (by decide +kernel)
          clear hdeps hold hda hsz
          obtain ⟨g1, g2, oo, lo, co, vp, va, vb, vx, vy, vn, e1, h1, h2, h3, h4, h5, h6⟩ := d28
          rw [Array.getD_eq_getD_getElem?] at e1
          go_simp
          exact hK _ _ ((Below.refl _ _).alloc (Nat.le_refl _) _) ⟨_, _, _, rfl, heap_alloc_new _ _, CuN.keep ⟨g1, g2, oo, lo, co, vp, va, vb, vx, vy, vn, rfl, h1, h2, h3, h4, h5, h6⟩ ((Below.refl _ _).alloc (Nat.le_refl _) _)⟩
      case rest =>
        intro listed a wx hI hall
        rw [hI.list (by decide) hall]
        have f0 : a.tmps.getD 12 undef = u1 := hI.facts 0 (by omega) (hall 0 (by omega))
        obtain ⟨g, t, cs, e29, h29, hcu⟩ := hI.facts 29 (by omega) (hall 29 (by omega))
        have e29' : a.tmps.getD 41 undef = .slice (some ⟨g, 0, none⟩) 1 1 := e29
        obtain ⟨hown, hcl, hb⟩ := HO.out
        obtain ⟨ci1, ci2, ci3, ci4, ci5⟩ := HCI.out
        have hbx : Below wr.heap.size wr wx := HW6.out.2.trans ((Below.refl _ _).drew.trans hI.below |>.mono HW6.out.2.size)
        have hownx : wx.ownsRow w.heap.size 29 9 u1 k xs := by
          refine hown.kept (row := none) ⟨hbx.os, hbx.tape, hbx.output, hbx.size, fun j hj _ => hbx.block j hj⟩ ?_
          cases h : u1.ownBlock with
          | none => exact .inl rfl
          | some g => exact .inr (by simp)
        refine wpAny_ready (rs := [30]) (by kernel_rfl) (by simp) (AllReady.cons rfl (fun K hK => ?_) AllReady.nil)
        have hcu2 := hcu
        obtain ⟨g1, g2, oo, lo, co, vp, va, vb, vx, vy, vn, e, ⟨q1, rfl, _⟩, ⟨q2, rfl, _⟩, ⟨q3, rfl, _⟩, ⟨q4, rfl, _⟩, ⟨q5, rfl, _⟩, ⟨q6, rfl, _⟩⟩ := hcu2
        injection e with e
        have hlen : cs.toList.length = 1 * 9 := by rw [e]; rfl
        have hone : ∀ u ∈ cs.toList, u.oneCell' = true := by
          rw [e]
          simp [Value.oneCell']
        have hbase : w.heap.size ≤ wx.heap.size := Nat.le_trans hb.size hbx.size
        refine step_append_lies wx rfl (.tmp 12) (.tmp 41) 31 rfl w.heap.size 29 ci cz 9 184 Try.underlying31 ci1 ci2 ci3 ci4 ci5 (by decide) u1 k xs f0 hownx ⟨g, 0, none⟩ 1 1 cs.toList e29' hlen (World.news_of_block h29) hone (by decide) (by unfold maxLen; omega) (by omega) hbase _ rfl ?_
        intro g' cap w' ho hg hat hlt
        refine hK _ _ ?_
        clear hK K
        refine wpAny_ready (rs := [31]) (by kernel_rfl) (by simp) (AllReady.cons rfl (fun K hK => ?_) AllReady.nil)
        rw [if_pos (by rfl)]
        obtain ⟨a2, ha2⟩ : ∃ a2, a.put (some 42) (.slice (some ⟨g', 0, none⟩) (k + 1) cap) = a2 := ⟨_, rfl⟩
        have hsz : a.tmps.size = 45 := hI.slots
        have e42 : a2.tmps.getD 42 undef = .slice (some ⟨g', 0, none⟩) (k + 1) cap := by rw [← ha2]; exact put_self _ _ _ (by rw [hsz]; decide)
        show Oper.wp _ _ (a.put (some 42) (.slice (some ⟨g', 0, none⟩) (k + 1) cap)) _ _ _
        rw [ha2]
        have HD : Hid (a2.defers = [] ∧ a2.tmps.size = 45 ∧ (∀ s, s < 12 → s ≠ 1 → a2.tmps.getD s undef = [.slice none 0 0, u1, .int .i64 k, .pointer (some ⟨wr.heap.size, 0, none⟩), .agg #[.int .u64 251, .int .u64 1, .int .u64 4, .int .u64 7, .int .u64 75, .int .u64 271], .agg #[.int .u64 10007, .int .u64 1, .int .u64 28, .int .u64 2, .int .u64 4582, .int .u64 9851], .agg #[.int .u64 65521, .int .u64 1, .int .u64 35, .int .u64 2, .int .u64 29470, .int .u64 65761], .agg #[.int .u64 251, .int .u64 1, .int .u64 4, .int .u64 7, .int .u64 75, .int .u64 271, .int .u64 10007, .int .u64 1, .int .u64 28, .int .u64 2, .int .u64 4582, .int .u64 9851, .int .u64 65521, .int .u64 1, .int .u64 35, .int .u64 2, .int .u64 29470, .int .u64 65761], .int .i64 k, .bool (decide ((k : Int) < 3)), .int .i64 k, .agg #[.int .u64 c.p, .int .u64 c.a, .int .u64 c.b, .int .u64 c.gx, .int .u64 c.gy, .int .u64 c.n]].getD s undef) ∧ a2.tmps.getD 44 undef = undef) := by
          rw [← ha2]
          refine ⟨hI.defers, by simp [Act.put, hsz], fun s hs hs1 => ?_, (put_get _ _ _ _ (by decide)).trans (hI.old 44 (by decide +kernel))⟩
          rw [put_get _ _ _ _ (by omega)]
          match s, hs with
          | 0, _ => exact hI.old 0 (by decide +kernel)
          | 1, _ => exact absurd rfl hs1
          | 2, _ => exact hI.old 2 (by decide +kernel)
          | 3, _ => exact hI.old 3 (by decide +kernel)
          | 4, _ => exact hI.old 4 (by decide +kernel)
          | 5, _ => exact hI.old 5 (by decide +kernel)
          | 6, _ => exact hI.old 6 (by decide +kernel)
          | 7, _ => exact hI.old 7 (by decide +kernel)
          | 8, _ => exact hI.old 8 (by decide +kernel)
          | 9, _ => exact hI.old 9 (by decide +kernel)
          | 10, _ => exact hI.old 10 (by decide +kernel)
          | 11, _ => exact hI.old 11 (by decide +kernel)
        clear ha2
        go_simp
        refine hK _ _ (wpAny_done (by kernel_rfl) ?_ _)
        obtain ⟨d1, d2, d3, d4⟩ := HD.out
        refine ⟨rfl, d1, by simp [d2], fun s hs hs1 => ?_, (put_get a2 1 44 _ (by decide)).trans d4, g', cap, cs, ?_, ho, ⟨fun j hj => ?_, ?_⟩, ?_⟩
        · rw [← d3 s hs hs1]
          exact put_get a2 1 s _ (fun h => hs1 h.symm)
        · exact put_self a2 1 _ (by rw [d2]; decide)
        · exact ((hcl j hj).keep hbx).grown hownx hg
        · exact hcu.grown hownx hg
        · have h1 := hb.trans (hbx.mono hb.size)
          refine ⟨hg.os.trans h1.os, hg.tape.trans h1.tape, hg.output.trans h1.output, Nat.le_trans h1.size hg.size, fun j hj => (hg.block j (by have := h1.size; omega) ?_).trans (h1.block j hj)⟩
          intro e
          have := (hownx.lt j e.symm).1
          omega
      rintro e ⟨tm, df⟩ W' ⟨rfl, hd, hsz, hsl, h44, g, cap, cs, h1, ho, ⟨hcl, hcu⟩, hb'⟩
      have hd' : df = [] := hd
      subst hd'
      have e2 : tm = #[tm.getD 0 undef, tm.getD 1 undef, tm.getD 2 undef, tm.getD 3 undef, tm.getD 4 undef, tm.getD 5 undef, tm.getD 6 undef, tm.getD 7 undef, tm.getD 8 undef, tm.getD 9 undef, tm.getD 10 undef, tm.getD 11 undef, tm.getD 12 undef, tm.getD 13 undef, tm.getD 14 undef, tm.getD 15 undef, tm.getD 16 undef, tm.getD 17 undef, tm.getD 18 undef, tm.getD 19 undef, tm.getD 20 undef, tm.getD 21 undef, tm.getD 22 undef, tm.getD 23 undef, tm.getD 24 undef, tm.getD 25 undef, tm.getD 26 undef, tm.getD 27 undef, tm.getD 28 undef, tm.getD 29 undef, tm.getD 30 undef, tm.getD 31 undef, tm.getD 32 undef, tm.getD 33 undef, tm.getD 34 undef, tm.getD 35 undef, tm.getD 36 undef, tm.getD 37 undef, tm.getD 38 undef, tm.getD 39 undef, tm.getD 40 undef, tm.getD 41 undef, tm.getD 42 undef, tm.getD 43 undef, tm.getD 44 undef] := arr_of tm 45 hsz
      have s0 : tm.getD 0 undef = .slice none 0 0 := hsl 0 (by decide) (by decide)
      have h1' : tm.getD 1 undef = .slice (some ⟨g, 0, none⟩) (k + 1) cap := h1
      have s2 : tm.getD 2 undef = .int .i64 k := hsl 2 (by decide) (by decide)
      have s3 : tm.getD 3 undef = .pointer (some ⟨wr.heap.size, 0, none⟩) := hsl 3 (by decide) (by decide)
      have s4 : tm.getD 4 undef = .agg #[.int .u64 251, .int .u64 1, .int .u64 4, .int .u64 7, .int .u64 75, .int .u64 271] := hsl 4 (by decide) (by decide)
      have s5 : tm.getD 5 undef = .agg #[.int .u64 10007, .int .u64 1, .int .u64 28, .int .u64 2, .int .u64 4582, .int .u64 9851] := hsl 5 (by decide) (by decide)
      have s6 : tm.getD 6 undef = .agg #[.int .u64 65521, .int .u64 1, .int .u64 35, .int .u64 2, .int .u64 29470, .int .u64 65761] := hsl 6 (by decide) (by decide)
      have s7 : tm.getD 7 undef = .agg #[.int .u64 251, .int .u64 1, .int .u64 4, .int .u64 7, .int .u64 75, .int .u64 271, .int .u64 10007, .int .u64 1, .int .u64 28, .int .u64 2, .int .u64 4582, .int .u64 9851, .int .u64 65521, .int .u64 1, .int .u64 35, .int .u64 2, .int .u64 29470, .int .u64 65761] := hsl 7 (by decide) (by decide)
      have s8 : tm.getD 8 undef = .int .i64 k := hsl 8 (by decide) (by decide)
      have s9 : tm.getD 9 undef = .bool (decide ((k : Int) < 3)) := hsl 9 (by decide) (by decide)
      have s10 : tm.getD 10 undef = .int .i64 k := hsl 10 (by decide) (by decide)
      have s11 : tm.getD 11 undef = .agg #[.int .u64 c.p, .int .u64 c.a, .int .u64 c.b, .int .u64 c.gx, .int .u64 c.gy, .int .u64 c.n] := hsl 11 (by decide) (by decide)
      have s44 : tm.getD 44 undef = undef := h44
      simp only [s0, s2, s3, s4, s5, s6, s7, s8, s9, s10, s11, h1', s44] at e2
      generalize tm.getD 12 undef = x12 at e2
      generalize tm.getD 13 undef = x13 at e2
      generalize tm.getD 14 undef = x14 at e2
      generalize tm.getD 15 undef = x15 at e2
      generalize tm.getD 16 undef = x16 at e2
      generalize tm.getD 17 undef = x17 at e2
      generalize tm.getD 18 undef = x18 at e2
      generalize tm.getD 19 undef = x19 at e2
      generalize tm.getD 20 undef = x20 at e2
      generalize tm.getD 21 undef = x21 at e2
      generalize tm.getD 22 undef = x22 at e2
      generalize tm.getD 23 undef = x23 at e2
      generalize tm.getD 24 undef = x24 at e2
      generalize tm.getD 25 undef = x25 at e2
      generalize tm.getD 26 undef = x26 at e2
      generalize tm.getD 27 undef = x27 at e2
      generalize tm.getD 28 undef = x28 at e2
      generalize tm.getD 29 undef = x29 at e2
      generalize tm.getD 30 undef = x30 at e2
      generalize tm.getD 31 undef = x31 at e2
      generalize tm.getD 32 undef = x32 at e2
      generalize tm.getD 33 undef = x33 at e2
      generalize tm.getD 34 undef = x34 at e2
      generalize tm.getD 35 undef = x35 at e2
      generalize tm.getD 36 undef = x36 at e2
      generalize tm.getD 37 undef = x37 at e2
      generalize tm.getD 38 undef = x38 at e2
      generalize tm.getD 39 undef = x39 at e2
      generalize tm.getD 40 undef = x40 at e2
      generalize tm.getD 41 undef = x41 at e2
      generalize tm.getD 42 undef = x42 at e2
      generalize tm.getD 43 undef = x43 at e2
      rw [e2]
      have HX : Hid (W'.ownsRow w.heap.size 29 9 (.slice (some ⟨g, 0, none⟩) (k + 1) cap) (k + 1) (xs ++ cs.toList) ∧ CuL W' (k + 1) (xs ++ cs.toList) ∧ Below w.heap.size w W') := ⟨ho, CuL.push hcl HO.out.1.1 (by rw [HC.out]; exact hcu), hb'⟩
      clear e2 hd hsz hsl h44 s44 h1 h1' ho hcl hcu hb' HO HW6 HIk s0 s2 s3 s4 s5 s6 s7 s8 s9 s10 s11
      go_wp2
      go_roundw
      case rel => exact ⟨k + 1, _, by omega, by go_num, HX.out⟩
      case measure => simp [intOf]; omega
    · obtain rfl : k = 3 := by omega
      have HX : Hid (_ ∧ _ ∧ _) := ⟨hown, hcl, hb⟩
      obtain ⟨g, cap, rfl, _, _⟩ := hown.form (by decide)
      clear hown hcl hb
      go_wp2
      go_ret
      exact ⟨_, xs, rfl, HX.out⟩
end Go.Proofs.Ytcobbbamocdbbaa
/-
  The three curves are right ones; a point that is on the curve.
-/
namespace Go.Proofs.Ytcobbbamocdbbaa
set_option linter.unusedVariables false
set_option linter.unusedSimpArgs false

/-- A prime: no divisor up to the root. -/
theorem prime_root {P : Nat} (h : ∀ d, 2 ≤ d → d * d ≤ P → P % d ≠ 0) : PrimeN P := by
  refine prime_of fun a ha h0 => ?_
  obtain ⟨k, hk⟩ := Nat.gcd_dvd_left P a
  have hg : Nat.gcd P a ≤ a := Nat.le_of_dvd (by omega) (Nat.gcd_dvd_right P a)
  have hp : 0 < Nat.gcd P a := Nat.gcd_pos_of_pos_right _ (by omega)
  generalize Nat.gcd P a = g at *
  rcases Nat.lt_or_ge g 2 with h2 | h2
  · omega
  · exfalso
    have hk2 : 2 ≤ k := by
      rcases k with _ | _ | k
      · rw [Nat.mul_zero] at hk; omega
      · rw [Nat.mul_one] at hk; omega
      · omega
    rcases Nat.le_total g k with hgk | hgk
    · refine h g h2 ?_ ?_
      · rw [hk]; exact Nat.mul_le_mul (Nat.le_refl _) hgk
      · rw [hk]; exact Nat.mul_mod_right g k
    · refine h k hk2 ?_ ?_
      · rw [hk]; exact Nat.mul_le_mul hgk (Nat.le_refl _)
      · rw [hk]; exact Nat.mul_mod_left g k
theorem prime_below {P : Nat} (hP : P < 65536) (h : ∀ d, d < 256 → 2 ≤ d → P % d ≠ 0 ∨ P < d * d) : PrimeN P := by
  refine prime_root fun d h2 hd => ?_
  have hl : d < 256 := by
    rcases Nat.lt_or_ge d 256 with h3 | h3
    · exact h3
    · have := Nat.mul_le_mul h3 h3
      omega
  rcases h d hl h2 with h4 | h4
  · exact h4
  · omega
section
variable {P : Nat} [NeZero P] {K : Cz}
/-- A sum with its slope. -/
def addL (A : Fin P) (p q : Fin P × Fin P) (l : Fin P) : Option (Fin P × Fin P) := if q.2 - p.2 = l * (q.1 - p.1) ∧ l * (p.2 + q.2) = p.1 * p.1 + p.1 * q.1 + q.1 * q.1 + A ∧ ¬ (p.1 = q.1 ∧ p.2 + q.2 = 0) then some (l * l - p.1 - q.1, l * (p.1 - (l * l - p.1 - q.1)) - p.2) else none
theorem addL_sum {A : Fin P} {p q r : Fin P × Fin P} {l : Fin P} (h : addL A p q l = some r) : SumR A (some p) (some q) (some r) := by
  unfold addL at h
  split at h
  · rename_i hc
    injection h with h
    obtain ⟨px, py⟩ := p
    obtain ⟨qx, qy⟩ := q
    exact .inr ⟨hc.2.2, l, _, _, ⟨hc.1, hc.2.1⟩, rfl, rfl, by rw [← h]⟩
  · cases h
/-- Steps: twice, and one more. -/
def runL (A : Fin P) (G : Fin P × Fin P) : List (Bool × Fin P) → Nat → Fin P × Fin P → Option (Nat × (Fin P × Fin P))
  | [], m, p => some (m, p)
  | (true, l) :: r, m, p => match addL A p p l with
    | some q => runL A G r (m + m) q
    | none => none
  | (false, l) :: r, m, p => match addL A p G l with
    | some q => runL A G r (m + 1) q
    | none => none
theorem runL_tm (D : Dom P) (I : Invs P) {A B : Fin P} (S : Smooth A B) {G : Fin P × Fin P} (hG : OnR A B (some G)) : ∀ (l : List (Bool × Fin P)) (m : Nat) (p : Fin P × Fin P) (m' : Nat) (p' : Fin P × Fin P), Tm A (some G) m (some p) → runL A G l m p = some (m', p') → Tm A (some G) m' (some p')
  | [], m, p, m', p', h, hr => by
    unfold runL at hr
    injection hr with hr
    injection hr with h1 h2
    rw [← h1, ← h2]
    exact h
  | (true, l) :: r, m, p, m', p', h, hr => by
    unfold runL at hr
    cases ha : addL A p p l with
    | none => rw [ha] at hr; cases hr
    | some q =>
      rw [ha] at hr
      exact runL_tm D I S hG r (m + m) q m' p' (Tm.add D I S hG m _ h m _ _ h (addL_sum ha)) hr
  | (false, l) :: r, m, p, m', p', h, hr => by
    unfold runL at hr
    cases ha : addL A p G l with
    | none => rw [ha] at hr; cases hr
    | some q =>
      rw [ha] at hr
      exact runL_tm D I S hG r (m + 1) q m' p' ⟨_, h, addL_sum ha⟩ hr
theorem tm_end {A : Fin P} {G p : Fin P × Fin P} {m : Nat} (h : Tm A (some G) m (some p)) (h1 : p.1 = G.1) (h2 : p.2 + G.2 = 0) : Tm A (some G) (m + 1) none := by
  obtain ⟨px, py⟩ := p
  obtain ⟨gx, gy⟩ := G
  exact ⟨_, h, .inl ⟨h1, h2, rfl⟩⟩
/-- A right curve, its point and how often it comes back. -/
structure RightK (K : Cz) (P N : Nat) [NeZero P] : Prop where
  good : GoodK K P
  base : Gd K P (baseZ K)
  ord : Mt K P (baseZ K) N noZ
  n : K.n = (N : Int)
theorem right_of (hp : PrimeN P) (ho : P % 2 = 1) (hK : K.p = (P : Int)) (hs : ¬ (4 : Fin P) * (fp P K.a * fp P K.a * fp P K.a) + 27 * (fp P K.b * fp P K.b) = 0) (hx : 0 ≤ K.gx ∧ K.gx < P ∧ 0 ≤ K.gy ∧ K.gy < P) (hon : fp P K.gy * fp P K.gy = fp P K.gx * fp P K.gx * fp P K.gx + fp P K.a * fp P K.gx + fp P K.b) (l : List (Bool × Fin P)) (m : Nat) (q : Fin P × Fin P) (hr : runL (fp P K.a) (fp P K.gx, fp P K.gy) l 1 (fp P K.gx, fp P K.gy) = some (m, q)) (h1 : q.1 = fp P K.gx) (h2 : q.2 + fp P K.gy = 0) (hn : K.n = ((m + 1 : Nat) : Int)) : RightK K P (m + 1) := by
  have hS := smooth_of hs
  have hb : ptR P (baseZ K) = some (fp P K.gx, fp P K.gy) := by unfold ptR baseZ; rw [if_neg (by simp)]
  have hon2 : OnR (fp P K.a) (fp P K.b) (some (fp P K.gx, fp P K.gy)) := hon
  have hG : Gd K P (baseZ K) := ⟨by unfold RdP baseZ; rw [if_neg (by simp)]; exact hx, by rw [hb]; exact hon2⟩
  refine ⟨⟨hK, hp, ho, hS⟩, hG, ⟨RdP.no, ?_⟩, hn⟩
  rw [ptR_no, hb]
  exact tm_end (runL_tm (dom_fin hp ho) (invs_fin hp) hS hon2 l 1 _ m q ⟨none, rfl, rfl⟩ hr) h1 h2
/-- On the curve. -/
theorem on_good (g : GoodK K P) {p : Pz} (h : Gd K P p) : onB K p = true := by
  have hP := ppos P
  obtain ⟨hr, ho⟩ := h
  unfold onB
  have h0 : K.p ≠ 0 := by rw [g.p]; omega
  unfold RdP at hr
  cases hi : p.inf with
  | true => simp [h0]
  | false =>
    rw [hi, if_neg (by simp)] at hr
    have e : ptR P p = some (fp P p.x, fp P p.y) := by unfold ptR; rw [hi, if_neg (by simp)]
    rw [e] at ho
    have ho2 : fp P p.y * fp P p.y = fp P p.x * fp P p.x * fp P p.x + fp P K.a * fp P p.x + fp P K.b := ho
    have e2 : fp P (rightZ K p.x) = fp P p.x * fp P p.x * fp P p.x + fp P K.a * fp P p.x + fp P K.b := by
      unfold rightZ
      rw [g.p]
      simp only [fp_mod, fp_mul, fp_add]
      grind
    rw [← fp_mul, ← e2, fp_eq] at ho2
    have e3 : rightZ K p.x % P = rightZ K p.x := by
      unfold rightZ
      rw [g.p, Int.emod_emod]
    rw [e3] at ho2
    have h1 : p.x < K.p := by rw [g.p]; exact hr.2.1
    have h2 : p.y < K.p := by rw [g.p]; exact hr.2.2.2
    have h3 : (p.y * p.y) % K.p = rightZ K p.x := by rw [g.p]; exact ho2
    simp [h0, h1, h2, h3]
end
theorem prime0 : PrimeN 251 := prime_below (by decide) (by decide +kernel)
theorem right0 : RightK (curZ 0) 251 271 :=
  right_of (K := curZ 0) (P := 251) prime0 (by decide) rfl (by decide +kernel) (by decide) (by decide +kernel) [(true, 88), (true, 71), (true, 218), (true, 25), (true, 184), (false, 212), (true, 110), (false, 24), (true, 226), (false, 19), (true, 179)] 270 (7, 176) (by decide +kernel) (by decide +kernel) (by decide +kernel) rfl
theorem prime1 : PrimeN 10007 := prime_below (by decide) (by decide +kernel)
theorem right1 : RightK (curZ 1) 10007 9851 :=
  right_of (K := curZ 1) (P := 10007) prime1 (by decide) rfl (by decide +kernel) (by decide) (by decide +kernel) [(true, 7894), (true, 7106), (true, 6381), (false, 3253), (true, 5988), (false, 6168), (true, 41), (true, 2020), (true, 8353), (false, 6217), (true, 7711), (false, 7511), (true, 9968), (false, 9252), (true, 2663), (false, 1707), (true, 6207), (true, 7954), (false, 9950), (true, 2455)] 9850 (2, 5425) (by decide +kernel) (by decide +kernel) (by decide +kernel) rfl
theorem prime2 : PrimeN 65521 := prime_below (by decide) (by decide +kernel)
theorem right2 : RightK (curZ 2) 65521 65761 :=
  right_of (K := curZ 2) (P := 65521) prime2 (by decide) rfl (by decide +kernel) (by decide) (by decide +kernel) [(true, 18817), (true, 30502), (true, 48961), (true, 1840), (true, 29070), (true, 50334), (true, 21585), (true, 14561), (true, 20990), (false, 35079), (true, 21204), (false, 43150), (true, 4380), (false, 35337), (true, 22097), (true, 15959), (true, 26250), (true, 12344), (true, 55072)] 65760 (2, 36051) (by decide +kernel) (by decide +kernel) (by decide +kernel) rfl
end Go.Proofs.Ytcobbbamocdbbaa
/-
  One of the laws' three curves.
-/
namespace Go.Proofs.Ytcobbbamocdbbaa
open Go.Shelf Go.RowKit
set_option linter.unusedVariables false
set_option linter.unusedSimpArgs false

theorem curZ_lim (j : Nat) : (0 ≤ (curZ j).p ∧ (curZ j).p < 18446744073709551616) ∧ (0 ≤ (curZ j).a ∧ (curZ j).a < 18446744073709551616) ∧ (0 ≤ (curZ j).b ∧ (curZ j).b < 18446744073709551616) ∧ (0 ≤ (curZ j).gx ∧ (curZ j).gx < 18446744073709551616) ∧ (0 ≤ (curZ j).gy ∧ (curZ j).gy < 18446744073709551616) ∧ (0 ≤ (curZ j).n ∧ (curZ j).n < 18446744073709551616) := by
  unfold curZ
  split <;> decide
theorem CuN.cu {W : World} {v : Value} {j : Nat} (h : CuN W v (curZ j)) : Cu W v (curZ j) 1 := by
  obtain ⟨g1, g2, oo, lo, co, vp, va, vb, vx, vy, vn, e, h1, h2, h3, h4, h5, h6⟩ := h
  obtain ⟨l1, l2, l3, l4, l5, l6⟩ := curZ_lim j
  exact ⟨g1, g2, oo, lo, co, vp, va, vb, vx, vy, vn, e, h1.nv l1, h2.nv l2, h3.nv l3, h4.nv l4, h5.nv l5, h6.nv l6⟩
/-- The cells of a curve. -/
structure CuAt (W : World) (g o : Nat) (g1 g2 : Int) (oo : Option Addr) (lo co : Nat) (b0 b1 b2 b3 b4 b5 : Nat) : Prop where
  c0 : W.cell? ⟨g, o, none⟩ = some (.int .i64 g1)
  c1 : W.cell? ⟨g, o + 1, none⟩ = some (.int .i64 g2)
  c2 : W.cell? ⟨g, o + 2, none⟩ = some (.slice oo lo co)
  c3 : W.cell? ⟨g, o + 3, none⟩ = some (.slice (some ⟨b0, 0, none⟩) 1 1)
  c4 : W.cell? ⟨g, o + 4, none⟩ = some (.slice (some ⟨b1, 0, none⟩) 1 1)
  c5 : W.cell? ⟨g, o + 5, none⟩ = some (.slice (some ⟨b2, 0, none⟩) 1 1)
  c6 : W.cell? ⟨g, o + 6, none⟩ = some (.slice (some ⟨b3, 0, none⟩) 1 1)
  c7 : W.cell? ⟨g, o + 7, none⟩ = some (.slice (some ⟨b4, 0, none⟩) 1 1)
  c8 : W.cell? ⟨g, o + 8, none⟩ = some (.slice (some ⟨b5, 0, none⟩) 1 1)
abbrev curV (g1 g2 : Int) (oo : Option Addr) (lo co : Nat) (b0 b1 b2 b3 b4 b5 : Nat) : Value := .agg #[.int .i64 g1, .int .i64 g2, .slice oo lo co, .slice (some ⟨b0, 0, none⟩) 1 1, .slice (some ⟨b1, 0, none⟩) 1 1, .slice (some ⟨b2, 0, none⟩) 1 1, .slice (some ⟨b3, 0, none⟩) 1 1, .slice (some ⟨b4, 0, none⟩) 1 1, .slice (some ⟨b5, 0, none⟩) 1 1]
theorem cur_at {W : World} {base : Nat} {v : Value} {xs : List Value} (ho : W.ownsRow base 29 9 v 3 xs) (hl : CuL W 3 xs) : ∃ g cap, v = .slice (some ⟨g, 0, none⟩) 3 cap ∧ 3 ≤ cap ∧ cap ≤ maxLen ∧ ∀ j, j < 3 → ∃ g1 g2 oo lo co b0 b1 b2 b3 b4 b5, CuAt W g (9 * j) g1 g2 oo lo co b0 b1 b2 b3 b4 b5 ∧ Cu W (curV g1 g2 oo lo co b0 b1 b2 b3 b4 b5) (curZ j) 1 := by
  obtain ⟨g, cap, rfl, hb, hlt⟩ := ho.form (by decide)
  have hcap : 3 ≤ cap ∧ cap ≤ maxLen := by
    rcases ho.2 with ⟨h, _⟩ | ⟨g', cap', cur, h, _, _, h1, h2, _⟩
    · cases h
    · cases h; exact ⟨h1, h2⟩
  refine ⟨g, cap, rfl, hcap.1, hcap.2, fun j hj => ?_⟩
  have h := hl j hj
  have hcu := h.cu
  obtain ⟨g1, g2, oo, lo, co, vp, va, vb, vx, vy, vn, e, ⟨b0, rfl, _⟩, ⟨b1, rfl, _⟩, ⟨b2, rfl, _⟩, ⟨b3, rfl, _⟩, ⟨b4, rfl, _⟩, ⟨b5, rfl, _⟩⟩ := h
  rw [e] at hcu
  refine ⟨g1, g2, oo, lo, co, b0, b1, b2, b3, b4, b5, ?_, hcu⟩
  injection e with e
  have e2 : (xs.drop (9 * j)).take 9 = [.int .i64 g1, .int .i64 g2, .slice oo lo co, .slice (some ⟨b0, 0, none⟩) 1 1, .slice (some ⟨b1, 0, none⟩) 1 1, .slice (some ⟨b2, 0, none⟩) 1 1, .slice (some ⟨b3, 0, none⟩) 1 1, .slice (some ⟨b4, 0, none⟩) 1 1, .slice (some ⟨b5, 0, none⟩) 1 1] := congrArg Array.toList e
  have hc : ∀ i, i < 9 → W.cell? ⟨g, 9 * j + i, none⟩ = ((xs.drop (9 * j)).take 9)[i]? := fun i hi => by
    rw [ho.cellAt (9 * j + i) (by omega), List.getElem?_take, if_pos hi, List.getElem?_drop]
  rw [e2] at hc
  exact ⟨hc 0 (by decide), hc 1 (by decide), hc 2 (by decide), hc 3 (by decide), hc 4 (by decide), hc 5 (by decide), hc 6 (by decide), hc 7 (by decide), hc 8 (by decide)⟩
theorem CuAt.keep {W W' : World} {g o : Nat} {g1 g2 : Int} {oo : Option Addr} {lo co b0 b1 b2 b3 b4 b5 : Nat} (h : CuAt W g o g1 g2 oo lo co b0 b1 b2 b3 b4 b5) (hb : Below W.heap.size W W') : CuAt W' g o g1 g2 oo lo co b0 b1 b2 b3 b4 b5 := by
  have hk : ∀ (i : Nat) (x : Value), W.cell? ⟨g, i, none⟩ = some x → W'.cell? ⟨g, i, none⟩ = some x := fun i x hx => (hb.cell (p := ⟨g, i, none⟩) (World.block_lt_of_cell? W _ hx)).trans hx
  exact ⟨hk _ _ h.c0, hk _ _ h.c1, hk _ _ h.c2, hk _ _ h.c3, hk _ _ h.c4, hk _ _ h.c5, hk _ _ h.c6, hk _ _ h.c7, hk _ _ h.c8⟩
end Go.Proofs.Ytcobbbamocdbbaa
