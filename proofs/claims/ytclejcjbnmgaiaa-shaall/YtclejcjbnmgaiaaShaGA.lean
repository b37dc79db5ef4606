/-
  Contract of the document's Sum.
-/
import Derived.Test.YtclejcjbnmgaiaaShaF
import Derived.Test.YtclejcjbnmgaiaaShaJ
import Derived.BigRegion
import Derived.RangeFuncRecord
namespace Go.Proofs.Ytclejcjbnmgaiaa
open Go.RowKit
set_option linter.unusedVariables false
set_option linter.unusedSimpArgs false
attribute [local go_sem ↓] keep_l8 keep_l64 keep_s8 keep_l32 keep_s32

theorem Try.infoB' : (Try.prog.info? 5).map (fun i => (i.zero, i.size, i.bytes)) = some (some (.int .u8 0), 1, 1) := by kernel_rfl
theorem pad8_succ (n j : Nat) (h : j < 8) : (pad8 n).take (j + 1) = (pad8 n).take j ++ [(8 * n : Int) / 2 ^ (8 * (7 - j)) % 256] := by
  rw [List.take_succ_eq_append_getElem (by rw [pad8_length]; exact h)]
  have e := pad8_get n j h
  have e2 : (pad8 n).getD j 0 = (pad8 n)[j]'(by rw [pad8_length]; exact h) := by simp [List.getD, pad8_length, h]
  rw [← e2, e, show 56 - 8 * j = 8 * (7 - j) by omega]

/-- The words of a block, i of them. -/
def WP (b : List Int) (i : Nat) (cur : List Int) : Prop := (i ≤ 16 → SchA b i 0 cur) ∧ (16 ≤ i → SchB b i cur)
theorem WP.zero (b : List Int) : WP b 0 (List.replicate 64 0) := ⟨fun _ => SchA.zero b, fun h => by omega⟩
theorem WP.low {b cur : List Int} {i : Nat} (h : SchA b i 4 cur) (hi : i < 16) : WP b (i + 1) cur := ⟨fun _ => h.next, fun h16 => by
  have := h.next
  rw [show i + 1 = 16 by omega] at this ⊢
  exact this.done⟩
theorem WP.high {b cur : List Int} {i : Nat} (h : WP b i cur) (h1 : 16 ≤ i) (h2 : i < 64) : WP b (i + 1) (cur.set i (wNext cur i)) := ⟨fun h16 => by omega, fun _ => (h.2 h1).step h1 h2⟩
theorem WP.length {b cur : List Int} {i : Nat} (h : WP b i cur) : cur.length = 64 := by
  by_cases h1 : i ≤ 16
  · exact (h.1 h1).1
  · exact (h.2 (by omega)).1
theorem Row.drew {e : TypeId} {k : IntKind} {w : World} {g : Nat} {xs : List Int} (h : Row e k w g xs) : Row e k w.drew g xs := h
/-- The eight words, as a list. -/
def lst (s : S8) : List Int := [s.a, s.b, s.c, s.d, s.e, s.f, s.g, s.h]
theorem lst_s8 (l : List Int) (h : l.length = 8) : lst (s8 l) = l := by
  match l, h with
  | [a, b, c, d, e, f, g, i], _ => rfl
theorem addS_get (hs : List Int) (s : S8) (i : Nat) (h : i < 8) : (addS hs s).getD i 0 = (hs.getD i 0 + (lst s).getD i 0) % 4294967296 := by
  have : i = 0 ∨ i = 1 ∨ i = 2 ∨ i = 3 ∨ i = 4 ∨ i = 5 ∨ i = 6 ∨ i = 7 := by omega
  rcases this with rfl | rfl | rfl | rfl | rfl | rfl | rfl | rfl <;> rfl
/-- The words with their old values added, i of them. -/
def AddP (hs : List Int) (s : S8) (i : Nat) (cur : List Int) : Prop := cur.length = 8 ∧ (∀ j, j < i → cur.getD j 0 = (addS hs s).getD j 0) ∧ ∀ j, i ≤ j → cur.getD j 0 = hs.getD j 0
theorem AddP.zero {hs : List Int} (s : S8) (h : hs.length = 8) : AddP hs s 0 hs := ⟨h, fun j hj => by omega, fun j _ => rfl⟩
theorem AddP.step {hs cur : List Int} {s : S8} {i : Nat} (h : AddP hs s i cur) (hi : i < 8) : AddP hs s (i + 1) (cur.set i ((cur.getD i 0 + (lst s).getD i 0) % 4294967296)) := by
  refine ⟨by simpa using h.1, fun j hj => ?_, fun j hj => ?_⟩
  · by_cases e : j = i
    · subst e
      rw [getD_set_same _ _ _ (by rw [h.1]; exact hi), h.2.2 j (Nat.le_refl _), addS_get hs s j hi]
    · rw [getD_set_other _ _ _ _ (fun e' => e e'.symm)]; exact h.2.1 j (by omega)
  · rw [getD_set_other _ _ _ _ (by omega)]; exact h.2.2 j (by omega)
theorem AddP.done {hs cur : List Int} {s : S8} (h : AddP hs s 8 cur) : cur = addS hs s :=
  ext_getD _ _ (by rw [h.1]; rfl) fun j hj => h.2.1 j (by rw [h.1] at hj; exact hj)
theorem cell_alloc {w : World} {a : Addr} {v : Value} (o : Obj) (h : w.cell? a = some v) : (w.alloc o).cell? a = some v := by
  rw [World.cell?_alloc_lt _ _ _ (World.block_lt_of_cell? w _ h)]; exact h
/-- A slice of the call's own, opened. -/
theorem Own.open {e : TypeId} {k : IntKind} {w : World} {base : Nat} {v : Value} {xs : List Int} (h : Own e k w base v xs) : ∃ ao cap, v = .slice ao xs.length cap ∧ xs.length ≤ cap ∧ cap ≤ maxLen := by
  rcases h.2 with ⟨rfl, h0⟩ | ⟨g, cap, cur, rfl, hg, hrow, h1, h2, h3, h4⟩
  · exact ⟨none, 0, by rw [h0], by omega, by simp [maxLen]⟩
  · exact ⟨_, cap, rfl, h1, h2⟩

theorem ownAt_alloc (e : TypeId) (k : IntKind) (w : World) (cs : Array Value) (xs : List Int) (n : Nat) (h : cs.toList = xs.map (Value.int k)) (hn : xs.length = n) (hl : n ≤ maxLen) : OwnAt e k (w.alloc (.cells cs e)) w.heap.size n xs := by
  subst hn
  refine ⟨⟨cs, World.alloc_heap_new w _, ?_, ?_⟩, Nat.le_refl _, hl⟩
  · rw [h, List.take_of_length_le (by simp)]
  · rw [← Array.length_toList, h, List.length_map]

/-- The loops of a code, the outer ones first. -/
def loopsOf : Code → List Code
  | .seq a b => loopsOf a ++ loopsOf b
  | .cond _ a b => loopsOf a ++ loopsOf b
  | .block _ c => loopsOf c
  | .loop c => c :: loopsOf c
  | .scope c => loopsOf c
  | .rangeFunc _ _ a b => loopsOf a ++ loopsOf b
  | _ => []
theorem inBlock_exit (id : Nat) (Q : Exit → Act → World → Prop) (a : Act) (w : World) : Exit.inBlock id Q (.exit id) a w = Q .normal a w := if_pos rfl
end Go.Proofs.Ytclejcjbnmgaiaa
