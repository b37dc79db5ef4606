import Derived.Test.YtnacgkkklmlhaaaK10
import Derived.Test.YtnacgkkklmlhaaaK04
import Derived.Deep.RegionHeld3
import Derived.Test.YtnacgkkklmlhaaaK05
import Derived.BigRegion
import Derived.RangeFuncRecord
/-
  Contract of (*sha.Hash).putBlocks.
-/
namespace Go.Proofs.Ytnacgkkklmlhaaa
open Go.RowKit
set_option linter.unusedVariables false
set_option linter.unusedSimpArgs false


theorem Try.sizeB : (Try.prog.info? 5).map (·.size) = some 1 := by kernel_rfl

theorem Row.range {e : TypeId} {k : IntKind} {w : World} {g : Nat} {xs : List Int} (h : Row e k w g xs) : w.rangeAt g 0 (xs.map (Value.int k)) := fun j v hv => by
  have hj : j < xs.length := by have := (List.getElem?_eq_some_iff.1 hv).1; rw [List.length_map] at this; exact this
  rw [Nat.zero_add, h.cell j hj, ← hv]
  simp [List.getD, hj]
/-- b[m:]. -/
theorem lies_cut (b off len cap m : Nat) (bs : List Int) (hlc : len ≤ cap) (hm : m ≤ len) : ∃ A : Addr, (if cap = m then some (⟨b, off, none⟩ : Addr) else some ⟨b, off + m, none⟩) = some A ∧ Hid (∀ wx, Lies .u8 wx (some ⟨b, off, none⟩) len bs → Lies .u8 wx (some A) (len - m) (bs.drop m) ∧ A.block = b ∧ A.spot = none) := by
  by_cases h : cap = m
  · refine ⟨⟨b, off, none⟩, by rw [if_pos h], fun wx hl => ⟨⟨by rw [List.length_drop, hl.1], .inl (by omega)⟩, rfl, rfl⟩⟩
  · refine ⟨⟨b, off + m, none⟩, by rw [if_neg h], fun wx hl => ⟨⟨by rw [List.length_drop, hl.1], ?_⟩, rfl, rfl⟩⟩
    by_cases h0 : len - m = 0
    · exact .inl h0
    · obtain ⟨b', off', e, hlt, hc⟩ := hl.at (by omega)
      cases e
      refine .inr ⟨b, off + m, rfl, hlt, fun i hi => ?_⟩
      rw [Nat.add_assoc, hc (m + i) (by omega)]
      simp [List.getD, List.getElem?_drop]

end Go.Proofs.Ytnacgkkklmlhaaa
/-
  Contracts of sha.New, Put, Sum, Of; nil ones.
-/
namespace Go.Proofs.Ytnacgkkklmlhaaa
open Go.RowKit
set_option linter.unusedVariables false
set_option linter.unusedSimpArgs false
attribute [local go_sem ↓] keep_s32
end Go.Proofs.Ytnacgkkklmlhaaa
/-
  Contracts of sha.New, Sum, Of.
-/
namespace Go.Proofs.Ytnacgkkklmlhaaa
open Go.RowKit
set_option linter.unusedVariables false
set_option linter.unusedSimpArgs false

theorem holds_nil (ws rs : List Int) (hr : Dg 256 rs) : Holds [] ws rs := ⟨fun h => by simp at h, rfl, hr, Dg.nil _, by simp⟩
def zeroC : List Value := HC 0 (List.replicate 8 0) (List.replicate 64 0)
theorem Try.builtB : Try.prog.built 47 [] = some (((List.replicate 32 (0 : Int)).map (Value.int .u8)).toArray) := by kernel_rfl
theorem gap_len (n : Nat) : (n + (gapN n + 9)) % 64 = 0 ∧ 64 ≤ n + (gapN n + 9) := by unfold gapN; omega

theorem lies_row {e : TypeId} {w : World} {g : Nat} {xs : List Int} {n : Nat} (h : Row e .u8 w g xs) (hn : xs.length = n) : Lies .u8 w (some ⟨g, 0, none⟩) n xs := by
  have := h.lies 0 xs.length (by omega)
  rw [hn] at this
  simpa [hn, List.take_of_length_le (show xs.length ≤ n by omega)] using this

end Go.Proofs.Ytnacgkkklmlhaaa
/-
  Arrays compared; contract of Awake (layer 3).
-/
namespace Go.Proofs.Ytnacgkkklmlhaaa
open Go.RowKit
set_option linter.unusedVariables false
set_option linter.unusedSimpArgs false

theorem Try.und24 : Try.prog.underlying 47 = some (.array 32 5) := Try.underlying47
theorem eq_loop (d : Nat) (xs : List Int) (w : World) : ∀ (l : List Nat), (∀ i ∈ l, i < xs.length) →
    (forIn l ((none, ()) : Option Bool × Unit) fun i r => do
      if !(← Op.equalIn (d + 1) 5 (← part 5 ((xs.map (Value.int .u8)).toArray) (i * 1)) (← part 5 ((xs.map (Value.int .u8)).toArray) (i * 1))) then (pure (ForInStep.done (some false, ())) : Sem (ForInStep (Option Bool × Unit))) else pure (ForInStep.yield (none, ()))).run Try.prog w = .ok (none, ()) w
  | [], _ => by simp
  | i :: l, h => by
    have hi := h i (by simp)
    have ih := eq_loop d xs w l (fun j hj => h j (by simp [hj]))
    have hp : (part 5 ((xs.map (Value.int .u8)).toArray) (i * 1)).run Try.prog w = .ok (.int .u8 xs[i]) w := by
      simp [part, Try.isAgg5, hi]
    simp only [List.forIn_cons, Sem.run_bind, hp, Result.andThen_ok, run_equalIn_int w d 5 .u8 .u8 _ _ Try.underlying5, beq_self_eq_true, Bool.not_true, Bool.false_eq_true, if_false, Sem.run_pure]
    exact ih
theorem eq_arr' (d : Nat) (xs : List Int) (hl : xs.length = 32) (w : World) : (Op.equalIn (d + 1 + 1) 47 (ag .u8 xs) (ag .u8 xs)).run Try.prog w = .ok true w := by
  have h := eq_loop d xs w (List.range' 0 32) (fun i hi => by rw [hl]; simpa using hi)
  unfold ag
  rw [Op.equalIn]
  simp only [Sem.run_bind, run_underlying Try.und24, Result.andThen_ok, Try.sizeOf5]
  rw [Std.Legacy.Range.forIn_eq_forIn_range']
  have e : (List.range' ([:32] : Std.Legacy.Range).start ([:32] : Std.Legacy.Range).size ([:32] : Std.Legacy.Range).step) = List.range' 0 32 := rfl
  rw [e, h]
  rfl
/-- Two arrays that are the same, compared. -/
theorem wpList_eql_ag {w : World} {ops : Array Oper} {rest : List Oper} {o : Oper} {a : Act} {Q : Exit → Act → World → Prop} (hgd : o.guard = none) (x y : Operand) (ty : TypeId) (hop : o.op = Op.binOp .eql 47 x y ty) (xs : List Int) (hl : xs.length = 32) (hx : a.eval x = ag .u8 xs) (hy : a.eval y = ag .u8 xs)
    (h : wpList Try.prog ops Q rest (a.put o.dst (.bool true)) w) : wpList Try.prog ops Q (o :: rest) a w := by
  refine wpList_plain hgd fun K hK => ?_
  have h1 := run_eqGuard_agg (P := Try.prog) w .eql 47 x y ((xs.map (Value.int .u8)).toArray) ((xs.map (Value.int .u8)).toArray) Try.eqGuardType47
  have h2 := run_eql_struct (P := Try.prog) w 47 ((xs.map (Value.int .u8)).toArray) ((xs.map (Value.int .u8)).toArray)
  have h3 := eq_arr' 9998 xs hl w
  unfold ag at h3 hx hy
  rw [h3] at h2
  unfold Oper.wp execOp
  simp only [hop, hx, hy, Sem.run_bind, h1, Result.andThen_ok, h2, Sem.run_pure]
  exact hK _ _ h

theorem Try.arrayLen32 : Try.prog.arrayLen 47 = 32 := by kernel_rfl
theorem Try.elem32 : Try.prog.elem 47 = 5 := by kernel_rfl
theorem Try.und32 : Try.prog.underlying 47 = some (.array (Try.prog.arrayLen 47) (Try.prog.elem 47)) := by rw [Try.arrayLen32, Try.elem32]; exact Try.underlying47
theorem slice_8 (g : Nat) (w : World) : (Instr.sliceAt 47 (.pointer (some ⟨g, 0, none⟩)) none (some (.int .i64 8)) none).run Try.prog w = .ok (.slice (some ⟨g, 0, none⟩) 8 32) w := by
  rw [run_sliceAt_array_h (t := 47) _ _ Try.und32 _ _ (by decide) (by rw [Try.arrayLen32]; decide), Try.arrayLen32, Try.elem32, Try.sizeOf5]
  simp [Result.andThen_ok, slicedAt, Addr.add]
theorem conv8 (g : Nat) (w : World) (xs : List Int) (h : Row 47 .u8 w g xs) (hl : 8 ≤ xs.length) : (convert 48 9 (.slice (some ⟨g, 0, none⟩) 8 32)).run Try.prog w = .ok (.string (strOfNums (xs.take 8))) w := by
  refine conv_bytes w 48 9 5 Try.underlying48 Try.underlying5 Try.underlying9 _ 8 32 _ ?_
  have := h.lies 0 8 (by omega)
  simpa using this

theorem shaS_length (l : List Int) : (shaS l).length = 32 := by unfold shaS; exact spreadS_length _

/-- Bytes of a constant text. -/
theorem conv_same (cs : Array Value) (n : Nat) (hn : cs.size = n) (w : World) : (convert 48 48 (.slice (some ⟨w.heap.size, 0, none⟩) n n)).run Try.prog (w.alloc (.cells cs 5)) = .ok (.slice (some ⟨w.heap.size, 0, none⟩) n n) (w.alloc (.cells cs 5 (n, n + 1))) := by
  have hsh : (w.alloc (.cells cs 5)).shape? w.heap.size = some (5, n) := by
    unfold World.shape?
    rw [heap_alloc_new w]
    simp [hn]
  have hfr : (w.alloc (.cells cs 5)).freeze ⟨w.heap.size, n, none⟩ 1 = w.alloc (.cells cs 5 (n, n + 1)) := by
    simp only [World.freeze, World.alloc]
    simp only [Nat.one_ne_zero, if_false]
    congr 1
    apply Array.ext_getElem?
    intro i
    rw [Array.getElem?_modify]
    by_cases h : w.heap.size = i
    · subst h
      simp
    · have h' : ¬ i = w.heap.size := fun e => h e.symm
      simp [h, h', Array.getElem?_push]
  simp [convert, run_underlying Try.underlying48, run_underlying Try.underlying5, markStringish, hsh, hfr]
theorem lies_frozen (e : TypeId) (xs : List Int) (n : Nat) (hn : xs.length = n) (fr : Nat × Nat) (w : World) : Lies .u8 (w.alloc (.cells ((xs.map (Value.int .u8)).toArray) e fr)) (some ⟨w.heap.size, 0, none⟩) n xs := by
  refine ⟨hn, .inr ⟨w.heap.size, 0, rfl, by simp, fun i hi => ?_⟩⟩
  rw [cell_of_row _ w.heap.size _ _ e fr (heap_alloc_new w _)]
  simp [List.getD, show i < xs.length by omega]
theorem strA : strOfNums [0xe3, 0xb0, 0xc4, 0x42, 0x98, 0xfc, 0x1c, 0x14] = ⟨#[227, 176, 196, 66, 152, 252, 28, 20]⟩ := rfl
theorem strB : strOfNums [0xba, 0x78, 0x16, 0xbf, 0x8f, 0x01, 0xcf, 0xea] = ⟨#[186, 120, 22, 191, 143, 1, 207, 234]⟩ := rfl

end Go.Proofs.Ytnacgkkklmlhaaa
/-
  Contract of the document's Sum.
-/
namespace Go.Proofs.Ytnacgkkklmlhaaa
open Go.RowKit
set_option linter.unusedVariables false
set_option linter.unusedSimpArgs false
attribute [local go_sem ↓] keep_l32 keep_s32

theorem Try.infoB' : (Try.prog.info? 5).map (fun i => (i.zero, i.size, i.bytes)) = some (some (.int .u8 0), 1, 1) := by kernel_rfl
theorem pad8_succ (n j : Nat) (h : j < 8) : (pad8 n).take (j + 1) = (pad8 n).take j ++ [(8 * n : Int) / 2 ^ (8 * (7 - j)) % 256] := by
  rw [List.take_succ_eq_append_getElem (by rw [pad8_length]; exact h)]
  have e := pad8_get n j h
  have e2 : (pad8 n).getD j 0 = (pad8 n)[j]'(by rw [pad8_length]; exact h) := by simp [List.getD, pad8_length, h]
  rw [← e2, e, show 56 - 8 * j = 8 * (7 - j) by omega]

/-- The words of a block, i of them. -/
def WP (b : List Int) (i : Nat) (cur : List Int) : Prop := (i ≤ 16 → SchA b i 0 cur) ∧ (16 ≤ i → SchB b i cur)
theorem WP.zero (b : List Int) : WP b 0 (List.replicate 64 0) := ⟨fun _ => SchA.zero b, fun h => by omega⟩
theorem WP.low {b cur : List Int} {i : Nat} (h : SchA b i 4 cur) (hi : i < 16) : WP b (i + 1) cur := ⟨fun _ => h.next, fun h16 => by
  have := h.next
  rw [show i + 1 = 16 by omega] at this ⊢
  exact this.done⟩
theorem WP.high {b cur : List Int} {i : Nat} (h : WP b i cur) (h1 : 16 ≤ i) (h2 : i < 64) : WP b (i + 1) (cur.set i (wNext cur i)) := ⟨fun h16 => by omega, fun _ => (h.2 h1).step h1 h2⟩
theorem WP.length {b cur : List Int} {i : Nat} (h : WP b i cur) : cur.length = 64 := by
  by_cases h1 : i ≤ 16
  · exact (h.1 h1).1
  · exact (h.2 (by omega)).1
theorem Row.drew {e : TypeId} {k : IntKind} {w : World} {g : Nat} {xs : List Int} (h : Row e k w g xs) : Row e k w.drew g xs := h
/-- The eight words, as a list. -/
def lst (s : S8) : List Int := [s.a, s.b, s.c, s.d, s.e, s.f, s.g, s.h]
theorem lst_s8 (l : List Int) (h : l.length = 8) : lst (s8 l) = l := by
  match l, h with
  | [a, b, c, d, e, f, g, i], _ => rfl
theorem addS_get (hs : List Int) (s : S8) (i : Nat) (h : i < 8) : (addS hs s).getD i 0 = (hs.getD i 0 + (lst s).getD i 0) % 4294967296 := by
  have : i = 0 ∨ i = 1 ∨ i = 2 ∨ i = 3 ∨ i = 4 ∨ i = 5 ∨ i = 6 ∨ i = 7 := by omega
  rcases this with rfl | rfl | rfl | rfl | rfl | rfl | rfl | rfl <;> rfl
/-- The words with their old values added, i of them. -/
def AddP (hs : List Int) (s : S8) (i : Nat) (cur : List Int) : Prop := cur.length = 8 ∧ (∀ j, j < i → cur.getD j 0 = (addS hs s).getD j 0) ∧ ∀ j, i ≤ j → cur.getD j 0 = hs.getD j 0
theorem AddP.zero {hs : List Int} (s : S8) (h : hs.length = 8) : AddP hs s 0 hs := ⟨h, fun j hj => by omega, fun j _ => rfl⟩
theorem AddP.step {hs cur : List Int} {s : S8} {i : Nat} (h : AddP hs s i cur) (hi : i < 8) : AddP hs s (i + 1) (cur.set i ((cur.getD i 0 + (lst s).getD i 0) % 4294967296)) := by
  refine ⟨by simpa using h.1, fun j hj => ?_, fun j hj => ?_⟩
  · by_cases e : j = i
    · subst e
      rw [getD_set_same _ _ _ (by rw [h.1]; exact hi), h.2.2 j (Nat.le_refl _), addS_get hs s j hi]
    · rw [getD_set_other _ _ _ _ (fun e' => e e'.symm)]; exact h.2.1 j (by omega)
  · rw [getD_set_other _ _ _ _ (by omega)]; exact h.2.2 j (by omega)
theorem AddP.done {hs cur : List Int} {s : S8} (h : AddP hs s 8 cur) : cur = addS hs s :=
  ext_getD _ _ (by rw [h.1]; rfl) fun j hj => h.2.1 j (by rw [h.1] at hj; exact hj)
theorem cell_alloc {w : World} {a : Addr} {v : Value} (o : Obj) (h : w.cell? a = some v) : (w.alloc o).cell? a = some v := by
  rw [World.cell?_alloc_lt _ _ _ (World.block_lt_of_cell? w _ h)]; exact h
/-- A slice of the call's own, opened. -/
theorem Own.open {e : TypeId} {k : IntKind} {w : World} {base : Nat} {v : Value} {xs : List Int} (h : Own e k w base v xs) : ∃ ao cap, v = .slice ao xs.length cap ∧ xs.length ≤ cap ∧ cap ≤ maxLen := by
  rcases h.2 with ⟨rfl, h0⟩ | ⟨g, cap, cur, rfl, hg, hrow, h1, h2, h3, h4⟩
  · exact ⟨none, 0, by rw [h0], by omega, by simp [maxLen]⟩
  · exact ⟨_, cap, rfl, h1, h2⟩

theorem ownAt_alloc (e : TypeId) (k : IntKind) (w : World) (cs : Array Value) (xs : List Int) (n : Nat) (h : cs.toList = xs.map (Value.int k)) (hn : xs.length = n) (hl : n ≤ maxLen) : OwnAt e k (w.alloc (.cells cs e)) w.heap.size n xs := by
  subst hn
  refine ⟨⟨cs, World.alloc_heap_new w _, ?_, ?_⟩, Nat.le_refl _, hl⟩
  · rw [h, List.take_of_length_le (by simp)]
  · rw [← Array.length_toList, h, List.length_map]

/-- The loops of a code, the outer ones first. -/
def loopsOf : Code → List Code
  | .seq a b => loopsOf a ++ loopsOf b
  | .cond _ a b => loopsOf a ++ loopsOf b
  | .block _ c => loopsOf c
  | .loop c => c :: loopsOf c
  | .scope c => loopsOf c
  | .rangeFunc _ _ a b => loopsOf a ++ loopsOf b
  | _ => []
theorem inBlock_exit (id : Nat) (Q : Exit → Act → World → Prop) (a : Act) (w : World) : Exit.inBlock id Q (.exit id) a w = Q .normal a w := if_pos rfl
end Go.Proofs.Ytnacgkkklmlhaaa
