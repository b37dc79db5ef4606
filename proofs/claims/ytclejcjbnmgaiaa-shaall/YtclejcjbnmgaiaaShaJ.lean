/-
  Arrays compared; contract of Awake (layer 3).
-/
import Derived.Test.YtclejcjbnmgaiaaShaO
namespace Go.Proofs.Ytclejcjbnmgaiaa
open Go.RowKit
set_option linter.unusedVariables false
set_option linter.unusedSimpArgs false
attribute [local go_sem ↓] keep_l8 keep_l64 keep_s8

theorem Try.und24 : Try.prog.underlying 24 = some (.array 32 5) := Try.underlying24
theorem eq_loop (d : Nat) (xs : List Int) (w : World) : ∀ (l : List Nat), (∀ i ∈ l, i < xs.length) →
    (forIn l ((none, ()) : Option Bool × Unit) fun i r => do
      if !(← Op.equalIn (d + 1) 5 (← part 5 ((xs.map (Value.int .u8)).toArray) (i * 1)) (← part 5 ((xs.map (Value.int .u8)).toArray) (i * 1))) then (pure (ForInStep.done (some false, ())) : Sem (ForInStep (Option Bool × Unit))) else pure (ForInStep.yield (none, ()))).run Try.prog w = .ok (none, ()) w
  | [], _ => by simp
  | i :: l, h => by
    have hi := h i (by simp)
    have ih := eq_loop d xs w l (fun j hj => h j (by simp [hj]))
    have hp : (part 5 ((xs.map (Value.int .u8)).toArray) (i * 1)).run Try.prog w = .ok (.int .u8 xs[i]) w := by
      simp [part, Try.isAgg5, hi]
    simp only [List.forIn_cons, Sem.run_bind, hp, Result.andThen_ok, run_equalIn_int w d 5 .u8 .u8 _ _ Try.underlying5, beq_self_eq_true, Bool.not_true, Bool.false_eq_true, if_false, Sem.run_pure]
    exact ih
theorem eq_arr' (d : Nat) (xs : List Int) (hl : xs.length = 32) (w : World) : (Op.equalIn (d + 1 + 1) 24 (ag .u8 xs) (ag .u8 xs)).run Try.prog w = .ok true w := by
  have h := eq_loop d xs w (List.range' 0 32) (fun i hi => by rw [hl]; simpa using hi)
  unfold ag
  rw [Op.equalIn]
  simp only [Sem.run_bind, run_underlying Try.und24, Result.andThen_ok, Try.sizeOf5]
  rw [Std.Legacy.Range.forIn_eq_forIn_range']
  have e : (List.range' ([:32] : Std.Legacy.Range).start ([:32] : Std.Legacy.Range).size ([:32] : Std.Legacy.Range).step) = List.range' 0 32 := rfl
  rw [e, h]
  rfl
/-- Two arrays that are the same, compared. -/
theorem wpList_eql_ag {w : World} {ops : Array Oper} {rest : List Oper} {o : Oper} {a : Act} {Q : Exit → Act → World → Prop} (hgd : o.guard = none) (x y : Operand) (ty : TypeId) (hop : o.op = Op.binOp .eql 24 x y ty) (xs : List Int) (hl : xs.length = 32) (hx : a.eval x = ag .u8 xs) (hy : a.eval y = ag .u8 xs)
    (h : wpList Try.prog ops Q rest (a.put o.dst (.bool true)) w) : wpList Try.prog ops Q (o :: rest) a w := by
  refine wpList_plain hgd fun K hK => ?_
  have h1 := run_eqGuard_agg (P := Try.prog) w .eql 24 x y ((xs.map (Value.int .u8)).toArray) ((xs.map (Value.int .u8)).toArray) Try.eqGuardType24
  have h2 := run_eql_struct (P := Try.prog) w 24 ((xs.map (Value.int .u8)).toArray) ((xs.map (Value.int .u8)).toArray)
  have h3 := eq_arr' 9998 xs hl w
  unfold ag at h3 hx hy
  rw [h3] at h2
  unfold Oper.wp execOp
  simp only [hop, hx, hy, Sem.run_bind, h1, Result.andThen_ok, h2, Sem.run_pure]
  exact hK _ _ h

theorem Try.arrayLen32 : Try.prog.arrayLen 24 = 32 := by kernel_rfl
theorem Try.elem32 : Try.prog.elem 24 = 5 := by kernel_rfl
theorem Try.und32 : Try.prog.underlying 24 = some (.array (Try.prog.arrayLen 24) (Try.prog.elem 24)) := by rw [Try.arrayLen32, Try.elem32]; exact Try.underlying24
theorem slice_8 (g : Nat) (w : World) : (Instr.sliceAt 24 (.pointer (some ⟨g, 0, none⟩)) none (some (.int .i64 8)) none).run Try.prog w = .ok (.slice (some ⟨g, 0, none⟩) 8 32) w := by
  rw [run_sliceAt_array_h (t := 24) _ _ Try.und32 _ _ (by decide) (by rw [Try.arrayLen32]; decide), Try.arrayLen32, Try.elem32, Try.sizeOf5]
  simp [Result.andThen_ok, slicedAt, Addr.add]
theorem conv8 (g : Nat) (w : World) (xs : List Int) (h : Row 24 .u8 w g xs) (hl : 8 ≤ xs.length) : (convert 22 9 (.slice (some ⟨g, 0, none⟩) 8 32)).run Try.prog w = .ok (.string (strOfNums (xs.take 8))) w := by
  refine conv_bytes w 22 9 5 Try.underlying22 Try.underlying5 Try.underlying9 _ 8 32 _ ?_
  have := h.lies 0 8 (by omega)
  simpa using this

theorem shaS_length (l : List Int) : (shaS l).length = 32 := by unfold shaS; exact spreadS_length _

/-- Bytes of a constant text. -/
theorem conv_same (cs : Array Value) (n : Nat) (hn : cs.size = n) (w : World) : (convert 22 22 (.slice (some ⟨w.heap.size, 0, none⟩) n n)).run Try.prog (w.alloc (.cells cs 5)) = .ok (.slice (some ⟨w.heap.size, 0, none⟩) n n) (w.alloc (.cells cs 5 (n, n + 1))) := by
  have hsh : (w.alloc (.cells cs 5)).shape? w.heap.size = some (5, n) := by
    unfold World.shape?
    rw [heap_alloc_new w]
    simp [hn]
  have hfr : (w.alloc (.cells cs 5)).freeze ⟨w.heap.size, n, none⟩ 1 = w.alloc (.cells cs 5 (n, n + 1)) := by
    simp only [World.freeze, World.alloc]
    simp only [Nat.one_ne_zero, if_false]
    congr 1
    apply Array.ext_getElem?
    intro i
    rw [Array.getElem?_modify]
    by_cases h : w.heap.size = i
    · subst h
      simp
    · have h' : ¬ i = w.heap.size := fun e => h e.symm
      simp [h, h', Array.getElem?_push]
  simp [convert, run_underlying Try.underlying22, run_underlying Try.underlying5, markStringish, hsh, hfr]
theorem lies_frozen (e : TypeId) (xs : List Int) (n : Nat) (hn : xs.length = n) (fr : Nat × Nat) (w : World) : Lies .u8 (w.alloc (.cells ((xs.map (Value.int .u8)).toArray) e fr)) (some ⟨w.heap.size, 0, none⟩) n xs := by
  refine ⟨hn, .inr ⟨w.heap.size, 0, rfl, by simp, fun i hi => ?_⟩⟩
  rw [cell_of_row _ w.heap.size _ _ e fr (heap_alloc_new w _)]
  simp [List.getD, show i < xs.length by omega]
theorem strA : strOfNums [0xe3, 0xb0, 0xc4, 0x42, 0x98, 0xfc, 0x1c, 0x14] = ⟨#[227, 176, 196, 66, 152, 252, 28, 20]⟩ := rfl
theorem strB : strOfNums [0xba, 0x78, 0x16, 0xbf, 0x8f, 0x01, 0xcf, 0xea] = ⟨#[186, 120, 22, 191, 143, 1, 207, 234]⟩ := rfl

set_option maxRecDepth 100000 in
set_option maxHeartbeats 2000000 in
/-- Awake. -/
theorem SAwake_any (w : World) : Calls Try.prog 6 #[] w fun e w' => e = .returned (.bool true) ∧ Below w.heap.size w w' := by
  have HO1 := fun w => HOf_any [] none 0 0 w (Dg.nil _) (Lies.empty _ _ _) (Nat.le_refl _) (by unfold maxLen; omega) (fun _ => rfl) (by omega) (fun b off s e => by cases e)
  have HO2 := HOf_any [97, 98, 99]
  have hl1 := shaS_length []
  have hl2 := shaS_length [97, 98, 99]
  have HK1 : Hid ((shaS []).take 8 = [0xe3, 0xb0, 0xc4, 0x42, 0x98, 0xfc, 0x1c, 0x14] ∧ (shaS [97, 98, 99]).take 8 = [0xba, 0x78, 0x16, 0xbf, 0x8f, 0x01, 0xcf, 0xea]) := ⟨sha_nil, sha_abc⟩
  generalize shaS [] = s1 at *
  generalize shaS [97, 98, 99] = s2 at *
  go_enter Try.func6, Try.ntmps6
  go_wp2_with fail
  refine (HO1 _).mono ?_
  rintro e w1 ⟨rfl, hb1⟩
  have hcv := conv_same #[.int .u8 97, .int .u8 98, .int .u8 99] 3 rfl w1
  go_wp2_with fail
  refine (HO2 (some ⟨w1.heap.size, 0, none⟩) 3 3 _ (fun x hx => by simp at hx; omega) (lies_frozen 5 [97, 98, 99] 3 rfl (3, 4) w1) (Nat.le_refl _) (by unfold maxLen; omega) (fun h => by cases h) (by omega) (fun b off s e => by cases e; simp)).mono ?_
  rintro e w2 ⟨rfl, hb2⟩
  have HB2 : Hid (Below w.heap.size w w2) := hb1.trans (((below_alloc w1 _).mono hb1.size).trans (hb2.mono (by have := hb1.size; simp; omega)))
  clear hb1 hb2 HO1 HO2 hcv
  have hS8 := slice_8
  go_wp2_with (first
    | ((with_reducible show wpList _ _ _ (Oper.mk _ (Op.alloc _) _ _ _ _ :: _) _ _); refine wpList_alloc_row (w := w2) (by with_reducible rfl) 24 (by with_reducible rfl) .u8 32 Try.infoB32 ?_; intro w3 hr3 hb3 hs3)
    | ((with_reducible show wpList _ _ _ (Oper.mk _ (Op.alloc _) _ _ _ _ :: _) _ _); refine wpList_alloc_row (w := w3) (by with_reducible rfl) 24 (by with_reducible rfl) .u8 32 Try.infoB32 ?_; intro w4 hr4 hb4 hs4)
    | ((with_reducible show wpList _ _ _ (Oper.mk _ (Op.store _ _ _) _ _ _ _ :: _) _ _); refine wpList_store_nums (w := w4) (by with_reducible rfl) 24 _ _ (by with_reducible rfl) .u8 24 32 Try.sizeB32 w2.heap.size (List.replicate 32 0) s1 (by rfl) (by rfl) (hr3.below hb4 (by omega)) (by simp) hl1 ?_; intro w5 hr5 hb5 hs5 ho5)
    | ((with_reducible show wpList _ _ _ (Oper.mk _ (Op.store _ _ _) _ _ _ _ :: _) _ _); refine wpList_store_nums (w := w5) (by with_reducible rfl) 24 _ _ (by with_reducible rfl) .u8 24 32 Try.sizeB32 w3.heap.size (List.replicate 32 0) s2 (by rfl) (by rfl) (by unfold Row; rw [ho5 _ (by omega)]; exact hr4) (by simp) hl2 ?_; intro w6 hr6 hb6 hs6 ho6; have hc1 := conv8 w2.heap.size w6 s1 (by unfold Row; rw [ho6 _ (by omega)]; exact hr5) (by omega); have hc2 := conv8 w3.heap.size w6 s2 hr6 (by omega); rw [HK1.out.1, strA] at hc1; rw [HK1.out.2, strB] at hc2; rw [hs3] at hc2))
  go_ret
  exact ⟨rfl, HB2.out.trans ((hb3.mono HB2.out.size).trans ((hb4.mono (by have := HB2.out.size; omega)).trans ((hb5.mono HB2.out.size).trans (hb6.mono (by have := HB2.out.size; omega)))))⟩
end Go.Proofs.Ytclejcjbnmgaiaa
