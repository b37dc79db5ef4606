/-
  Contracts of sha.New, Sum, Of.
-/
import Derived.Test.YtclejcjbnmgaiaaShaN
namespace Go.Proofs.Ytclejcjbnmgaiaa
open Go.RowKit
set_option linter.unusedVariables false
set_option linter.unusedSimpArgs false
attribute [local go_sem ↓] keep_l8 keep_l64 keep_s8

theorem holds_nil (ws rs : List Int) (hr : Dg 256 rs) : Holds [] ws rs := ⟨fun h => by simp at h, rfl, hr, Dg.nil _, by simp⟩
def zeroC : List Value := HC 0 (List.replicate 8 0) (List.replicate 64 0)
theorem Try.infoH : (Try.prog.info? 47).map (fun i => (i.zero, i.size)) = some (some (.agg zeroC.toArray), 73) := by kernel_rfl
theorem Try.sizeH : (Try.prog.info? 47).map (·.size) = some 73 := (zero_of_info Try.infoH).2
theorem Try.builtH : Try.prog.built 47 [] = some zeroC.toArray := by kernel_rfl
theorem Try.builtB : Try.prog.built 24 [] = some (((List.replicate 32 (0 : Int)).map (Value.int .u8)).toArray) := by kernel_rfl
theorem hrow_alloc (w : World) (n : Int) (ws rs : List Int) (hw : ws.length = 8) (hr : rs.length = 64) : HRow (w.alloc (.cells (HC n ws rs).toArray 47)) w.heap.size n ws rs := ⟨heap_alloc_new w _, hw, hr⟩

/-- var h Hash. -/
theorem wpList_alloc_hash {w : World} {ops : Array Oper} {rest : List Oper} {o : Oper} {a : Act} {Q : Exit → Act → World → Prop} (hgd : o.guard = none) (hop : o.op = Op.alloc 47)
    (hK : ∀ w', HRow w' w.heap.size 0 (List.replicate 8 0) (List.replicate 64 0) → Below w.heap.size w w' → w'.heap.size = w.heap.size + 1 → wpList Try.prog ops Q rest (a.put o.dst (.pointer (some ⟨w.heap.size, 0, none⟩))) w') :
    wpList Try.prog ops Q (o :: rest) a w := by
  refine wpList_plain hgd fun K hK' => ?_
  have hr := (zero_of_info Try.infoH).1 w
  unfold Oper.wp
  simp only [execOp, hop, Instr.alloc, Sem.run_bind, hr, Result.andThen_ok]
  exact hK' _ _ (hK (w.alloc (.cells zeroC.toArray 47)) (hrow_alloc w 0 _ _ (by simp) (by simp)) (below_alloc w _) (size_alloc' w _))
/-- &Hash{..}. -/
theorem wpList_box_hash {w : World} {ops : Array Oper} {rest : List Oper} {o : Oper} {a : Act} {Q : Exit → Act → World → Prop} (hgd : o.guard = none) (x : Operand) (hop : o.op = Op.box 47 x) (n : Int) (ws rs : List Int) (hx : a.eval x = .agg (HC n ws rs).toArray) (hw : ws.length = 8) (hr : rs.length = 64)
    (hK : ∀ w', HRow w' w.heap.size n ws rs → Below w.heap.size w w' → w'.heap.size = w.heap.size + 1 → wpList Try.prog ops Q rest (a.put o.dst (.pointer (some ⟨w.heap.size, 0, none⟩))) w') :
    wpList Try.prog ops Q (o :: rest) a w := by
  refine wpList_plain hgd fun K hK' => ?_
  unfold Oper.wp
  simp only [execOp, hop, hx, Instr.box, Sem.run_bind, Result.andThen_ok]
  exact hK' _ _ (hK (w.alloc (.cells (HC n ws rs).toArray 47)) (hrow_alloc w n ws rs hw hr) (below_alloc w _) (size_alloc' w _))
/-- *h, read. -/
theorem wpList_load_hash {w : World} {ops : Array Oper} {rest : List Oper} {o : Oper} {a : Act} {Q : Exit → Act → World → Prop} (hgd : o.guard = none) (x : Operand) (hop : o.op = Op.load 47 x) (g : Nat) (n : Int) (ws rs : List Int) (hx : a.eval x = .pointer (some ⟨g, 0, none⟩)) (hr : HRow w g n ws rs)
    (h : wpList Try.prog ops Q rest (a.put o.dst (.agg (HC n ws rs).toArray)) w) : wpList Try.prog ops Q (o :: rest) a w :=
  wpList_load_row hgd 47 x hop g hx 47 _ (0, 0) _ hr.blk Try.underlying47 rfl (by rw [Try.sizeH]; simp [HC_length, hr.lw, hr.lr]) h
/-- *h, written. -/
theorem wpList_store_hash {w : World} {ops : Array Oper} {rest : List Oper} {o : Oper} {a : Act} {Q : Exit → Act → World → Prop} (hgd : o.guard = none) (x y : Operand) (hop : o.op = Op.store 47 x y) (g : Nat) (n m : Int) (ws rs vs us : List Int) (hx : a.eval x = .pointer (some ⟨g, 0, none⟩)) (hy : a.eval y = .agg (HC m vs us).toArray) (hr : HRow w g n ws rs) (hv : vs.length = 8) (hu : us.length = 64)
    (hK : ∀ w', HRow w' g m vs us → But g w w' → w'.heap.size = w.heap.size → wpList Try.prog ops Q rest (a.put o.dst undef) w') : wpList Try.prog ops Q (o :: rest) a w :=
  wpList_store_row hgd 47 x y hop g _ hx hy 47 _ hr.blk (by rw [Try.sizeH]; simp [HC_length, hv, hu]) (by simp [HC_length, hr.lw, hr.lr, hv, hu])
    (Array.all_eq_true_iff_forall_mem.2 fun v hv => by
      simp only [HC, List.mem_toArray, List.mem_cons, List.mem_append, List.mem_map] at hv
      rcases hv with rfl | ⟨x, _, rfl⟩ | ⟨x, _, rfl⟩ <;> rfl)
    (hK _ ⟨setRow_heap w g _ _ _ (0, 0) hr.blk, hv, hu⟩ (But.setRow _ _ _) (by simp))

set_option maxRecDepth 100000 in
/-- New. -/
theorem New_any (w : World) : Calls Try.prog 9 #[] w fun e w' => e = .returned (.pointer (some ⟨w.heap.size, 0, none⟩)) ∧ HashAt w' w.heap.size [] ∧ Below w.heap.size w w' := by
  go_enter Try.func9, Try.ntmps9
  go_wp2_with (first
    | ((with_reducible show wpList _ _ _ (Oper.mk _ (Op.build _ _) _ _ _ _ :: _) _ _); refine wpList_build (by with_reducible rfl) 47 #[] (by with_reducible rfl) (by simp [Try.builtH]) ?_; simp only [List.map_toArray, List.map_nil, Try.builtH, Option.getD_some])
    | ((with_reducible show wpList _ _ _ (Oper.mk _ (Op.box _ _) _ _ _ _ :: _) _ _); refine wpList_box_hash (w := w) (by with_reducible rfl) _ (by with_reducible rfl) 0 (List.replicate 8 0) (List.replicate 64 0) (by rfl) (by simp) (by simp) ?_; intro w1 hr1 hb1 hs1))
  go_ret
  exact ⟨rfl, ⟨_, _, hr1, holds_nil _ _ (Dg.zeros (by decide) _)⟩, hb1⟩

theorem gap_len (n : Nat) : (n + (gapN n + 9)) % 64 = 0 ∧ 64 ≤ n + (gapN n + 9) := by unfold gapN; omega

theorem lies_row {e : TypeId} {w : World} {g : Nat} {xs : List Int} {n : Nat} (h : Row e .u8 w g xs) (hn : xs.length = n) : Lies .u8 w (some ⟨g, 0, none⟩) n xs := by
  have := h.lies 0 xs.length (by omega)
  rw [hn] at this
  simpa [hn, List.take_of_length_le (show xs.length ≤ n by omega)] using this

set_option maxRecDepth 100000 in
set_option maxHeartbeats 2000000 in
/-- Sum. -/
theorem Sum_any (g : Nat) (all : List Int) (w : World) (h : HashAt w g all) (hsm : all.length ≤ 900000000000000) :
    Calls Try.prog 11 #[.pointer (some ⟨g, 0, none⟩)] w fun e w' => e = .returned (ag .u8 (shaS all)) ∧ Below w.heap.size w w' := by
  obtain ⟨ws, rs, hh, ho⟩ := h
  obtain ⟨n, hn⟩ : ∃ n, all.length = n := ⟨_, rfl⟩
  rw [hn] at hh hsm
  have HEND := fun w => ending_any n w (by omega)
  have HPUT := fun g w ao len cap h hl hne hlc hcm hnn hq => Put_any g all (ending n) ao len cap w h
    (show Dg 256 (ending n) by
      unfold ending
      exact Dg.cons (by decide) ((Dg.zeros (by decide) _).append (fun x hx => by
        obtain ⟨i, _, rfl⟩ := List.mem_map.1 hx
        omega))) hl hne hlc hcm hnn hq
  have HSP := spread_any
  have hel := ending_length n
  obtain ⟨L, hL⟩ : ∃ L, gapN n + 9 = L := ⟨_, rfl⟩
  have HFIN : Hid (∀ ws5 rs5, Holds (all ++ ending n) ws5 rs5 → spreadS ws5 = shaS all) := fun ws5 rs5 h5 => by
    have hg := gap_len n
    unfold shaS
    rw [h5.words (by simp [hn, hel]; omega), hn]
  have hL73 : L ≤ 73 := by have : gapN n < 64 := Nat.mod_lt _ (by decide); omega
  rw [hL] at hel HEND
  have HH : Hid (HRow w g n ws rs ∧ Holds all ws rs ∧ all.length = n ∧ (ending n).length = L ∧ gapN n + 9 = L) := ⟨hh, ho, hn, hel, hL⟩
  clear hh ho hel hL hn
  go_enter Try.func11, Try.ntmps11
  go_wp2_with (first
    | ((with_reducible show wpList _ _ _ (Oper.mk _ (Op.alloc _) _ _ _ _ :: _) _ _); refine wpList_alloc_row (w := w) (by with_reducible rfl) 24 (by with_reducible rfl) .u8 32 Try.infoB32 ?_; intro w1 hr1 hb1 hs1; have hh1 : HRow w1 g n ws rs := HH.out.1.old hb1 HH.out.1.lt)
    | ((with_reducible show wpList _ _ _ (Oper.mk _ (Op.load _ _) _ _ _ _ :: _) _ _); refine wpList_load_hash (w := w1) (by with_reducible rfl) _ (by with_reducible rfl) g _ ws rs (by rfl) hh1 ?_)
    | ((with_reducible show wpList _ _ _ (Oper.mk _ (Op.alloc _) _ _ _ _ :: _) _ _); refine wpList_alloc_hash (w := w1) (by with_reducible rfl) (by with_reducible rfl) ?_; intro w2 hr2 hb2 hs2)
    | ((with_reducible show wpList _ _ _ (Oper.mk _ (Op.store _ _ _) _ _ _ _ :: _) _ _); refine wpList_store_hash (w := w2) (by with_reducible rfl) _ _ (by with_reducible rfl) w1.heap.size 0 n _ _ ws rs (by rfl) (by rfl) hr2 HH.out.1.lw HH.out.1.lr ?_; intro w3 hr3 hb3 hs3; have hc3 := ((hh1.old hb2 hh1.lt).but hb3 (by have := HH.out.1.lt; omega)).size))
  have HW3 : Hid (HRow w3 (w.heap.size + 1) n ws rs ∧ Row 24 .u8 w3 w.heap.size (List.replicate 32 0) ∧ Below w.heap.size w w3 ∧ w.heap.size + 2 ≤ w3.heap.size) := by
    refine ⟨by rw [← hs1]; exact hr3, hb3.row (hr1.below hb2 (by omega)) (by omega), ?_, by omega⟩
    exact hb1.trans ((hb2.mono (by omega)).trans (hb3.below (by omega) (by omega)))
  clear hr1 hb1 hh1 hr2 hb2 hs2 hr3 hb3 hs3 hs1
  refine (HEND w3).mono ?_
  rintro e w4 ⟨rfl, hr4, hb4⟩
  have HW4 : Hid (HashAt w4 (w.heap.size + 1) all ∧ Row 24 .u8 w4 w.heap.size (List.replicate 32 0) ∧ Below w.heap.size w w4 ∧ Lies .u8 w4 (some ⟨w3.heap.size, 0, none⟩) L (ending n) ∧ w.heap.size + 2 ≤ w4.heap.size ∧ w.heap.size + 2 ≤ w3.heap.size) := by
    obtain ⟨a1, a2, a3, a4⟩ := HW3.out
    obtain ⟨b1, b2, b3, b4, b5⟩ := HH.out
    exact ⟨⟨ws, rs, by rw [b3]; exact a1.old hb4 (by omega), b2⟩, a2.below hb4 (by omega), a3.trans (hb4.mono (by omega)), lies_row hr4 b4, by have := hb4.size; omega, a4⟩
  clear HW3 hr4 hb4 hc3 HEND
  go_wp2_with fail
  refine (HPUT (w.heap.size + 1) w4 (some ⟨w3.heap.size, 0, none⟩) L L HW4.out.1 HW4.out.2.2.2.1 (fun b off s e => by cases e; have := HW4.out.2.2.2.2.2; omega) (Nat.le_refl _) (by unfold maxLen; omega) (fun h => by cases h) (by have := HH.out.2.2.1; omega)).mono ?_
  rintro e w5 ⟨⟨v, rfl⟩, ⟨ws5, rs5, hh5, ho5⟩, hb5⟩
  have hld5 : (HLD 44 (.pointer (some ⟨w.heap.size + 1, 1, none⟩))).run Try.prog w5 = .ok (ag .u32 ws5) w5 := hh5.lda
  have HW5 : Hid (spreadS ws5 = shaS all ∧ ws5.length = 8 ∧ Row 24 .u8 w5 w.heap.size (List.replicate 32 0) ∧ Below w.heap.size w w5) := by
    obtain ⟨a1, a2, a3, a4, a5, a6⟩ := HW4.out
    exact ⟨HFIN.out _ _ ho5, hh5.lw, hb5.row a2 (by omega), a3.trans (hb5.below (by omega) (by omega))⟩
  clear HW4 hh5 ho5 hb5 HFIN HPUT
  have HSPL := fun w => HSP ws5 w HW5.out.2.1
  rw [HW5.out.1] at HSPL
  go_wp2_with fail
  refine (HSPL _).mono ?_
  rintro e w6 ⟨rfl, hb6⟩
  have hr6 := HW5.out.2.2.1.below hb6 (HW5.out.2.2.1).lt
  have hln : (shaS all).length = 32 := by unfold shaS; exact spreadS_length _
  go_wp2_with ((with_reducible show wpList _ _ _ (Oper.mk _ (Op.store _ _ _) _ _ _ _ :: _) _ _); refine wpList_store_nums (w := w6) (by with_reducible rfl) 24 _ _ (by with_reducible rfl) .u8 24 32 Try.sizeB32 _ (List.replicate 32 0) (shaS all) (by rfl) (by rfl) hr6 (by simp) hln ?_; intro w7 hr7 hb7 hs7 ho7)
  refine bodyPost_ret (v := ag .u8 (shaS all)) (results_nums rfl _ _ _ 24 5 .u8 32 _ rfl hr7 Try.underlying24 Try.sizeB32 hln) rfl ⟨rfl, HW5.out.2.2.2.trans ((hb6.mono (by have := HW5.out.2.2.2.size; omega)).trans hb7)⟩

set_option maxRecDepth 100000 in
set_option maxHeartbeats 2000000 in
/-- Sum of a nil one. -/
theorem Sum_nil (w : World) : Calls Try.prog 11 #[.pointer none] w fun e w' => e = .returned (ag .u8 (List.replicate 32 0)) ∧ Below w.heap.size w w' := by
  go_enter Try.func11, Try.ntmps11
  go_wp2_with (first
    | ((with_reducible show wpList _ _ _ (Oper.mk _ (Op.alloc _) _ _ _ _ :: _) _ _); refine wpList_alloc_row (w := w) (by with_reducible rfl) 24 (by with_reducible rfl) .u8 32 Try.infoB32 ?_; intro w1 hr1 hb1 hs1)
    | ((with_reducible show wpList _ _ _ (Oper.mk _ (Op.build _ _) _ _ _ _ :: _) _ _); refine wpList_build (by with_reducible rfl) 24 #[] (by with_reducible rfl) (by simp [Try.builtB]) ?_; simp only [List.map_toArray, List.map_nil, Try.builtB, Option.getD_some])
    | ((with_reducible show wpList _ _ _ (Oper.mk _ (Op.store _ _ _) _ _ _ _ :: _) _ _); refine wpList_store_nums (w := w1) (by with_reducible rfl) 24 _ _ (by with_reducible rfl) .u8 24 32 Try.sizeB32 _ (List.replicate 32 0) (List.replicate 32 0) (by rfl) (by rfl) hr1 (by simp) (by simp) ?_; intro w7 hr7 hb7 hs7 ho7))
  refine bodyPost_ret (v := ag .u8 (List.replicate 32 0)) (results_nums rfl _ _ _ 24 5 .u8 32 _ rfl hr7 Try.underlying24 Try.sizeB32 (by simp)) rfl ⟨rfl, hb1.trans hb7⟩

set_option maxRecDepth 100000 in
set_option maxHeartbeats 2000000 in
/-- Of. -/
theorem HOf_any (bs : List Int) (ao : Option Addr) (len cap : Nat) (w : World) (hd : Dg 256 bs) (hl : Lies .u8 w ao len bs) (hlc : len ≤ cap) (hcm : cap ≤ maxLen) (hnn : ao = none → cap = 0) (hsm : len ≤ 900000000000000) (hold : ∀ b off s, ao = some ⟨b, off, s⟩ → b < w.heap.size) :
    Calls Try.prog 7 #[.slice ao len cap] w fun e w' => e = .returned (ag .u8 (shaS bs)) ∧ Below w.heap.size w w' := by
  have HL : Hid (Lies .u8 w ao len bs ∧ (∀ b off s, ao = some ⟨b, off, s⟩ → b < w.heap.size)) := ⟨hl, hold⟩
  have HNEW := New_any
  clear hl hold
  go_enter Try.func7, Try.ntmps7
  go_wp2_with ((with_reducible show wpList _ _ _ (Oper.mk _ (Op.alloc _) _ _ _ _ :: _) _ _); refine wpList_alloc_row (w := w) (by with_reducible rfl) 24 (by with_reducible rfl) .u8 32 Try.infoB32 ?_; intro w1 hr1 hb1 hs1)
  refine (HNEW w1).mono ?_
  rintro e w2 ⟨rfl, hh2, hb2⟩
  have HW2 : Hid (HashAt w2 (w.heap.size + 1) [] ∧ Row 24 .u8 w2 w.heap.size (List.replicate 32 0) ∧ Below w.heap.size w w2 ∧ Lies .u8 w2 ao len bs) :=
    ⟨by rw [← hs1]; exact hh2, hr1.below hb2 (by omega), hb1.trans (hb2.mono (by omega)), (HL.out.1.old hb1).old hb2⟩
  clear hh2 hb2 hr1 hb1
  go_wp2_with fail
  refine (Put_any (w.heap.size + 1) [] bs ao len cap w2 HW2.out.1 hd HW2.out.2.2.2 (fun b off s e => by have := HL.out.2 b off s e; omega) hlc hcm hnn (by simp; omega)).mono ?_
  rintro e w3 ⟨⟨v, rfl⟩, hh3, hb3⟩
  rw [List.nil_append] at hh3
  have HW3 : Hid (HashAt w3 (w.heap.size + 1) bs ∧ Row 24 .u8 w3 w.heap.size (List.replicate 32 0) ∧ Below w.heap.size w w3) :=
    ⟨hh3, hb3.row HW2.out.2.1 (by omega), HW2.out.2.2.1.trans (hb3.below (by omega) HW2.out.2.2.1.size)⟩
  have hbl : bs.length ≤ 900000000000000 := by have := HL.out.1.len; omega
  clear HW2 hh3 hb3
  go_wp2_with fail
  refine (Sum_any (w.heap.size + 1) bs w3 HW3.out.1 hbl).mono ?_
  rintro e w6 ⟨rfl, hb6⟩
  have hr6 := HW3.out.2.1.below hb6 (HW3.out.2.1).lt
  have hln : (shaS bs).length = 32 := by unfold shaS; exact spreadS_length _
  go_wp2_with ((with_reducible show wpList _ _ _ (Oper.mk _ (Op.store _ _ _) _ _ _ _ :: _) _ _); refine wpList_store_nums (w := w6) (by with_reducible rfl) 24 _ _ (by with_reducible rfl) .u8 24 32 Try.sizeB32 _ (List.replicate 32 0) (shaS bs) (by rfl) (by rfl) hr6 (by simp) hln ?_; intro w7 hr7 hb7 hs7 ho7)
  refine bodyPost_ret (v := ag .u8 (shaS bs)) (results_nums rfl _ _ _ 24 5 .u8 32 _ rfl hr7 Try.underlying24 Try.sizeB32 hln) rfl ⟨rfl, HW3.out.2.2.trans ((hb6.mono (by have := HW3.out.2.2.size; omega)).trans hb7)⟩
end Go.Proofs.Ytclejcjbnmgaiaa
