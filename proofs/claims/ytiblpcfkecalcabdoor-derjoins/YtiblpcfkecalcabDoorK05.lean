import Derived.Test.YtiblpcfkecalcabDoorK04
/-
  The code's lengthForm and Write.
-/
namespace Go.Proofs.YtiblpcfkecalcabDoor
open Go.Shelf Go.RowKit
set_option linter.unusedVariables false
set_option linter.unusedSimpArgs false

theorem owns_one (w : World) (c : UInt8) : (w.alloc (.cells #[.int .u8 (c.toNat : Int)] 5)).ownsRow w.heap.size 5 1 (.slice (some ⟨w.heap.size, 0, none⟩) 1 1) 1 (Lib.byteCells [c]) := World.ownsRow_lit w #[.int .u8 (c.toNat : Int)] 1 (Nat.le_refl _) (by decide) (by simp)
theorem byv_one (w : World) (c : UInt8) : ByV (w.alloc (.cells #[.int .u8 (c.toNat : Int)] 5)) (fun b => w.heap.size ≤ b) (some ⟨w.heap.size, 0, none⟩) 1 [c] := by
  obtain ⟨p, c', e, h⟩ := own_byv (l := [c]) (owns_one w c)
  cases e
  exact h
theorem bat_lit (w : World) (z : Int) (c : UInt8) (hz : z = (c.toNat : Int)) : BAt (w.alloc (.cells #[.int .u8 z] 5)) (some ⟨w.heap.size, 0, none⟩) 1 [c] := by
  rw [hz]
  exact (byv_one w c).lies
theorem below_grownT {B : Nat} {w w1 w2 : World} {e : TypeId} {s : Nat} {v : Value} {n : Nat} {xs : List Value} (h : Below B w w1) (hBw : B ≤ w.heap.size) (ho : w1.ownsRow B e s v n xs) (gr : w1.grownBy w2 v.ownBlock) : Below B w w2 :=
  ⟨gr.os.trans h.os, gr.tape.trans h.tape, gr.output.trans h.output, Nat.le_trans h.size gr.size, fun k hk => (gr.block k (Nat.lt_of_lt_of_le hk (Nat.le_trans hBw h.size)) (fun e => by have := (ho.lt k e.symm).1; omega)).trans (h.block k hk)⟩
theorem u8mod (n : Nat) : ((n : Int) % 256) = ((UInt8.ofNat n).toNat : Int) := by rw [UInt8.toNat_ofNat']; omega
set_option maxRecDepth 100000 in
set_option maxHeartbeats 4000000 in
/-- lengthForm. -/
theorem lengthForm_any (n : Nat) (w : World) (hn : n ≤ 9223372036854775807) :
    Calls Tryd.prog 26 #[.int .i64 (n : Int)] w fun e w' => Below w.heap.size w w' ∧ ∃ p c, e = .returned (.slice p (headD n).length c) ∧ ByV w' (fun b => w.heap.size ≤ b) p c (headD n) := by
  have HX := digitsOf_any n
  by_cases q1 : n < 128
  · have hd : digD n = 0 := by unfold digD; rw [if_pos q1]
    have hh : headD n = [UInt8.ofNat n] := by unfold headD; rw [if_pos q1]
    rw [hd] at HX
    rw [hh]
    clear hd hh
    go_enter Tryd.func26, Tryd.ntmps26
    go_wp2_with (go_at_call 39; refine (HX (by omega) _).mono ?_; rintro e w1 ⟨rfl, rfl⟩)
    go_ret
    have h1 := byv_one w1 (UInt8.ofNat n)
    rw [← u8mod, show ((n : Int) % 256) = (n : Int) by omega] at h1
    exact ⟨(Below.refl _ _).alloc (Nat.le_refl _) _, _, _, rfl, h1⟩
  by_cases q2 : n < 256
  · have hd : digD n = 1 := by unfold digD; rw [if_neg q1, if_pos q2]
    have hh : headD n = [129, UInt8.ofNat n] := by unfold headD; rw [if_neg q1, if_pos q2]
    have hhl : (headD n).length = 2 := by rw [hh]; rfl
    have HH : Hid (headD n = [129, UInt8.ofNat n]) := hh
    rw [hd] at HX
    rw [hhl]
    clear hd hh hhl
    go_enter Tryd.func26, Tryd.ntmps26
    go_wp2_with (go_at_call 39; refine (HX (by omega) _).mono ?_; rintro e w1 ⟨rfl, rfl⟩)
    have hown0 := owns_one w1 129
    generalize hW : w1.alloc (.cells #[.int .u8 129] 5) = W
    have HW : Hid (Below w1.heap.size w1 W ∧ W.ownsRow w1.heap.size 5 1 (.slice (some ⟨w1.heap.size, 0, none⟩) 1 1) 1 (Lib.byteCells [129])) := by
      rw [← hW]
      exact ⟨(Below.refl _ _).alloc (Nat.le_refl _) _, hown0⟩
    clear hW hown0
    go_loopw [4, 18] (fun v4 v18 wr => ∃ (j : Nat) (p : Option Addr) (c : Nat), j ≤ 1 ∧ v18 = .int .i64 (j : Int) ∧ v4 = .slice p (j + 1) c ∧ wr.ownsRow w1.heap.size 5 1 (.slice p (j + 1) c) (j + 1) (Lib.byteCells ((headD n).take (j + 1))) ∧ Below w1.heap.size w1 wr) (fun _ v18 _ => 1 - (intOf v18).toNat)
    case atStart => exact ⟨0, _, _, by omega, rfl, rfl, by rw [HH.out]; exact HW.out.2, HW.out.1⟩
    case round =>
      obtain ⟨j, p, c, hj, rfl, rfl, hown, hbw⟩ := hrel
      by_cases e0 : j = 0
      · subst e0
        have hbz := hbw.size
        have HO : Hid (Below w1.heap.size w1 wr) := hbw
        clear hbw
        go_wp2_with (at_builtin; refine wpList_append_wt rfl (.tmp 21) (.tmp 30) rfl w1.heap.size (.slice p 1 c) rfl ((headD n).take 1) 1 (by rw [HH.out]; rfl) (hown.alloc _) (some ⟨wr.heap.size, 0, none⟩) 1 1 [UInt8.ofNat (n / 1)] rfl rfl (bat_lit _ _ _ (by rw [UInt8.toNat_ofNat']; omega)) (by omega) (Nat.le_trans hbz (alloc_le _ _)) ?_; intro v1 w2 o1 gr1 _)
        have hB := below_grownT (HO.out.alloc hbz _) (Nat.le_refl _) (hown.alloc _) gr1
        obtain ⟨p', c', rfl⟩ := owns_slice o1
        exact ⟨⟨1, p', c', by omega, rfl, rfl, by rw [show (headD n).take (1 + 1) = (headD n).take 1 ++ [UInt8.ofNat (n / 1)] by rw [HH.out]; simp]; exact o1, hB⟩, by simp only [intOf]; decide⟩
      have e1 : j = 1 := by omega
      subst e1
      go_wp2_with fail
      go_ret
      obtain ⟨p', c', e', hv⟩ := own_byv (l := headD n) (by rw [HH.out] at hown ⊢; exact hown)
      have hl2 : (headD n).length = 2 := by rw [HH.out]; rfl
      rw [hl2] at e'
      cases e'
      exact ⟨hbw, _, _, rfl, hv⟩
  have hd : digD n = 2 := by unfold digD; rw [if_neg q1, if_neg q2]
  have hh : headD n = [130, UInt8.ofNat (n / 256), UInt8.ofNat n] := by unfold headD; rw [if_neg q1, if_neg q2]
  have hhl : (headD n).length = 3 := by rw [hh]; rfl
  have HH : Hid (headD n = [130, UInt8.ofNat (n / 256), UInt8.ofNat n]) := hh
  rw [hd] at HX
  rw [hhl]
  clear hd hh hhl
  go_enter Tryd.func26, Tryd.ntmps26
  go_wp2_with (go_at_call 39; refine (HX (by omega) _).mono ?_; rintro e w1 ⟨rfl, rfl⟩)
  have hown0 := owns_one w1 130
  generalize hW : w1.alloc (.cells #[.int .u8 130] 5) = W
  have HW : Hid (Below w1.heap.size w1 W ∧ W.ownsRow w1.heap.size 5 1 (.slice (some ⟨w1.heap.size, 0, none⟩) 1 1) 1 (Lib.byteCells [130])) := by
    rw [← hW]
    exact ⟨(Below.refl _ _).alloc (Nat.le_refl _) _, hown0⟩
  clear hW hown0
  go_loopw [4, 18] (fun v4 v18 wr => ∃ (j : Nat) (p : Option Addr) (c : Nat), j ≤ 2 ∧ v18 = .int .i64 (j : Int) ∧ v4 = .slice p (j + 1) c ∧ wr.ownsRow w1.heap.size 5 1 (.slice p (j + 1) c) (j + 1) (Lib.byteCells ((headD n).take (j + 1))) ∧ Below w1.heap.size w1 wr) (fun _ v18 _ => 2 - (intOf v18).toNat)
  case atStart => exact ⟨0, _, _, by omega, rfl, rfl, by rw [HH.out]; exact HW.out.2, HW.out.1⟩
  case round =>
    obtain ⟨j, p, c, hj, rfl, rfl, hown, hbw⟩ := hrel
    by_cases e0 : j = 0
    · subst e0
      have hbz := hbw.size
      have HO : Hid (Below w1.heap.size w1 wr) := hbw
      clear hbw
      go_wp2_with (at_builtin; refine wpList_append_wt rfl (.tmp 21) (.tmp 30) rfl w1.heap.size (.slice p 1 c) rfl ((headD n).take 1) 1 (by rw [HH.out]; rfl) (hown.alloc _) (some ⟨wr.heap.size, 0, none⟩) 1 1 [UInt8.ofNat (n / 256)] rfl rfl (bat_lit _ _ _ (by rw [UInt8.toNat_ofNat']; omega)) (by omega) (Nat.le_trans hbz (alloc_le _ _)) ?_; intro v1 w2 o1 gr1 _)
      have hB := below_grownT (HO.out.alloc hbz _) (Nat.le_refl _) (hown.alloc _) gr1
      obtain ⟨p', c', rfl⟩ := owns_slice o1
      exact ⟨⟨1, p', c', by omega, rfl, rfl, by rw [show (headD n).take (1 + 1) = (headD n).take 1 ++ [UInt8.ofNat (n / 256)] by rw [HH.out]; simp]; exact o1, hB⟩, by simp only [intOf]; decide⟩
    by_cases e1 : j = 1
    · subst e1
      have hbz := hbw.size
      have HO : Hid (Below w1.heap.size w1 wr) := hbw
      clear hbw
      go_wp2_with (at_builtin; refine wpList_append_wt rfl (.tmp 21) (.tmp 30) rfl w1.heap.size (.slice p 2 c) rfl ((headD n).take 2) 2 (by rw [HH.out]; rfl) (hown.alloc _) (some ⟨wr.heap.size, 0, none⟩) 1 1 [UInt8.ofNat (n / 1)] rfl rfl (bat_lit _ _ _ (by rw [UInt8.toNat_ofNat']; omega)) (by omega) (Nat.le_trans hbz (alloc_le _ _)) ?_; intro v1 w2 o1 gr1 _)
      have hB := below_grownT (HO.out.alloc hbz _) (Nat.le_refl _) (hown.alloc _) gr1
      obtain ⟨p', c', rfl⟩ := owns_slice o1
      exact ⟨⟨2, p', c', by omega, rfl, rfl, by rw [show (headD n).take (2 + 1) = (headD n).take 2 ++ [UInt8.ofNat (n / 1)] by rw [HH.out]; simp]; exact o1, hB⟩, by simp only [intOf]; decide⟩
    have e2 : j = 2 := by omega
    subst e2
    go_wp2_with fail
    go_ret
    obtain ⟨p', c', e', hv⟩ := own_byv (l := headD n) (by rw [HH.out] at hown ⊢; exact hown)
    have hl2 : (headD n).length = 3 := by rw [HH.out]; rfl
    rw [hl2] at e'
    cases e'
    exact ⟨hbw, _, _, rfl, hv⟩
theorem step_call {P : Program} {w : World} {ops : Array Oper} {o : Oper} {a : Act} {K : Act → World → Prop} {Q : Exit → Act → World → Prop} {E : Prop} (hw : Region.wanted o (yielded ops a.tmps) = true) (f : FuncId) (xs : Array Operand) (ats : Array TypeId)
    (ho : o.op = .call { callee := .value (.func f), args := xs, argTypes := ats }) (args : Array Value) (hcf : ∀ W, (callFunc f args).run P W = .ok (.enter f args) W) (hx : #[] ++ xs.map a.eval ++ #[] = args) {R : Ending → World → Prop} (H : Calls P f args w R) (h : ∀ e w', R e w' → ∃ v, e = .returned v ∧ K (a.put o.dst v) w') : if Region.wanted o (yielded ops a.tmps) = true then Oper.wp P o a w K Q else E := by
  rw [if_pos hw]
  unfold Oper.wp
  have h1 : execOp a.eval o = callFunc f args := by
    cases o
    simp only at ho
    subst ho
    rw [execOp_call_go, hx]
  rw [h1, hcf, Oper.upon_enter]
  refine H.mono ?_
  intro e w' hr
  obtain ⟨v, rfl, hk⟩ := h e w' hr
  exact hk
theorem owns_lit1 (w : World) (B t : Nat) (ht : t < 256) (hB : B ≤ w.heap.size) : (w.alloc (.cells #[.int .u8 (t : Int)] 5)).ownsRow B 5 1 (.slice (some ⟨w.heap.size, 0, none⟩) 1 1) 1 (Lib.byteCells [UInt8.ofNat t]) := by
  have h : (w.alloc (.cells #[.int .u8 ((UInt8.ofNat t).toNat : Int)] 5)).ownsRow B 5 1 (.slice (some ⟨w.heap.size, 0, none⟩) 1 1) 1 (Lib.byteCells [UInt8.ofNat t]) := World.ownsRow_lit w #[.int .u8 ((UInt8.ofNat t).toNat : Int)] 1 hB (by decide) (by simp)
  rw [show ((UInt8.ofNat t).toNat : Int) = (t : Int) by rw [UInt8.toNat_ofNat']; omega] at h
  exact h
/-- What Write answers. -/
def WrPost (w : World) (t : Nat) (l : Bs) (e : Ending) (w' : World) : Prop :=
  Below w.heap.size w w' ∧ ((t % 32 = 31 ∧ e = .returned (.tuple #[.slice none 0 0, .int .i64 30])) ∨
    (t % 32 ≠ 31 ∧ 4096 < 1 + (headD l.length).length + l.length ∧ e = .returned (.tuple #[.slice none 0 0, .int .i64 3])) ∨
    (t % 32 ≠ 31 ∧ 1 + (headD l.length).length + l.length ≤ 4096 ∧ ∃ v, e = .returned (.tuple #[v, .int .i64 0]) ∧ w'.ownsRow w.heap.size 5 1 v (1 + (headD l.length).length + l.length) (Lib.byteCells (UInt8.ofNat t :: (headD l.length ++ l)))))
set_option maxRecDepth 100000 in
set_option maxHeartbeats 4000000 in
/-- Write. -/
theorem derWrite (t : Nat) (ht : t < 256) (p : Option Addr) (n c : Nat) (l : Bs) (w : World) (hl : l.length = n) (h : BAt w p n l) (hn : n ≤ 1000000) :
    Calls Tryd.prog 12 #[.agg #[.int .u8 (t : Int), .slice p n c]] w (WrPost w t l) := by
  obtain ⟨W1, hW1⟩ : ∃ W1, w.alloc (.cells #[.int .u8 (t : Int), .slice p n c] 24) = W1 := ⟨_, rfl⟩
  have b1 : Below w.heap.size w W1 := by rw [← hW1]; exact (Below.refl _ _).alloc (Nat.le_refl _) _
  have s1 : Tl W1 w.heap.size (.int .u8 (t : Int)) (.slice p n c) := by rw [← hW1]; exact Tl.new w _ _
  obtain ⟨g0, g1, g2, g3⟩ := s1.facts
  have HT := isTag_any t ht
  have HS1 : Hid (Tl W1 w.heap.size (.int .u8 (t : Int)) (.slice p n c) ∧ Below w.heap.size w W1) := ⟨s1, b1⟩
  by_cases q1 : t % 32 = 31
  · rw [show decide (t % 32 ≠ 31) = false by simp [q1]] at HT
    have HQ : Hid (t % 32 = 31) := q1
    clear q1 s1 b1
    go_enter Tryd.func12, Tryd.ntmps12
    go_wp2_with (go_at_call 25; refine (HT _).mono ?_; rintro e w1 ⟨rfl, rfl⟩)
    go_ret2
    exact ⟨HS1.out.2, .inl ⟨HQ.out, rfl⟩⟩
  rw [show decide (t % 32 ≠ 31) = true by simp [q1]] at HT
  have HQ : Hid (t % 32 ≠ 31) := q1
  obtain ⟨L, hL⟩ : ∃ L, (headD n).length = L := ⟨_, rfl⟩
  have hL3 : L ≤ 3 := by rw [← hL, headD_len]; (repeat' split) <;> omega
  have HL : Hid ((headD n).length = L ∧ l.length = n) := ⟨hL, hl⟩
  have HF := lengthForm_any n
  rw [hL] at HF
  clear q1 s1 b1 hL hl
  have HFIN : Hid (∀ w2 v1, Below w.heap.size w w2 → w2.ownsRow w.heap.size 5 1 v1 (1 + L) (Lib.byteCells ([UInt8.ofNat t] ++ headD n)) → 4096 < 1 + L + n → WrPost w t l (.returned (.tuple #[.slice none 0 0, .int .i64 3])) w2) := fun w2 v1 hb ho hbig =>
    ⟨hb, .inr (.inl ⟨HQ.out, by rw [HL.out.2, HL.out.1]; exact hbig, rfl⟩)⟩
  have HFIN2 : Hid (∀ w2 v1, Below w.heap.size w w2 → w2.ownsRow w.heap.size 5 1 v1 (1 + L + n) (Lib.byteCells ([UInt8.ofNat t] ++ headD n ++ l)) → 1 + L + n ≤ 4096 → WrPost w t l (.returned (.tuple #[v1, .int .i64 0])) w2) := fun w2 v1 hb ho hsm =>
    ⟨hb, .inr (.inr ⟨HQ.out, by rw [HL.out.2, HL.out.1]; exact hsm, v1, rfl, by rw [HL.out.2, HL.out.1]; simpa using ho⟩)⟩
  have HBT : Hid (∀ W, Below w.heap.size w W → BAt W p n l) := fun W hW => h.below hW
  clear h
  go_enter Tryd.func12, Tryd.ntmps12
  go_wp2_with (go_at_call 25; refine (HT _).mono ?_; rintro e w1 ⟨rfl, rfl⟩)
  obtain ⟨A1, hA1⟩ : ∃ A1, w1.alloc (.cells #[.int .u8 (t : Int)] 5) = A1 := ⟨_, rfl⟩
  have bA : Below w1.heap.size w1 A1 := by rw [← hA1]; exact (Below.refl _ _).alloc (Nat.le_refl _) _
  have sA := HS1.out.1.below bA
  obtain ⟨x0, x1, x2, x3⟩ := sA.facts
  have hOA := owns_lit1 w1 w.heap.size t ht HS1.out.2.size
  rw [hA1] at hOA
  have HA : Hid (Tl A1 w.heap.size (.int .u8 (t : Int)) (.slice p n c) ∧ Below w1.heap.size w1 A1 ∧ A1.ownsRow w.heap.size 5 1 (.slice (some ⟨w1.heap.size, 0, none⟩) 1 1) 1 (Lib.byteCells [UInt8.ofNat t])) := ⟨sA, bA, hOA⟩
  clear sA bA hOA
  have hcf : ∀ W, (callFunc 26 #[.int .i64 (n : Int)]).run Tryd.prog W = .ok (.enter 26 #[.int .i64 (n : Int)]) W := fun W => by kernel_rfl
  go_region_law (first
    | (refine step_call (by simp [Region.wanted, yielded, Act.put]) 26 #[.tmp 14] #[3] rfl #[.int .i64 (n : Int)] hcf (by simp [Act.eval, Act.put]) (HF w1.drew (by omega)) ?_; rintro e w3 ⟨hb3, p3, c3, rfl, hv3⟩; refine ⟨_, rfl, ?_⟩; have s3 : Tl w3 w.heap.size (.int .u8 (t : Int)) (.slice p n c) := HS1.out.1.same (hb3.block _ HS1.out.1.lt); obtain ⟨y0, y1, y2, y3⟩ := s3.facts; have HB3 : Hid (Below w.heap.size w w3 ∧ Tl w3 w.heap.size (.int .u8 (t : Int)) (.slice p n c) ∧ ByV w3 (fun b => w1.heap.size ≤ b) p3 c3 (headD n)) := ⟨HS1.out.2.trans (Below.mono ⟨hb3.os, hb3.tape, hb3.output, hb3.size, hb3.block⟩ HS1.out.2.size), s3, hv3⟩; clear hb3 hv3 s3)
    | (refine step_call (by simp [Region.wanted, yielded, Act.put]) 26 #[.tmp 14] #[3] rfl #[.int .i64 (n : Int)] hcf (by simp [Act.eval, Act.put]) (HF A1.drew (by omega)) ?_; rintro e w3 ⟨hb3, p3, c3, rfl, hv3⟩; refine ⟨_, rfl, ?_⟩; have s3 : Tl w3 w.heap.size (.int .u8 (t : Int)) (.slice p n c) := HA.out.1.same (hb3.block _ HA.out.1.lt); obtain ⟨y0, y1, y2, y3⟩ := s3.facts; have HO3 : Hid (w3.ownsRow w.heap.size 5 1 (.slice (some ⟨w1.heap.size, 0, none⟩) 1 1) 1 (Lib.byteCells [UInt8.ofNat t])) := owns_keep HA.out.2.2 (fun g hg => hb3.block g (owns_lt HA.out.2.2 hg).2.1); have HB3 : Hid (Below w.heap.size w w3 ∧ Tl w3 w.heap.size (.int .u8 (t : Int)) (.slice p n c) ∧ ByV w3 (fun b => A1.heap.size ≤ b) p3 c3 (headD n)) := ⟨HS1.out.2.trans ((HA.out.2.1.mono HS1.out.2.size).trans (Below.mono ⟨hb3.os, hb3.tape, hb3.output, hb3.size, hb3.block⟩ (Nat.le_trans HS1.out.2.size HA.out.2.1.size))), s3, hv3⟩; clear hb3 hv3 s3)
    | (refine step_append_wt (by simp [Region.wanted, yielded, Act.put]) (.tmp 11) (.tmp 15) rfl w.heap.size (.slice (some ⟨w1.heap.size, 0, none⟩) 1 1) (by simp [Act.eval, Act.put]) [UInt8.ofNat t] 1 rfl HO3.out p3 L c3 (headD n) HL.out.1 (by simp [Act.eval, Act.put]) (by have := HB3.out.2.2.lies; rw [HL.out.1] at this; exact this) (by omega) HB3.out.1.size ?_; intro v2 w2 o2 gr2 at2; have s2 : Tl w2 w.heap.size (.int .u8 (t : Int)) (.slice p n c) := HB3.out.2.1.same (gr2.block _ HB3.out.2.1.lt (fun e => by have e' := Option.some.inj e; have e2 : w.heap.size = w1.heap.size := e'; have := HS1.out.1.lt; omega)); obtain ⟨z0, z1, z2, z3⟩ := s2.facts; obtain ⟨p2, c2, rfl⟩ := owns_slice o2; have HE2 : Hid (Below w.heap.size w w2 ∧ w2.ownsRow w.heap.size 5 1 (.slice p2 (1 + L) c2) (1 + L) (Lib.byteCells ([UInt8.ofNat t] ++ headD n))) := ⟨below_grownT HB3.out.1 (Nat.le_refl _) HO3.out gr2, o2⟩; clear at2 gr2 o2 s2)
    | (refine step_append_wt (by simp [Region.wanted, yielded, Act.put]) (.tmp 11) (.tmp 15) rfl w.heap.size (.slice (some ⟨w3.heap.size, 0, none⟩) 1 1) (by simp [Act.eval, Act.put]) [UInt8.ofNat t] 1 rfl (owns_lit1 w3 w.heap.size t ht HB3.out.1.size) p3 L c3 (headD n) HL.out.1 (by simp [Act.eval, Act.put]) (by have := HB3.out.2.2.lies; rw [HL.out.1] at this; exact this.below ((Below.refl _ _).alloc (Nat.le_refl _) _)) (by omega) (Nat.le_trans HB3.out.1.size (alloc_le _ _)) ?_; intro v2 w2 o2 gr2 at2; have s2 : Tl w2 w.heap.size (.int .u8 (t : Int)) (.slice p n c) := (HB3.out.2.1.below ((Below.refl _ _).alloc (Nat.le_refl _) _)).same (gr2.block _ (Nat.lt_of_lt_of_le HB3.out.2.1.lt (alloc_le _ _)) (fun e => by have e' := Option.some.inj e; have e2 : w.heap.size = w3.heap.size := e'; have := HB3.out.2.1.lt; omega)); obtain ⟨z0, z1, z2, z3⟩ := s2.facts; obtain ⟨p2, c2, rfl⟩ := owns_slice o2; have HE2 : Hid (Below w.heap.size w w2 ∧ w2.ownsRow w.heap.size 5 1 (.slice p2 (1 + L) c2) (1 + L) (Lib.byteCells ([UInt8.ofNat t] ++ headD n))) := ⟨below_grownT (HB3.out.1.alloc HB3.out.1.size _) (Nat.le_refl _) (owns_lit1 w3 w.heap.size t ht HB3.out.1.size) gr2, o2⟩; clear at2 gr2 o2 s2))
  all_goals
    clear HA HB3 HF HS1 hcf HQ HT g0 g1 g2 g3 x0 x1 x2 x3 y0 y1 y2 y3 hA1 hW1
    by_cases hbig : 4096 < 1 + L + n
    · have hbI : 4096 < 1 + (L : Int) + (n : Int) := by omega
      go_wp2_with fail
      go_ret2
      exact HFIN.out w2 _ HE2.out.1 HE2.out.2 hbig
    · have hbI : ¬ 4096 < 1 + (L : Int) + (n : Int) := by omega
      go_wp2_with (at_builtin; refine wpList_append_wt rfl (.tmp 24) (.tmp 26) rfl w.heap.size (.slice p2 (1 + L) c2) rfl ([UInt8.ofNat t] ++ headD n) (1 + L) (by rw [List.length_append, HL.out.1]; rfl) HE2.out.2 p n c l HL.out.2 rfl (HBT.out _ HE2.out.1) (by omega) HE2.out.1.size ?_; intro v4 w4 o4 gr4 at4)
      go_ret2
      exact HFIN2.out w4 v4 (below_grownT HE2.out.1 (Nat.le_refl _) HE2.out.2 gr4) o4 (by omega)
end Go.Proofs.YtiblpcfkecalcabDoor
