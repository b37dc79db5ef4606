/-
  told: the code's answers and the document's.
-/
import Derived.Test.YtfmldcibhllpcaaDoorEM
import Derived.Test.YtfmldcibhllpcaaDoorGA
namespace Go.Proofs.YtfmldcibhllpcaaDoor
open Go.Shelf Go.RowKit
set_option linter.unusedVariables false
set_option linter.unusedSimpArgs false

/-- What is answered: an item, what is left, a code. -/
def dnI : Except Nat (It × Bs) → It | .ok r => r.1 | .error _ => It.no
def dnY : Except Nat (It × Bs) → Bs | .ok r => r.2 | .error _ => []
def dnK : Except Nat (It × Bs) → Nat | .ok _ => 0 | .error k => k
def wnI : Except Nat It → It | .ok r => r | .error _ => It.no
def wnK : Except Nat It → Nat | .ok _ => 0 | .error k => k
/-- An item's cells. -/
def ic (i : It) (p : Option Addr) (c : Nat) (q : Option Addr) (c' : Nat) : Value := .agg #[.int .u8 (i.kind : Int), .int .u64 (i.n : Int), .slice p i.b.length c, .slice q i.kids.length c']
def il (i : It) (p : Option Addr) (c : Nat) (q : Option Addr) (c' : Nat) : List Value := [.int .u8 (i.kind : Int), .int .u64 (i.n : Int), .slice p i.b.length c, .slice q i.kids.length c']
theorem no_ok (w : World) (P : Nat → Prop) : ItOk w P 8 (il It.no none 0 none 0) It.no := ItOk.leaf 8 (by decide) (by decide) (ByV.nil w P) rfl
theorem DecPost.norm {w : World} {R : Except Nat (It × Bs)} {e : Ending} {w' : World} (h : DecPost w R e w') : Below w.heap.size w w' ∧ dnK R < 100 ∧ ∃ (p : Option Addr) (c : Nat) (q : Option Addr) (c' : Nat) (pr : Option Addr) (cr : Nat), e = .returned (.tuple #[.agg #[.int .u8 ((dnI R).kind : Int), .int .u64 ((dnI R).n : Int), .slice p (dnI R).b.length c, .slice q (dnI R).kids.length c'], .slice pr (dnY R).length cr, .int .i64 (dnK R : Int)]) ∧ ItOk w' (fun b => w.heap.size ≤ b) 8 (il (dnI R) p c q c') (dnI R) ∧ ByV w' (fun b => w.heap.size ≤ b) pr cr (dnY R) := by
  obtain ⟨h1, (⟨i, ys, p, c, q, c', pr, cr, rfl, rfl, h2, h3⟩ | ⟨k, rfl, _, h2, rfl⟩)⟩ := h
  · exact ⟨h1, by show (0 : Nat) < 100; decide, p, c, q, c', pr, cr, rfl, h2, h3⟩
  · exact ⟨h1, h2, none, 0, none, 0, none, 0, rfl, no_ok w' _, ByV.nil w' _⟩
theorem RDPost.norm {w : World} {R : Except Nat (It × Bs)} {e : Ending} {w' : World} (h : RDPost w R e w') : Below w.heap.size w w' ∧ ∃ (p : Option Addr) (c : Nat) (q : Option Addr) (c' : Nat) (pr : Option Addr) (cr : Nat), e = .returned (.tuple #[.agg #[.int .u8 ((dnI R).kind : Int), .int .u64 ((dnI R).n : Int), .slice p (dnI R).b.length c, .slice q (dnI R).kids.length c'], .slice pr (dnY R).length cr, .int .i64 (dnK R : Int)]) ∧ ItOk w' (fun _ => True) 8 (il (dnI R) p c q c') (dnI R) ∧ ByV w' (fun _ => True) pr cr (dnY R) := by
  obtain ⟨h1, (⟨i, ys, p, c, q, c', pr, cr, rfl, rfl, h2, h3⟩ | ⟨k, rfl, _, h2, rfl⟩)⟩ := h
  · exact ⟨h1, p, c, q, c', pr, cr, rfl, h2.mono (fun _ _ _ => trivial), h3.mono (fun _ _ _ => trivial)⟩
  · exact ⟨h1, none, 0, none, 0, none, 0, rfl, no_ok w' _, ByV.nil w' _⟩
theorem WholePost.norm {w : World} {R : Except Nat It} {e : Ending} {w' : World} (h : WholePost w R e w') : Below w.heap.size w w' ∧ wnK R < 100 ∧ ∃ (p : Option Addr) (c : Nat) (q : Option Addr) (c' : Nat), e = .returned (.tuple #[.agg #[.int .u8 ((wnI R).kind : Int), .int .u64 ((wnI R).n : Int), .slice p (wnI R).b.length c, .slice q (wnI R).kids.length c'], .int .i64 (wnK R : Int)]) ∧ ItOk w' (fun b => w.heap.size ≤ b) 8 (il (wnI R) p c q c') (wnI R) := by
  obtain ⟨h1, (⟨i, p, c, q, c', rfl, rfl, h2⟩ | ⟨k, rfl, _, h2, rfl⟩)⟩ := h
  · exact ⟨h1, by show (0 : Nat) < 100; decide, p, c, q, c', rfl, h2⟩
  · exact ⟨h1, h2, none, 0, none, 0, rfl, no_ok w' _⟩
theorem RWPost.norm {w : World} {R : Except Nat It} {e : Ending} {w' : World} (h : RWPost w R e w') : Below w.heap.size w w' ∧ ∃ (p : Option Addr) (c : Nat) (q : Option Addr) (c' : Nat), e = .returned (.tuple #[.agg #[.int .u8 ((wnI R).kind : Int), .int .u64 ((wnI R).n : Int), .slice p (wnI R).b.length c, .slice q (wnI R).kids.length c'], .int .i64 (wnK R : Int)]) ∧ ItOk w' (fun _ => True) 8 (il (wnI R) p c q c') (wnI R) := by
  obtain ⟨h1, (⟨i, p, c, q, c', rfl, rfl, h2⟩ | ⟨k, rfl, _, h2, rfl⟩)⟩ := h
  · exact ⟨h1, p, c, q, c', rfl, h2⟩
  · exact ⟨h1, none, 0, none, 0, rfl, no_ok w' _⟩
theorem fit_wide : ∀ {d : Nat} {i : It}, fitC d i → wideC d i
  | 0, i, h => h.2
  | d + 1, i, h => ⟨h.1.2, fun k hk => fit_wide (h.2 k hk)⟩
theorem dn_trim (bs : Bs) : deepC 8 (dnI (decC bs)) ∧ wideC 8 (dnI (decC bs)) ∧ (dnY (decC bs)).length ≤ 8192 := by
  cases h : decC bs with
  | error k => exact ⟨fun k hk => by simp [dnI, It.no] at hk, ⟨by simp [dnI, It.no], fun k hk => by simp [dnI, It.no] at hk⟩, by simp [dnY]⟩
  | ok r =>
    obtain ⟨i, ys⟩ := r
    have := dec_trim h
    exact ⟨this.2.2, fit_wide this.1, dec_len h⟩
theorem wn_trim (bs : Bs) : deepC 8 (wnI (wholeC bs)) ∧ wideC 8 (wnI (wholeC bs)) := by
  unfold wholeC
  cases h : decC bs with
  | error k => exact ⟨fun k hk => by simp [wnI, It.no] at hk, ⟨by simp [wnI, It.no], fun k hk => by simp [wnI, It.no] at hk⟩⟩
  | ok r =>
    obtain ⟨i, ys⟩ := r
    have := dec_trim h
    simp only []
    split
    · exact ⟨this.2.2, fit_wide this.1⟩
    · exact ⟨fun k hk => by simp [wnI, It.no] at hk, ⟨by simp [wnI, It.no], fun k hk => by simp [wnI, It.no] at hk⟩⟩
set_option maxRecDepth 100000 in
set_option maxHeartbeats 4000000 in
/-- told. -/
theorem ctold_any (p : Option Addr) (n c : Nat) (bs : Bs) (w : World) (hn : bs.length = n) (hV : ByV w (fun b => b < w.heap.size) p c bs) (hT : Tabs w) (hl : n ≤ 1000000) :
    Calls Tryd.prog 10 #[.slice p n c] w fun e w' => e = .returned (.bool true) ∧ Below w.heap.size w w' := by
  have hb0 : Below w.heap.size w (w.alloc (.cells #[] 5)) := (Below.refl _ _).alloc (Nat.le_refl _) _
  have hown0 : (w.alloc (.cells #[] 5)).ownsRow w.heap.size 5 1 (.slice (some ⟨w.heap.size, 0, none⟩) 0 0) 0 [] := World.ownsRow_lit w #[] 0 (Nat.le_refl _) (Nat.zero_le _) (by simp)
  have hz0 := alloc_sz w (.cells #[] 5)
  have hV0 := (hV.keep (w' := w.alloc (.cells #[] 5)) (fun k hk _ => hb0.block k hk)).lies
  rw [hn] at hV0
  obtain ⟨dI, dY, wI⟩ := dn_trim bs
  obtain ⟨eI, eW⟩ := wn_trim bs
  obtain ⟨I, hI⟩ : ∃ I, dnI (decC bs) = I := ⟨_, rfl⟩
  obtain ⟨Y, hY⟩ : ∃ I, dnY (decC bs) = I := ⟨_, rfl⟩
  obtain ⟨C, hC⟩ : ∃ I, dnK (decC bs) = I := ⟨_, rfl⟩
  obtain ⟨J, hJ⟩ : ∃ I, wnI (wholeC bs) = I := ⟨_, rfl⟩
  obtain ⟨E, hE⟩ : ∃ I, wnK (wholeC bs) = I := ⟨_, rfl⟩
  rw [hI] at dI dY
  rw [hY] at wI
  rw [hJ] at eI eW
  go_enter Tryd.func10, Tryd.ntmps10
  go_wp2_with (at_builtin; refine wpList_append_wt rfl (.tmp 14) (.tmp 15) rfl w.heap.size (.slice (some ⟨w.heap.size, 0, none⟩) 0 0) rfl [] 0 rfl hown0 p n c bs hn rfl hV0 (by omega) hb0.size ?_; intro v1 w1 o1 gr1 at1; obtain ⟨p1, c1, rfl⟩ := owns_slice o1)
  rw [Nat.zero_add, List.nil_append] at o1
  have b1 : Below w.heap.size w w1 := ⟨gr1.os.trans hb0.os, gr1.tape.trans hb0.tape, gr1.output.trans hb0.output, Nat.le_trans hb0.size gr1.size, fun k hk => (gr1.block k (by omega) (fun e => by injection e with e; have e' : k = w.heap.size := e; omega)).trans (hb0.block k hk)⟩
  have hz1 : w.heap.size + 1 ≤ w1.heap.size := by have := gr1.size; omega
  have hin : ByV w1 (fun b => w.heap.size ≤ b) p1 c1 bs := by
    have o2 := o1
    rw [← hn] at o2
    obtain ⟨p', c', e, hv⟩ := own_byv o2
    cases e
    exact hv
  have HD := Decode_any p1 n c1 bs w1 hn (hin.mono (fun k _ hk => hk)) (hT.below b1)
  go_at_call 14
  refine HD.mono ?_
  intro e w2 hp
  obtain ⟨b2, hC100, pa, ca, qa, ca', pr, cr, rfl, iok, rok⟩ := hp.norm
  rw [hI] at iok
  rw [hY] at rok
  rw [hC] at hC100
  rw [hI, hY, hC]
  clear hp HD
  obtain ⟨IK, hIK⟩ : ∃ x : Nat, I.kind = x := ⟨_, rfl⟩
  obtain ⟨IN, hIN⟩ : ∃ x : Nat, I.n = x := ⟨_, rfl⟩
  obtain ⟨IB, hIB⟩ : ∃ x : Nat, I.b.length = x := ⟨_, rfl⟩
  obtain ⟨IM, hIM⟩ : ∃ x : Nat, I.kids.length = x := ⟨_, rfl⟩
  obtain ⟨YL, hYL⟩ : ∃ x : Nat, Y.length = x := ⟨_, rfl⟩
  have iok : ItOk w2 (fun b => w1.heap.size ≤ b) 8 [.int .u8 (IK : Int), .int .u64 (IN : Int), .slice pa IB ca, .slice qa IM ca'] I := by rw [← hIK, ← hIN, ← hIB, ← hIM]; exact iok
  rw [hIK, hIN, hIB, hIM, hYL]
  have b3 : Below w2.heap.size w2 (w2.alloc (.cells #[.int .u8 (IK : Int), .int .u64 (IN : Int), .slice pa IB ca, .slice qa IM ca'] 35)) := (Below.refl _ _).alloc (Nat.le_refl _) _
  have s3 := Slot.new w2 (.int .u8 (IK : Int)) (.int .u64 (IN : Int)) (.slice pa IB ca) (.slice qa IM ca')
  have HR := fun W (hW : Below w.heap.size w W) (hz : w.heap.size + 1 ≤ W.heap.size) => rDecode_any p n c bs W hn ((hV.keep (fun k hk _ => hW.block k hk)).mono (fun k hk _ => by omega)) (hT.below hW)
  have HRW := fun W (hW : Below w.heap.size w W) (hz : w.heap.size + 1 ≤ W.heap.size) => rWhole_any p n c bs W hn ((hV.keep (fun k hk _ => hW.block k hk)).mono (fun k hk _ => by omega)) (hT.below hW)
  have HCW := fun W (hW : Below w1.heap.size w1 W) => Whole_any p1 n c1 bs W hn ((hin.keep (w' := W) (fun k _ hk => hW.block k hk)).mono (fun k _ hk => hk)) ((hT.below b1).below hW)
  have b12 : Below w.heap.size w w2 := b1.trans (b2.mono b1.size)
  have hz2 := b2.size
  have b13 : Below w1.heap.size w1 (w2.alloc (.cells #[.int .u8 (IK : Int), .int .u64 (IN : Int), .slice pa IB ca, .slice qa IM ca'] 35)) := b2.trans (b3.mono b2.size)
  have hz3 := b13.size
  have HRD := HR _ (b1.trans (b13.mono b1.size)) (by omega)
  go_wp2_with fail
  go_at_call 24
  refine HRD.mono ?_
  intro e w4 hp
  obtain ⟨b4, pb, cb, qb, cb', ps, cs, rfl, jok, sok⟩ := hp.norm
  rw [hI] at jok
  rw [hY] at sok
  rw [hI, hY, hC]
  clear hp HRD
  have jok : ItOk w4 (fun _ => True) 8 [.int .u8 (IK : Int), .int .u64 (IN : Int), .slice pb IB cb, .slice qb IM cb'] I := by rw [← hIK, ← hIN, ← hIB, ← hIM]; exact jok
  rw [hIK, hIN, hIB, hIM, hYL]
  have b5 : Below w4.heap.size w4 (w4.alloc (.cells #[.int .u8 (IK : Int), .int .u64 (IN : Int), .slice pb IB cb, .slice qb IM cb'] 35)) := (Below.refl _ _).alloc (Nat.le_refl _) _
  have s5 := Slot.new w4 (.int .u8 (IK : Int)) (.int .u64 (IN : Int)) (.slice pb IB cb) (.slice qb IM cb')
  have b15 : Below w1.heap.size w1 (w4.alloc (.cells #[.int .u8 (IK : Int), .int .u64 (IN : Int), .slice pb IB cb, .slice qb IM cb'] 35)) := b13.trans ((b4.mono b13.size).trans (b5.mono (Nat.le_trans b13.size b4.size)))
  have HCW2 := HCW _ b15
  go_wp2_with fail
  go_at_call 23
  refine HCW2.mono ?_
  intro e w6 hp
  obtain ⟨b6, hE100, pc, cc, qc, cc', rfl, kok⟩ := hp.norm
  rw [hJ] at kok
  rw [hE] at hE100
  rw [hJ, hE]
  clear hp HCW2
  obtain ⟨JK, hJK⟩ : ∃ x : Nat, J.kind = x := ⟨_, rfl⟩
  obtain ⟨JN, hJN⟩ : ∃ x : Nat, J.n = x := ⟨_, rfl⟩
  obtain ⟨JB, hJB⟩ : ∃ x : Nat, J.b.length = x := ⟨_, rfl⟩
  obtain ⟨JM, hJM⟩ : ∃ x : Nat, J.kids.length = x := ⟨_, rfl⟩
  have kok : ItOk w6 (fun _ => True) 8 [.int .u8 (JK : Int), .int .u64 (JN : Int), .slice pc JB cc, .slice qc JM cc'] J := by rw [← hJK, ← hJN, ← hJB, ← hJM]; exact ItOk.mono (fun _ _ _ => trivial) kok
  rw [hJK, hJN, hJB, hJM]
  have b7 : Below w6.heap.size w6 (w6.alloc (.cells #[.int .u8 (JK : Int), .int .u64 (JN : Int), .slice pc JB cc, .slice qc JM cc'] 35)) := (Below.refl _ _).alloc (Nat.le_refl _) _
  have s7 := Slot.new w6 (.int .u8 (JK : Int)) (.int .u64 (JN : Int)) (.slice pc JB cc) (.slice qc JM cc')
  have b17 : Below w1.heap.size w1 (w6.alloc (.cells #[.int .u8 (JK : Int), .int .u64 (JN : Int), .slice pc JB cc, .slice qc JM cc'] 35)) := b15.trans ((b6.mono b15.size).trans (b7.mono (Nat.le_trans b15.size b6.size)))
  have hz7 := b17.size
  have HRW2 := HRW _ (b1.trans (b17.mono b1.size)) (by omega)
  go_wp2_with fail
  go_at_call 25
  refine HRW2.mono ?_
  intro e w8 hp
  obtain ⟨b8, pd, cd, qd, cd', rfl, lok⟩ := hp.norm
  rw [hJ] at lok
  rw [hJ, hE]
  clear hp HRW2
  have lok : ItOk w8 (fun _ => True) 8 [.int .u8 (JK : Int), .int .u64 (JN : Int), .slice pd JB cd, .slice qd JM cd'] J := by rw [← hJK, ← hJN, ← hJB, ← hJM]; exact lok
  rw [hJK, hJN, hJB, hJM]
  obtain ⟨W9, hW9⟩ : ∃ W9, w8.alloc (.cells #[.int .u8 (JK : Int), .int .u64 (JN : Int), .slice pd JB cd, .slice qd JM cd'] 35) = W9 := ⟨_, rfl⟩
  have b9 : Below w8.heap.size w8 W9 := by rw [← hW9]; exact (Below.refl _ _).alloc (Nat.le_refl _) _
  have s9 : Slot W9 w8.heap.size (.int .u8 (JK : Int)) (.int .u64 (JN : Int)) (.slice pd JB cd) (.slice qd JM cd') := by rw [← hW9]; exact Slot.new w8 _ _ _ _
  have c79 := b8.trans (b9.mono b8.size)
  have c69 := b7.trans (c79.mono b7.size)
  have c59 := b6.trans (c69.mono b6.size)
  have c49 := b5.trans (c59.mono b5.size)
  have c39 := b4.trans (c49.mono b4.size)
  have c29 := b3.trans (c39.mono b3.size)
  have t3 := s3.same (c39.block _ s3.lt)
  have t5 := s5.same (c59.block _ s5.lt)
  have t7 := s7.same (c79.block _ s7.lt)
  have b19 : Below w1.heap.size w1 W9 := b17.trans (c79.mono b17.size)
  have b09 : Below w.heap.size w W9 := b1.trans (b19.mono b1.size)
  have HS1 := same_ok 8 I _ _ _ _ _ _ _ _ _ _ W9 dI dY (iok.below c29) (jok.below c49)
  have HS2 := fun W (hW : Below W9.heap.size W9 W) => same_ok 8 J _ _ _ _ _ _ _ _ _ _ W eI eW ((kok.below c69).below hW) ((lok.below b9).below hW)
  have hr1 := (rok.keep (w' := W9) (fun k _ hk => c29.block k hk)).lies
  have hr2 := (sok.keep (w' := W9) (fun k _ hk => c49.block k hk)).lies
  have hr3 := (hin.keep (w' := W9) (fun k _ hk => b19.block k hk)).lies
  have hr4 := (hV.keep (w' := W9) (fun k hk _ => b09.block k hk)).lies
  rw [hYL] at hr1 hr2
  rw [hn] at hr3 hr4
  have HC1 := fun W (hW : Below W9.heap.size W9 W) => conv_bat (c := cr) (hr1.below hW) hYL
  have HC2 := fun W (hW : Below W9.heap.size W9 W) => conv_bat (c := cs) (hr2.below hW) hYL
  have HC3 := fun W (hW : Below W9.heap.size W9 W) => conv_bat (c := c1) (hr3.below hW) hn
  have HC4 := fun W (hW : Below W9.heap.size W9 W) => conv_bat (c := c) (hr4.below hW) hn
  obtain ⟨x0, x1, x2, x3, _⟩ := t3.facts
  obtain ⟨y0, y1, y2, y3, _⟩ := t5.facts
  have HT7 : Hid (Slot W9 w6.heap.size (.int .u8 (JK : Int)) (.int .u64 (JN : Int)) (.slice pc JB cc) (.slice qc JM cc') ∧ Slot W9 w8.heap.size (.int .u8 (JK : Int)) (.int .u64 (JN : Int)) (.slice pd JB cd) (.slice qd JM cd')) := ⟨t7, s9⟩
  have HB9 : Hid (Below w.heap.size w W9) := b09
  have HW9 : Hid (w8.alloc (.cells #[.int .u8 (JK : Int), .int .u64 (JN : Int), .slice pd JB cd, .slice qd JM cd'] 35) = W9) := hW9
  have hC1 : (C : Int) < 100 := by omega
  have hE1 : (E : Int) < 100 := by omega
  clear c29 c39 c49 c59 c69 c79 b19 b09 hr1 hr2 hr3 hr4 t3 t5 t7 s9 s3 s5 s7 b1 b2 b3 b4 b5 b6 b7 b8 b9 b12 b13 b15 b17 hz1 hz2 hz3 hz7 iok jok kok lok rok sok hin hV HR HRW HCW o1 gr1 at1 hown0 hb0 hz0 hV0 dI dY wI eI eW hI hY hC hJ hE hIK hIN hIB hIM hYL hJK hJN hJB hJM
  go_wp2_with (first
    | (rw [HW9.out])
    | (go_at_call 15; with_reducible show Calls _ _ #[Value.agg #[Value.int _ (IK : Int), _, _, _], _] _ _; refine HS1.mono ?_; rintro e w10 ⟨rfl, b10⟩; have cv1 := HC1 w10 b10; have cv2 := HC2 w10 b10; have u7 := HT7.out.1.same (b10.block _ HT7.out.1.lt); have u9 := HT7.out.2.same (b10.block _ HT7.out.2.lt); obtain ⟨z0, z1, z2, z3, _⟩ := u7.facts; obtain ⟨v0, v1, v2, v3, _⟩ := u9.facts; have HS3 := HS2 w10 b10)
    | (go_at_call 15; refine HS3.mono ?_; rintro e w11 ⟨rfl, b11⟩; have cv3 := HC3 w11 (b10.trans (b11.mono b10.size)); have cv4 := HC4 w11 (b10.trans (b11.mono b10.size))))
  go_ret
  exact ⟨rfl, HB9.out.trans ((b10.trans (b11.mono b10.size)).mono HB9.out.size)⟩
/-- The library's tables, as they are laid for Decode alone. -/
theorem tabs_laid2 {w : World} (h : laidMet Tryd.prog [("unicode/utf8.acceptRanges", Rows.laid_unicode_utf8_acceptRanges), ("unicode/utf8.first", Rows.laid_unicode_utf8_first)] w) : Tabs w :=
  Tabs.of_reads (by have := Lib.laidMet.reads h (.tail _ (.head _)); rwa [show Rows.laid_unicode_utf8_first = Lib.firstData from Pinned.utf8First_eq] at this) (by have := Lib.laidMet.reads h (.head _); rwa [show (Rows.laid_unicode_utf8_acceptRanges : DataW Unit) = Lib.acceptData by kernel_rfl] at this)
set_option maxRecDepth 100000 in
set_option maxHeartbeats 1000000 in
theorem CborDecodes_walk (w : World) (a0 : Option Addr) (len0 cap0 : Nat) (z0 : List Int) (w0 : CameJ .u8 w a0 len0 cap0 z0) (hL : laidMet Tryd.prog Rows.cborDecodesRow.laid w) :
    Calls Tryd.prog 3 #[.slice a0 len0 cap0] w fun e w' => e = .returned (.bool true) ∧ Below w.heap.size w w' := by
  have hT : Tabs w := tabs_laid2 hL
  have hle := w0.le
  unfold maxLen at hle
  obtain ⟨bs, hn, hV⟩ := w0.byv
  clear w0 hL
  have hleI : (len0 : Int) ≤ 9223372036854775807 := by omega
  go_enter Tryd.func3, Tryd.ntmps3
  go_wp2_with fail
  go_at_call 9
  refine (CAwake_any w hT).mono ?_
  rintro e w1 ⟨rfl, b1⟩
  by_cases q : 12000 < len0
  · have q' : 12000 < (len0 : Int) := by omega
    go_wp2_with fail
    go_ret
    exact ⟨rfl, b1⟩
  have q' : ¬ 12000 < (len0 : Int) := by omega
  have hV1 := (hV.keep (fun k hk _ => b1.block k hk)).mono (Q := fun b => b < w1.heap.size) (fun k hk _ => by have := b1.size; omega)
  have HD := ctold_any a0 len0 cap0 bs w1 hn hV1 (hT.below b1) (by omega)
  go_wp2_with (go_at_call 10; refine HD.mono ?_; rintro e w2 ⟨rfl, b2⟩)
  go_ret
  exact ⟨rfl, b1.trans (b2.mono b1.size)⟩
end Go.Proofs.YtfmldcibhllpcaaDoor
