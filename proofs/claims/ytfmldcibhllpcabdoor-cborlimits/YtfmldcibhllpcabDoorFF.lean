/-
  The code's writer: kids.
-/
import Derived.Test.YtfmldcibhllpcabDoorFE
import Derived.Test.YtfmldcibhllpcabDoorCW
namespace Go.Proofs.YtfmldcibhllpcabDoor
open Go.Shelf Go.RowKit
set_option linter.unusedVariables false
set_option linter.unusedSimpArgs false

/-- Bytes ahead of what is written. -/
def joinR (b : Bs) (R : Except Nat (Bs × Nat)) : Except Nat (Bs × Nat) := match R with
  | .error e => .error e
  | .ok (b2, t2) => .ok (b ++ b2, t2)
theorem joinR_nil (R : Except Nat (Bs × Nat)) : joinR [] R = R := by cases R <;> rfl
theorem joinR_join (a b : Bs) (R : Except Nat (Bs × Nat)) : joinR a (joinR b R) = joinR (a ++ b) R := by
  cases R with
  | error e => rfl
  | ok r => obtain ⟨c, t⟩ := r; simp [joinR]
/-- What is written behind an item. -/
def nextR (R : Except Nat (Bs × Nat)) (F : Nat → Except Nat (Bs × Nat)) : Except Nat (Bs × Nat) := match R with
  | .error e => .error e
  | .ok (b1, t1) => joinR b1 (F t1)
/-- The last key ahead of kid j. -/
def lastAt (kids : List It) (j : Nat) : Option It := if j = 0 then none else if j % 2 = 0 then kids[j - 2]? else kids[j - 1]?
theorem encKs_step (enc : Nat → It → Except Nat (Bs × Nat)) (pairs : Bool) (kids : List It) (j : Nat) (k : It) (t : Nat) (hk : kids[j]? = some k) :
    encKs enc pairs (decide (j % 2 = 0)) (lastAt kids j) (kids.drop j) t = if pairs && decide (j % 2 = 0) && decide (keyE (lastAt kids j) k ≠ 0) then .error (keyE (lastAt kids j) k) else nextR (enc t k) (encKs enc pairs (decide ((j + 1) % 2 = 0)) (lastAt kids (j + 1)) (kids.drop (j + 1))) := by
  obtain ⟨hj, hkj⟩ := List.getElem?_eq_some_iff.1 hk
  rw [List.drop_eq_getElem_cons hj, hkj, encKs]
  have e1 : (!decide (j % 2 = 0)) = decide ((j + 1) % 2 = 0) := by
    by_cases h : j % 2 = 0
    · simp [h]; omega
    · simp [h]; omega
  have e2 : (if decide (j % 2 = 0) = true then some k else lastAt kids j) = lastAt kids (j + 1) := by
    unfold lastAt
    by_cases h : j % 2 = 0
    · rw [if_pos (by simpa using h), if_neg (by omega), if_neg (by omega), Nat.add_sub_cancel, hk]
    · rw [if_neg (by simpa using h), if_neg (by omega), if_neg h, if_neg (by omega), if_pos (by omega), show j + 1 - 2 = j - 1 by omega]
  rw [e1, e2]
  rfl
theorem encKs_end (enc : Nat → It → Except Nat (Bs × Nat)) (pairs par : Bool) (l : Option It) (kids : List It) (t : Nat) : encKs enc pairs par l (kids.drop kids.length) t = .ok ([], t) := by
  rw [List.drop_length, encKs]
set_option maxHeartbeats 1000000 in
/-- keyError, behind the kids ahead. -/
theorem keyErr_kids (k : It) (d j ca : Nat) (P Q : Nat → Prop) (c0 c1 c2 c3 : Value) (qk q : Option Addr) (kids : List It) (w : World) (hk : ItHd w P [c0, c1, c2, c3] k qk) (hq : KidsAt (ItOk w Q d) w Q q kids) (hj : j ≤ kids.length) (he : j % 2 = 0) (hm : kids.length ≤ 1000000) :
    Calls Tryd.prog 32 #[.slice q j ca, .agg #[c0, c1, c2, c3]] w fun e w' => e = .returned (.int .i64 (keyE (lastAt kids j) k : Int)) ∧ Below w.heap.size w w' := by
  by_cases h0 : j = 0 ∨ keyC k = false
  · refine (keyError_first k P c0 c1 c2 c3 qk q j ca w hk h0 (by omega)).mono ?_
    rintro e w' ⟨rfl, hb⟩
    refine ⟨?_, hb⟩
    unfold keyE lastAt
    rcases h0 with rfl | h0
    · cases hkc : keyC k <;> simp [badOrd]
    · rw [if_pos h0, if_pos h0]; rfl
  · have hj2 : 2 ≤ j := by omega
    have hkc : keyC k = true := by cases hkc : keyC k <;> simp_all
    obtain ⟨m, rfl⟩ : ∃ m, j = m + 2 := ⟨j - 2, by omega⟩
    have hg : kids[m]? = some kids[m] := List.getElem?_eq_getElem (by omega)
    obtain ⟨b, o, e, hP, a0, a1, a2, a3, k0, k1, k2, k3, hr⟩ := hq m _ hg
    obtain ⟨ql, hhd⟩ := hr.head
    subst e
    refine (keyError_next k kids[m] P Q c0 c1 c2 c3 a0 a1 a2 a3 qk ql b o m ca w hk hhd hkc (by omega) k0 k1 k2 k3).mono ?_
    rintro e w' ⟨rfl, hb⟩
    have e3 : keyE (lastAt kids (m + 2)) k = if aheadC kids[m] k then 0 else 21 := by
      have hl : lastAt kids (m + 2) = some kids[m] := by unfold lastAt; rw [if_neg (by omega), if_pos he, Nat.add_sub_cancel, hg]
      unfold keyE
      rw [hl, if_neg (by simp [hkc])]
      cases ha : aheadC kids[m] k <;> simp [badOrd, ha]
    refine ⟨?_, hb⟩
    rw [e3]
    cases ha : aheadC kids[m] k <;> rfl
set_option maxHeartbeats 1000000 in
/-- The deferred function. -/
theorem wshut_any (rb g : Nat) (fb : Option Nat) (bs : Bs) (t o : Nat) (u : FrameMode) (w : World) (hb : CBx w rb 54 (.pointer (some ⟨g, 0, none⟩))) (hr : Wt w g fb bs t (o + 1)) (ho : o ≤ 100) :
    CallsD Tryd.prog 31 #[.pointer (some ⟨rb, 0, none⟩)] u w fun e u' w' => u' = u ∧ (e = .returned (.tuple #[]) ∧ w' = w.setCell ⟨g, 3, none⟩ (.int .i64 (o : Int))) := by
  have c1 := hb.cell
  have c2 := hr.opn
  have f2 := hr.frz 3
  have e1 : ((o + 1 : Nat) : Int) = (o : Int) + 1 := by omega
  rw [e1] at c2
  have e2 : (o : Int) + 1 - 1 = (o : Int) := by omega
  have ho' : (o : Int) ≤ 100 := by omega
  go_enter_d Tryd.func31, Tryd.ntmps31
  go_wp2
  go_end0
  exact ⟨rfl, rfl⟩
set_option maxRecDepth 100000 in
set_option maxHeartbeats 1000000 in
/-- kids, too deep. -/
theorem wkids_deep (g : Nat) (fb : Option Nat) (bs : Bs) (t : Nat) (kd n : Int) (p q : Option Addr) (L c M c' : Nat) (w : World) (h : Wt w g fb bs t 8) :
    Calls Tryd.prog 20 #[.pointer (some ⟨g, 0, none⟩), .agg #[.int .u8 kd, .int .u64 n, .slice p L c, .slice q M c']] w (EPost g fb bs 8 w (.error 13)) := by
  have co := h.opn
  have hlt := h.lt
  go_enter_defers Tryd.func20, Tryd.ntmps20
  go_wp2
  have hb := ((Below.refl w.heap.size w).alloc (Nat.le_refl _) (.cells #[.pointer (some ⟨g, 0, none⟩)] 54)).alloc (by rw [alloc_sz]; omega) (.cells #[.int .u8 kd, .int .u64 n, .slice p L c, .slice q M c'] 29)
  exact ⟨_, results_tmp rfl _ _ _, EPost.bad (WTo.ofBelow hb) (h.below hb) (by decide) rfl⟩
theorem Wt.row {w : World} {g : Nat} {fb : Option Nat} {bs : Bs} {t o : Nat} (h : Wt w g fb bs t o) {b : Nat} (hb : some b = fb) : ∃ cur, w.heap[b]? = some (.cells cur 5 (0, 0)) := by
  obtain ⟨fv, lg, hs, h1, h2, h3, _⟩ := h
  exact (owns_lt h3 (h2.trans hb.symm)).2.2
theorem Wt.notBox {w : World} {g : Nat} {fb : Option Nat} {bs : Bs} {t o : Nat} (h : Wt w g fb bs t o) {b : Nat} {v : Value} (hb : CBx w b 54 v) : some b ≠ fb := fun e => by
  obtain ⟨cur, hc⟩ := h.row e
  unfold CBx at hb
  rw [hc] at hb
  simp at hb
theorem Wt.notSlot {w : World} {g : Nat} {fb : Option Nat} {bs : Bs} {t o : Nat} (h : Wt w g fb bs t o) {b : Nat} {c0 c1 c2 c3 : Value} (hb : Slot w b c0 c1 c2 c3) : some b ≠ fb := fun e => by
  obtain ⟨cur, hc⟩ := h.row e
  unfold Slot at hb
  rw [hc] at hb
  simp at hb
/-- The state of the loop over kids. -/
structure WSt (pairs : Bool) (d g o rb sb t0 : Nat) (fb : Option Nat) (bs : Bs) (cs : Value × Value × Value × Value) (kids : List It) (w : World) (j : Nat) (wr : World) (fb' : Option Nat) (Y : Bs) (t' : Nat) : Prop where
  eq : encKs (encI d) pairs true none kids t0 = joinR Y (encKs (encI d) pairs (decide (j % 2 = 0)) (lastAt kids j) (kids.drop j) t')
  hto : WTo g fb w wr fb'
  wt : Wt wr g fb' (bs ++ Y) t' (o + 1)
  box : CBx wr rb 54 (.pointer (some ⟨g, 0, none⟩))
  slot : Slot wr sb cs.1 cs.2.1 cs.2.2.1 cs.2.2.2
  top : t' ≤ 512
set_option maxRecDepth 100000 in
set_option maxHeartbeats 4000000 in
/-- kids, of an array. -/
theorem wkids_arr (d : Nat) (HI : EncOK d) (g : Nat) (fb : Option Nat) (bs : Bs) (t o : Nat) (kids : List It) (n : Int) (p q : Option Addr) (L c M c' : Nat) (w : World) (h : Wt w g fb bs t o) (hG : Gw g) (hT : Tw w) (hd : d + 1 + o = 8) (ht : t ≤ 512) (hM : kids.length = M) (hM2 : M ≤ 1000000) (hc' : M ≤ c') (hq : KidsAt (ItOk w (fun b => b < g) d) w (fun b => b < g) q kids) (hf : ∀ k ∈ kids, fitC d k) :
    Calls Tryd.prog 20 #[.pointer (some ⟨g, 0, none⟩), .agg #[.int .u8 5, .int .u64 n, .slice p L c, .slice q M c']] w (EPost g fb bs o w (joinR (headF 4 M) (encKs (encI d) false true none kids t))) := by
  have hmf : ∀ (fn : Fn) (first cap : Array Value) (w : World), (Instr.makeFunc fn first cap).run Tryd.prog w = .ok (.func fn first cap) w := fun _ _ _ _ => rfl
  have hg := h.lt
  obtain ⟨rb, hrb⟩ : ∃ rb, w.heap.size = rb := ⟨_, rfl⟩
  obtain ⟨W0, hW0⟩ : ∃ W0, w.alloc (.cells #[.pointer (some ⟨g, 0, none⟩)] 54) = W0 := ⟨_, rfl⟩
  have hb0 : Below w.heap.size w W0 := by rw [← hW0]; exact (Below.refl _ _).alloc (Nat.le_refl _) _
  have z0 : W0.heap.size = rb + 1 := by rw [← hW0, ← hrb]; exact alloc_sz w _
  have x0 : CBx W0 rb 54 (.pointer (some ⟨g, 0, none⟩)) := by unfold CBx; rw [← hW0, ← hrb]; exact heap_alloc_new _ _
  obtain ⟨W1, hW1⟩ : ∃ W1, W0.alloc (.cells #[.int .u8 5, .int .u64 n, .slice p L c, .slice q M c'] 29) = W1 := ⟨_, rfl⟩
  have hb1 : Below W0.heap.size W0 W1 := by rw [← hW1]; exact (Below.refl _ _).alloc (Nat.le_refl _) _
  have z1 : W1.heap.size = rb + 2 := by rw [← hW1, alloc_sz, z0]
  have s1 : Slot W1 (rb + 1) (.int .u8 5) (.int .u64 n) (.slice p L c) (.slice q M c') := by rw [← hW1, ← z0]; exact Slot.new W0 _ _ _ _
  have x1 := x0.same (hb1.block _ x0.lt)
  have hb01 : Below w.heap.size w W1 := hb0.trans (hb1.mono hb0.size)
  have r1 := h.below hb01
  have e1 := x1.cell
  have co := r1.opn
  have hob : ((o : Int) == 8) = false := by simp; omega
  have hoI : (o : Int) ≤ 7 := by omega
  have hMI : (M : Int) ≤ 1000000 := by omega
  have HN := number_any g fb bs t o 4 M (by decide) (by omega) W1 r1 (hT.below hb01).2
  obtain ⟨k0, k1, k2, k3, _⟩ := s1.facts
  go_enter_defers Tryd.func20, Tryd.ntmps20
  go_wp2_with fail
  go_at_call 17
  refine HN.mono ?_
  rintro e w2 ⟨rfl, fb2, h1, h2⟩
  have hnf : ∀ k, rb ≤ k → some k ≠ fb := fun k hk e => by have := h.fb _ e.symm; omega
  have x2 := x1.same (h1.keep x1.lt (by omega) (hnf _ (Nat.le_refl _)))
  have s2 := s1.same (h1.keep s1.lt (by omega) (hnf _ (by omega)))
  have hto := (WTo.ofBelow (g := g) (fb := fb) hb01).trans h1
  have e2 := x2.cell
  have co2 := h2.opn
  have fo2 := h2.frz 3
  obtain ⟨l0, l1, l2, l3, _⟩ := s2.facts
  obtain ⟨W3, hW3⟩ : ∃ W3, w2.setCell ⟨g, 3, none⟩ (.int .i64 ((o + 1 : Nat) : Int)) = W3 := ⟨_, rfl⟩
  have eo : ((o + 1 : Nat) : Int) = (o : Int) + 1 := by omega
  have r3 : Wt W3 g fb2 (bs ++ headF 4 M) t (o + 1) := by rw [← hW3]; exact h2.setOpen (o + 1)
  have t3 : WTo g fb w W3 fb2 := by rw [← hW3]; exact hto.trans (WTo.setCell g fb2 w2 3 _)
  have b3 : ∀ k, k ≠ g → W3.heap[k]? = w2.heap[k]? := fun k hk => by rw [← hW3]; exact Below.heap_setCell _ _ _ _ hk
  have x3 := x2.same (b3 rb (by omega))
  have s3 := s2.same (b3 (rb + 1) (by omega))
  rw [eo] at hW3
  have e3 := x3.cell
  obtain ⟨m0, m1, m2, m3, _⟩ := s3.facts
  have P0 : Hid (WSt false d g o rb (rb + 1) t fb (bs ++ headF 4 M) (.int .u8 5, .int .u64 n, .slice p L c, .slice q M c') kids w 0 W3 fb2 [] t) := ⟨by simp [joinR_nil, lastAt], t3, by simpa using r3, x3, s3, ht⟩
  clear hW0 hW1 z0 z1 x0 x1 s1 r1 e1 co k0 k1 k2 k3 HN h1 h2 x2 s2 r3 t3 hto
  go_wp2_with fail
  clear hW3 e2 co2 fo2 l0 l1 l2 l3 e3 m0 m1 m2 m3 hb0 hb1 x3 s3 b3
  have HW : Hid (Below w.heap.size w w ∧ g < rb ∧ w.heap.size = rb ∧ Tw w ∧ Wt w g fb bs t o ∧ kids.length = M ∧ KidsAt (ItOk w (fun b => b < g) d) w (fun b => b < g) q kids) := ⟨Below.refl _ _, by omega, hrb, hT, h, hM, hq⟩
  clear h hT hM hq hb01 hrb hg
  go_loopw [43] (fun v43 wr => ∃ (j : Nat) (fb' : Option Nat) (Y : Bs) (t' : Nat), v43 = .int .i64 (j : Int) ∧ j ≤ M ∧ WSt false d g o rb (rb + 1) t fb (bs ++ headF 4 M) (.int .u8 5, .int .u64 n, .slice p L c, .slice q M c') kids w j wr fb' Y t') (fun v43 _ => M - (intOf v43).toNat)
  case atStart => exact ⟨0, fb2, [], t, rfl, Nat.zero_le _, P0.out⟩
  case round =>
    obtain ⟨j, fb', Y, t', rfl, hj, P⟩ := hrel
    have x4 := P.box
    have e4 := x4.cell
    obtain ⟨n0, n1, n2, n3, _⟩ := P.slot.facts
    rcases Nat.lt_or_eq_of_le hj with hj | rfl
    · have hjI : (j : Int) < (M : Int) := by omega
      obtain ⟨hw0, hw1, hw2, hw3, hw4, hw5, hw6⟩ := HW.out
      obtain ⟨k, hkj⟩ : ∃ k, kids[j]? = some k := ⟨_, List.getElem?_eq_getElem (by omega)⟩
      have hlow : Below g w wr := P.hto.low (fun b e => (hw4.fb b e).1) (by omega)
      obtain ⟨b, f, rfl, hbg, c0, c1, c2, c3, k0, k1, k2, k3, hr⟩ := hw6 j k hkj
      have kp : ∀ {x : Nat} {v : Value}, w.cell? ⟨b, x, none⟩ = some v → wr.cell? ⟨b, x, none⟩ = some v := fun {x v} h => (World.cell?_of_block (w := w) (hlow.block b hbg)).trans h
      have k0 := kp k0
      have k1 := kp k1
      have k2 := kp k2
      have k3 := kp k3
      have hr1 : ItOk wr (fun b => b < g) d [c0, c1, c2, c3] k := hr.keep (fun g' hg' _ => hlow.block g' hg')
      obtain ⟨y1, hy1⟩ := hr1.head
      obtain ⟨p1, m1, m1', rfl, rfl, rfl, rfl, _⟩ := hy1.cells
      have hb5 := (Below.refl wr.heap.size wr).alloc (Nat.le_refl _) (.cells #[.int .u8 (k.kind : Int), .int .u64 (k.n : Int), .slice p1 k.b.length m1, .slice y1 k.kids.length m1'] 29)
      have HH := HI g fb' (bs ++ headF 4 M ++ Y) t' (o + 1) k _ _ _ _ _ (P.wt.below hb5) hG ((hw3.low hG hlow).below hb5) (by omega) P.top (hf k (List.mem_of_getElem? hkj)) (hr1.below hb5)
      have heq := P.eq
      rw [encKs_step _ _ _ _ _ _ hkj, Bool.false_and, Bool.false_and, if_neg (by decide)] at heq
      obtain ⟨KK, hKK⟩ : ∃ n : Nat, k.kind = n := ⟨_, rfl⟩
      obtain ⟨NN, hNN⟩ : ∃ n : Nat, k.n = n := ⟨_, rfl⟩
      obtain ⟨LL, hLL⟩ : ∃ n : Nat, k.b.length = n := ⟨_, rfl⟩
      obtain ⟨MM, hMM⟩ : ∃ n : Nat, k.kids.length = n := ⟨_, rfl⟩
      rw [hKK, hNN, hLL, hMM] at HH hb5
      rw [hKK] at k0
      rw [hNN] at k1
      rw [hLL] at k2
      rw [hMM] at k3
      have HP : Hid (WSt false d g o rb (rb + 1) t fb (bs ++ headF 4 M) (.int .u8 5, .int .u64 n, .slice p L c, .slice (some ⟨b, f, none⟩) M c') kids w j wr fb' Y t' ∧ Below wr.heap.size wr (wr.alloc (.cells #[.int .u8 (KK : Int), .int .u64 (NN : Int), .slice p1 LL m1, .slice y1 MM m1'] 29)) ∧ g < rb) := ⟨P, hb5, hw1⟩
      have hltk := World.block_lt_of_cell? wr _ k0
      have hlts := World.block_lt_of_cell? wr _ n0
      have hltb := x4.lt
      obtain ⟨RR, hRR⟩ : ∃ RR, encI d t' k = RR := ⟨_, rfl⟩
      have HT4 : ∀ b1 t4, RR = .ok (b1, t4) → t4 ≤ 512 := fun b1 t4 e => (enc_cnt d t' k b1 t4 P.top (hRR.trans e)).2
      rw [hRR] at HH heq
      have HQ : Hid (encKs (encI d) false true none kids t = joinR Y (nextR RR (encKs (encI d) false (decide ((j + 1) % 2 = 0)) (lastAt kids (j + 1)) (kids.drop (j + 1))))) := heq
      clear kp hr hr1 hy1 hkj hKK hNN hLL hMM hRR heq P hlow hw0 hw1 hw2 hw3 hw4 hw5 hw6 hb5
      go_wp2_with fail
      go_at_call 13
      refine HH.mono ?_
      rintro e w4 ⟨fb4, zs, t4, to4, wt4, (⟨b1, hR, rfl, rfl⟩ | ⟨kk, hR, hk0, hk1, rfl⟩)⟩
      · obtain ⟨P, hb5, hgr⟩ := HP.out
        have x6 := x4.same ((to4.keep (by have := hb5.size; omega) (by omega) ((P.wt.below hb5).notBox (x4.same (hb5.block _ x4.lt)))).trans (hb5.block _ x4.lt))
        have s6 := P.slot.same ((to4.keep (by have := hb5.size; omega) (by omega) ((P.wt.below hb5).notSlot (P.slot.same (hb5.block _ P.slot.lt)))).trans (hb5.block _ P.slot.lt))
        have HS : Hid (WSt false d g o rb (rb + 1) t fb (bs ++ headF 4 M) (.int .u8 5, .int .u64 n, .slice p L c, .slice (some ⟨b, f, none⟩) M c') kids w (j + 1) w4 fb4 (Y ++ b1) t4) := by
          refine ⟨?_, (P.hto.trans (WTo.ofBelow hb5)).trans to4, by simpa using wt4, x6, s6, ?_⟩
          · rw [HQ.out, hR, nextR, joinR_join]
          · exact HT4 b1 t4 hR
        clear P hb5 HH x6 s6 to4 wt4
        go_wp2_with fail
        exact ⟨⟨j + 1, fb4, Y ++ b1, t4, by go_num, by omega, HS.out⟩, by simp only [intOf]; omega⟩
      · obtain ⟨P, hb5, hgr⟩ := HP.out
        have x6 := x4.same ((to4.keep (by have := hb5.size; omega) (by omega) ((P.wt.below hb5).notBox (x4.same (hb5.block _ x4.lt)))).trans (hb5.block _ x4.lt))
        have hkb : ((kk : Int) != 0) = true := by simp; omega
        have hkI : (kk : Int) < 100 := by omega
        have HS : Hid (WTo g fb w w4 fb4) := (P.hto.trans (WTo.ofBelow hb5)).trans to4
        clear P hb5 HH
        go_wp2_with fail
        refine leaves_cons (f := 31) (args := #[.pointer (some ⟨rb, 0, none⟩)]) (by simp) (by simp [go_sem]) ?_
        refine (wshut_any rb g fb4 zs t4 o .returning _ x6 wt4 (by omega)).mono ?_
        rintro e u' w'' ⟨rfl, rfl, rfl⟩
        refine ⟨_, results_tmp rfl _ _ _, ?_⟩
        rw [HQ.out, hR]
        exact EPost.bad (HS.out.trans (WTo.setCell g fb4 _ 3 _)) (wt4.setOpen o) ⟨hk0, hk1⟩ rfl
    · have heq := P.eq
      rw [← HW.out.2.2.2.2.2.1, encKs_end] at heq
      have HQ : Hid (encKs (encI d) false true none kids t = .ok (Y ++ [], t')) := heq
      have HP : Hid (WSt false d g o rb (rb + 1) t fb (bs ++ headF 4 j) (.int .u8 5, .int .u64 n, .slice p L c, .slice q j c') kids w j wr fb' Y t') := P
      clear heq P P0
      go_wp2_with fail
      refine leaves_cons (f := 31) (args := #[.pointer (some ⟨rb, 0, none⟩)]) (by simp) (by simp [go_sem]) ?_
      refine (wshut_any rb g fb' (bs ++ headF 4 j ++ Y) t' o .returning _ HP.out.box HP.out.wt (by omega)).mono ?_
      rintro e u' w'' ⟨rfl, rfl, rfl⟩
      refine ⟨_, results_tmp rfl _ _ _, ?_⟩
      rw [HQ.out, List.append_nil]
      exact EPost.fine (HP.out.hto.trans (WTo.setCell g fb' _ 3 _)) (HP.out.wt.setOpen o) (by simp) rfl
end Go.Proofs.YtfmldcibhllpcabDoor
