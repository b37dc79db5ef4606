/-
  The code's writer: kids of a map.
-/
import Derived.Test.YtfmldcibhllpcabDoorFF
namespace Go.Proofs.YtfmldcibhllpcabDoor
open Go.Shelf Go.RowKit
set_option linter.unusedVariables false
set_option linter.unusedSimpArgs false

set_option maxRecDepth 100000 in
set_option maxHeartbeats 1000000 in
/-- kids, of a map with a key too many. -/
theorem wkids_odd (g : Nat) (fb : Option Nat) (bs : Bs) (t o : Nat) (n : Int) (p q : Option Addr) (L c M c' : Nat) (w : World) (h : Wt w g fb bs t o) (ho : o < 8) (hM : M % 2 = 1) (hM2 : M ≤ 1000000) :
    Calls Tryd.prog 20 #[.pointer (some ⟨g, 0, none⟩), .agg #[.int .u8 6, .int .u64 n, .slice p L c, .slice q M c']] w (EPost g fb bs o w (.error 20)) := by
  have co := h.opn
  have hlt := h.lt
  have hob : ((o : Int) == 8) = false := by simp; omega
  have hMI : (M : Int) ≤ 1000000 := by omega
  have hMm : (M : Int) % 2 = 1 := by omega
  have hMt : (M : Int).tmod 2 = 1 := by rw [Int.tmod_eq_emod_of_nonneg (by omega)]; exact hMm
  go_enter_defers Tryd.func20, Tryd.ntmps20
  go_wp2
  have hb := ((Below.refl w.heap.size w).alloc (Nat.le_refl _) (.cells #[.pointer (some ⟨g, 0, none⟩)] 54)).alloc (by rw [alloc_sz]; omega) (.cells #[.int .u8 6, .int .u64 n, .slice p L c, .slice q M c'] 29)
  exact ⟨_, results_tmp rfl _ _ _, EPost.bad (WTo.ofBelow hb) (h.below hb) (by decide) rfl⟩
theorem kids_low {w w' : World} {g d : Nat} {q : Option Addr} {kids : List It} (h : KidsAt (ItOk w (fun b => b < g) d) w (fun b => b < g) q kids) (hb : ∀ k, k < g → w'.heap[k]? = w.heap[k]?) : KidsAt (ItOk w' (fun b => b < g) d) w' (fun b => b < g) q kids := fun j k hj => by
  obtain ⟨b, o, e, hP, c0, c1, c2, c3, k0, k1, k2, k3, hr⟩ := h j k hj
  have hc : ∀ x v, w.cell? ⟨b, x, none⟩ = some v → w'.cell? ⟨b, x, none⟩ = some v := fun x v hv => by rw [← hv]; exact World.cell?_of_block (w := w) (hb b hP)
  exact ⟨b, o, e, hP, c0, c1, c2, c3, hc _ _ k0, hc _ _ k1, hc _ _ k2, hc _ _ k3, hr.keep (fun k hk _ => hb k hk)⟩
set_option maxRecDepth 100000 in
set_option maxHeartbeats 4000000 in
/-- kids, of a map. -/
theorem wkids_map (d : Nat) (HI : EncOK d) (g : Nat) (fb : Option Nat) (bs : Bs) (t o : Nat) (kids : List It) (n : Int) (p q : Option Addr) (L c M c' : Nat) (w : World) (h : Wt w g fb bs t o) (hG : Gw g) (hT : Tw w) (hd : d + 1 + o = 8) (ht : t ≤ 512) (hM : kids.length = M) (hE : M % 2 = 0) (hM2 : M ≤ 1000000) (hc' : M ≤ c') (hq : KidsAt (ItOk w (fun b => b < g) d) w (fun b => b < g) q kids) (hf : ∀ k ∈ kids, fitC d k) :
    Calls Tryd.prog 20 #[.pointer (some ⟨g, 0, none⟩), .agg #[.int .u8 6, .int .u64 n, .slice p L c, .slice q M c']] w (EPost g fb bs o w (joinR (headF 5 (M / 2)) (encKs (encI d) true true none kids t))) := by
  obtain ⟨m, hm⟩ : ∃ m, M / 2 = m := ⟨_, rfl⟩
  rw [hm]
  have hmf : ∀ (fn : Fn) (first cap : Array Value) (w : World), (Instr.makeFunc fn first cap).run Tryd.prog w = .ok (.func fn first cap) w := fun _ _ _ _ => rfl
  have hg := h.lt
  obtain ⟨rb, hrb⟩ : ∃ rb, w.heap.size = rb := ⟨_, rfl⟩
  obtain ⟨W0, hW0⟩ : ∃ W0, w.alloc (.cells #[.pointer (some ⟨g, 0, none⟩)] 54) = W0 := ⟨_, rfl⟩
  have hb0 : Below w.heap.size w W0 := by rw [← hW0]; exact (Below.refl _ _).alloc (Nat.le_refl _) _
  have z0 : W0.heap.size = rb + 1 := by rw [← hW0, ← hrb]; exact alloc_sz w _
  have x0 : CBx W0 rb 54 (.pointer (some ⟨g, 0, none⟩)) := by unfold CBx; rw [← hW0, ← hrb]; exact heap_alloc_new _ _
  obtain ⟨W1, hW1⟩ : ∃ W1, W0.alloc (.cells #[.int .u8 6, .int .u64 n, .slice p L c, .slice q M c'] 29) = W1 := ⟨_, rfl⟩
  have hb1 : Below W0.heap.size W0 W1 := by rw [← hW1]; exact (Below.refl _ _).alloc (Nat.le_refl _) _
  have z1 : W1.heap.size = rb + 2 := by rw [← hW1, alloc_sz, z0]
  have s1 : Slot W1 (rb + 1) (.int .u8 6) (.int .u64 n) (.slice p L c) (.slice q M c') := by rw [← hW1, ← z0]; exact Slot.new W0 _ _ _ _
  have x1 := x0.same (hb1.block _ x0.lt)
  have hb01 : Below w.heap.size w W1 := hb0.trans (hb1.mono hb0.size)
  have r1 := h.below hb01
  have e1 := x1.cell
  have co := r1.opn
  have hob : ((o : Int) == 8) = false := by simp; omega
  have hoI : (o : Int) ≤ 7 := by omega
  have hMI : (M : Int) ≤ 1000000 := by omega
  have hMm : (M : Int) % 2 = 0 := by omega
  have hMt : (M : Int).tmod 2 = 0 := by rw [Int.tmod_eq_emod_of_nonneg (by omega)]; exact hMm
  have hMd : (M : Int) / 2 = (m : Int) := by omega
  have hMe : (M : Int).tdiv 2 = (m : Int) := by rw [Int.tdiv_eq_ediv_of_nonneg (by omega)]; exact hMd
  have HN := number_any g fb bs t o 5 m (by decide) (by omega) W1 r1 (hT.below hb01).2
  obtain ⟨k0, k1, k2, k3, _⟩ := s1.facts
  clear hm
  go_enter_defers Tryd.func20, Tryd.ntmps20
  go_wp2_with fail
  go_at_call 17
  refine HN.mono ?_
  rintro e w2 ⟨rfl, fb2, h1, h2⟩
  have hnf : ∀ k, rb ≤ k → some k ≠ fb := fun k hk e => by have := h.fb _ e.symm; omega
  have x2 := x1.same (h1.keep x1.lt (by omega) (hnf _ (Nat.le_refl _)))
  have s2 := s1.same (h1.keep s1.lt (by omega) (hnf _ (by omega)))
  have hto := (WTo.ofBelow (g := g) (fb := fb) hb01).trans h1
  have e2 := x2.cell
  have co2 := h2.opn
  have fo2 := h2.frz 3
  obtain ⟨l0, l1, l2, l3, _⟩ := s2.facts
  obtain ⟨W3, hW3⟩ : ∃ W3, w2.setCell ⟨g, 3, none⟩ (.int .i64 ((o + 1 : Nat) : Int)) = W3 := ⟨_, rfl⟩
  have eo : ((o + 1 : Nat) : Int) = (o : Int) + 1 := by omega
  have r3 : Wt W3 g fb2 (bs ++ headF 5 m) t (o + 1) := by rw [← hW3]; exact h2.setOpen (o + 1)
  have t3 : WTo g fb w W3 fb2 := by rw [← hW3]; exact hto.trans (WTo.setCell g fb2 w2 3 _)
  have b3 : ∀ k, k ≠ g → W3.heap[k]? = w2.heap[k]? := fun k hk => by rw [← hW3]; exact Below.heap_setCell _ _ _ _ hk
  have x3 := x2.same (b3 rb (by omega))
  have s3 := s2.same (b3 (rb + 1) (by omega))
  rw [eo] at hW3
  have e3 := x3.cell
  obtain ⟨m0, m1, m2, m3, _⟩ := s3.facts
  have P0 : Hid (WSt true d g o rb (rb + 1) t fb (bs ++ headF 5 m) (.int .u8 6, .int .u64 n, .slice p L c, .slice q M c') kids w 0 W3 fb2 [] t) := ⟨by simp [joinR_nil, lastAt], t3, by simpa using r3, x3, s3, ht⟩
  clear hW0 hW1 z0 z1 x0 x1 s1 r1 e1 co k0 k1 k2 k3 HN h1 h2 x2 s2 r3 t3 hto
  go_wp2_with fail
  clear hW3 e2 co2 fo2 l0 l1 l2 l3 e3 m0 m1 m2 m3 hb0 hb1 x3 s3 b3
  have HW : Hid (Below w.heap.size w w ∧ g < rb ∧ w.heap.size = rb ∧ Tw w ∧ Wt w g fb bs t o ∧ kids.length = M ∧ KidsAt (ItOk w (fun b => b < g) d) w (fun b => b < g) q kids) := ⟨Below.refl _ _, by omega, hrb, hT, h, hM, hq⟩
  clear h hT hM hq hb01 hrb hg
  go_loopw [43] (fun v43 wr => ∃ (j : Nat) (fb' : Option Nat) (Y : Bs) (t' : Nat), v43 = .int .i64 (j : Int) ∧ j ≤ M ∧ WSt true d g o rb (rb + 1) t fb (bs ++ headF 5 m) (.int .u8 6, .int .u64 n, .slice p L c, .slice q M c') kids w j wr fb' Y t') (fun v43 _ => M - (intOf v43).toNat)
  case atStart => exact ⟨0, fb2, [], t, rfl, Nat.zero_le _, P0.out⟩
  case round =>
    obtain ⟨j, fb', Y, t', rfl, hj, P⟩ := hrel
    have x4 := P.box
    have e4 := x4.cell
    obtain ⟨n0, n1, n2, n3, _⟩ := P.slot.facts
    rcases Nat.lt_or_eq_of_le hj with hj | rfl
    · have hjI : (j : Int) < (M : Int) := by omega
      obtain ⟨hw0, hw1, hw2, hw3, hw4, hw5, hw6⟩ := HW.out
      obtain ⟨k, hkj⟩ : ∃ k, kids[j]? = some k := ⟨_, List.getElem?_eq_getElem (by omega)⟩
      have hlow : Below g w wr := P.hto.low (fun b e => (hw4.fb b e).1) (by omega)
      obtain ⟨b, f, rfl, hbg, c0, c1, c2, c3, k0, k1, k2, k3, hr⟩ := hw6 j k hkj
      have kp : ∀ {x : Nat} {v : Value}, w.cell? ⟨b, x, none⟩ = some v → wr.cell? ⟨b, x, none⟩ = some v := fun {x v} h => (World.cell?_of_block (w := w) (hlow.block b hbg)).trans h
      have k0 := kp k0
      have k1 := kp k1
      have k2 := kp k2
      have k3 := kp k3
      have hr1 : ItOk wr (fun b => b < g) d [c0, c1, c2, c3] k := hr.keep (fun g' hg' _ => hlow.block g' hg')
      obtain ⟨y1, hy1⟩ := hr1.head
      obtain ⟨p1, m1, m1', rfl, rfl, rfl, rfl, _⟩ := hy1.cells
      have hb5 := (Below.refl wr.heap.size wr).alloc (Nat.le_refl _) (.cells #[.int .u8 (k.kind : Int), .int .u64 (k.n : Int), .slice p1 k.b.length m1, .slice y1 k.kids.length m1'] 29)
      have HH := fun (W : World) (hW : Below wr.heap.size wr W) => HI g fb' (bs ++ headF 5 m ++ Y) t' (o + 1) k _ _ _ _ W (P.wt.below hW) hG ((hw3.low hG hlow).below hW) (by omega) P.top (hf k (List.mem_of_getElem? hkj)) (hr1.below hW)
      have HK := fun (he : j % 2 = 0) (W : World) (hW : Below wr.heap.size wr W) => keyErr_kids k d j c' (fun b => b < g) (fun b => b < g) _ _ _ _ y1 (some ⟨b, f, none⟩) kids W (hy1.keep (fun g' _ hg' => hW.block g' hg')) (show KidsAt (ItOk W (fun b => b < g) d) W (fun b => b < g) (some ⟨b, f, none⟩) kids from kids_low hw6 (fun g' hg' => (hW.block g' (by have := hlow.size; have := P.wt.lt; omega)).trans (hlow.block g' hg'))) (by omega) he (by omega)
      have heq := P.eq
      rw [encKs_step _ _ _ _ _ _ hkj, Bool.true_and] at heq
      obtain ⟨KK, hKK⟩ : ∃ n : Nat, k.kind = n := ⟨_, rfl⟩
      obtain ⟨NN, hNN⟩ : ∃ n : Nat, k.n = n := ⟨_, rfl⟩
      obtain ⟨LL, hLL⟩ : ∃ n : Nat, k.b.length = n := ⟨_, rfl⟩
      obtain ⟨MM, hMM⟩ : ∃ n : Nat, k.kids.length = n := ⟨_, rfl⟩
      rw [hKK, hNN, hLL, hMM] at HH HK hb5
      rw [hKK] at k0
      rw [hNN] at k1
      rw [hLL] at k2
      rw [hMM] at k3
      have HP : Hid (WSt true d g o rb (rb + 1) t fb (bs ++ headF 5 m) (.int .u8 6, .int .u64 n, .slice p L c, .slice (some ⟨b, f, none⟩) M c') kids w j wr fb' Y t' ∧ g < rb) := ⟨P, hw1⟩
      have HB5 : Hid (Below wr.heap.size wr (wr.alloc (.cells #[.int .u8 (KK : Int), .int .u64 (NN : Int), .slice p1 LL m1, .slice y1 MM m1'] 29))) := hb5
      have hltk := World.block_lt_of_cell? wr _ k0
      have hlts := World.block_lt_of_cell? wr _ n0
      have hltb := x4.lt
      obtain ⟨RR, hRR⟩ : ∃ RR, encI d t' k = RR := ⟨_, rfl⟩
      have HT4 : Hid (∀ b1 t4, RR = .ok (b1, t4) → t4 ≤ 512) := fun b1 t4 e => (enc_cnt d t' k b1 t4 P.top (hRR.trans e)).2
      rw [hRR] at heq
      simp only [hRR] at HH
      by_cases he : j % 2 = 0
      · have HK2 := HK he
        have hj2 : (j : Int) % 2 = 0 := by omega
        have hjt : (j : Int).tmod 2 = 0 := by rw [Int.tmod_eq_emod_of_nonneg (by omega)]; exact hj2
        obtain ⟨ke, hke⟩ : ∃ ke, keyE (lastAt kids j) k = ke := ⟨_, rfl⟩
        have hkr : ke < 100 := by
          rw [← hke]
          unfold keyE
          split
          · decide
          · split
            · decide
            · decide
        rw [hke] at heq
        simp only [hke] at HK2
        have hkI : (ke : Int) < 100 := by omega
        have HEQ : Hid (encKs (encI d) true true none kids t = joinR Y (if (decide (j % 2 = 0) && decide (ke ≠ 0)) = true then .error ke else nextR RR (encKs (encI d) true (decide ((j + 1) % 2 = 0)) (lastAt kids (j + 1)) (kids.drop (j + 1))))) := heq
        have hjM : (j : Int) ≤ (c' : Int) := by omega
        clear hke HK kp hr hr1 hy1 hkj hKK hNN hLL hMM hRR heq P hlow hw0 hw1 hw2 hw3 hw4 hw5 hw6 hb5
        go_wp2_with fail
        have a0 := Slot.new wr (.int .u8 (KK : Int)) (.int .u64 (NN : Int)) (.slice p1 LL m1) (.slice y1 MM m1')
        have hb5 := HB5.out
        obtain ⟨W5, hW5⟩ : ∃ W5, wr.alloc (.cells #[.int .u8 (KK : Int), .int .u64 (NN : Int), .slice p1 LL m1, .slice y1 MM m1'] 29) = W5 := ⟨_, rfl⟩
        rw [hW5] at a0 hb5 ⊢
        obtain ⟨k0', k1', k2', k3', _⟩ := a0.facts
        have n3' := (hb5.cell (p := ⟨rb + 1, 3, none⟩) hlts).trans n3
        have HK3 := HK2 W5.drew hb5.drew
        have a0l := a0.lt
        have n3l := World.block_lt_of_cell? W5 _ n3'
        have HB6 : Hid (Below wr.heap.size wr W5) := hb5
        clear hW5 HB5 hb5 a0
        go_region_held3 (fun W => W.cell? ⟨rb + 1, 3, none⟩ = some (.slice (some ⟨b, f, none⟩) M c') ∧ W.cell? ⟨wr.heap.size, 0, none⟩ = some (.int .u8 (KK : Int)) ∧ W.cell? ⟨wr.heap.size, 1, none⟩ = some (.int .u64 (NN : Int)) ∧ W.cell? ⟨wr.heap.size, 2, none⟩ = some (.slice p1 LL m1) ∧ W.cell? ⟨wr.heap.size, 3, none⟩ = some (.slice y1 MM m1'))
          (first | exact ⟨n3', k0', k1', k2', k3'⟩ | exact ⟨r0, r1, r2, r3, r4⟩) (first
          | (go_at_call 32; refine HK3.mono ?_; rintro e w5 ⟨rfl, hb7⟩; have r0 := (hb7.cell (p := ⟨rb + 1, 3, none⟩) n3l).trans n3'; have r1 := (hb7.cell (p := ⟨wr.heap.size, 0, none⟩) a0l).trans k0'; have r2 := (hb7.cell (p := ⟨wr.heap.size, 1, none⟩) a0l).trans k1'; have r3 := (hb7.cell (p := ⟨wr.heap.size, 2, none⟩) a0l).trans k2'; have r4 := (hb7.cell (p := ⟨wr.heap.size, 3, none⟩) a0l).trans k3'))
        have HB : Hid (Below wr.heap.size wr w5) := HB6.out.drew.trans (hb7.mono HB6.out.size)
        by_cases hk0 : ke = 0
        · subst hk0
          have heq := HEQ.out
          rw [if_neg (by simp)] at heq
          have HQ : Hid (encKs (encI d) true true none kids t = joinR Y (nextR RR (encKs (encI d) true (decide ((j + 1) % 2 = 0)) (lastAt kids (j + 1)) (kids.drop (j + 1))))) := heq
          have e5 := (HB.out.cell (p := ⟨rb, 0, none⟩) hltb).trans e4
          have HK := trivial
          clear heq HK2 HK3 hb7
          go_wp2_with fail
          go_at_call 13
          refine (HH _ HB.out).mono ?_
          rintro e w4 ⟨fb4, zs, t4, to4, wt4, (⟨b1, hR, rfl, rfl⟩ | ⟨kk, hR, hk0, hk1, rfl⟩)⟩
          · obtain ⟨P, hgr⟩ := HP.out
            have x5 := x4.same (HB.out.block _ x4.lt)
            have s5 := P.slot.same (HB.out.block _ P.slot.lt)
            have x6 := x5.same (to4.keep x5.lt (by omega) ((P.wt.below HB.out).notBox x5))
            have s6 := s5.same (to4.keep s5.lt (by omega) ((P.wt.below HB.out).notSlot s5))
            have HS : Hid (WSt true d g o rb (rb + 1) t fb (bs ++ headF 5 m) (.int .u8 6, .int .u64 n, .slice p L c, .slice (some ⟨b, f, none⟩) M c') kids w (j + 1) w4 fb4 (Y ++ b1) t4) := by
              refine ⟨?_, (P.hto.trans (WTo.ofBelow HB.out)).trans to4, by simpa using wt4, x6, s6, ?_⟩
              · rw [HQ.out, hR, nextR, joinR_join]
              · exact HT4.out b1 t4 hR
            clear P HH HK x5 s5 x6 s6 to4 wt4
            go_wp2_with fail
            exact ⟨⟨j + 1, fb4, Y ++ b1, t4, by go_num, by omega, HS.out⟩, by simp only [intOf]; omega⟩
          · obtain ⟨P, hgr⟩ := HP.out
            have x5 := x4.same (HB.out.block _ x4.lt)
            have x6 := x5.same (to4.keep x5.lt (by omega) ((P.wt.below HB.out).notBox x5))
            have hkb : ((kk : Int) != 0) = true := by simp; omega
            have hkI : (kk : Int) < 100 := by omega
            have HS : Hid (WTo g fb w w4 fb4) := (P.hto.trans (WTo.ofBelow HB.out)).trans to4
            clear P HH HK x5
            go_wp2_with fail
            refine leaves_cons (f := 31) (args := #[.pointer (some ⟨rb, 0, none⟩)]) (by simp) (by simp [go_sem]) ?_
            refine (wshut_any rb g fb4 zs t4 o .returning _ x6 wt4 (by omega)).mono ?_
            rintro e u' w'' ⟨rfl, rfl, rfl⟩
            refine ⟨_, results_tmp rfl _ _ _, ?_⟩
            rw [HQ.out, hR]
            exact EPost.bad (HS.out.trans (WTo.setCell g fb4 _ 3 _)) (wt4.setOpen o) ⟨hk0, hk1⟩ rfl
        · have hkb : ((ke : Int) != 0) = true := by simp; omega
          have heq := HEQ.out
          rw [if_pos (by simp [he, hk0])] at heq
          have HQ : Hid (encKs (encI d) true true none kids t = .error ke) := heq
          clear heq HK2 HK3 hb7 HH
          go_wp2_with fail
          obtain ⟨P, hgr⟩ := HP.out
          have x5 := x4.same (HB.out.block _ x4.lt)
          refine leaves_cons (f := 31) (args := #[.pointer (some ⟨rb, 0, none⟩)]) (by simp) (by simp [go_sem]) ?_
          refine (wshut_any rb g fb' _ t' o .returning _ x5 (P.wt.below HB.out) (by omega)).mono ?_
          rintro e u' w'' ⟨rfl, rfl, rfl⟩
          refine ⟨_, results_tmp rfl _ _ _, ?_⟩
          rw [HQ.out]
          exact EPost.bad ((P.hto.trans (WTo.ofBelow HB.out)).trans (WTo.setCell g fb' _ 3 _)) ((P.wt.below HB.out).setOpen o) ⟨by omega, hkr⟩ rfl
      · have hj2 : (j : Int) % 2 = 1 := by omega
        have hjt : (j : Int).tmod 2 = 1 := by rw [Int.tmod_eq_emod_of_nonneg (by omega)]; exact hj2
        rw [if_neg (by simp [he])] at heq
        have HQ : Hid (encKs (encI d) true true none kids t = joinR Y (nextR RR (encKs (encI d) true (decide ((j + 1) % 2 = 0)) (lastAt kids (j + 1)) (kids.drop (j + 1))))) := heq
        have HB := HB5
        clear kp hr hr1 hy1 hkj hKK hNN hLL hMM hRR heq P hlow hw0 hw1 hw2 hw3 hw4 hw5 hw6 hb5
        go_wp2_with fail
        go_at_call 13
        refine (HH _ HB.out).mono ?_
        rintro e w4 ⟨fb4, zs, t4, to4, wt4, (⟨b1, hR, rfl, rfl⟩ | ⟨kk, hR, hk0, hk1, rfl⟩)⟩
        · obtain ⟨P, hgr⟩ := HP.out
          have x5 := x4.same (HB.out.block _ x4.lt)
          have s5 := P.slot.same (HB.out.block _ P.slot.lt)
          have x6 := x5.same (to4.keep x5.lt (by omega) ((P.wt.below HB.out).notBox x5))
          have s6 := s5.same (to4.keep s5.lt (by omega) ((P.wt.below HB.out).notSlot s5))
          have HS : Hid (WSt true d g o rb (rb + 1) t fb (bs ++ headF 5 m) (.int .u8 6, .int .u64 n, .slice p L c, .slice (some ⟨b, f, none⟩) M c') kids w (j + 1) w4 fb4 (Y ++ b1) t4) := by
            refine ⟨?_, (P.hto.trans (WTo.ofBelow HB.out)).trans to4, by simpa using wt4, x6, s6, ?_⟩
            · rw [HQ.out, hR, nextR, joinR_join]
            · exact HT4.out b1 t4 hR
          clear P HH HK x5 s5 x6 s6 to4 wt4
          go_wp2_with fail
          exact ⟨⟨j + 1, fb4, Y ++ b1, t4, by go_num, by omega, HS.out⟩, by simp only [intOf]; omega⟩
        · obtain ⟨P, hgr⟩ := HP.out
          have x5 := x4.same (HB.out.block _ x4.lt)
          have x6 := x5.same (to4.keep x5.lt (by omega) ((P.wt.below HB.out).notBox x5))
          have hkb : ((kk : Int) != 0) = true := by simp; omega
          have hkI : (kk : Int) < 100 := by omega
          have HS : Hid (WTo g fb w w4 fb4) := (P.hto.trans (WTo.ofBelow HB.out)).trans to4
          clear P HH HK x5
          go_wp2_with fail
          refine leaves_cons (f := 31) (args := #[.pointer (some ⟨rb, 0, none⟩)]) (by simp) (by simp [go_sem]) ?_
          refine (wshut_any rb g fb4 zs t4 o .returning _ x6 wt4 (by omega)).mono ?_
          rintro e u' w'' ⟨rfl, rfl, rfl⟩
          refine ⟨_, results_tmp rfl _ _ _, ?_⟩
          rw [HQ.out, hR]
          exact EPost.bad (HS.out.trans (WTo.setCell g fb4 _ 3 _)) (wt4.setOpen o) ⟨hk0, hk1⟩ rfl
    · have heq := P.eq
      rw [← HW.out.2.2.2.2.2.1, encKs_end] at heq
      have HQ : Hid (encKs (encI d) true true none kids t = .ok (Y ++ [], t')) := heq
      have HP : Hid (WSt true d g o rb (rb + 1) t fb (bs ++ headF 5 m) (.int .u8 6, .int .u64 n, .slice p L c, .slice q j c') kids w j wr fb' Y t') := P
      clear heq P P0
      go_wp2_with fail
      refine leaves_cons (f := 31) (args := #[.pointer (some ⟨rb, 0, none⟩)]) (by simp) (by simp [go_sem]) ?_
      refine (wshut_any rb g fb' (bs ++ headF 5 m ++ Y) t' o .returning _ HP.out.box HP.out.wt (by omega)).mono ?_
      rintro e u' w'' ⟨rfl, rfl, rfl⟩
      refine ⟨_, results_tmp rfl _ _ _, ?_⟩
      rw [HQ.out, List.append_nil]
      exact EPost.fine (HP.out.hto.trans (WTo.setCell g fb' _ 3 _)) (HP.out.wt.setOpen o) (by simp) rfl
end Go.Proofs.YtfmldcibhllpcabDoor
