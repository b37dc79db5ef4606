import Derived.Test.YtnckmcmobkpdcaaDoorK09
import Derived.Test.YtnckmcmobkpdcaaDoorK08
import Derived.Deep.CutRange
/-
  DerTimes.
-/
namespace Go.Proofs.YtnckmcmobkpdcaaDoor
open Go.Shelf Go.RowKit
set_option linter.unusedVariables false
set_option linter.unusedSimpArgs false

/-- The law's signs. -/
abbrev signs : ByteArray := ⟨#[48, 49, 50, 51, 52, 53, 54, 55, 56, 57, 120]⟩
theorem sign_0 (w : World) : (Instr.index 9 (.string signs) (.int .u8 0)).run Tryd.prog w = .ok (.int .u8 48) w := by kernel_rfl
theorem sign_1 (w : World) : (Instr.index 9 (.string signs) (.int .u8 1)).run Tryd.prog w = .ok (.int .u8 49) w := by kernel_rfl
theorem sign_2 (w : World) : (Instr.index 9 (.string signs) (.int .u8 2)).run Tryd.prog w = .ok (.int .u8 50) w := by kernel_rfl
theorem sign_3 (w : World) : (Instr.index 9 (.string signs) (.int .u8 3)).run Tryd.prog w = .ok (.int .u8 51) w := by kernel_rfl
theorem sign_4 (w : World) : (Instr.index 9 (.string signs) (.int .u8 4)).run Tryd.prog w = .ok (.int .u8 52) w := by kernel_rfl
theorem sign_5 (w : World) : (Instr.index 9 (.string signs) (.int .u8 5)).run Tryd.prog w = .ok (.int .u8 53) w := by kernel_rfl
theorem sign_6 (w : World) : (Instr.index 9 (.string signs) (.int .u8 6)).run Tryd.prog w = .ok (.int .u8 54) w := by kernel_rfl
theorem sign_7 (w : World) : (Instr.index 9 (.string signs) (.int .u8 7)).run Tryd.prog w = .ok (.int .u8 55) w := by kernel_rfl
theorem sign_8 (w : World) : (Instr.index 9 (.string signs) (.int .u8 8)).run Tryd.prog w = .ok (.int .u8 56) w := by kernel_rfl
theorem sign_9 (w : World) : (Instr.index 9 (.string signs) (.int .u8 9)).run Tryd.prog w = .ok (.int .u8 57) w := by kernel_rfl
theorem sign_10 (w : World) : (Instr.index 9 (.string signs) (.int .u8 10)).run Tryd.prog w = .ok (.int .u8 120) w := by kernel_rfl
theorem sign_any (k : Nat) (hk : k < 11) (w : World) : ∃ y : Nat, y < 256 ∧ ∀ w : World, (Instr.index 9 (.string signs) (.int .u8 (k : Int))).run Tryd.prog w = .ok (.int .u8 (y : Int)) w := by
  rcases (by omega : k = 0 ∨ k = 1 ∨ k = 2 ∨ k = 3 ∨ k = 4 ∨ k = 5 ∨ k = 6 ∨ k = 7 ∨ k = 8 ∨ k = 9 ∨ k = 10) with rfl | rfl | rfl | rfl | rfl | rfl | rfl | rfl | rfl | rfl | rfl
  · exact ⟨48, by decide, sign_0⟩
  · exact ⟨49, by decide, sign_1⟩
  · exact ⟨50, by decide, sign_2⟩
  · exact ⟨51, by decide, sign_3⟩
  · exact ⟨52, by decide, sign_4⟩
  · exact ⟨53, by decide, sign_5⟩
  · exact ⟨54, by decide, sign_6⟩
  · exact ⟨55, by decide, sign_7⟩
  · exact ⟨56, by decide, sign_8⟩
  · exact ⟨57, by decide, sign_9⟩
  · exact ⟨120, by decide, sign_10⟩
/-- p, while it grows: its tag, its bytes so far. -/
structure PSt (B : Nat) (W : World) (gp tag L : Nat) (pb : Option Addr) (cb : Nat) (bb : Bs) : Prop where
  tl : Tl W gp (.int .u8 (tag : Int)) (.slice pb L cb)
  own : W.ownsRow B 5 1 (.slice pb L cb) L (Lib.byteCells bb)
  len : bb.length = L
  gpB : gp < B
  size : B ≤ W.heap.size
set_option maxRecDepth 100000 in
set_option maxHeartbeats 8000000 in
theorem DerTimes_walk (w : World) (t0 : Int) (a0 : Option Addr) (len0 cap0 : Nat) (z0 : List Int) (ut0 : 0 ≤ t0 ∧ t0 < 256) (w0 : CameJ .u8 w a0 len0 cap0 z0) (a1 : Option Addr) (len1 cap1 : Nat) (z1 : List Int) (w1 : CameJ .u8 w a1 len1 cap1 z1) (b2 : Bool) (hL : laidMet Tryd.prog Rows.derTimesRow.laid w) :
    Calls Tryd.prog 4 #[.agg #[.int .u8 t0, .slice a0 len0 cap0], .slice a1 len1 cap1, .bool b2] w fun e w' => e = .returned (.bool true) ∧ Below w.heap.size w w' := by
  have hT : Md w := md_laid hL
  obtain ⟨TN, rfl⟩ : ∃ T : Nat, t0 = (T : Int) := ⟨t0.toNat, by omega⟩
  have hTN : TN < 256 := by omega
  have hle0 := w0.le
  have hle1 := w1.le
  unfold maxLen at hle0 hle1
  obtain ⟨bs, hn, hV⟩ := w0.byv
  obtain ⟨ds, hds, hU⟩ := w1.byv
  clear w0 w1 hL ut0
  have hle0I : (len0 : Int) ≤ 9223372036854775807 := by omega
  have hle1I : (len1 : Int) ≤ 9223372036854775807 := by omega
  obtain ⟨W0, hW0⟩ : ∃ W, w.alloc (.cells #[.int .u8 (TN : Int), .slice a0 len0 cap0] 24) = W := ⟨_, rfl⟩
  have b0 : Below w.heap.size w W0 := by rw [← hW0]; exact (Below.refl _ _).alloc (Nat.le_refl _) _
  have s0 : Tl W0 w.heap.size (.int .u8 (TN : Int)) (.slice a0 len0 cap0) := by rw [← hW0]; exact Tl.new w _ _
  have hM0 : Md W0 := hT.below b0
  go_enter Tryd.func4, Tryd.ntmps4
  go_wp2_with fail
  go_at_call 5
  refine (DAwake_any W0 hM0).mono ?_
  rintro e w1 ⟨rfl, b1⟩
  have s1 := s0.below b1
  obtain ⟨f0, f1, f2, f3⟩ := s1.facts
  have B1 : Below w.heap.size w w1 := b0.trans (b1.mono b0.size)
  clear s0 hW0
  by_cases q : 100 < len0
  · have HB : Hid (Below w.heap.size w w1) := B1
    have q3I : 100 < (len0 : Int) := by omega
    clear q
    go_wp2_with fail
    go_ret
    exact ⟨rfl, HB.out⟩
  have q1 : ¬ 100 < (len0 : Int) := by omega
  obtain ⟨G, hG⟩ : ∃ G, w.heap.size = G := ⟨_, rfl⟩
  obtain ⟨W2, hW2⟩ : ∃ W, w1.alloc (.cells #[.int .u8 23, .slice none 0 0] 24) = W := ⟨_, rfl⟩
  have b2' : Below w1.heap.size w1 W2 := by rw [← hW2]; exact (Below.refl _ _).alloc (Nat.le_refl _) _
  have s2 : Tl W2 w1.heap.size (.int .u8 23) (.slice none 0 0) := by rw [← hW2]; exact Tl.new w1 _ _
  have z2 : W2.heap.size = w1.heap.size + 1 := by rw [← hW2]; exact alloc_sz _ _
  obtain ⟨gp, hgp⟩ : ∃ g, w1.heap.size = g := ⟨_, rfl⟩
  have HM : Hid (Tl W2 G (.int .u8 (TN : Int)) (.slice a0 len0 cap0) ∧ Below w.heap.size w W2 ∧ ByV W2 (fun b => b < w.heap.size) a0 cap0 bs ∧ ByV W2 (fun b => b < w.heap.size) a1 cap1 ds ∧ Md W2 ∧ G < gp ∧ w.heap.size = G ∧ bs.length = len0 ∧ ds.length = len1 ∧ W2.heap.size = gp + 1) := by
    have hb := B1.trans (b2'.mono B1.size)
    refine ⟨by rw [← hG]; exact s1.below b2', hb, hV.keep (fun k hk _ => hb.block k hk), hU.keep (fun k hk _ => hb.block k hk), (hM0.below b1).below b2', ?_, hG, hn, hds, by rw [z2, hgp]⟩
    have h1 := s1.lt
    rw [← hG, ← hgp]
    exact h1
  rw [hgp] at s2
  have HP0 : Hid (Tl W2 gp (.int .u8 23) (.slice none 0 0)) := s2
  obtain ⟨g0, g1, g2, g3⟩ := s2.facts
  rw [hG] at f0 f1 f2 f3
  have hTG : Hid (Md w) := hT
  clear b2' s1 B1 b1 b0 hM0 hT hV hU hn hds z2 s2 q
  go_upto_if 24 with fail
  go_cut [8] from 25 (fun v8 W => ∃ tag size : Nat, v8 = .int .i64 (size : Int) ∧ size ≤ 14 ∧ tag < 256 ∧ Tl W gp (.int .u8 (tag : Int)) (.slice none 0 0) ∧ But gp W2 W)
  case first =>
    cases b2 with
    | true =>
      go_wp2_with fail
      go_meet
      case rel => exact ⟨24, 14, rfl, by decide, by decide, (HP0.out.set1 _).set0 _, (But.setCell gp W2 1 _).trans (But.setCell gp _ 0 _)⟩
    | false =>
      go_wp2_with fail
      go_meet
      case rel => exact ⟨23, 12, rfl, by decide, by decide, HP0.out.set1 _, But.setCell gp W2 1 _⟩
  case rest =>
  obtain ⟨tag, size, rfl, hsz, htag, htl, hbt⟩ := hcut
  have HQ0 : Hid (PSt (gp + 1) wc gp tag 0 none 0 [] ∧ Below gp W2 wc) := by
    have h1 := HM.out.2.2.2.2.2.2.2.2.2
    exact ⟨⟨htl, World.ownsRow_nil _ _ _ _, rfl, Nat.lt_succ_self _, by rw [← h1]; exact hbt.size⟩, hbt.below (Nat.le_refl _) (by omega)⟩
  clear htl hbt g0 g1 g2 g3 f0 f1 f2 f3 hW2 hgp hG
  go_wp2_with fail
  go_loopg [27] size (fun k v27 wr => ∃ (i : Nat) (pb : Option Addr) (cb : Nat) (bb : Bs), i + k = size ∧ v27 = .int .i64 (i : Int) ∧ PSt (gp + 1) wr gp tag i pb cb bb ∧ Below gp W2 wr)
  case atStart => exact ⟨0, none, 0, [], by omega, rfl, HQ0.out.1, HQ0.out.2⟩
  case round =>
    obtain ⟨i, pb, cb, bb, hik, rfl, st, hb⟩ := hrel
    have HI : Hid (PSt (gp + 1) wr gp tag i pb cb bb ∧ Below gp W2 wr ∧ i + gk = size) := ⟨st, hb, hik⟩
    have hi : i ≤ size := by omega
    obtain ⟨k0, k1, k2, k3⟩ := st.tl.facts
    clear st hb hik
    rcases Nat.lt_or_eq_of_le hi with hi | hi
    rotate_left
    · have hiI : ¬ (i : Int) < (size : Int) := by omega
      have HI2 : Hid (PSt (gp + 1) wr gp tag size pb cb bb) := by rw [← hi]; exact HI.out.1
      have hbl : Below wr.heap.size wr (wr.alloc (.cells #[.int .u8 (90 : Int)] 5)) := (Below.refl _ _).alloc (Nat.le_refl _) _
      have hlit := owns_lit1 wr wr.heap.size 90 (by decide) (Nat.le_refl _)
      have HA : Hid ((wr.alloc (.cells #[.int .u8 (90 : Int)] 5)).ownsRow (gp + 1) 5 1 (.slice pb size cb) size (Lib.byteCells bb) ∧ BAt (wr.alloc (.cells #[.int .u8 (90 : Int)] 5)) (some ⟨wr.heap.size, 0, none⟩) 1 [UInt8.ofNat 90] ∧ Tl (wr.alloc (.cells #[.int .u8 (90 : Int)] 5)) gp (.int .u8 (tag : Int)) (.slice pb size cb) ∧ gp + 1 ≤ (wr.alloc (.cells #[.int .u8 (90 : Int)] 5)).heap.size ∧ Below (gp + 1) wr (wr.alloc (.cells #[.int .u8 (90 : Int)] 5)) ∧ Tl wr G (.int .u8 (TN : Int)) (.slice a0 len0 cap0)) := by
        refine ⟨HI2.out.own.alloc _, ?_, HI2.out.tl.below hbl, Nat.le_trans HI2.out.size (alloc_le _ _), (Below.refl _ wr).alloc HI2.out.size _, HM.out.1.same (HI.out.2.1.block G HM.out.2.2.2.2.2.1)⟩
        obtain ⟨p', c', he, hv⟩ := own_byv (l := [UInt8.ofNat 90]) hlit
        cases he
        exact hv.lies
      obtain ⟨l0, l1, l2, l3⟩ := HI2.out.tl.facts
      have hsz1 : size + 1 ≤ 100000000 := by omega
      clear k0 k1 k2 k3 hbl hlit hi
      go_wp2_with (at_builtin; refine wpList_append_wt rfl (.tmp 48) (.tmp 49) rfl (gp + 1) (.slice pb size cb) rfl bb size HI2.out.len HA.out.1 (some ⟨wr.heap.size, 0, none⟩) 1 1 [UInt8.ofNat 90] rfl rfl HA.out.2.1 hsz1 HA.out.2.2.2.1 ?_; intro v5 w5 o5 gr5 at5; obtain ⟨p5, c5, rfl⟩ := owns_slice o5; have hb5 : Below (gp + 1) wr w5 := below_grownT HA.out.2.2.2.2.1 HI2.out.size HA.out.1 gr5; have t5 : Tl w5 gp (.int .u8 (tag : Int)) (.slice pb size cb) := HI2.out.tl.same (hb5.block gp (Nat.lt_succ_self _)); have s5 : Tl w5 G (.int .u8 (TN : Int)) (.slice a0 len0 cap0) := HA.out.2.2.2.2.2.same (hb5.block G (by have := HM.out.2.2.2.2.2.1; omega)); have t6 := t5.set1 (.slice p5 (size + 1) c5); have s6 : Tl (w5.setCell ⟨gp, 1, none⟩ (.slice p5 (size + 1) c5)) G (.int .u8 (TN : Int)) (.slice a0 len0 cap0) := s5.same (Below.heap_setCell _ _ _ _ (by have := HM.out.2.2.2.2.2.1; show G ≠ gp; omega)); obtain ⟨j0, j1, j2, j3⟩ := t5.facts; obtain ⟨m0, m1, m2, m3⟩ := t6.facts; obtain ⟨r0, r1, r2, r3⟩ := s6.facts; have HO : Hid (w5.ownsRow (gp + 1) 5 1 (.slice p5 (size + 1) c5) (size + 1) (Lib.byteCells (bb ++ [UInt8.ofNat 90])) ∧ Below (gp + 1) wr w5) := ⟨o5, hb5⟩; clear o5 gr5 at5 hb5 t5 s5 t6 s6)
      obtain ⟨w6, hw6⟩ : ∃ W, w5.setCell ⟨gp, 1, none⟩ (.slice p5 (size + 1) c5) = W := ⟨_, rfl⟩
      rw [hw6]
      have hbt := But.setCell gp w5 1 (.slice p5 (size + 1) c5)
      rw [hw6] at hbt
      have hs0 := HI2.out.size
      have hs5 := HO.out.2.size
      have hW2g := HM.out.2.2.2.2.2.2.2.2.2
      have hG1 := HM.out.2.2.2.2.2.1
      have hG2 := HM.out.2.2.2.2.2.2.1
      have hb6 : Below gp W2 w6 := HI.out.2.1.trans ((HO.out.2.mono (Nat.le_succ _)).trans (hbt.below (Nat.le_refl _) (by omega)))
      have hbw6 : Below w.heap.size w w6 := HM.out.2.1.trans (hb6.mono (by omega))
      have hM6 : Md w6 := fun k hk => by
        have h1 := HM.out.2.2.2.2.1 k hk
        have h2 := hTG.out.lt
        exact (hb6.cell (p := ⟨0, k, none⟩) (by show 0 < gp; omega)).trans h1
      have v6 : ByV w6 (fun b => b < w6.heap.size) a0 cap0 bs := (HM.out.2.2.1.keep (fun k hk _ => hb6.block k (by omega))).mono (fun k hk _ => by have := hbw6.size; omega)
      obtain ⟨pq, cq, heq, hvq⟩ := own_byv (l := bb ++ [UInt8.ofNat 90]) (by rw [List.length_append, HI2.out.len]; exact HO.out.1)
      rw [List.length_append, HI2.out.len] at heq
      cases heq
      have x6 : ByV w6 (fun b => b < w6.heap.size) p5 c5 (bb ++ [UInt8.ofNat 90]) := (hvq.keep (fun k hk hlt => hbt.block k hlt (by omega))).mono (fun k _ hlt => hlt)
      have hl6 : (bb ++ [UInt8.ofNat 90]).length = size + 1 := by rw [List.length_append, HI2.out.len]; rfl
      obtain ⟨W8, hW8⟩ : ∃ W, w6.alloc (.cells #[.int .u8 (TN : Int), .slice a0 len0 cap0, .int .u8 (tag : Int), .slice p5 (size + 1) c5, .int .u8 (tag : Int), .slice a0 len0 cap0] 24) = W := ⟨_, rfl⟩
      have row8 : W8.heap[w6.heap.size]? = some (.cells #[.int .u8 (TN : Int), .slice a0 len0 cap0, .int .u8 (tag : Int), .slice p5 (size + 1) c5, .int .u8 (tag : Int), .slice a0 len0 cap0] 24 (0, 0)) := by rw [← hW8]; exact heap_alloc_new w6 _
      have b8 : Below w6.heap.size w6 W8 := by rw [← hW8]; exact (Below.refl _ _).alloc (Nat.le_refl _) _
      have hn0 := HM.out.2.2.2.2.2.2.2.1
      have hq100 : len0 ≤ 100 := by omega
      rw [hW8]
      obtain ⟨g8, hg8⟩ : ∃ g, w6.heap.size = g := ⟨_, rfl⟩
      have hP8 : ∀ i, i < 3 → PieceAt W8 g8 i := by
        rw [← hg8]
        intro i hi
        have v1 := (v6.below b8).mono (Q := fun b => b < W8.heap.size) (fun k hk _ => Nat.lt_of_lt_of_le hk b8.size)
        have v2 := (x6.below b8).mono (Q := fun b => b < W8.heap.size) (fun k hk _ => Nat.lt_of_lt_of_le hk b8.size)
        match i, hi with
        | 0, _ => exact ⟨TN, a0, len0, cap0, bs, by rw [cell_of_row W8 _ _ _ _ _ row8]; rfl, by rw [cell_of_row W8 _ _ _ _ _ row8]; rfl, hTN, hn0, by omega, v1⟩
        | 1, _ => exact ⟨tag, p5, size + 1, c5, _, by rw [cell_of_row W8 _ _ _ _ _ row8]; rfl, by rw [cell_of_row W8 _ _ _ _ _ row8]; rfl, htag, hl6, by omega, v2⟩
        | 2, _ => exact ⟨tag, a0, len0, cap0, bs, by rw [cell_of_row W8 _ _ _ _ _ row8]; rfl, by rw [cell_of_row W8 _ _ _ _ _ row8]; rfl, htag, hn0, by omega, v1⟩
      have H8 : Hid ((∀ i, i < 3 → PieceAt W8 g8 i) ∧ Below w.heap.size w W8 ∧ Md W8) := ⟨hP8, hbw6.trans (b8.mono hbw6.size), hM6.below b8⟩
      have hsz6 : w5.heap.size = w6.heap.size := by rw [← hw6]; simp [World.setCell]
      rw [hsz6, hg8]
      clear hsz6
      clear hP8 row8 b8 hW8 v6 x6 hvq hM6 hb6 hbw6 hbt hw6 j0 j1 j2 j3 m0 m1 m2 m3 r0 r1 r2 r3 l0 l1 l2 l3 hs0 hs5 hW2g hG1 hG2 hl6 hn0 hg8
      go_loopw [61] (fun v61 wr => ∃ i : Nat, i ≤ 3 ∧ v61 = .int .i64 (i : Int) ∧ Below W8.heap.size W8 wr) (fun v61 _ => 3 - (intOf v61).toNat)
      case atStart => exact ⟨0, by omega, rfl, Below.refl _ _⟩
      case round =>
        obtain ⟨i, hi, rfl, hb⟩ := hrel
        have HB : Hid (Below W8.heap.size W8 wr) := hb
        rcases Nat.lt_or_eq_of_le hi with hi | hi
        rotate_left
        · clear hb
          subst hi
          go_wp2_with fail
          go_ret
          exact ⟨rfl, H8.out.2.1.trans (HB.out.mono H8.out.2.1.size)⟩
        obtain ⟨T, p, n, c, l, x0, x1, hT9, hl, hn1, hv⟩ := (H8.out.1 i hi).below hb
        have hiI : (i : Int) < 3 := by omega
        have hi0 : (0 : Int) ≤ (i : Int) := by omega
        have bA : Below wr.heap.size wr (wr.alloc (.cells #[.int .u8 (T : Int), .slice p n c] 24)) := (Below.refl _ _).alloc (Nat.le_refl _) _
        have sA : Tl (wr.alloc (.cells #[.int .u8 (T : Int), .slice p n c] 24)) wr.heap.size (.int .u8 (T : Int)) (.slice p n c) := Tl.new wr _ _
        have HV : Hid (ByV wr (fun b => b < wr.heap.size) p c l ∧ l.length = n ∧ Tl (wr.alloc (.cells #[.int .u8 (T : Int), .slice p n c] 24)) wr.heap.size (.int .u8 (T : Int)) (.slice p n c) ∧ Below wr.heap.size wr (wr.alloc (.cells #[.int .u8 (T : Int), .slice p n c] 24)) ∧ Md wr) := ⟨hv, hl, sA, bA, H8.out.2.2.below hb⟩
        clear hb hv hl sA bA
        go_wp2_with fail
        go_at_call 11
        refine (derTime T hT9 p n c l _ _ HV.out.2.1 (HV.out.1.below HV.out.2.2.2.1) (HV.out.2.2.2.2.below HV.out.2.2.2.1)).mono ?_
        rintro e wB ⟨he, bB⟩
        obtain ⟨V, K, hVK⟩ : ∃ V K : Nat, timeV (timeD T l) = .tuple #[.int .u64 (V : Int), .int .i64 (K : Int)] := by
          cases timeD T l with
          | none => exact ⟨0, 31, rfl⟩
          | some n => exact ⟨n, 0, rfl⟩
        rw [hVK] at he
        subst he
        obtain ⟨y0, y1, y2, y3⟩ := (HV.out.2.2.1.below bB).facts
        have bAB : Below wr.heap.size wr wB := HV.out.2.2.2.1.trans (bB.mono HV.out.2.2.2.1.size)
        have HR := rTime10 T hT9 p n c l _ wB HV.out.2.1 (HV.out.1.below bAB)
        rw [hVK] at HR
        have HB2 : Hid (Below wr.heap.size wr wB) := bAB
        have hVV : ((V : Int) != (V : Int)) = false := by simp
        have hKK : ((K : Int) != (K : Int)) = false := by simp
        clear bB bAB hVK
        go_wp2_with fail
        go_at_call 12
        refine HR.mono ?_
        rintro e wC ⟨rfl, bC⟩
        have HF : Hid (Below W8.heap.size W8 wC) := HB.out.trans ((HB2.out.trans (bC.mono HB2.out.size)).mono HB.out.size)
        clear bC HR y0 y1 y2 y3 x0 x1
        go_wp2_with fail
        exact ⟨⟨i + 1, by omega, by push_cast; rfl, HF.out⟩, by simp only [intOf]; omega⟩
    have hiI : (i : Int) < (size : Int) := by omega
    have hi0 : (0 : Int) ≤ (i : Int) := by omega
    go_upto_if 33 with fail
    go_cut [10, 27] from 28 to 46 (fun v10 v27 w2 => ∃ D : Nat, D < 11 ∧ v10 = .int .u8 (D : Int) ∧ v27 = .int .i64 (i : Int) ∧ w2 = wr)
    case first =>
      by_cases q2 : i < len1
      · have q2I : (i : Int) < (len1 : Int) := by omega
        obtain ⟨b, o, rfl, hcl⟩ := HM.out.2.2.2.1.lies (by rw [HM.out.2.2.2.2.2.2.2.2.1]; omega)
        have hcw := hcl i (by rw [HM.out.2.2.2.2.2.2.2.2.1]; exact q2)
        have hok := HM.out.2.2.2.1.ok ⟨b, o, none⟩ rfl (by rw [HM.out.2.2.2.2.2.2.2.2.1]; omega)
        have hbg : b < gp := by have h1 := HM.out.2.2.2.2.2.1; have h2 := HM.out.2.2.2.2.2.2.1; have h3 : b < w.heap.size := hok; omega
        have cw : wr.cell? ⟨b, o + i, none⟩ = some (.int .u8 ((ds.getD i 0).toNat : Int)) := (HI.out.2.1.cell (p := ⟨b, o + i, none⟩) hbg).trans hcw
        obtain ⟨X, hX⟩ : ∃ X, (ds.getD i 0).toNat = X := ⟨_, rfl⟩
        rw [hX] at cw
        obtain ⟨D, hD⟩ : ∃ D, X % 11 = D := ⟨_, rfl⟩
        have hDI : (X : Int) % 11 = (D : Int) := by omega
        have hD11 : D < 11 := by omega
        clear hcl hcw hok hbg hX hD q2
        go_wp2_with fail
        go_meet
        case rel => exact ⟨D, hD11, by rw [hDI], rfl, rfl⟩
      · have q2I : ¬ (i : Int) < (len1 : Int) := by omega
        clear q2
        go_wp2_with fail
        go_meet
        case rel => exact ⟨0, by decide, rfl, rfl, rfl⟩
    case rest =>
    obtain ⟨D, hD11, rfl, rfl, rfl⟩ := hcut
    obtain ⟨y, hy, hidx⟩ := sign_any D hD11 wc
    have hbl : Below wc.heap.size wc (wc.alloc (.cells #[.int .u8 (y : Int)] 5)) := (Below.refl _ _).alloc (Nat.le_refl _) _
    have HA : Hid ((wc.alloc (.cells #[.int .u8 (y : Int)] 5)).drew.ownsRow (gp + 1) 5 1 (.slice pb i cb) i (Lib.byteCells bb) ∧ BAt (wc.alloc (.cells #[.int .u8 (y : Int)] 5)).drew (some ⟨wc.heap.size, 0, none⟩) 1 [UInt8.ofNat y] ∧ Tl (wc.alloc (.cells #[.int .u8 (y : Int)] 5)).drew gp (.int .u8 (tag : Int)) (.slice pb i cb) ∧ gp + 1 ≤ (wc.alloc (.cells #[.int .u8 (y : Int)] 5)).drew.heap.size ∧ Below (gp + 1) wc (wc.alloc (.cells #[.int .u8 (y : Int)] 5)).drew) := by
      refine ⟨HI.out.1.own.alloc _, ?_, HI.out.1.tl.below hbl.drew, Nat.le_trans HI.out.1.size (alloc_le _ _), ((Below.refl _ wc).alloc HI.out.1.size _).drew⟩
      obtain ⟨p', c', he, hv⟩ := own_byv (l := [UInt8.ofNat y]) (owns_lit1 wc wc.heap.size y hy (Nat.le_refl _))
      cases he
      exact hv.lies
    have hi14 : i + 1 ≤ 100000000 := by omega
    have hk1 : gk - 1 < gk := by have := HI.out.2.2; omega
    have cA1 : (wc.alloc (.cells #[.int .u8 (y : Int)] 5)).cell? ⟨gp, 1, none⟩ = some (.slice pb i cb) := (HI.out.1.tl.below hbl).c1
    clear hbl hi
    go_upto_region 15 with fail
    go_region_law (refine step_append_wt (by simp [Region.wanted, yielded, Act.put]) (.tmp 40) (.tmp 43) rfl (gp + 1) (.slice pb i cb) (by simp [Act.eval, Act.put]) bb i HI.out.1.len HA.out.1 (some ⟨wc.heap.size, 0, none⟩) 1 1 [UInt8.ofNat y] rfl (by simp [Act.eval, Act.put]) HA.out.2.1 hi14 HA.out.2.2.2.1 ?_; intro v5 w5 o5 gr5 at5; obtain ⟨p5, c5, rfl⟩ := owns_slice o5; have t5 : Tl w5 gp (.int .u8 (tag : Int)) (.slice pb i cb) := HA.out.2.2.1.same (gr5.block gp HA.out.2.2.1.lt (fun e => by have := (owns_lt HA.out.1 e.symm).1; omega)); obtain ⟨j0, j1, j2, j3⟩ := t5.facts; have HO : Hid (w5.ownsRow (gp + 1) 5 1 (.slice p5 (i + 1) c5) (i + 1) (Lib.byteCells (bb ++ [UInt8.ofNat y])) ∧ Below (gp + 1) wc w5 ∧ Tl w5 gp (.int .u8 (tag : Int)) (.slice pb i cb)) := ⟨o5, below_grownT HA.out.2.2.2.2 HI.out.1.size HA.out.1 gr5, t5⟩; clear o5 gr5 at5 t5)
    all_goals
      have st5 : PSt (gp + 1) (w5.setCell ⟨gp, 1, none⟩ (.slice p5 (i + 1) c5)) gp tag (i + 1) p5 c5 (bb ++ [UInt8.ofNat y]) := by
        have hbt := But.setCell gp w5 1 (.slice p5 (i + 1) c5)
        refine ⟨HO.out.2.2.set1 _, owns_keep HO.out.1 (fun k hk => hbt.block k (owns_lt HO.out.1 hk).2.1 (by have := (owns_lt HO.out.1 hk).1; omega)), by rw [List.length_append, HI.out.1.len]; rfl, Nat.lt_succ_self _, ?_⟩
        have h1 := HI.out.1.size
        have h2 := HO.out.2.1.size
        have h3 := hbt.size
        omega
      have hb5 : Below gp W2 (w5.setCell ⟨gp, 1, none⟩ (.slice p5 (i + 1) c5)) := by
        have hs := HI.out.1.size
        have h2 := HO.out.2.1.size
        exact HI.out.2.1.trans ((HO.out.2.1.mono (Nat.le_succ _)).trans ((But.setCell gp w5 1 _).below (Nat.le_refl _) (by omega)))
      have HS5 : Hid (PSt (gp + 1) (w5.setCell ⟨gp, 1, none⟩ (.slice p5 (i + 1) c5)) gp tag (i + 1) p5 c5 (bb ++ [UInt8.ofNat y]) ∧ Below gp W2 (w5.setCell ⟨gp, 1, none⟩ (.slice p5 (i + 1) c5))) := ⟨st5, hb5⟩
      clear st5 hb5
      go_wp2_with fail
      go_roundg (gk - 1)
      case measure => exact hk1
      case rel => exact ⟨i + 1, p5, c5, _, by have := HI.out.2.2; omega, by push_cast; rfl, HS5.out.1, HS5.out.2⟩
end Go.Proofs.YtnckmcmobkpdcaaDoor
