import Derived.Test.YticopomchoahnaaK26
import Derived.Test.YticopomchoahnaaK09
import Derived.Test.YticopomchoahnaaK25
/-
  The law SigsPairs.
-/
namespace Go.Proofs.Yticopomchoahnaa
open Go.Shelf Go.RowKit
set_option linter.unusedVariables false
set_option linter.unusedSimpArgs false

theorem word_u16 {x : Int} (h : (Lit.int .u16 x).wf = true) : 0 ≤ x ∧ x < 65536 := by
  simp [Lit.wf, IntKind.has, IntKind.min, IntKind.max, IntKind.bits, IntKind.signed] at h
  omega
theorem sgC_rng (k : Int) (hk : 0 ≤ k ∧ k < 256) : sgC k = -1 ∨ ∃ j : Nat, j < 3 ∧ sgC k = (j : Int) := by
  unfold sgC
  split
  · exact .inl rfl
  · exact .inr ⟨(k % 3).toNat, by omega, by omega⟩
/-- Bytes as numbers are bytes. -/
theorem numin_byv {w : World} {p : Option Addr} {n c : Nat} {zs : List Int} (h : NumIn .u8 256 w p n c zs) : ByV w (fun _ => True) p c (toB zs) ∧ (toB zs).length = n := by
  have hl := h.lies.len
  have hlt : (toB zs).length = n := by rw [toB_len]; exact hl
  refine ⟨⟨by rw [hlt]; exact h.lc, by have := h.cm; unfold maxLen at this; omega, ?_, fun _ _ _ => trivial⟩, hlt⟩
  rw [hlt]
  intro h0
  obtain ⟨b, off, e, hlt2, hc⟩ := h.lies.at h0
  refine ⟨b, off, e, fun i hi => ?_⟩
  rw [hc i hi]
  have hi' : i < zs.length := by omega
  have hz := h.dg zs[i] (List.getElem_mem hi')
  simp [toB, List.getD, hi']
  omega
theorem few_num {w : World} {base n c : Nat} {p : Option Addr} {bs : Bs} (h : w.ownsRow base 5 1 (.slice p n c) n (Lib.byteCells bs)) (hl : bs.length = n) (hn : n ≤ 100000) : NumIn .u8 256 w p n c (intsB bs) := by
  have e1 : Lib.byteCells bs = (intsB bs).map (Value.int .u8) := by
    unfold Lib.byteCells intsB
    rw [List.map_map]
    rfl
  have ho : Own 5 .u8 w base (.slice p n c) (intsB bs) := by
    unfold Own
    rw [intsB_len, hl, ← e1]
    exact h
  obtain ⟨ao, cap, e, hn2⟩ := ho.num (intsB_dg bs) (by rw [intsB_len]; omega)
  rw [intsB_len, hl] at e hn2
  injection e with e2 e3 e4
  subst e2 e4
  exact hn2
theorem nc_one {w : World} {v : Value} {n : Int} {L : Nat} (h : Nc w v n L) (h0 : 0 < n) (h1 : n < 18446744073709551616) : ∃ b o c, v = .slice (some ⟨b, o, none⟩) 1 c ∧ 1 ≤ c ∧ w.cell? ⟨b, o, none⟩ = some (.int .u64 n) := by
  obtain ⟨ao, l, c, xs, rfl, hn, hc, hv, hl⟩ := h
  have hx : xs = [n] := canon_inj (B := B64) (by decide) hn.dg (by intro x hx; simp at hx; subst hx; exact ⟨by omega, by show x < 18446744073709551616; omega⟩) hc (by unfold Canon; simp [top]; omega) (by rw [hv]; simp [val])
  subst hx
  have hl1 : l = 1 := hn.lies.len.symm
  subst hl1
  obtain ⟨b, off, e, hlt, hcc⟩ := hn.lies.at (by omega)
  subst e
  exact ⟨b, off, c, rfl, hn.lc, by simpa using hcc 0 (by omega)⟩
set_option maxRecDepth 100000 in
set_option maxHeartbeats 4000000 in
theorem S12Awake_any (w : World) : Calls Try.prog 12 #[] w fun e w' => e = .returned (.bool true) ∧ Below w.heap.size w w' := by
  have hv : ∀ W : World, ByV (W.alloc (.cells #[.int .u8 48, .int .u8 6, .int .u8 2, .int .u8 1, .int .u8 5, .int .u8 2, .int .u8 1, .int .u8 9] 5)) (fun _ => True) (some ⟨W.heap.size, 0, none⟩) 8 [48, 6, 2, 1, 5, 2, 1, 9] := fun W => by
    refine ⟨by decide, by decide, ?_, fun _ _ _ => trivial⟩
    exact row_bat (zs := [48, 6, 2, 1, 5, 2, 1, 9]) (heap_alloc_new W _) rfl (by intro x hx; simp at hx; omega)
  have hp : pairR [48, 6, 2, 1, 5, 2, 1, 9] = some ([5], [9]) := by decide +kernel
  have HP := sPair (some ⟨w.heap.size, 0, none⟩) 8 8 [48, 6, 2, 1, 5, 2, 1, 9] _ _ rfl (hv w) (by decide)
  rw [hp] at HP
  have hb0 := balloc w (.cells #[.int .u8 48, .int .u8 6, .int .u8 2, .int .u8 1, .int .u8 5, .int .u8 2, .int .u8 1, .int .u8 9] 5)
  clear hv hp
  go_enter Try.func12, Try.ntmps12
  go_wp2_with fail
  refine HP.mono ?_
  rintro e w2 ⟨hb2, (⟨hno, _⟩ | ⟨x, y, a1, l1, k1, a2, l2, k2, hs, rfl, n1, n2⟩)⟩
  · cases hno
  cases hs
  obtain ⟨c1, o1, d1, e1, f1, x1⟩ := nc_one n1 (by decide) (by decide)
  obtain ⟨c2, o2, d2, e2, f2, x2⟩ := nc_one n2 (by decide) (by decide)
  cases e1
  cases e2
  have z1 : nI [5] = 5 := by decide
  have z2 : nI [9] = 9 := by decide
  rw [z1] at x1
  rw [z2] at x2
  have HB : Hid (Below w.heap.size w w2) := bstep hb0 hb2
  clear HP hb0 hb2 n1 n2 z1 z2
  go_wp2_with fail
  go_ret
  exact ⟨rfl, HB.out⟩
theorem word_i64 {x : Int} (h : (Lit.int .i64 x).wf = true) : -9223372036854775808 ≤ x ∧ x ≤ 9223372036854775807 := by
  simp [Lit.wf, IntKind.has, IntKind.min, IntKind.max, IntKind.bits, IntKind.signed] at h
  omega
theorem came_cap {k : IntKind} {w : World} {a : Option Addr} {len cap : Nat} {zs : List Int} (h : Came k w a len cap zs) : len ≤ cap ∧ cap ≤ maxLen := by
  rcases h with ⟨rfl, rfl, rfl, rfl⟩ | ⟨x, rfl, h1, h2, _⟩
  · exact ⟨Nat.le_refl _, Nat.zero_le _⟩
  · exact ⟨h1, h2⟩
theorem came_wf {k : IntKind} {w : World} {a : Option Addr} {len cap : Nat} {zs : List Int} (h : Came k w a len cap zs) : ∀ n ∈ zs, (Lit.int k n).wf = true := by
  rcases h with ⟨rfl, rfl, rfl, rfl⟩ | ⟨x, rfl, _, _, _, _, h5⟩
  · intro n hn; cases hn
  · exact h5
theorem came_lies {k : IntKind} {w : World} {a : Option Addr} {len cap : Nat} {zs : List Int} (h : Came k w a len cap zs) : Lies k w a len (zs.take len) := by
  rcases h with ⟨rfl, rfl, rfl, rfl⟩ | ⟨x, rfl, h1, h2, h3, h4, h5⟩
  · exact ⟨rfl, .inl rfl⟩
  · refine ⟨by simp; omega, ?_⟩
    by_cases h0 : len = 0
    · exact .inl h0
    · right
      obtain ⟨b, off, spot⟩ := x
      have hc := h4 0 (by omega)
      have hspot : spot = none := by simpa [Addr.add] using World.cell?_spot hc
      subst hspot
      refine ⟨b, off, rfl, ?_, fun i hi => ?_⟩
      · rw [add_none] at hc
        exact World.block_lt_of_cell? w ⟨b, off + 0, none⟩ hc
      · have := h4 i (by omega)
        rw [add_none] at this
        rw [this]
        simp only [List.getD, List.getElem?_take]
        rw [if_pos hi]
/-- The round, of any bytes. -/
theorem rv_c {w : World} {v : Value} {n : Int} {L : Nat} (h : Rv w v n L) : ∃ a l c ds, v = .slice a l c ∧ NumIn .i64 D16 w a l c ds ∧ Canon ds ∧ val D16 ds = n ∧ l ≤ L := h
theorem same_call {w0 w : World} {a1 a2 : Option Addr} {l1 k1 l2 k2 : Nat} {n : Int} {L : Nat} (h1 : Nc w (.slice a1 l1 k1) n 64) (h2 : NumOut .u64 B64 w0 w (.slice a2 l2 k2) n L) : Calls Try.prog 18 #[.slice a1 l1 k1, .slice a2 l2 k2] w fun e w' => e = .returned (.bool true) ∧ Below w.heap.size w w' := by
  obtain ⟨_, _, _, xs, e, h3, h4, h5, h6⟩ := h1
  cases e
  obtain ⟨_, _, _, ys, e, g3, g4, g5, g6, _⟩ := h2
  cases e
  have hxy : xs = ys := canon_inj (B := B64) (by decide) h3.dg g3.dg h4 g4 (by rw [h5, g5])
  subst hxy
  have hl : l1 = l2 := by rw [← h3.lies.len, ← g3.lies.len]
  subst hl
  refine (Same_yes _ _ l1 k1 k2 xs w h3.lies g3.lies h3.sm).mono ?_
  rintro e w' ⟨rfl, hd⟩
  exact ⟨rfl, hd.below _⟩
set_option maxRecDepth 100000 in
set_option maxHeartbeats 8000000 in
theorem SigsPairs_walk (w : World) (a0 : Option Addr) (len0 cap0 : Nat) (z0 : List Int) (c0 : Came .u8 w a0 len0 cap0 z0) (k s : Int) (hk : 0 ≤ k ∧ k < 256) (hs : 0 ≤ s ∧ s < 256) (a1 : Option Addr) (len1 cap1 : Nat) (z1 : List Int) (c1 : Came .u8 w a1 len1 cap1 z1) (draw : Int) (wd : (Lit.int .u16 draw).wf = true) (a2 : Option Addr) (len2 cap2 : Nat) (z2 : List Int) (c2 : Came .i64 w a2 len2 cap2 z2) (a3 : Option Addr) (len3 cap3 : Nat) (z3 : List Int) (c3 : Came .u8 w a3 len3 cap3 z3) :
    Calls Try.prog 4 #[.slice a0 len0 cap0, .agg #[.int .u8 k, .int .u8 s], .slice a1 len1 cap1, .int .u16 draw, .slice a2 len2 cap2, .slice a3 len3 cap3] w fun e w' => e = .returned (.bool true) ∧ Below w.heap.size w w' := by
  have e0 := c0.le
  have e1 := c1.le
  have e2 := c2.le
  have e3 := c3.le
  unfold maxLen at e0 e1 e2 e3
  have hdr := word_u16 wd
  clear wd
  have hb0 := balloc w (.cells #[.int .u8 k, .int .u8 s] 23)
  have hc0 := heap_alloc_new w (.cells #[.int .u8 k, .int .u8 s] 23)
  obtain ⟨W, hW⟩ : ∃ W, w.alloc (.cells #[.int .u8 k, .int .u8 s] 23) = W := ⟨_, rfl⟩
  rw [hW] at hc0 hb0
  have HW : Hid (_ = W) := hW
  have HS : Hid (W.heap[w.heap.size]? = some (.cells #[.int .u8 k, .int .u8 s] 23 (0, 0)) ∧ Below w.heap.size w W) := ⟨hc0, hb0⟩
  have HC : Hid (Came .u8 W a0 len0 cap0 z0 ∧ Came .u8 W a1 len1 cap1 z1 ∧ Came .i64 W a2 len2 cap2 z2 ∧ Came .u8 W a3 len3 cap3 z3) := ⟨c0.old hb0, c1.old hb0, c2.old hb0, c3.old hb0⟩
  clear hb0 hc0 hW c0 c1 c2 c3
  go_enter Try.func4, Try.ntmps4
  go_wp2_with fail
  rw [HW.out]
  clear HW
  refine (S12Awake_any W).mono ?_
  rintro e wA ⟨rfl, hbA⟩
  replace HS : Hid (wA.heap[w.heap.size]? = some (.cells #[.int .u8 k, .int .u8 s] 23 (0, 0)) ∧ Below w.heap.size w wA) := ⟨blk_old HS.out.1 hbA, bstep HS.out.2 hbA⟩
  replace HC : Hid (Came .u8 wA a0 len0 cap0 z0 ∧ Came .u8 wA a1 len1 cap1 z1 ∧ Came .i64 wA a2 len2 cap2 z2 ∧ Came .u8 wA a3 len3 cap3 z3) := ⟨HC.out.1.old hbA, HC.out.2.1.old hbA, HC.out.2.2.1.old hbA, HC.out.2.2.2.old hbA⟩
  clear hbA
  obtain ⟨y0, y1⟩ := cells2s HS.out.1
  by_cases n1 : 2000 < len0
  · have n1I : (2000 : Int) < (len0 : Int) := by omega
    go_wp2_with fail
    go_ret
    exact ⟨rfl, HS.out.2⟩
  have n1I : ¬ (2000 : Int) < (len0 : Int) := by omega
  by_cases n2 : 100 < len1
  · have n2I : (100 : Int) < (len1 : Int) := by omega
    go_wp2_with fail
    go_ret
    exact ⟨rfl, HS.out.2⟩
  have n2I : ¬ (100 : Int) < (len1 : Int) := by omega
  go_wp2_with fail
  refine (sgCurve_any k s hk wA).mono ?_
  rintro e wB ⟨rfl, hbB⟩
  replace HS : Hid (wB.heap[w.heap.size]? = some (.cells #[.int .u8 k, .int .u8 s] 23 (0, 0)) ∧ Below w.heap.size w wB) := ⟨blk_old HS.out.1 hbB, bstep HS.out.2 hbB⟩
  replace HC : Hid (Came .u8 wB a0 len0 cap0 z0 ∧ Came .u8 wB a1 len1 cap1 z1 ∧ Came .i64 wB a2 len2 cap2 z2 ∧ Came .u8 wB a3 len3 cap3 z3) := ⟨HC.out.1.old hbB, HC.out.2.1.old hbB, HC.out.2.2.1.old hbB, HC.out.2.2.2.old hbB⟩
  clear hbB y0 y1
  rcases sgC_rng k hk with h | ⟨j, hj3, h⟩
  · rw [h]
    go_wp2_with fail
    go_ret
    exact ⟨rfl, HS.out.2⟩
  rw [h]
  have j0 : ¬ ((j : Int) < 0) := by omega
  obtain ⟨y0, y1⟩ := cells2s HS.out.1
  have HSG := hSign k s hk hs j hj3 h a1 len1 cap1 (z1.take len1) draw hdr wB (HC.out.2.1.bytes (by omega)) (by omega)
  clear h
  go_wp2_with fail
  refine HSG.mono ?_
  rintro e wC ⟨hbC, pS, nS, cS, bS, rfl, hlS, hnS, hoS⟩
  replace HS : Hid (Below w.heap.size w wC) := bstep HS.out.2 hbC
  replace HC : Hid (Came .u8 wC a0 len0 cap0 z0 ∧ Came .i64 wC a2 len2 cap2 z2 ∧ Came .u8 wC a3 len3 cap3 z3) := ⟨HC.out.1.old hbC, HC.out.2.2.1.old hbC, HC.out.2.2.2.old hbC⟩
  have HTU := hTurned pS nS cS (intsB bS) a2 len2 cap2 (z2.take len2) a3 len3 cap3 (z3.take len3) wC (few_num hoS hlS (by omega)) (by omega) (came_lies HC.out.2.1) (came_cap HC.out.2.1).1 (came_cap HC.out.2.1).2 (fun x hx => word_i64 (came_wf HC.out.2.1 x (List.mem_of_mem_take hx))) (came_lies HC.out.2.2) (came_cap HC.out.2.2).1 (came_cap HC.out.2.2).2 (fun x hx => word_u8 (came_wf HC.out.2.2 x (List.mem_of_mem_take hx)))
  clear HSG hbC hlS hoS y0 y1
  go_wp2_with fail
  refine HTU.mono ?_
  rintro e wD ⟨q, d, zs, rfl, hoT, hlT, hdT, hbD⟩
  obtain ⟨x0, x1⟩ := numin_byv (HC.out.1.bytes (by omega) : NumIn .u8 256 wC a0 len0 cap0 (z0.take len0))
  obtain ⟨ao, cap, e9, hnT⟩ := hoT.num hdT (by rw [hlT]; omega)
  rw [hlT] at e9 hnT
  injection e9 with e5 e6 e7
  subst e5 e7
  clear e6
  obtain ⟨x2, x3⟩ := numin_byv hnT
  have HV : Hid (ByV wD (fun _ => True) a0 cap0 (toB (z0.take len0)) ∧ (toB (z0.take len0)).length = len0 ∧ ByV wD (fun _ => True) q d (toB zs) ∧ (toB zs).length = nS ∧ Below w.heap.size w wD) := ⟨x0.below hbD, x1, x2, x3, bstep HS.out hbD⟩
  clear x0 x1 x2 x3 hoT hlT hdT hbD hnT HTU HS HC
  have hD1 := balloc wD (.cells #[.slice a0 len0 cap0, .slice q nS d] 39)
  have hD2 := heap_alloc_new wD (.cells #[.slice a0 len0 cap0, .slice q nS d] 39)
  obtain ⟨wE, hwE⟩ : ∃ W, wD.alloc (.cells #[.slice a0 len0 cap0, .slice q nS d] 39) = W := ⟨_, rfl⟩
  rw [hwE] at hD1 hD2
  have HWE : Hid (_ = wE) := hwE
  obtain ⟨gE, hgE⟩ : ∃ g, wD.heap.size = g := ⟨_, rfl⟩
  have HGE : Hid (wD.heap.size = gE) := hgE
  rw [hgE] at hD2
  have HE : Hid ((∀ wr, Below wE.heap.size wE wr → ∀ i : Nat, i < 2 → ∃ p n c bs, wr.cell? ⟨gE, i, none⟩ = some (.slice p n c) ∧ ByV wr (fun _ => True) p c bs ∧ bs.length = n ∧ n ≤ 2000) ∧ Below w.heap.size w wE) := by
    refine ⟨fun wr hr i hi => ?_, bstep HV.out.2.2.2.2 hD1⟩
    have hrow := blk_old hD2 hr
    match i, hi with
    | 0, _ => exact ⟨a0, len0, cap0, _, cell_of_row _ _ 0 _ _ _ hrow, (HV.out.1.below hD1).below hr, HV.out.2.1, by omega⟩
    | 1, _ => exact ⟨q, nS, d, _, cell_of_row _ _ 1 _ _ _ hrow, (HV.out.2.2.1.below hD1).below hr, HV.out.2.2.2.1, by omega⟩
  clear hD1 hD2 hwE hgE HV
  go_wp2_with fail
  rw [HGE.out, HWE.out]
  clear HGE HWE
  go_loopw [46] (fun v46 wr => ∃ (i : Nat), i ≤ 2 ∧ v46 = .int .i64 (i : Int) ∧ Below wE.heap.size wE wr) (fun v46 _ => 2 - (intOf v46).toNat)
  case atStart => exact ⟨0, by omega, rfl, Below.refl _ _⟩
  case round =>
    obtain ⟨i, hi, rfl, hbr⟩ := hrel
    have HB : Hid (Below wE.heap.size wE wr) := hbr
    rcases Nat.lt_or_eq_of_le hi with hi2 | rfl
    rotate_left
    · clear hbr
      go_wp2_with fail
      go_ret
      exact ⟨rfl, bstep HE.out.2 HB.out⟩
    obtain ⟨p, n, c, bs, hcl, hv, hl, hn⟩ := HE.out.1 wr hbr i hi2
    have hiI : (i : Int) < 2 := by omega
    have hi0 : (0 : Int) ≤ (i : Int) := by omega
    have HP := sPair p n c bs _ wr hl hv (by omega)
    have HQ := fun W (hW : Below wr.heap.size wr W) => rPair p n c bs _ W hl (hv.below hW) hn
    clear hbr hv
    cases hR : pairR bs with
    | none =>
      rw [hR] at HP HQ
      go_wp2_with fail
      refine HP.mono ?_
      rintro e w1 ⟨hb1, (⟨_, rfl⟩ | ⟨_, _, _, _, _, _, _, _, hno, _⟩)⟩
      rotate_left
      · cases hno
      have HQ1 := HQ w1 hb1
      have HB1 : Hid (Below wE.heap.size wE w1) := bstep HB.out hb1
      clear HP HQ hb1 hcl
      go_wp2_with fail
      refine HQ1.mono ?_
      rintro e w2 ⟨hb2, r1, r2, r3, r4, r5, r6, bb, rfl, (⟨_, rfl⟩ | ⟨_, _, hno, _⟩)⟩
      rotate_left
      · cases hno
      have HB2 : Hid (Below wE.heap.size wE w2) := bstep HB1.out hb2
      clear HQ1 hb2
      go_wp2_with fail
      go_roundw
      case rel => exact ⟨i + 1, by omega, by go_num, HB2.out⟩
      case measure => simp [intOf]; omega
    | some xy =>
      obtain ⟨x, y⟩ := xy
      rw [hR] at HP HQ
      go_wp2_with fail
      refine HP.mono ?_
      rintro e w1 ⟨hb1, (⟨hno, _⟩ | ⟨x', y', s1, s2, s3, s4, s5, s6, hs, rfl, nX, nY⟩)⟩
      · cases hno
      cases hs
      have HQ1 := HQ w1 hb1
      have HB1 : Hid (Below wE.heap.size wE w1 ∧ Nc w1 (.slice s1 s2 s3) (nI x) 64 ∧ Nc w1 (.slice s4 s5 s6) (nI y) 64) := ⟨bstep HB.out hb1, nX, nY⟩
      clear HP HQ hb1 hcl nX nY
      go_wp2_with fail
      refine HQ1.mono ?_
      rintro e w2 ⟨hb2, r1, r2, r3, r4, r5, r6, bb, rfl, (⟨hno, _⟩ | ⟨x', y', hs, rfl, rX, rY⟩)⟩
      · cases hno
      cases hs
      have HB2 : Hid (Below wE.heap.size wE w2 ∧ Nc w2 (.slice s1 s2 s3) (nI x) 64 ∧ Nc w2 (.slice s4 s5 s6) (nI y) 64 ∧ Rv w2 (.slice r4 r5 r6) (nI y) 1001) := ⟨bstep HB1.out.1 hb2, HB1.out.2.1.old hb2, HB1.out.2.2.old hb2, rY⟩
      have HN1 : Calls Try.prog 19 #[.slice r1 r2 r3] w2 fun e w' => ∃ m1 m2 m3, e = .returned (.slice m1 m2 m3) ∧ NumOut .u64 B64 w2 w' (.slice m1 m2 m3) (nI x) r2 := by
        obtain ⟨_, _, _, ds, e, g1, g2, g3, g4⟩ := rX
        cases e
        refine (rNat_any _ _ _ ds w2 g1 g2 (by omega)).mono ?_
        rintro e w' ⟨v, rfl, hn⟩
        rw [g3] at hn
        obtain ⟨m1, m2, m3, _, rfl, -⟩ := id hn
        exact ⟨m1, m2, m3, rfl, hn⟩
      clear HQ1 hb2 rX rY HB1
      go_wp2_with fail
      refine HN1.mono ?_
      rintro e w3 ⟨m1, m2, m3, rfl, hno⟩
      have hb3 : Below w2.heap.size w2 w3 := by obtain ⟨_, _, _, _, _, _, _, _, _, h5⟩ := hno; exact h5
      have HS1 := same_call (HB2.out.2.1.old hb3) hno
      have HB3 : Hid (Below wE.heap.size wE w3 ∧ Nc w3 (.slice s4 s5 s6) (nI y) 64 ∧ Rv w3 (.slice r4 r5 r6) (nI y) 1001) := ⟨bstep HB2.out.1 hb3, HB2.out.2.2.1.old hb3, HB2.out.2.2.2.old hb3⟩
      clear HN1 hno hb3 HB2
      go_wp2_with fail
      refine HS1.mono ?_
      rintro e w4 ⟨rfl, hb4⟩
      have HB4 : Hid (Below wE.heap.size wE w4 ∧ Nc w4 (.slice s4 s5 s6) (nI y) 64) := ⟨bstep HB3.out.1 hb4, HB3.out.2.1.old hb4⟩
      have HN2 : Calls Try.prog 19 #[.slice r4 r5 r6] w4 fun e w' => ∃ m1 m2 m3, e = .returned (.slice m1 m2 m3) ∧ NumOut .u64 B64 w4 w' (.slice m1 m2 m3) (nI y) r5 := by
        obtain ⟨_, _, _, ds, e, g1, g2, g3, g4⟩ := HB3.out.2.2.old hb4
        cases e
        refine (rNat_any _ _ _ ds w4 g1 g2 (by omega)).mono ?_
        rintro e w' ⟨v, rfl, hn⟩
        rw [g3] at hn
        obtain ⟨m1, m2, m3, _, rfl, -⟩ := id hn
        exact ⟨m1, m2, m3, rfl, hn⟩
      clear HS1 hb4 HB3
      go_wp2_with fail
      refine HN2.mono ?_
      rintro e w5 ⟨t1, t2, t3, rfl, hno⟩
      have hb5 : Below w4.heap.size w4 w5 := by obtain ⟨_, _, _, _, _, _, _, _, _, h5⟩ := hno; exact h5
      have HS2 := same_call (HB4.out.2.old hb5) hno
      have HB5 : Hid (Below wE.heap.size wE w5) := bstep HB4.out.1 hb5
      clear HN2 hno hb5 HB4
      go_wp2_with fail
      refine HS2.mono ?_
      rintro e w6 ⟨rfl, hb6⟩
      have HB6 : Hid (Below wE.heap.size wE w6) := bstep HB5.out hb6
      clear HS2 hb6 HB5
      go_wp2_with fail
      go_roundw
      case rel => exact ⟨i + 1, by omega, by go_num, HB6.out⟩
      case measure => simp [intOf]; omega
end Go.Proofs.Yticopomchoahnaa
