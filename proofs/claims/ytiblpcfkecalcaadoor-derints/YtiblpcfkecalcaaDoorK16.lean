import Derived.Test.YtiblpcfkecalcaaDoorK15
import Derived.Test.YtiblpcfkecalcaaDoorK06
import Derived.Test.YtiblpcfkecalcaaDoorK10
import Derived.Test.YtiblpcfkecalcaaDoorK14
/-
  DerInts.
-/
namespace Go.Proofs.YtiblpcfkecalcaaDoor
open Go.Shelf Go.RowKit
set_option linter.unusedVariables false
set_option linter.unusedSimpArgs false

/-- Numbers as bytes. -/
def toB (zs : List Int) : Bs := zs.map fun z => UInt8.ofNat z.toNat
theorem toB_len (zs : List Int) : (toB zs).length = zs.length := by simp [toB]
theorem row_bat {w : World} {g n : Nat} {zs : List Int} (h : Row 5 .u8 w g zs) (hl : zs.length = n) (hd : Dg 256 zs) : BAt w (some ⟨g, 0, none⟩) n (toB zs) := by
  intro h0
  refine ⟨g, 0, rfl, fun i hi => ?_⟩
  unfold Row at h
  rw [Nat.zero_add, cell_of_row w g i _ _ _ h]
  have hi' : i < zs.length := by omega
  have hz := hd zs[i] (List.getElem_mem hi')
  simp [toB, List.getD, hi']
  omega
theorem own_made {w : World} {g n : Nat} {zs : List Int} {base : Nat} (h : Row 5 .u8 w g zs) (hl : zs.length = n) (hd : Dg 256 zs) (hb : base ≤ g) (hn : n ≤ 1000000) : w.ownsRow base 5 1 (.slice (some ⟨g, 0, none⟩) n n) n (Lib.byteCells (toB zs)) := by
  have hc : Lib.byteCells (toB zs) = zs.map (Value.int .u8) := by
    unfold Lib.byteCells toB
    rw [List.map_map]
    apply List.map_congr_left
    intro z hz
    have := hd z hz
    simp
    omega
  refine ⟨by rw [hc, List.length_map, hl, Nat.mul_one], .inr ⟨g, n, _, rfl, hb, h, Nat.le_refl _, by unfold maxLen; omega, by simp [hl], by rw [hc, Nat.mul_one]; exact List.take_of_length_le (by simp [hl])⟩⟩
theorem blen_room (V : Int) (h0 : 0 ≤ V) : V < 256 ^ ((blen V.toNat + 7) / 8) := by
  have h1 := blen_lt V.toNat
  have h2 : 2 ^ blen V.toNat ≤ 256 ^ ((blen V.toNat + 7) / 8) := by
    rw [show (256 : Nat) = 2 ^ 8 from rfl, ← Nat.pow_mul]
    exact Nat.pow_le_pow_right (by omega) (by omega)
  have h3 : V.toNat < 256 ^ ((blen V.toNat + 7) / 8) := Nat.lt_of_lt_of_le h1 h2
  have h4 : ((256 ^ ((blen V.toNat + 7) / 8) : Nat) : Int) = 256 ^ ((blen V.toNat + 7) / 8) := by simp
  omega
/-- What Int answers, as one form. -/
def intK (t : Nat) (l : Bs) : Nat := if t ≠ 2 then 30 else match intL l with
  | none => 30
  | some x => if 512 < x.length then 3 else 0
def intV (t : Nat) (l : Bs) : Int := if t ≠ 2 then 0 else match intL l with
  | none => 0
  | some x => if 512 < x.length then 0 else val 256 (intsB x).reverse
theorem int_bad {t : Nat} {l : Bs} (h : t ≠ 2 ∨ intL l = none) : intK t l = 30 ∧ intV t l = 0 := by
  unfold intK intV
  by_cases h2 : t = 2
  · have h3 : intL l = none := by rcases h with h | h; exact absurd h2 h; exact h
    rw [h3]; simp
  · rw [if_pos h2, if_pos h2]; exact ⟨rfl, rfl⟩
theorem int_big {t : Nat} {l x : Bs} (h : t = 2) (hi : intL l = some x) (hb : 512 < x.length) : intK t l = 3 ∧ intV t l = 0 := by
  unfold intK intV
  rw [if_neg (by omega), if_neg (by omega), hi]
  simp only []
  rw [if_pos hb, if_pos hb]
  exact ⟨rfl, rfl⟩
theorem int_ok {t : Nat} {l x : Bs} (h : t = 2) (hi : intL l = some x) (hb : x.length ≤ 512) : intK t l = 0 ∧ intV t l = val 256 (intsB x).reverse := by
  unfold intK intV
  rw [if_neg (by omega), if_neg (by omega), hi]
  simp only []
  rw [if_neg (by omega), if_neg (by omega)]
  exact ⟨rfl, rfl⟩
theorem IntPost.uni {w w' : World} {t : Nat} {l : Bs} {e : Ending} (h : IntPost w t l e w') : ∃ v, e = .returned (.tuple #[v, .int .i64 (intK t l : Int)]) ∧ NumOut .u64 B64 w w' v (intV t l) 64 := by
  obtain ⟨hb, (⟨h1, rfl⟩ | ⟨x, h1, h2, (⟨h3, rfl⟩ | ⟨h3, v, rfl, h4⟩)⟩)⟩ := h
  · rw [(int_bad h1).1, (int_bad h1).2]; exact ⟨_, rfl, none, 0, 0, [], rfl, NumIn.nil, rfl, rfl, by omega, hb⟩
  · rw [(int_big h1 h2 h3).1, (int_big h1 h2 h3).2]; exact ⟨_, rfl, none, 0, 0, [], rfl, NumIn.nil, rfl, rfl, by omega, hb⟩
  · rw [(int_ok h1 h2 h3).1, (int_ok h1 h2 h3).2]; exact ⟨v, rfl, h4⟩
theorem RIntPost.uni {w w' : World} {t : Nat} {l : Bs} {e : Ending} (h : RIntPost w t l e w') : ∃ v, e = .returned (.tuple #[v, .int .i64 (intK t l : Int)]) ∧ NumOut .i64 D16 w w' v (intV t l) 1001 := by
  obtain ⟨hb, (⟨h1, rfl⟩ | ⟨x, h1, h2, (⟨h3, rfl⟩ | ⟨h3, v, rfl, h4⟩)⟩)⟩ := h
  · rw [(int_bad h1).1, (int_bad h1).2]; exact ⟨_, rfl, none, 0, 0, [], rfl, NumIn.nil, rfl, rfl, by omega, hb⟩
  · rw [(int_big h1 h2 h3).1, (int_big h1 h2 h3).2]; exact ⟨_, rfl, none, 0, 0, [], rfl, NumIn.nil, rfl, rfl, by omega, hb⟩
  · rw [(int_ok h1 h2 h3).1, (int_ok h1 h2 h3).2]; exact ⟨v, rfl, h4⟩
/-- A piece in a row of them. -/
def PieceAt (w : World) (g i : Nat) : Prop := ∃ (T : Nat) (p : Option Addr) (n c : Nat) (l : Bs), w.cell? ⟨g, i * 2, none⟩ = some (.int .u8 (T : Int)) ∧ w.cell? ⟨g, i * 2 + 1, none⟩ = some (.slice p n c) ∧ T < 256 ∧ l.length = n ∧ n ≤ 1000 ∧ ByV w (fun b => b < w.heap.size) p c l
theorem PieceAt.below {w w' : World} {g i : Nat} (h : PieceAt w g i) (hb : Below w.heap.size w w') : PieceAt w' g i := by
  obtain ⟨T, p, n, c, l, h1, h2, h3, h4, h5, h6⟩ := h
  exact ⟨T, p, n, c, l, (hb.cell (World.block_lt_of_cell? w _ h1)).trans h1, (hb.cell (World.block_lt_of_cell? w _ h2)).trans h2, h3, h4, h5, (h6.below hb).mono (fun b hlt _ => Nat.lt_of_lt_of_le hlt hb.size)⟩
set_option maxRecDepth 100000 in
set_option maxHeartbeats 8000000 in
theorem DerInts_walk (w : World) (t0 : Int) (a0 : Option Addr) (len0 cap0 : Nat) (z0 : List Int) (ut0 : 0 ≤ t0 ∧ t0 < 256) (w0 : CameJ .u8 w a0 len0 cap0 z0) (a1 : Option Addr) (len1 cap1 : Nat) (z1 : List Int) (w1 : Came .u64 w a1 len1 cap1 z1) (n2 : Int) (w2 : (Lit.int .u8 n2).wf = true) (hL : laidMet Tryd.prog Rows.derIntsRow.laid w) :
    Calls Tryd.prog 6 #[.agg #[.int .u8 t0, .slice a0 len0 cap0], .slice a1 len1 cap1, .int .u8 n2] w fun e w' => e = .returned (.bool true) ∧ Below w.heap.size w w' := by
  have hT : Md w := md_laid hL
  obtain ⟨TN, rfl⟩ : ∃ T : Nat, t0 = (T : Int) := ⟨t0.toNat, by omega⟩
  have hTN : TN < 256 := by omega
  have hn2 := byte_wf w2
  obtain ⟨N2, rfl⟩ : ∃ T : Nat, n2 = (T : Int) := ⟨n2.toNat, by omega⟩
  have hle0 := w0.le
  have hle1 := w1.le
  unfold maxLen at hle0 hle1
  obtain ⟨bs, hn, hV⟩ := w0.byv
  clear w0 w2 hL ut0
  have hle0I : (len0 : Int) ≤ 9223372036854775807 := by omega
  have hle1I : (len1 : Int) ≤ 9223372036854775807 := by omega
  obtain ⟨W0, hW0⟩ : ∃ W, w.alloc (.cells #[.int .u8 (TN : Int), .slice a0 len0 cap0] 25) = W := ⟨_, rfl⟩
  have b0 : Below w.heap.size w W0 := by rw [← hW0]; exact (Below.refl _ _).alloc (Nat.le_refl _) _
  have s0 : Tl W0 w.heap.size (.int .u8 (TN : Int)) (.slice a0 len0 cap0) := by rw [← hW0]; exact Tl.new w _ _
  have hM0 : Md W0 := hT.below b0
  go_enter Tryd.func6, Tryd.ntmps6
  go_wp2_with fail
  go_at_call 9
  refine (DAwake_any W0 hM0).mono ?_
  rintro e w1' ⟨rfl, b1⟩
  have s1 := s0.below b1
  obtain ⟨f0, f1, f2, f3⟩ := s1.facts
  have B1 : Below w.heap.size w w1' := b0.trans (b1.mono b0.size)
  clear s0 hW0
  by_cases q : 1000 < len0 ∨ 70 < len1
  · have HB : Hid (Below w.heap.size w w1') := B1
    by_cases q3 : 1000 < len0
    · have q3I : 1000 < (len0 : Int) := by omega
      go_wp2_with fail
      go_ret
      exact ⟨rfl, HB.out⟩
    · have q3I : ¬ 1000 < (len0 : Int) := by omega
      have q4I : 70 < (len1 : Int) := by omega
      go_wp2_with fail
      go_ret
      exact ⟨rfl, HB.out⟩
  have q1 : ¬ 1000 < (len0 : Int) := by omega
  have q2 : ¬ 70 < (len1 : Int) := by omega
  have hnum : NumIn .u64 B64 w1' a1 len1 cap1 (z1.take len1) := (w1.num (fun _ => word_u64) (by omega)).old B1
  obtain ⟨G, hG⟩ : ∃ G, w.heap.size = G := ⟨_, rfl⟩
  have H1 : Hid (Tl w1' G (.int .u8 (TN : Int)) (.slice a0 len0 cap0) ∧ Below w.heap.size w w1' ∧ ByV w1' (fun b => b < w.heap.size) a0 cap0 bs) := ⟨by rw [← hG]; exact s1, B1, hV.keep (fun k hk _ => B1.block k hk)⟩
  rw [hG] at f0 f1
  rw [hG]
  go_wp2_with fail
  go_at_call 20
  refine (rOf_any a1 len1 cap1 (z1.take len1) w1' hnum (by omega)).mono ?_
  rintro e w2 ⟨v2, rfl, ao2, len2, cap2, x2, rfl, h21, h22, h23, h24, b2⟩
  have hV0 : 0 ≤ val D16 x2 := val_nonneg D16_pos h21.dg
  have hbl : blen (val D16 x2).toNat ≤ 4480 := by
    obtain ⟨E, hE⟩ : ∃ E, E = 4480 := ⟨_, rfl⟩
    rw [← hE]
    refine blen_le _ _ ?_
    have h1 := val_lt D16_pos h21.dg
    rw [h21.len] at h1
    have h4 : ((65536 ^ len2 : Nat) : Int) = D16 ^ len2 := by simp [D16]
    have h2 : 65536 ^ len2 ≤ 2 ^ E := by
      rw [show (65536 : Nat) = 2 ^ 16 from rfl, ← Nat.pow_mul]
      exact Nat.pow_le_pow_right (by omega) (by omega)
    generalize 2 ^ E = big at h2 ⊢
    generalize 65536 ^ len2 = sm at h2 h4
    omega
  obtain ⟨BL, hBL⟩ : ∃ B, blen (val D16 x2).toNat = B := ⟨_, rfl⟩
  have hroom := blen_room (val D16 x2) hV0
  rw [hBL] at hroom hbl
  obtain ⟨NB, hNB⟩ : ∃ B, (BL + 7) / 8 = B := ⟨_, rfl⟩
  rw [hNB] at hroom
  have hNBI : ((BL : Int) + 7) / 8 = (NB : Int) := by omega
  have hNB2 : NB ≤ 560 := by omega
  have HLN := rLen_any ao2 len2 cap2 x2 w2 h21 h22 (by omega)
  rw [hBL] at HLN
  have HBY := rBytes_big ao2 len2 cap2 x2 NB w2 h21 (by omega) hroom
  have H2 : Hid (Below w1'.heap.size w1' w2) := b2
  clear h21 h22 h23 h24 b2 hV0 hroom hBL hNB hnum
  obtain ⟨m, hmm⟩ : ∃ m, N2 % 3 = m := ⟨_, rfl⟩
  have hmI : (N2 : Int) % 3 = (m : Int) := by omega
  have hm3 : m < 3 := by omega
  clear hmm hbl
  go_wp2_with (first
    | (go_at_call 22; refine HLN.mono ?_; rintro e wL ⟨rfl, hwL⟩; obtain rfl : w2 = wL := hwL.symm)
    | (go_at_call 21; refine HBY.mono ?_; rintro e w3 ⟨v3, rfl, g3, y3, rfl, r3, l3, d3, _, b3⟩; have H3 : Hid (Row 5 .u8 w3 g3 y3 ∧ y3.length = NB ∧ Dg 256 y3 ∧ Below w2.heap.size w2 w3) := ⟨r3, l3, d3, b3⟩; have HB3 : Hid (Below w1'.heap.size w1' w3) := H2.out.trans (H3.out.2.2.2.mono H2.out.size); clear r3 l3 d3 b3)
    | (at_make; refine wpList_make_row _ rfl _ _ 22 rfl 5 .u8 1 Tryd.underlying22 Tryd.infoB _ _ _ _ m rfl rfl hmI hmI (by omega) (by unfold maxLen; omega) ?_; intro w4 r4 b4; have H4 : Hid (w4.ownsRow w3.heap.size 5 1 (.slice (some ⟨w3.heap.size, 0, none⟩) m m) m (Lib.byteCells (toB (List.replicate m 0))) ∧ Below w3.heap.size w3 w4 ∧ (toB (List.replicate m 0)).length = m) := ⟨own_made r4 (by simp) (by intro y hy; have := List.eq_of_mem_replicate hy; omega) (Nat.le_refl _) (by omega), b4, by rw [toB_len]; simp⟩; clear r4 b4)
    | (at_builtin; refine wpList_append_wt rfl (.tmp 36) (.tmp 37) rfl w3.heap.size (.slice (some ⟨w3.heap.size, 0, none⟩) m m) rfl (toB (List.replicate m 0)) m H4.out.2.2 H4.out.1 (some ⟨g3, 0, none⟩) NB NB (toB y3) (by rw [toB_len]; exact H3.out.2.1) rfl ((row_bat H3.out.1 H3.out.2.1 H3.out.2.2.1).below H4.out.2.1) (by omega) H4.out.2.1.size ?_; intro v5 w5 o5 gr5 at5; have b5 : Below w3.heap.size w3 w5 := below_grownT H4.out.2.1 (Nat.le_refl _) H4.out.1 gr5; obtain ⟨p5, c5, rfl⟩ := owns_slice o5; have H5 : Hid (w5.ownsRow w3.heap.size 5 1 (.slice p5 (m + NB) c5) (m + NB) (Lib.byteCells (toB (List.replicate m 0) ++ toB y3)) ∧ Below w1'.heap.size w1' w5 ∧ (toB (List.replicate m 0) ++ toB y3).length = m + NB) := ⟨o5, HB3.out.trans (b5.mono HB3.out.size), by rw [List.length_append, toB_len, toB_len, H3.out.2.1]; simp⟩; obtain ⟨k0, k1, k2, k3⟩ := (H1.out.1.below H5.out.2.1).facts; clear o5 gr5 at5 b5))
  have H9 : Hid (Below w.heap.size w w5) := by
    have h1 := H1.out.2.1
    exact h1.trans (H5.out.2.1.mono h1.size)
  have hV5 : ByV w5 (fun b => b < w5.heap.size) a0 cap0 bs := (H1.out.2.2.keep (fun k hk _ => H5.out.2.1.block k (by have := H1.out.2.1.size; omega))).mono (fun k hk _ => by have := H9.out.size; omega)
  have hX5 : ByV w5 (fun b => b < w5.heap.size) p5 c5 (toB (List.replicate m 0) ++ toB y3) := by
    obtain ⟨p, c, e, hv⟩ := own_byv (l := toB (List.replicate m 0) ++ toB y3) (by rw [H5.out.2.2]; exact H5.out.1)
    rw [H5.out.2.2] at e
    cases e
    exact hv.mono (fun k _ hlt => hlt)
  obtain ⟨W8, hW8⟩ : ∃ W, w5.alloc (.cells #[.int .u8 (TN : Int), .slice a0 len0 cap0, .int .u8 2, .slice a0 len0 cap0, .int .u8 2, .slice p5 (m + NB) c5] 25) = W := ⟨_, rfl⟩
  have row8 : W8.heap[w5.heap.size]? = some (.cells #[.int .u8 (TN : Int), .slice a0 len0 cap0, .int .u8 2, .slice a0 len0 cap0, .int .u8 2, .slice p5 (m + NB) c5] 25 (0, 0)) := by rw [← hW8]; exact heap_alloc_new w5 _
  have b8 : Below w5.heap.size w5 W8 := by rw [← hW8]; exact (Below.refl _ _).alloc (Nat.le_refl _) _
  rw [hW8]
  obtain ⟨g8, hg8⟩ : ∃ g, w5.heap.size = g := ⟨_, rfl⟩
  have hP8 : ∀ i, i < 3 → PieceAt W8 g8 i := by
    rw [← hg8]
    intro i hi
    have v1 := (hV5.below b8).mono (Q := fun b => b < W8.heap.size) (fun k hk _ => Nat.lt_of_lt_of_le hk b8.size)
    have v2 := (hX5.below b8).mono (Q := fun b => b < W8.heap.size) (fun k hk _ => Nat.lt_of_lt_of_le hk b8.size)
    match i, hi with
    | 0, _ => exact ⟨TN, a0, len0, cap0, bs, by rw [cell_of_row W8 _ _ _ _ _ row8]; rfl, by rw [cell_of_row W8 _ _ _ _ _ row8]; rfl, hTN, hn, by omega, v1⟩
    | 1, _ => exact ⟨2, a0, len0, cap0, bs, by rw [cell_of_row W8 _ _ _ _ _ row8]; rfl, by rw [cell_of_row W8 _ _ _ _ _ row8]; rfl, by omega, hn, by omega, v1⟩
    | 2, _ => exact ⟨2, p5, m + NB, c5, _, by rw [cell_of_row W8 _ _ _ _ _ row8]; rfl, by rw [cell_of_row W8 _ _ _ _ _ row8]; rfl, by omega, H5.out.2.2, by omega, v2⟩
  have H8 : Hid ((∀ i, i < 3 → PieceAt W8 g8 i) ∧ Below w.heap.size w W8) := ⟨hP8, H9.out.trans (b8.mono H9.out.size)⟩
  clear hP8 row8 b8 hW8 hV5 hX5 H9 H5 H4 H3 HB3 H2 H1 f0 f1 f2 f3 k0 k1 k2 k3 s1 B1 b1 b0 hV hT hM0 HLN HBY w1
  rw [hg8]
  go_loopw [47] (fun v47 wr => ∃ i : Nat, i ≤ 3 ∧ v47 = .int .i64 (i : Int) ∧ Below W8.heap.size W8 wr) (fun v47 _ => 3 - (intOf v47).toNat)
  case atStart => exact ⟨0, by omega, rfl, Below.refl _ _⟩
  case round =>
    obtain ⟨i, hi, rfl, hb⟩ := hrel
    have HB : Hid (Below W8.heap.size W8 wr) := hb
    rcases Nat.lt_or_eq_of_le hi with hi | hi
    rotate_left
    · clear hb
      subst hi
      go_wp2_with fail
      go_ret
      exact ⟨rfl, H8.out.2.trans (HB.out.mono H8.out.2.size)⟩
    obtain ⟨T, p, n, c, l, x0, x1, hT, hl, hn1, hv⟩ := (H8.out.1 i hi).below hb
    have hiI : (i : Int) < 3 := by omega
    have hi0 : (0 : Int) ≤ (i : Int) := by omega
    have bA : Below wr.heap.size wr (wr.alloc (.cells #[.int .u8 (T : Int), .slice p n c] 25)) := (Below.refl _ _).alloc (Nat.le_refl _) _
    have sA : Tl (wr.alloc (.cells #[.int .u8 (T : Int), .slice p n c] 25)) wr.heap.size (.int .u8 (T : Int)) (.slice p n c) := Tl.new wr _ _
    have HV : Hid (ByV wr (fun b => b < wr.heap.size) p c l ∧ l.length = n ∧ Tl (wr.alloc (.cells #[.int .u8 (T : Int), .slice p n c] 25)) wr.heap.size (.int .u8 (T : Int)) (.slice p n c) ∧ Below wr.heap.size wr (wr.alloc (.cells #[.int .u8 (T : Int), .slice p n c] 25))) := ⟨hv, hl, sA, bA⟩
    clear hb hv hl sA bA
    go_wp2_with fail
    go_at_call 23
    refine (derInt T hT p n c l _ _ HV.out.2.1 (HV.out.1.below HV.out.2.2.2) (by omega)).mono ?_
    intro e wB hp
    obtain ⟨v1, he, ao, la, ca, xs, rfl, nb1, nb2, nb3, nb4, bB⟩ := hp.uni
    obtain ⟨K, hK⟩ : ∃ K, intK T l = K := ⟨_, rfl⟩
    obtain ⟨V, hVV⟩ : ∃ V, intV T l = V := ⟨_, rfl⟩
    rw [hK] at he
    rw [hVV] at nb3
    subst he
    obtain ⟨y0, y1, y2, y3⟩ := (HV.out.2.2.1.below bB).facts
    have bAB : Below wr.heap.size wr wB := HV.out.2.2.2.trans (bB.mono HV.out.2.2.2.size)
    have HR := rInt10 T hT p n c l _ wB HV.out.2.1 (HV.out.1.below bAB) hn1
    have HB2 : Hid (Below wr.heap.size wr wB ∧ NumIn .u64 B64 wB ao la ca xs ∧ Canon xs ∧ val B64 xs = V) := ⟨bAB, nb1, nb2, nb3⟩
    clear hp bB bAB nb1 nb2 nb3
    go_wp2_with fail
    go_at_call 24
    refine HR.mono ?_
    intro e wC hp
    obtain ⟨v2, he, bo, lb, cb, ds, rfl, nc1, nc2, nc3, nc4, bC⟩ := hp.uni
    rw [hK] at he
    rw [hVV] at nc3
    subst he
    have HN := rNat_any bo lb cb ds wC nc1 nc2 (by omega)
    have HC2 : Hid (Below wB.heap.size wB wC ∧ val D16 ds = V) := ⟨bC, nc3⟩
    clear hp bC nc1 nc2 nc3 HR hK hVV y0 y1 y2 y3
    go_wp2_with fail
    go_at_call 26
    refine HN.mono ?_
    rintro e wD ⟨v3, rfl, do_, ld, cd, zs, rfl, nd1, nd2, nd3, nd4, bD⟩
    have hzs : zs = xs := canon_inj (B := B64) (by decide) nd1.dg HB2.out.2.1.dg nd2 HB2.out.2.2.1 (by rw [nd3, HC2.out.2, HB2.out.2.2.2])
    subst hzs
    have hbBD : Below wB.heap.size wB wD := HC2.out.1.trans (bD.mono HC2.out.1.size)
    have na := HB2.out.2.1.old hbBD
    have hla : la = ld := by rw [← na.len, ← nd1.len]
    subst hla
    have HS := Same_yes ao do_ la ca cd zs wD na.lies nd1.lies (by omega)
    have HF : Hid (Below W8.heap.size W8 wD) := HB.out.trans ((HB2.out.1.trans (hbBD.mono HB2.out.1.size)).mono HB.out.size)
    clear na nd1 nd2 nd3 bD hbBD HN x0 x1
    go_wp2_with fail
    go_at_call 25
    refine HS.mono ?_
    rintro e wE ⟨rfl, dE⟩
    go_wp2_with fail
    exact ⟨⟨i + 1, by omega, by push_cast; rfl, HF.out.trans ((dE.below _).mono (Nat.le_refl _))⟩, by simp only [intOf]; omega⟩
end Go.Proofs.YtiblpcfkecalcaaDoor
