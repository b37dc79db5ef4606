/-
  Contracts of sha.constants and sha.beginning.
-/
import Derived.Test.YtclejcjbnmgaiaaShaQ
namespace Go.Proofs.Ytclejcjbnmgaiaa
open Go.RowKit
set_option linter.unusedVariables false
set_option linter.unusedSimpArgs false

theorem pl_mono1 (n : Nat) : (pl n).length ≤ (pl (n + 1)).length := by
  rw [pl]
  split
  · simp
  · exact Nat.le_refl _
theorem pl_mono {n m : Nat} (h : n ≤ m) : (pl n).length ≤ (pl m).length := by
  induction h with
  | refl => exact Nat.le_refl _
  | step _ ih => exact Nat.le_trans ih (pl_mono1 _)
def frac (f : Int → Int → Bool) (p : Int) : Int := rootAt f p 35 % 4294967296
theorem pl312 : (pl 312).length = 64 := by decide +kernel
theorem pl311 : (pl 311).length = 63 := by decide +kernel
theorem pl20 : (pl 20).length = 8 := by decide +kernel
theorem pl19 : (pl 19).length = 7 := by decide +kernel
theorem K_table : (plI 312).map (frac cuB) = KS := by decide +kernel
theorem H_table : (plI 20).map (frac sqB) = HS := by decide +kernel

/-- A table, i of its words found. -/
def Tab (g : Int → Int) (l : List Int) (n i : Nat) (cur : List Int) : Prop := cur.length = n ∧ ∀ j, j < i → cur.getD j 0 = g (l.getD j 0)
theorem Tab.zero (g : Int → Int) (l : List Int) (n : Nat) : Tab g l n 0 (List.replicate n 0) := ⟨by simp, fun j h => by omega⟩
theorem Tab.step {g : Int → Int} {l cur : List Int} {n i : Nat} (h : Tab g l n i cur) (hi : i < n) : Tab g l n (i + 1) (cur.set i (g (l.getD i 0))) := by
  refine ⟨by simpa using h.1, fun j hj => ?_⟩
  by_cases e : j = i
  · subst e; simp [List.getD, h.1, hi]
  · have : (cur.set i (g (l.getD i 0))).getD j 0 = cur.getD j 0 := by simp [List.getD, List.getElem?_set_ne (show i ≠ j by omega)]
    rw [this]; exact h.2 j (by omega)
theorem Tab.done {g : Int → Int} {l cur : List Int} {n : Nat} (h : Tab g l n n cur) (hl : l.length = n) : cur = l.map g := by
  apply List.ext_getElem
  · rw [h.1, List.length_map, hl]
  · intro j h1 h2
    have := h.2 j (by rw [h.1] at h1; exact h1)
    have e1 : cur.getD j 0 = cur[j] := by simp [List.getD, h1]
    have h3 : j < l.length := by simpa using h2
    have e2 : l.getD j 0 = l[j] := by simp [List.getD, h3]
    rw [e1, e2] at this
    rw [this]; simp
theorem Row.setOther' {e : TypeId} {k : IntKind} {w : World} {g : Nat} {xs : List Int} (h : Row e k w g xs) {p : Addr} (hp : g ≠ p.block) (v : Value) : Row e k (w.setCell p v) g xs := by
  unfold Row
  rw [heap_setCell_other w p g v hp]
  exact h

set_option maxRecDepth 100000 in
set_option maxHeartbeats 2000000 in
theorem constants_any (w : World) : Calls Try.prog 25 #[] w fun e w' => e = .returned (ag .u32 KS) ∧ Below w.heap.size w w' := by
  have HP : ∀ w, Calls Try.prog 31 #[.int .i64 (64 : Nat)] w fun e w' => ∃ ao cap, e = .returned (.slice ao 64 cap) ∧ Lies .u64 w' ao 64 (plI 312) ∧ Below w.heap.size w w' ∧ 64 ≤ cap := fun w => sprimes_any 64 312 w (by omega) pl312 (fun n _ h => by have := pl_mono (show n ≤ 311 by omega); rw [pl311] at this; omega) (by omega) (by omega)
  have HT : Hid ((plI 312).map (frac cuB) = KS ∧ (plI 312).length = 64) := ⟨K_table, by rw [plI_length]; exact pl312⟩
  generalize plI 312 = l at *
  go_enter Try.func25, Try.ntmps25
  go_wp2_with (first | (refine wpList_alloc_row (w := w) (by with_reducible rfl) 55 (by with_reducible rfl) .u32 64 Try.infoW64 ?_; intro w0 hr0 hb0 hs0) | (refine wpList_alloc_row (w := w0) (by with_reducible rfl) 55 (by with_reducible rfl) .u32 64 Try.infoW64 ?_; intro w1 hr1 hb1 hs1))
  have HR2 : Hid (Row 55 .u32 w1 (w.heap.size + 1) (List.replicate 64 0) ∧ Row 55 .u32 w1 w.heap.size (List.replicate 64 0) ∧ Below w.heap.size w w1 ∧ w1.heap.size = w.heap.size + 2) :=
    ⟨by rw [← hs0]; exact hr1, hr0.below hb1 (by omega), hb0.trans (hb1.mono (by omega)), by omega⟩
  clear hr0 hb0 hs0 hr1 hb1 hs1 w0
  refine (HP _).mono ?_
  rintro e w2 ⟨ao, cap, rfl, hlies, hb2, hcap⟩
  have HR3 : Hid (Row 55 .u32 w2 (w.heap.size + 1) (List.replicate 64 0) ∧ Row 55 .u32 w2 w.heap.size (List.replicate 64 0) ∧ Below w.heap.size w w2) := by
    obtain ⟨a1, a2, a3, a4⟩ := HR2.out
    exact ⟨a1.below hb2 (by omega), a2.below hb2 (by omega), a3.trans (hb2.mono (by omega))⟩
  obtain ⟨b, off, rfl, hblk, hcs⟩ := hlies.at (by omega)
  have HB : Hid (∀ i, i < 64 → w2.cell? ⟨b, off + i, none⟩ = some (.int .u64 (l.getD i 0))) := hcs
  have HNE : Hid (b ≠ w.heap.size + 1) := by
    unfold Hid
    intro e
    have h0 := hcs 0 (by omega)
    have := HR3.out.1.cell (off + 0) 
    by_cases hh : off + 0 < 64
    · have := this (by simpa using hh)
      rw [← e] at this
      rw [this] at h0
      cases h0
    · have h5 := cell_of_row w2 (w.heap.size + 1) (off + 0) _ _ (0, 0) HR3.out.1
      rw [e, h5] at h0
      rw [Array.getElem?_eq_none (by simp; omega)] at h0
      cases h0
  clear hlies hb2 HR2 hcs hblk HP
  go_wp2
  go_loopw [6] (fun vi wr => ∃ (i : Nat) (cur : List Int), i ≤ 64 ∧ vi = .int .i64 i ∧ Row 55 .u32 wr (w.heap.size + 1) cur ∧ Tab (frac cuB) l 64 i cur ∧ Row 55 .u32 wr w.heap.size (List.replicate 64 0) ∧ Below w.heap.size w wr ∧ ∀ i, i < 64 → wr.cell? ⟨b, off + i, none⟩ = some (.int .u64 (l.getD i 0))) (fun vi _ => 64 - (intOf vi).toNat)
  case atStart => exact ⟨0, _, by omega, rfl, HR3.out.1, Tab.zero _ _ _, HR3.out.2.1, HR3.out.2.2, HB.out⟩
  case round =>
    obtain ⟨i, cur, hi, rfl, hrw, hm, hro, hb, hcs⟩ := hrel
    clear HR3 HB
    have HRW : Hid (Row 55 .u32 wr (w.heap.size + 1) cur ∧ Row 55 .u32 wr w.heap.size (List.replicate 64 0) ∧ Below w.heap.size w wr ∧ ∀ i, i < 64 → wr.cell? ⟨b, off + i, none⟩ = some (.int .u64 (l.getD i 0))) := ⟨hrw, hro, hb, hcs⟩
    by_cases hlt : i < 64
    · have hc := hcs i hlt
      have hcw := hrw.cell i (by have := hm.1; omega)
      have hf := hrw.frozen i
      have HM : Hid (Tab (frac cuB) l 64 (i + 1) (cur.set i (frac cuB (l.getD i 0)))) := hm.step hlt
      have HC := fun w => fraction_cuB (l.getD i 0) w
      have HE : Hid (rootAt cuB (l.getD i 0) 35 % 4294967296 = frac cuB (l.getD i 0)) := rfl
      generalize rootAt cuB (l.getD i 0) 35 % 4294967296 = z at *
      generalize l.getD i 0 = p at *
      clear hrw hm hro hb hcs
      go_wp2_with (go_at_call 32; refine (HC _).mono ?_; rintro e w' ⟨rfl, rfl⟩)
      go_roundw
      case rel =>
        refine ⟨i + 1, cur.set i (frac cuB p), by omega, by go_num, ?_, HM.out, ?_, ?_, ?_⟩
        · rw [← HE.out]; exact HRW.out.1.set i _
        · exact HRW.out.2.1.setOther' (by simp) _
        · exact HRW.out.2.2.1.setCell (Nat.le_succ _) _
        · intro j hj
          rw [World.cell?_setCell_other _ _ _ _ (by intro e; injection e with e; exact HNE.out e.symm)]
          exact HRW.out.2.2.2 j hj
      case measure => simp [intOf] <;> omega
    · obtain rfl : i = 64 := by omega
      have HF : Hid (cur = KS) := by have := hm.done HT.out.2; rw [HT.out.1] at this; exact this
      have HLN : Hid (cur.length = 64) := hm.1
      clear hrw hm hro hb hcs
      go_wp2_with (first | (refine wpList_load_nums (by with_reducible rfl) 55 _ (by with_reducible rfl) .u32 55 41 64 Try.underlying55 Try.sizeW64 _ cur (by rfl) HRW.out.1 HLN.out ?_) | (refine wpList_store_nums (by with_reducible rfl) 55 _ _ (by with_reducible rfl) .u32 55 64 Try.sizeW64 _ (List.replicate 64 0) cur (by rfl) (by rfl) HRW.out.2.1 (by simp) HLN.out ?_; intro w4 hr4 hb4 hs4 ho4))
      rw [HF.out] at hr4
      refine bodyPost_ret (v := ag .u32 KS) (results_nums rfl _ _ _ 55 41 .u32 64 _ rfl hr4 Try.underlying55 Try.sizeW64 rfl) rfl ⟨rfl, HRW.out.2.2.1.trans hb4⟩

set_option maxRecDepth 100000 in
set_option maxHeartbeats 2000000 in
theorem beginning_any (w : World) : Calls Try.prog 24 #[] w fun e w' => e = .returned (ag .u32 HS) ∧ Below w.heap.size w w' := by
  have HP : ∀ w, Calls Try.prog 31 #[.int .i64 (8 : Nat)] w fun e w' => ∃ ao cap, e = .returned (.slice ao 8 cap) ∧ Lies .u64 w' ao 8 (plI 20) ∧ Below w.heap.size w w' ∧ 8 ≤ cap := fun w => sprimes_any 8 20 w (by omega) pl20 (fun n _ h => by have := pl_mono (show n ≤ 19 by omega); rw [pl19] at this; omega) (by omega) (by omega)
  have HT : Hid ((plI 20).map (frac sqB) = HS ∧ (plI 20).length = 8) := ⟨H_table, by rw [plI_length]; exact pl20⟩
  generalize plI 20 = l at *
  go_enter Try.func24, Try.ntmps24
  go_wp2_with (first | (refine wpList_alloc_row (w := w) (by with_reducible rfl) 44 (by with_reducible rfl) .u32 8 Try.infoW8 ?_; intro w0 hr0 hb0 hs0) | (refine wpList_alloc_row (w := w0) (by with_reducible rfl) 44 (by with_reducible rfl) .u32 8 Try.infoW8 ?_; intro w1 hr1 hb1 hs1))
  have HR2 : Hid (Row 44 .u32 w1 (w.heap.size + 1) (List.replicate 8 0) ∧ Row 44 .u32 w1 w.heap.size (List.replicate 8 0) ∧ Below w.heap.size w w1 ∧ w1.heap.size = w.heap.size + 2) :=
    ⟨by rw [← hs0]; exact hr1, hr0.below hb1 (by omega), hb0.trans (hb1.mono (by omega)), by omega⟩
  clear hr0 hb0 hs0 hr1 hb1 hs1 w0
  refine (HP _).mono ?_
  rintro e w2 ⟨ao, cap, rfl, hlies, hb2, hcap⟩
  have HR3 : Hid (Row 44 .u32 w2 (w.heap.size + 1) (List.replicate 8 0) ∧ Row 44 .u32 w2 w.heap.size (List.replicate 8 0) ∧ Below w.heap.size w w2) := by
    obtain ⟨a1, a2, a3, a4⟩ := HR2.out
    exact ⟨a1.below hb2 (by omega), a2.below hb2 (by omega), a3.trans (hb2.mono (by omega))⟩
  obtain ⟨b, off, rfl, hblk, hcs⟩ := hlies.at (by omega)
  have HB : Hid (∀ i, i < 8 → w2.cell? ⟨b, off + i, none⟩ = some (.int .u64 (l.getD i 0))) := hcs
  have HNE : Hid (b ≠ w.heap.size + 1) := by
    unfold Hid
    intro e
    have h0 := hcs 0 (by omega)
    have := HR3.out.1.cell (off + 0) 
    by_cases hh : off + 0 < 8
    · have := this (by simpa using hh)
      rw [← e] at this
      rw [this] at h0
      cases h0
    · have h5 := cell_of_row w2 (w.heap.size + 1) (off + 0) _ _ (0, 0) HR3.out.1
      rw [e, h5] at h0
      rw [Array.getElem?_eq_none (by simp; omega)] at h0
      cases h0
  clear hlies hb2 HR2 hcs hblk HP
  go_wp2
  go_loopw [6] (fun vi wr => ∃ (i : Nat) (cur : List Int), i ≤ 8 ∧ vi = .int .i64 i ∧ Row 44 .u32 wr (w.heap.size + 1) cur ∧ Tab (frac sqB) l 8 i cur ∧ Row 44 .u32 wr w.heap.size (List.replicate 8 0) ∧ Below w.heap.size w wr ∧ ∀ i, i < 8 → wr.cell? ⟨b, off + i, none⟩ = some (.int .u64 (l.getD i 0))) (fun vi _ => 8 - (intOf vi).toNat)
  case atStart => exact ⟨0, _, by omega, rfl, HR3.out.1, Tab.zero _ _ _, HR3.out.2.1, HR3.out.2.2, HB.out⟩
  case round =>
    obtain ⟨i, cur, hi, rfl, hrw, hm, hro, hb, hcs⟩ := hrel
    clear HR3 HB
    have HRW : Hid (Row 44 .u32 wr (w.heap.size + 1) cur ∧ Row 44 .u32 wr w.heap.size (List.replicate 8 0) ∧ Below w.heap.size w wr ∧ ∀ i, i < 8 → wr.cell? ⟨b, off + i, none⟩ = some (.int .u64 (l.getD i 0))) := ⟨hrw, hro, hb, hcs⟩
    by_cases hlt : i < 8
    · have hc := hcs i hlt
      have hcw := hrw.cell i (by have := hm.1; omega)
      have hf := hrw.frozen i
      have HM : Hid (Tab (frac sqB) l 8 (i + 1) (cur.set i (frac sqB (l.getD i 0)))) := hm.step hlt
      have HC := fun w => fraction_sqB (l.getD i 0) w
      have HE : Hid (rootAt sqB (l.getD i 0) 35 % 4294967296 = frac sqB (l.getD i 0)) := rfl
      generalize rootAt sqB (l.getD i 0) 35 % 4294967296 = z at *
      generalize l.getD i 0 = p at *
      clear hrw hm hro hb hcs
      go_wp2_with (go_at_call 32; refine (HC _).mono ?_; rintro e w' ⟨rfl, rfl⟩)
      go_roundw
      case rel =>
        refine ⟨i + 1, cur.set i (frac sqB p), by omega, by go_num, ?_, HM.out, ?_, ?_, ?_⟩
        · rw [← HE.out]; exact HRW.out.1.set i _
        · exact HRW.out.2.1.setOther' (by simp) _
        · exact HRW.out.2.2.1.setCell (Nat.le_succ _) _
        · intro j hj
          rw [World.cell?_setCell_other _ _ _ _ (by intro e; injection e with e; exact HNE.out e.symm)]
          exact HRW.out.2.2.2 j hj
      case measure => simp [intOf] <;> omega
    · obtain rfl : i = 8 := by omega
      have HF : Hid (cur = HS) := by have := hm.done HT.out.2; rw [HT.out.1] at this; exact this
      have HLN : Hid (cur.length = 8) := hm.1
      clear hrw hm hro hb hcs
      go_wp2_with (first | (refine wpList_load_nums (by with_reducible rfl) 44 _ (by with_reducible rfl) .u32 44 41 8 Try.underlying44 Try.sizeW8 _ cur (by rfl) HRW.out.1 HLN.out ?_) | (refine wpList_store_nums (by with_reducible rfl) 44 _ _ (by with_reducible rfl) .u32 44 8 Try.sizeW8 _ (List.replicate 8 0) cur (by rfl) (by rfl) HRW.out.2.1 (by simp) HLN.out ?_; intro w4 hr4 hb4 hs4 ho4))
      rw [HF.out] at hr4
      refine bodyPost_ret (v := ag .u32 HS) (results_nums rfl _ _ _ 44 41 .u32 8 _ rfl hr4 Try.underlying44 Try.sizeW8 rfl) rfl ⟨rfl, HRW.out.2.2.1.trans hb4⟩

end Go.Proofs.Ytclejcjbnmgaiaa
