/-
  Contracts of sha.ending and sha.spread.
-/
import Derived.Test.YtclejcjbnmgaiaaShaL
import Derived.Deep.LoopGhost
namespace Go.Proofs.Ytclejcjbnmgaiaa
open Go.RowKit
set_option linter.unusedVariables false
set_option linter.unusedSimpArgs false

theorem getD_set_same' (l : List Int) (i : Nat) (x : Int) (h : i < l.length) : (l.set i x).getD i 0 = x := by simp [List.getD, h]
theorem getD_set_other' (l : List Int) (i j : Nat) (x : Int) (h : i ≠ j) : (l.set i x).getD j 0 = l.getD j 0 := by simp [List.getD, List.getElem?_set_ne h]
theorem ext_getD' (l m : List Int) (h : l.length = m.length) (hj : ∀ j, j < l.length → l.getD j 0 = m.getD j 0) : l = m := by
  apply List.ext_getElem h
  intro j h1 h2
  have := hj j h1
  simpa [List.getD, h1, h2] using this

theorem pad8_length (n : Nat) : (pad8 n).length = 8 := by simp [pad8]
theorem pad8_get (n j : Nat) (h : j < 8) : (pad8 n).getD j 0 = (8 * n : Int) / 2 ^ (56 - 8 * j) % 256 := by simp [pad8, List.getD, h]
theorem ending_length (n : Nat) : (ending n).length = gapN n + 9 := by simp [ending, pad8_length]
theorem ending_zero (n : Nat) : (ending n).getD 0 0 = 128 := rfl
theorem ending_mid (n j : Nat) (h0 : 0 < j) (h : j < gapN n + 1) : (ending n).getD j 0 = 0 := by
  obtain ⟨i, rfl⟩ : ∃ i, j = i + 1 := ⟨j - 1, by omega⟩
  unfold ending
  simp only [List.getD, List.getElem?_cons_succ]
  rw [List.getElem?_append_left (by simp; omega)]
  simp [List.getElem?_replicate, show i < gapN n by omega]
theorem ending_last (n j : Nat) (h0 : gapN n + 1 ≤ j) (h : j < gapN n + 9) : (ending n).getD j 0 = (8 * n : Int) / 2 ^ (8 * (gapN n + 8 - j)) % 256 := by
  obtain ⟨i, rfl⟩ : ∃ i, j = i + 1 := ⟨j - 1, by omega⟩
  have e : (ending n).getD (i + 1) 0 = (pad8 n).getD (i - gapN n) 0 := by
    unfold ending
    simp only [List.getD, List.getElem?_cons_succ]
    rw [List.getElem?_append_right (by simp; omega)]
    simp
  rw [e, pad8_get _ _ (by omega), show 56 - 8 * (i - gapN n) = 8 * (gapN n + 8 - (i + 1)) by omega]

/-- What is hashed behind, i bytes of the length in their places. -/
def EndP (n i : Nat) (cur : List Int) : Prop :=
  cur.length = gapN n + 9 ∧ cur.getD 0 0 = 128 ∧ (∀ j, 0 < j → j < gapN n + 9 - i → cur.getD j 0 = 0) ∧ ∀ j, gapN n + 9 - i ≤ j → j < gapN n + 9 → cur.getD j 0 = (8 * n : Int) / 2 ^ (8 * (gapN n + 8 - j)) % 256
theorem EndP.zero (n : Nat) : EndP n 0 ((List.replicate (gapN n + 9) 0).set 0 128) := by
  refine ⟨by simp, getD_set_same' _ _ _ (by simp), fun j h1 h2 => ?_, fun j h1 h2 => by omega⟩
  rw [getD_set_other' _ _ _ _ (by omega)]
  simp [List.getD, List.getElem?_replicate]; split <;> rfl
theorem EndP.step {n i : Nat} {cur : List Int} (h : EndP n i cur) (hi : i < 8) : EndP n (i + 1) (cur.set (gapN n + 8 - i) ((8 * n : Int) / 2 ^ (8 * i) % 256)) := by
  obtain ⟨h1, h2, h3, h4⟩ := h
  refine ⟨by simpa using h1, ?_, fun j a b => ?_, fun j a b => ?_⟩
  · rw [getD_set_other' _ _ _ _ (by omega)]; exact h2
  · rw [getD_set_other' _ _ _ _ (by omega)]; exact h3 j a (by omega)
  · by_cases e : j = gapN n + 8 - i
    · subst e
      rw [getD_set_same' _ _ _ (by omega), show gapN n + 8 - (gapN n + 8 - i) = i by omega]
    · rw [getD_set_other' _ _ _ _ (by omega)]; exact h4 j (by omega) b
theorem EndP.done {n : Nat} {cur : List Int} (h : EndP n 8 cur) : cur = ending n := by
  obtain ⟨h1, h2, h3, h4⟩ := h
  refine ext_getD' _ _ (by rw [h1, ending_length]) fun j hj => ?_
  rw [h1] at hj
  by_cases e0 : j = 0
  · subst e0; rw [h2]; rfl
  · by_cases e1 : j < gapN n + 1
    · rw [h3 j (by omega) (by omega), ending_mid n j (by omega) e1]
    · rw [h4 j (by omega) hj, ending_last n j (by omega) hj]

set_option maxHeartbeats 2000000 in
/-- sha.ending. -/
theorem ending_any (n : Nat) (w : World) (hn : n ≤ 1000000000000000) :
    Calls Try.prog 18 #[.int .u64 n] w fun e w' => e = .returned (.slice (some ⟨w.heap.size, 0, none⟩) (gapN n + 9) (gapN n + 9)) ∧ Row 5 .u8 w' w.heap.size (ending n) ∧ Below w.heap.size w w' := by
  obtain ⟨r, hr⟩ : ∃ r, n % 64 = r := ⟨_, rfl⟩
  obtain ⟨q, hq⟩ : ∃ q, gapN n = q := ⟨_, rfl⟩
  have hrI : (n : Int) % 64 = (r : Int) := by omega
  have hr64 : r < 64 := by omega
  have hqI : (119 - (r : Int)) % 64 = (q : Int) := by unfold gapN at hq; rw [hr] at hq; omega
  have hq64 : q < 64 := by unfold gapN at hq; omega
  have HQ : Hid (gapN n = q) := hq
  rw [hq]
  obtain ⟨L, hL⟩ : ∃ L, q + 9 = L := ⟨_, rfl⟩
  rw [hL]
  have HLL : Hid (q + 9 = L) := hL
  have hqL : (q : Int) + 1 + 8 = (L : Int) := by omega
  have hL73 : L ≤ 73 := by omega
  have hL9 : 9 ≤ L := by omega
  clear hr hq hL
  obtain ⟨bl, hbl⟩ : ∃ bl : Int, 8 * (n : Int) = bl := ⟨_, rfl⟩
  have hb0 : 0 ≤ bl := by omega
  have hb1 : bl ≤ 8000000000000000 := by omega
  have hbw : IntKind.u64.wrap (8 * (n : Int)) = bl := by rw [IntKind.wrap_u64]; omega
  have HBL : Hid (8 * (n : Int) = bl) := hbl
  clear hbl
  go_enter Try.func18, Try.ntmps18
  go_wp2_with (at_make; refine wpList_make_row _ rfl _ _ 22 rfl 5 .u8 1 Try.underlying22 Try.infoB _ _ _ _ L rfl rfl (by omega) (by omega) (by omega) (by unfold maxLen; omega) ?_; intro w1 hr1 hb1; have c0 := hr1.cell 0 (by simp; omega); have f0 := hr1.frozen 0)
  have HR1 : Hid (Row 5 .u8 (w1.setCell ⟨w.heap.size, 0, none⟩ (.int .u8 128)) w.heap.size ((List.replicate L 0).set 0 128) ∧ Below w.heap.size w (w1.setCell ⟨w.heap.size, 0, none⟩ (.int .u8 128))) := ⟨hr1.set 0 128, hb1.setCell (Nat.le_refl _) _⟩
  clear hr1 hb1 c0 f0
  go_loopw [19] (fun vi wr => ∃ (i : Nat) (cur : List Int), i ≤ 8 ∧ vi = .int .i64 i ∧ Row 5 .u8 wr w.heap.size cur ∧ EndP n i cur ∧ Below w.heap.size w wr) (fun vi _ => 8 - (intOf vi).toNat)
  case atStart => exact ⟨0, _, by omega, rfl, HR1.out.1, by have := EndP.zero n; rw [HQ.out, HLL.out] at this; exact this, HR1.out.2⟩
  case round =>
    obtain ⟨i, cur, hi, rfl, hrw, hm, hb⟩ := hrel
    clear HR1
    have hlen := hm.1
    rw [HQ.out, HLL.out] at hlen
    by_cases hlt : i < 8
    · obtain ⟨p, hp⟩ : ∃ p, q + 8 - i = p := ⟨_, rfl⟩
      have hpI : (L : Int) - 1 - (i : Int) = (p : Int) := by have := HLL.out; omega
      have hpl : p < L := by have := HLL.out; omega
      obtain ⟨m, hmI⟩ : ∃ m : Nat, 8 * i = m := ⟨_, rfl⟩
      have hmJ : 8 * (i : Int) = (m : Int) := by omega
      have hm64 : m < 64 := by omega
      have hc := hrw.cell p (by omega)
      have hf := hrw.frozen p
      have HM : Hid (EndP n (i + 1) (cur.set p (bl / 2 ^ m % 256))) := by
        have := hm.step hlt
        rw [HQ.out, HBL.out, hp, hmI] at this
        exact this
      have HRW : Hid (Row 5 .u8 wr w.heap.size cur ∧ Below w.heap.size w wr) := ⟨hrw, hb⟩
      clear hrw hm hb hlen hp hmI
      go_wp2
      go_roundw
      case rel => exact ⟨i + 1, _, by omega, by go_num, HRW.out.1.set p _, HM.out, HRW.out.2.setCell (Nat.le_refl _) _⟩
      case measure => simp [intOf] <;> omega
    · have HM : Hid (cur = ending n) := by have := hm; rw [show i = 8 by omega] at this; exact this.done
      clear hm
      go_wp2
      go_ret
      exact ⟨rfl, by rw [← HM.out]; exact hrw, hb⟩

theorem spreadS_length (l : List Int) : (spreadS l).length = 32 := by simp [spreadS]
theorem spreadS_get (l : List Int) (j : Nat) (h : j < 32) : (spreadS l).getD j 0 = l.getD (j / 4) 0 / 2 ^ (24 - 8 * (j % 4)) % 256 := by simp [spreadS, List.getD, h]
/-- The first i bytes. -/
def SprP (l : List Int) (i : Nat) (cur : List Int) : Prop := cur.length = 32 ∧ ∀ j, j < i → cur.getD j 0 = (spreadS l).getD j 0
theorem SprP.step {l cur : List Int} {i : Nat} (h : SprP l i cur) (hi : i < 32) : SprP l (i + 1) (cur.set i ((spreadS l).getD i 0)) := by
  refine ⟨by simpa using h.1, fun j hj => ?_⟩
  by_cases e : j = i
  · subst e; exact getD_set_same' _ _ _ (by rw [h.1]; exact hi)
  · rw [getD_set_other' _ _ _ _ (by omega)]; exact h.2 j (by omega)
theorem SprP.done {l cur : List Int} (h : SprP l 32 cur) : cur = spreadS l :=
  ext_getD' _ _ (by rw [h.1, spreadS_length]) fun j hj => h.2 j (by rw [h.1] at hj; exact hj)

theorem Row.setOther2 {e : TypeId} {k : IntKind} {w : World} {g : Nat} {xs : List Int} (h : Row e k w g xs) {p : Addr} (hp : g ≠ p.block) (v : Value) : Row e k (w.setCell p v) g xs := by
  unfold Row
  rw [heap_setCell_other w p g v hp]
  exact h

set_option maxRecDepth 100000 in
set_option maxHeartbeats 2000000 in
/-- sha.spread. -/
theorem spread_any (l : List Int) (w : World) (hl : l.length = 8) :
    Calls Try.prog 19 #[ag .u32 l] w fun e w' => e = .returned (ag .u8 (spreadS l)) ∧ Below w.heap.size w w' := by
  go_enter Try.func19, Try.ntmps19
  go_wp2_with (first
    | (refine wpList_box_row (by with_reducible rfl) 44 _ (by with_reducible rfl) .u32 l (by rfl) ?_; intro w1 hr1 hb1 hs1)
    | (refine wpList_alloc_row (w := w1) (by with_reducible rfl) 24 (by with_reducible rfl) .u8 32 Try.infoB32 ?_; intro w2 hr2 hb2 hs2)
    | (refine wpList_alloc_row (w := w2) (by with_reducible rfl) 24 (by with_reducible rfl) .u8 32 Try.infoB32 ?_; intro w3 hr3 hb3 hs3))
  have HR3 : Hid (Row 44 .u32 w3 w.heap.size l ∧ Row 24 .u8 w3 (w.heap.size + 1) (List.replicate 32 0) ∧ Row 24 .u8 w3 (w.heap.size + 1 + 1) (List.replicate 32 0) ∧ Below w.heap.size w w3) :=
    ⟨(hr1.below hb2 (by omega)).below hb3 (by omega), by rw [← hs1]; exact hr2.below hb3 (by omega), by rw [← hs1, ← hs2]; exact hr3, (hb1.trans (hb2.mono (by omega))).trans (hb3.mono (by omega))⟩
  have HL8 : Hid (l.length = 8) := hl
  clear hr1 hb1 hs1 hr2 hb2 hs2 hr3 hb3 hs3 hl
  go_loopw [6] (fun vi wr => ∃ (i : Nat) (cur : List Int), i ≤ 32 ∧ vi = .int .i64 i ∧ SprP l i cur ∧ Row 44 .u32 wr w.heap.size l ∧ Row 24 .u8 wr (w.heap.size + 1) (List.replicate 32 0) ∧ Row 24 .u8 wr (w.heap.size + 1 + 1) cur ∧ Below w.heap.size w wr) (fun vi _ => 32 - (intOf vi).toNat)
  case atStart => exact ⟨0, _, by omega, rfl, ⟨by simp, fun j h => by omega⟩, HR3.out⟩
  case round =>
    obtain ⟨i, cur, hi, rfl, hm, hr1, hr2, hr3, hb⟩ := hrel
    clear HR3
    have HRW : Hid (Row 44 .u32 wr w.heap.size l ∧ Row 24 .u8 wr (w.heap.size + 1) (List.replicate 32 0) ∧ Row 24 .u8 wr (w.heap.size + 1 + 1) cur ∧ Below w.heap.size w wr) := ⟨hr1, hr2, hr3, hb⟩
    by_cases hlt : i < 32
    · obtain ⟨r, hr⟩ : ∃ r, i % 4 = r := ⟨_, rfl⟩
      obtain ⟨d, hd⟩ : ∃ d, i / 4 = d := ⟨_, rfl⟩
      obtain ⟨pl, hpl⟩ : ∃ pl, 3 - r = pl := ⟨_, rfl⟩
      obtain ⟨m, hmm⟩ : ∃ m, 8 * pl = m := ⟨_, rfl⟩
      have hrI : (i : Int) % 4 = (r : Int) := by omega
      have hdI : (i : Int) / 4 = (d : Int) := by omega
      have hpI : 3 - (r : Int) = (pl : Int) := by omega
      have hmI : 8 * (pl : Int) = (m : Int) := by omega
      have hm32 : m < 32 := by omega
      have hd8 : d < 8 := by omega
      have hc := hr1.cell d (by have := HL8.out; omega)
      have hc3 := hr3.cell i (by have := hm.1; omega)
      have hf3 := hr3.frozen i
      have HM : Hid (SprP l (i + 1) (cur.set i (l.getD d 0 / 2 ^ m % 256))) := by
        have := hm.step hlt
        rw [spreadS_get l i hlt, hd, show 24 - 8 * (i % 4) = m by omega] at this
        exact this
      generalize l.getD d 0 = x at *
      clear hr1 hr2 hr3 hb hm hr hd hpl hmm
      go_wp2
      go_roundw
      case rel => exact ⟨i + 1, _, by omega, by go_num, HM.out, HRW.out.1.setOther2 (by simp; omega) _, HRW.out.2.1.setOther2 (by simp) _, HRW.out.2.2.1.set i _, HRW.out.2.2.2.setCell (by simp; omega) _⟩
      case measure => simp [intOf] <;> omega
    · have HF : Hid (cur = spreadS l) := by have := hm; rw [show i = 32 by omega] at this; exact this.done
      have HLN : Hid (cur.length = 32) := hm.1
      clear hr1 hr2 hr3 hb hm
      go_wp2_with (first | (refine wpList_load_nums (by with_reducible rfl) 24 _ (by with_reducible rfl) .u8 24 5 32 Try.underlying24 Try.sizeB32 _ cur (by rfl) HRW.out.2.2.1 HLN.out ?_) | (refine wpList_store_nums (by with_reducible rfl) 24 _ _ (by with_reducible rfl) .u8 24 32 Try.sizeB32 _ (List.replicate 32 0) cur (by rfl) (by rfl) HRW.out.2.1 (by simp) HLN.out ?_; intro w4 hr4 hb4 hs4 ho4))
      rw [HF.out] at hr4
      refine bodyPost_ret (v := ag .u8 (spreadS l)) (results_nums rfl _ _ _ 24 5 .u8 32 _ rfl hr4 Try.underlying24 Try.sizeB32 (spreadS_length _)) rfl ⟨rfl, HRW.out.2.2.2.trans (hb4.mono (by omega))⟩
end Go.Proofs.Ytclejcjbnmgaiaa
