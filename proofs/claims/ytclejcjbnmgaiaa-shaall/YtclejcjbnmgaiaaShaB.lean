/-
  Contract of sha.schedule.
-/
import Derived.Test.YtclejcjbnmgaiaaShaL
namespace Go.Proofs.Ytclejcjbnmgaiaa
open Go.RowKit
set_option linter.unusedVariables false
set_option linter.unusedSimpArgs false

theorem getD_set_same (l : List Int) (i : Nat) (x : Int) (h : i < l.length) : (l.set i x).getD i 0 = x := by simp [List.getD, h]
theorem getD_set_other (l : List Int) (i j : Nat) (x : Int) (h : i ≠ j) : (l.set i x).getD j 0 = l.getD j 0 := by simp [List.getD, List.getElem?_set_ne h]
theorem getD_take (l : List Int) (n j : Nat) (h : j < n) : (l.take n).getD j 0 = l.getD j 0 := by simp [List.getD, List.getElem?_take, h]
theorem ext_getD (l m : List Int) (h : l.length = m.length) (hj : ∀ j, j < l.length → l.getD j 0 = m.getD j 0) : l = m := by
  apply List.ext_getElem h
  intro j h1 h2
  have := hj j h1
  simpa [List.getD, h1, h2] using this

theorem pw_bounds (b : List Int) (hd : Dg 256 b) (i : Nat) : ∀ k, 0 ≤ pw b i k ∧ pw b i k < 256 ^ k
  | 0 => by simp [pw]
  | k + 1 => by
    have h1 := pw_bounds b hd i k
    have h2 := hd.getD (by decide) (4 * i + k)
    rw [pw, Int.pow_succ]
    omega

/-- The first words of a block, i of them whole, the next one's first k bytes. -/
def SchA (b : List Int) (i k : Nat) (cur : List Int) : Prop :=
  cur.length = 64 ∧ (∀ j, j < i → cur.getD j 0 = pw b j 4) ∧ cur.getD i 0 = pw b i k ∧ ∀ j, i < j → cur.getD j 0 = 0
theorem SchA.zero (b : List Int) : SchA b 0 0 (List.replicate 64 0) := ⟨by simp, fun j h => by omega, getD_zeros _ _, fun j _ => getD_zeros _ _⟩
theorem SchA.step {b cur : List Int} {i k : Nat} (h : SchA b i k cur) (hi : i < 16) : SchA b i (k + 1) (cur.set i (cur.getD i 0 * 256 + b.getD (4 * i + k) 0)) := by
  obtain ⟨h1, h2, h3, h4⟩ := h
  refine ⟨by simpa using h1, fun j hj => ?_, ?_, fun j hj => ?_⟩
  · rw [getD_set_other _ _ _ _ (by omega)]; exact h2 j hj
  · rw [getD_set_same _ _ _ (by omega), h3]; rfl
  · rw [getD_set_other _ _ _ _ (by omega)]; exact h4 j hj
theorem SchA.next {b cur : List Int} {i : Nat} (h : SchA b i 4 cur) : SchA b (i + 1) 0 cur := by
  obtain ⟨h1, h2, h3, h4⟩ := h
  refine ⟨h1, fun j hj => ?_, ?_, fun j hj => h4 j (by omega)⟩
  · by_cases e : j = i
    · rw [e]; exact h3
    · exact h2 j (by omega)
  · rw [h4 (i + 1) (by omega)]; rfl

theorem words16_length (b : List Int) : (words16 b).length = 16 := by simp [words16]
theorem words16_get (b : List Int) (j : Nat) (h : j < 16) : (words16 b).getD j 0 = pw b j 4 := by simp [words16, List.getD, h]
theorem schedGo_length : ∀ (n : Nat) (l : List Int), (schedGo n l).length = l.length + n
  | 0, l => by simp [schedGo]
  | n + 1, l => by rw [schedGo, schedGo_length n]; simp; omega
theorem schedGo_succ : ∀ (n : Nat) (l : List Int), schedGo (n + 1) l = schedGo n l ++ [wNext (schedGo n l) (l.length + n)]
  | 0, l => by simp [schedGo]
  | n + 1, l => by
    rw [schedGo, schedGo_succ n]
    have : (l ++ [wNext l l.length]).length + n = l.length + (n + 1) := by simp; omega
    rw [this]
    rfl
theorem wNext_take (l : List Int) (i : Nat) (h : 16 ≤ i) : wNext (l.take i) i = wNext l i := by
  unfold wNext
  rw [getD_take _ _ _ (by omega), getD_take _ _ _ (by omega), getD_take _ _ _ (by omega), getD_take _ _ _ (by omega)]

/-- The words of a block, i of them. -/
def SchB (b : List Int) (i : Nat) (cur : List Int) : Prop := cur.length = 64 ∧ cur.take i = schedGo (i - 16) (words16 b)
theorem SchA.done {b cur : List Int} (h : SchA b 16 0 cur) : SchB b 16 cur := by
  refine ⟨h.1, ?_⟩
  apply ext_getD
  · rw [schedGo_length, words16_length]; have := h.1; simp; omega
  · intro j hj
    have hj' : j < 16 := by have := h.1; simp at hj; omega
    rw [getD_take _ _ _ hj', h.2.1 j hj']
    exact (words16_get b j hj').symm
theorem take_succ_set (l : List Int) (i : Nat) (x : Int) (h : i < l.length) : (l.set i x).take (i + 1) = l.take i ++ [x] := by
  rw [List.take_succ_eq_append_getElem (by simpa using h)]
  simp [List.take_set_of_le]
theorem SchB.step {b cur : List Int} {i : Nat} (h : SchB b i cur) (h1 : 16 ≤ i) (h2 : i < 64) : SchB b (i + 1) (cur.set i (wNext cur i)) := by
  obtain ⟨hl, ht⟩ := h
  refine ⟨by simpa using hl, ?_⟩
  rw [take_succ_set _ _ _ (by omega), ht, show i + 1 - 16 = (i - 16) + 1 by omega, schedGo_succ, words16_length, show 16 + (i - 16) = i by omega, ← ht, wNext_take _ _ h1]
theorem SchB.done {b cur : List Int} (h : SchB b 64 cur) : cur = sched b := by
  obtain ⟨hl, ht⟩ := h
  rw [List.take_of_length_le (by omega)] at ht
  exact ht

theorem Row.setOther {e : TypeId} {k : IntKind} {w : World} {g : Nat} {xs : List Int} (h : Row e k w g xs) {p : Addr} (hp : g ≠ p.block) (v : Value) : Row e k (w.setCell p v) g xs := by
  unfold Row
  rw [heap_setCell_other w p g v hp]
  exact h
/-- A byte put behind a word. -/
theorem or_byte (a d : Int) (ha : 0 ≤ a) (ha' : a < 16777216) (hd : 0 ≤ d) (hd' : d < 256) : bits .or .u32 (a * 256) d = a * 256 + d := by
  obtain ⟨x, rfl⟩ := Int.eq_ofNat_of_zero_le ha
  obtain ⟨y, rfl⟩ := Int.eq_ofNat_of_zero_le hd
  show IntKind.u32.wrap ((BitVec.ofInt 32 ((x : Int) * 256) ||| BitVec.ofInt 32 (y : Int)).toNat : Int) = _
  rw [BitVec.toNat_or, show ((x : Int) * 256) = ((x * 256 : Nat) : Int) by omega, ofInt_u32 (x * 256) (by omega), ofInt_u32 y (by omega)]
  have : x * 256 ||| y = x * 256 + y := by
    have := Nat.two_pow_add_eq_or_of_lt (i := 8) (b := y) (by omega) x
    rw [Nat.mul_comm]; exact this.symm
  rw [this, IntKind.wrap_u32]
  omega

set_option maxHeartbeats 2000000 in
/-- sha.schedule. -/
theorem schedule_any (b off cap : Nat) (bs : List Int) (w : World) (h : Lies .u8 w (some ⟨b, off, none⟩) 64 bs) (hd : Dg 256 bs) (hcap : 64 ≤ cap) (hc2 : cap ≤ maxLen) :
    Calls Try.prog 35 #[.slice (some ⟨b, off, none⟩) 64 cap] w fun e w' => e = .returned (ag .u32 (sched bs)) ∧ Below w.heap.size w w' := by
  have HL : Hid (Lies .u8 w (some ⟨b, off, none⟩) 64 bs) := h
  have HD : Hid (Dg 256 bs) := hd
  unfold maxLen at hc2
  clear h hd
  go_enter Try.func35, Try.ntmps35
  go_wp2_with (refine wpList_alloc_row rfl 55 rfl .u32 64 Try.infoW64 ?_; intro w1 hr1 hb1 hs1)
  rename_i w0 hr0 hb0 hs0 K0 hK0
  have HR2 : Hid (Row 55 .u32 w1 (w.heap.size + 1) (List.replicate 64 0) ∧ Row 55 .u32 w1 w.heap.size (List.replicate 64 0) ∧ Below w.heap.size w w1) :=
    ⟨by rw [← hs0]; exact hr1, hr0.below hb1 (by omega), hb0.trans (hb1.mono (by omega))⟩
  clear hr0 hb0 hs0 hr1 hb1 hs1 w0
  go_wp2
  go_loopw [12] (fun vi wr => ∃ (i : Nat) (cur : List Int), i ≤ 16 ∧ vi = .int .i64 i ∧ Row 55 .u32 wr (w.heap.size + 1) cur ∧ SchA bs i 0 cur ∧ Row 55 .u32 wr w.heap.size (List.replicate 64 0) ∧ Below w.heap.size w wr) (fun vi _ => 16 - (intOf vi).toNat)
  case atStart => exact ⟨0, _, by omega, rfl, HR2.out.1, SchA.zero bs, HR2.out.2.1, HR2.out.2.2⟩
  case round =>
    obtain ⟨i, cur0, hi, rfl, hrw0, hm0, hro0, hb0⟩ := hrel
    clear HR2
    have HR0 : Hid (Row 55 .u32 wr (w.heap.size + 1) cur0 ∧ SchA bs i 0 cur0 ∧ Row 55 .u32 wr w.heap.size (List.replicate 64 0) ∧ Below w.heap.size w wr) := ⟨hrw0, hm0, hro0, hb0⟩
    clear hrw0 hm0 hro0 hb0
    by_cases hlt : i < 16
    · go_wp2
      go_loopw [23] (fun vk wr => ∃ (k : Nat) (cur : List Int), k ≤ 4 ∧ vk = .int .i64 k ∧ Row 55 .u32 wr (w.heap.size + 1) cur ∧ SchA bs i k cur ∧ Row 55 .u32 wr w.heap.size (List.replicate 64 0) ∧ Below w.heap.size w wr) (fun vk _ => 4 - (intOf vk).toNat)
      case atStart => exact ⟨0, _, by omega, rfl, HR0.out⟩
      case round =>
        obtain ⟨k, cur, hk, rfl, hrw, hm, hro, hb⟩ := hrel
        clear HR0
        by_cases hlk : k < 4
        · have hl := hm.1
          have hc := hrw.cell i (by omega)
          have hf := hrw.frozen i
          have hcb : wr.cell? ⟨b, off + i * 4 + k, none⟩ = some (.int .u8 (bs.getD (4 * i + k) 0)) := by
            obtain ⟨b', off', e, _, hcs⟩ := (HL.out.old hb).at (by omega)
            cases e
            rw [show off + i * 4 + k = off + (4 * i + k) by omega]
            exact hcs _ (by omega)
          have gd := HD.out.getD (by decide) (4 * i + k)
          have gp := pw_bounds bs HD.out i k
          have gp2 : (256 : Int) ^ k ≤ 16777216 := by
            have : k = 0 ∨ k = 1 ∨ k = 2 ∨ k = 3 := by omega
            rcases this with rfl | rfl | rfl | rfl <;> decide
          have HM : Hid (SchA bs i (k + 1) (cur.set i (cur.getD i 0 * 256 + bs.getD (4 * i + k) 0))) := hm.step hlt
          have HF : Hid (bits .or .u32 (cur.getD i 0 * 256 % 4294967296) (bs.getD (4 * i + k) 0 % 4294967296) = cur.getD i 0 * 256 + bs.getD (4 * i + k) 0) := by
            unfold Hid
            rw [hm.2.2.1, Int.emod_eq_of_lt (show 0 ≤ pw bs i k * 256 by omega) (by omega), Int.emod_eq_of_lt gd.1 (by omega)]
            exact or_byte _ _ gp.1 (by omega) gd.1 gd.2
          have HRW : Hid (Row 55 .u32 wr (w.heap.size + 1) cur ∧ Row 55 .u32 wr w.heap.size (List.replicate 64 0) ∧ Below w.heap.size w wr) := ⟨hrw, hro, hb⟩
          generalize cur.getD i 0 = x at *
          generalize bs.getD (4 * i + k) 0 = d at *
          clear hrw hm hro hb hl gd gp gp2
          go_wp2
          go_roundw
          case rel => 
            refine ⟨k + 1, cur.set i (x * 256 + d), by omega, by go_num, ?_, HM.out, ?_, ?_⟩
            · rw [← HF.out]; exact HRW.out.1.set i _
            · exact HRW.out.2.1.setOther (by simp) _
            · exact HRW.out.2.2.setCell (by simp) _
          case measure => simp [intOf] <;> omega
        · obtain rfl : k = 4 := by omega
          have HM : Hid (SchA bs (i + 1) 0 cur) := hm.next
          clear hm
          go_wp2
          go_roundw
          case rel => exact ⟨i + 1, cur, by omega, by go_num, hrw, HM.out, hro, hb⟩
          case measure => simp [intOf] <;> omega
    · have HB0 : Hid (SchB bs 16 cur0) := by
        have := HR0.out.2.1
        rw [show i = 16 by omega] at this
        exact this.done
      clear hi
      generalize i = i0 at *
      go_wp2
      go_loopw [7] (fun vi wr => ∃ (i : Nat) (cur : List Int), 16 ≤ i ∧ i ≤ 64 ∧ vi = .int .i64 i ∧ Row 55 .u32 wr (w.heap.size + 1) cur ∧ SchB bs i cur ∧ Row 55 .u32 wr w.heap.size (List.replicate 64 0) ∧ Below w.heap.size w wr) (fun vi _ => 64 - (intOf vi).toNat)
      case atStart => exact ⟨16, cur0, by omega, by omega, rfl, HR0.out.1, HB0.out, HR0.out.2.2⟩
      case round =>
        obtain ⟨i, cur, hi1, hi2, rfl, hrw, hm, hro, hb⟩ := hrel
        clear HR0 HB0
        have HRW : Hid (Row 55 .u32 wr (w.heap.size + 1) cur ∧ Row 55 .u32 wr w.heap.size (List.replicate 64 0) ∧ Below w.heap.size w wr) := ⟨hrw, hro, hb⟩
        by_cases hlt : i < 64
        · have hl := hm.1
          have c0 := hrw.cell (i - 16) (by omega)
          have c1 := hrw.cell (i - 15) (by omega)
          have c2 := hrw.cell (i - 7) (by omega)
          have c3 := hrw.cell (i - 2) (by omega)
          have ci := hrw.cell i (by omega)
          have hf := hrw.frozen i
          have HM : Hid (SchB bs (i + 1) (cur.set i (wNext cur i))) := hm.step hi1 hlt
          have HF : Hid (wNext cur i = (cur.getD (i - 16) 0 + bits .xor .u32 (bits .xor .u32 (rot (cur.getD (i - 15) 0) 7) (rot (cur.getD (i - 15) 0) 18)) (cur.getD (i - 15) 0 / 8) + cur.getD (i - 7) 0 + bits .xor .u32 (bits .xor .u32 (rot (cur.getD (i - 2) 0) 17) (rot (cur.getD (i - 2) 0) 19)) (cur.getD (i - 2) 0 / 1024)) % 4294967296) := by
            unfold Hid wNext sg0 sg1 M32
            omega
          generalize cur.getD (i - 16) 0 = x0 at *
          generalize cur.getD (i - 15) 0 = x1 at *
          generalize cur.getD (i - 7) 0 = x2 at *
          generalize cur.getD (i - 2) 0 = x3 at *
          have H7 := fun w => rotr_any x1 7 w (by omega) (by omega)
          have H18 := fun w => rotr_any x1 18 w (by omega) (by omega)
          have H17 := fun w => rotr_any x3 17 w (by omega) (by omega)
          have H19 := fun w => rotr_any x3 19 w (by omega) (by omega)
          clear hrw hm hro hb hl
          go_wp2
          go_quiet (fail)
          all_goals
            go_wp2_with (go_at_call 36; first | (refine (H7 _).mono ?_; rintro e w' ⟨rfl, rfl⟩) | (refine (H18 _).mono ?_; rintro e w' ⟨rfl, rfl⟩) | (refine (H17 _).mono ?_; rintro e w' ⟨rfl, rfl⟩) | (refine (H19 _).mono ?_; rintro e w' ⟨rfl, rfl⟩))
            go_region
            all_goals
              go_wp2
              go_roundw
              case rel =>
                refine ⟨i + 1, cur.set i (wNext cur i), by omega, by omega, by go_num, ?_, HM.out, ?_, ?_⟩
                · rw [HF.out]; exact (HRW.out.1.drewN _).set i _
                · exact (HRW.out.2.1.drewN _).setOther (by simp) _
                · exact (HRW.out.2.2.trans (Drew.below ⟨_, rfl⟩ _)).setCell (Nat.le_succ _) _
              case measure => simp [intOf] <;> omega
        · obtain rfl : i = 64 := by omega
          have HF : Hid (cur = sched bs) := hm.done
          have HLN : Hid (cur.length = 64) := hm.1
          clear hrw hm hro hb
          go_wp2_with (first | (refine wpList_load_nums rfl 55 _ rfl .u32 55 41 64 Try.underlying55 Try.sizeW64 _ cur rfl HRW.out.1 HLN.out ?_) | (refine wpList_store_nums rfl 55 _ _ rfl .u32 55 64 Try.sizeW64 _ (List.replicate 64 0) cur rfl rfl HRW.out.2.1 (by simp) HLN.out ?_; intro w4 hr4 hb4 hs4 ho4))
          rw [HF.out] at hr4
          refine bodyPost_ret (v := ag .u32 (sched bs)) (results_nums rfl _ _ _ 55 41 .u32 64 _ rfl hr4 Try.underlying55 Try.sizeW64 (by rw [← HF.out]; exact HLN.out)) rfl ⟨rfl, HRW.out.2.2.trans hb4⟩
end Go.Proofs.Ytclejcjbnmgaiaa
