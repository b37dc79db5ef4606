import Derived.Test.YtcobbbamocdbbaaK13
import Derived.Test.YtcobbbamocdbbaaK02
import Derived.Test.YtcobbbamocdbbaaK10
/-
  Contracts of the document's answer: the product (Mul).
-/
namespace Go.Proofs.Ytcobbbamocdbbaa
open Go.RowKit
set_option linter.unusedVariables false
set_option linter.unusedSimpArgs false

theorem Row.drewN {e : TypeId} {k : IntKind} {w : World} {g : Nat} {xs : List Int} (h : Row e k w g xs) (n : Nat) : Row e k (w.drewN n) g xs := h

/-- What Mul has gathered: i digits' rows whole, k products of the next; what is carried. -/
def RMuls (xs ys : List Int) (n i k : Nat) (cur : List Int) (c : Int) : Prop :=
  cur.length = n ∧ Dg D16 cur ∧ 0 ≤ c ∧ c < 65536 ∧ val D16 cur + D16 ^ (i + k) * c = low D16 xs i * val D16 ys + D16 ^ i * (xs.getD i 0 * low D16 ys k)
theorem RMuls.zero (xs ys : List Int) (n : Nat) : RMuls xs ys n 0 0 (List.replicate n 0) 0 :=
  ⟨by simp, Dg.zeros D16_pos _, by decide, by decide, by rw [val_replicate, low_zero, low_zero]; simp⟩
theorem RMuls.top {xs ys : List Int} {n i k : Nat} {cur : List Int} {c : Int} (h : RMuls xs ys n i k cur c) (hx : Dg D16 xs) (hy : Dg D16 ys) (hi : i < xs.length) (hc : 0 < c) : k ≤ ys.length := by
  obtain ⟨h1, h2, h3, h4, h5⟩ := h
  by_cases hk : k ≤ ys.length
  · exact hk
  · exfalso
    have hv := val_nonneg D16_pos h2
    have hlow : low D16 ys k = val D16 ys := low_all _ _ _ (by have := top_le ys; omega)
    rw [hlow] at h5
    have hY := val_lt D16_pos hy
    have hY0 := val_nonneg D16_pos hy
    have e1 : low D16 xs i * val D16 ys + D16 ^ i * (xs.getD i 0 * val D16 ys) = low D16 xs (i + 1) * val D16 ys := by rw [low_succ]; grind
    rw [e1] at h5
    have hX : low D16 xs (i + 1) < D16 ^ (i + 1) := by
      have a := val_lt D16_pos (hx.take (i + 1))
      have b : (xs.take (i + 1)).length = i + 1 := by simp; omega
      rw [b] at a; exact a
    have hX0 : 0 ≤ low D16 xs (i + 1) := val_nonneg D16_pos (hx.take _)
    have hp1 : 0 < D16 ^ (i + 1) := Int.pow_pos D16_pos
    have hp2 : 0 < D16 ^ ys.length := Int.pow_pos D16_pos
    have m1 : low D16 xs (i + 1) * val D16 ys ≤ low D16 xs (i + 1) * D16 ^ ys.length := Int.mul_le_mul_of_nonneg_left (by omega) hX0
    have m2 : (low D16 xs (i + 1) + 1) * D16 ^ ys.length ≤ D16 ^ (i + 1) * D16 ^ ys.length := Int.mul_le_mul_of_nonneg_right (by omega) (by omega)
    rw [Int.add_mul, ← Int.pow_add] at m2
    have m3 := pow_mono (B := D16) (by decide) (show i + 1 + ys.length ≤ i + k by omega)
    have m4 : D16 ^ (i + k) * 1 ≤ D16 ^ (i + k) * c := Int.mul_le_mul_of_nonneg_left (by omega) (by have : 0 < D16 ^ (i + k) := Int.pow_pos D16_pos; omega)
    omega
theorem prod16 (x y : Int) (hx : 0 ≤ x ∧ x < 65536) (hy : 0 ≤ y ∧ y < 65536) : 0 ≤ x * y ∧ x * y ≤ 4294836225 := by
  have a := Int.mul_nonneg hx.1 hy.1
  have b : x * y ≤ 65535 * 65535 := Int.mul_le_mul (by omega) (by omega) hy.1 (by decide)
  omega
theorem RMuls.step {xs ys : List Int} {n i k : Nat} {cur : List Int} {c : Int} (h : RMuls xs ys n i k cur c) (hx : Dg D16 xs) (hy : Dg D16 ys) (hn : i + k < n) :
    RMuls xs ys n i (k + 1) (cur.set (i + k) ((cur.getD (i + k) 0 + c + xs.getD i 0 * ys.getD k 0) % 65536)) ((cur.getD (i + k) 0 + c + xs.getD i 0 * ys.getD k 0) / 65536) := by
  obtain ⟨h1, h2, h3, h4, h5⟩ := h
  have gx := hx.getD D16_pos i
  have gy := hy.getD D16_pos k
  have gc := h2.getD D16_pos (i + k)
  have hD : D16 = 65536 := rfl
  have hp := prod16 (xs.getD i 0) (ys.getD k 0) (by rw [hD] at gx; exact gx) (by rw [hD] at gy; exact gy)
  rw [hD] at gc
  refine ⟨by simp [h1], h2.set _ (by rw [hD]; omega), by omega, by omega, ?_⟩
  rw [val_set _ _ _ _ (by omega), low_succ, show i + (k + 1) = (i + k) + 1 by omega, Int.pow_succ]
  have e : cur.getD (i + k) 0 + c + xs.getD i 0 * ys.getD k 0 = (cur.getD (i + k) 0 + c + xs.getD i 0 * ys.getD k 0) % 65536 + 65536 * ((cur.getD (i + k) 0 + c + xs.getD i 0 * ys.getD k 0) / 65536) := by omega
  generalize (cur.getD (i + k) 0 + c + xs.getD i 0 * ys.getD k 0) % 65536 = r at *
  generalize (cur.getD (i + k) 0 + c + xs.getD i 0 * ys.getD k 0) / 65536 = q at *
  generalize cur.getD (i + k) 0 = z at *
  generalize xs.getD i 0 = x at *
  generalize ys.getD k 0 = y at *
  generalize val D16 cur = V at *
  generalize low D16 ys k = L at *
  generalize low D16 xs i = X at *
  generalize val D16 ys = Y at *
  have e2 : D16 ^ (i + k) = D16 ^ i * D16 ^ k := Int.pow_add _ _ _
  rw [e2] at h5 ⊢
  generalize D16 ^ i = p at *
  generalize D16 ^ k = s at *
  rw [hD]
  have e3 : r = z + c + x * y - 65536 * q := by omega
  rw [e3]
  grind
theorem RMuls.next {xs ys : List Int} {n i k : Nat} {cur : List Int} (h : RMuls xs ys n i k cur 0) (hk : ys.length ≤ k) : RMuls xs ys n (i + 1) 0 cur 0 := by
  obtain ⟨h1, h2, h3, h4, h5⟩ := h
  refine ⟨h1, h2, h3, h4, ?_⟩
  have hlow : low D16 ys k = val D16 ys := low_all _ _ _ (by have := top_le ys; omega)
  rw [hlow] at h5
  rw [low_succ, low_zero]
  grind
theorem RMuls.done {xs ys : List Int} {n k : Nat} {cur : List Int} (h : RMuls xs ys n xs.length 0 cur 0) : val D16 cur = val D16 xs * val D16 ys := by
  have := h.2.2.2.2
  rw [low_zero, low_len] at this
  simpa using this

end Go.Proofs.Ytcobbbamocdbbaa
/-
  Contracts of the document's answer: the sum (Add), the difference (Sub).
-/
namespace Go.Proofs.Ytcobbbamocdbbaa
open Go.RowKit
set_option linter.unusedVariables false
set_option linter.unusedSimpArgs false

/-- An answer as in NumOut, whose cells are new. -/
def NumNew (k : IntKind) (B : Int) (w w' : World) (v : Value) (n : Int) (L : Nat) : Prop :=
  ∃ ao len cap xs, v = .slice ao len cap ∧ NumIn k B w' ao len cap xs ∧ Canon xs ∧ val B xs = n ∧ len ≤ L ∧ Below w.heap.size w w' ∧ ∀ b off s, ao = some ⟨b, off, s⟩ → w.heap.size ≤ b
theorem NumNew.out {k : IntKind} {B : Int} {w w' : World} {v : Value} {n : Int} {L : Nat} (h : NumNew k B w w' v n L) : NumOut k B w w' v n L := by
  obtain ⟨a, b, c, d, e1, e2, e3, e4, e5, e6, _⟩ := h
  exact ⟨a, b, c, d, e1, e2, e3, e4, e5, e6⟩
theorem Own.fresh {e : TypeId} {k : IntKind} {w : World} {base : Nat} {ao : Option Addr} {len cap : Nat} {xs : List Int} (h : Own e k w base (.slice ao len cap) xs) : ∀ b off s, ao = some ⟨b, off, s⟩ → base ≤ b := by
  intro b off s ha
  rcases h.2 with ⟨h1, _⟩ | ⟨g, cap', cur, h1, hg, _⟩
  · injection h1 with h1
    rw [h1] at ha; cases ha
  · injection h1 with h1
    rw [h1] at ha
    injection ha with ha
    injection ha with ha
    omega
theorem NumIn.fresh {k : IntKind} {B : Int} {w w' : World} {ao : Option Addr} {len cap : Nat} {xs : List Int} (h : NumIn k B w' ao len cap xs) (hb : Below w.heap.size w w') (n : Int) (hv : val B xs = n) (L : Nat) (hL : len ≤ L) (hf : ∀ b off s, ao = some ⟨b, off, s⟩ → w.heap.size ≤ b) :
    NumNew k B w w' (.slice ao (top xs) cap) n L := by
  have hl := h.len
  have ht := top_le xs
  exact ⟨ao, top xs, cap, xs.take (top xs), rfl, h.take _ (by omega), canon_take_top xs, by rw [val_take_top, hv], by omega, hb, hf⟩


end Go.Proofs.Ytcobbbamocdbbaa
/-
  Contracts of the document's answer: a small number (Small), the quotient and what is left (Div).
-/
namespace Go.Proofs.Ytcobbbamocdbbaa
open Go.RowKit
set_option linter.unusedVariables false
set_option linter.unusedSimpArgs false

/-- What Small has gathered, and what is left. -/
def Smls (n : Int) (ds : List Int) (x : Int) : Prop :=
  Dg D16 ds ∧ 0 ≤ x ∧ val D16 ds + D16 ^ ds.length * x = n ∧ ∀ j, ds.length = j + 1 → D16 ^ j ≤ n
theorem Smls.step {n : Int} {ds : List Int} {x : Int} (h : Smls n ds x) (hx : 0 < x) : Smls n (ds ++ [x % 65536]) (x / 65536) := by
  obtain ⟨h1, h2, h3, h4⟩ := h
  have hD : D16 = 65536 := rfl
  refine ⟨h1.append (Dg.cons (by rw [hD]; omega) (Dg.nil _)), by omega, ?_, fun j hj => ?_⟩
  · rw [val_snoc, List.length_append, List.length_cons, List.length_nil, Int.pow_succ, ← h3]
    have e : x = x % 65536 + 65536 * (x / 65536) := by omega
    generalize x % 65536 = r at *
    generalize x / 65536 = q at *
    rw [e]
    generalize D16 ^ ds.length = p at *
    rw [hD]
    grind
  · simp at hj
    rw [← hj, ← h3]
    have v0 := val_nonneg D16_pos h1
    have : D16 ^ ds.length * 1 ≤ D16 ^ ds.length * x := Int.mul_le_mul_of_nonneg_left (by omega) (by have : 0 < D16 ^ ds.length := Int.pow_pos D16_pos; omega)
    omega
theorem Smls.few {n : Int} {ds : List Int} {x : Int} (h : Smls n ds x) (hn : n < 9223372036854775808) : ds.length ≤ 4 := by
  cases hl : ds.length with
  | zero => omega
  | succ j =>
    have a := h.2.2.2 j hl
    by_cases hj : j < 4
    · omega
    · have b := pow_mono (B := D16) (by decide) (show 4 ≤ j by omega)
      rw [D16_4] at b
      unfold B64 at b
      omega
theorem Smls.done {n : Int} {ds : List Int} (h : Smls n ds 0) : val D16 ds = n ∧ Canon ds := by
  obtain ⟨h1, h2, h3, h4⟩ := h
  have hv : val D16 ds = n := by simpa using h3
  refine ⟨hv, ?_⟩
  cases hl : ds.length with
  | zero => rw [List.eq_nil_of_length_eq_zero hl]; exact Canon.nil
  | succ j => exact canon_of_ge D16_one h1 j hl (by rw [hv]; exact h4 j hl)

set_option maxHeartbeats 1000000 in
/-- the document's Small. -/
theorem rSmall_any (n : Int) (w : World) (h0 : 0 ≤ n) (h1 : n < 9223372036854775808) :
    Calls Try.prog 22 #[.int .i64 n] w fun e w' => ∃ v, e = .returned v ∧ NumOut .i64 D16 w w' v n 4 := by
  go_enter Try.func22, Try.ntmps22
  go_wp2
  go_loopw [0, 3] (fun vx vo wr => ∃ (x : Int) (ds : List Int), vx = .int .i64 x ∧ x ≤ n ∧ Own 3 .i64 wr w.heap.size vo ds ∧ Smls n ds x ∧ Below w.heap.size w wr) (fun vx _ _ => (intOf vx).toNat)
  case atStart => exact ⟨n, [], rfl, Int.le_refl _, Own.nil _ _ _ _, ⟨Dg.nil _, h0, by simp [val], fun j h => by simp at h⟩, Below.refl _ _⟩
  case round =>
    obtain ⟨x, ds, rfl, hxn, hown, hs, hb⟩ := hrel
    have hx0 := hs.2.1
    have hfew := hs.few h1
    by_cases hx : 0 < x
    · have HS : Hid (Smls n (ds ++ [x % 65536]) (x / 65536)) := hs.step hx
      have HLB : Hid (ds.length < 1073741824) := by unfold Hid; omega
      have hbs := hb.size
      clear hs hfew
      go_wp2_with (at_builtin; refine wpList_append_one rfl _ _ 64 rfl 3 .i64 8 Try.underlying64 Try.infoI w.heap.size u3 ds (x % 65536) (by rfl) hown (by rfl) HLB.out (by decide) w hb hbs ?_)
      intro v' w' hown' hb'
      clear hown hb hbs
      go_wp2
      go_roundw
      case rel => exact ⟨x / 65536, _, rfl, by omega, hown', HS.out, hb'⟩
      case measure => simp [intOf] <;> omega
    · obtain rfl : x = 0 := by omega
      obtain ⟨a2, c2, hv, hnum⟩ := hown.num hs.1 (by omega)
      have HF : Hid (NumOut .i64 D16 w wr (.slice a2 ds.length c2) n 4) := ⟨_, _, _, _, rfl, hnum, hs.done.2, hs.done.1, hfew, hb⟩
      subst hv
      clear hown hs hnum hb hfew
      go_wp2
      go_ret
      exact ⟨_, rfl, HF.out⟩

end Go.Proofs.Ytcobbbamocdbbaa
/-
  The contract of the document's Div.
-/
namespace Go.Proofs.Ytcobbbamocdbbaa
open Go.RowKit
set_option linter.unusedVariables false
set_option linter.unusedSimpArgs false

end Go.Proofs.Ytcobbbamocdbbaa
/-
  Contracts of the document's answer: so often multiplied (Twice) or divided (Half) by 2.
-/
namespace Go.Proofs.Ytcobbbamocdbbaa
open Go.RowKit
set_option linter.unusedVariables false
set_option linter.unusedSimpArgs false

theorem rhalf_val (xs : List Int) (hd : Dg D16 xs) (q r : Nat) : val D16 (xs.drop q) / 2 ^ r = val D16 xs / 2 ^ (16 * q + r) := by
  have hp : (0 : Int) < D16 ^ q := Int.pow_pos D16_pos
  rw [val_drop D16_pos xs hd, Int.pow_add, Int.pow_mul]
  have e : D16 = 2 ^ 16 := rfl
  rw [e] at hp ⊢
  rw [Int.ediv_ediv_of_nonneg (by omega)]
theorem NumIn.drop {k : IntKind} {B : Int} {w : World} {b off len cap : Nat} {xs : List Int} (h : NumIn k B w (some ⟨b, off, none⟩) len cap xs) (q : Nat) (hq : q ≤ len) : NumIn k B w (some ⟨b, off + q, none⟩) (len - q) (cap - q) (xs.drop q) := by
  have hl := h.len
  refine ⟨⟨by simp [hl], ?_⟩, by have := h.lc; omega, by have := h.cm; omega, (fun h => by cases h), h.dg.drop q, by have := h.sm; omega⟩
  by_cases h0 : len - q = 0
  · exact .inl h0
  · right
    obtain ⟨b', off', e, hlt, hc⟩ := h.lies.at (by omega)
    injection e with e
    injection e with e1 e2
    subst e1 e2
    refine ⟨b, off + q, rfl, hlt, fun i hi => ?_⟩
    rw [getD_drop, Nat.add_assoc]
    exact hc (q + i) (by omega)
theorem pow2_16 (r : Nat) (hr : r < 16) : (1 : Int) ≤ 2 ^ r ∧ (2 : Int) ^ r ≤ 32768 := by
  have h : ∀ r : Fin 16, (1 : Int) ≤ 2 ^ r.val ∧ (2 : Int) ^ r.val ≤ 32768 := by decide
  exact h ⟨r, hr⟩


end Go.Proofs.Ytcobbbamocdbbaa
/-
  Contracts of the document's answer: bytes as a number (Read), a number as bytes (Bytes).
-/
namespace Go.Proofs.Ytcobbbamocdbbaa
open Go.RowKit
set_option linter.unusedVariables false
set_option linter.unusedSimpArgs false

theorem pow256_2 (m : Nat) : (256 : Int) ^ (2 * m) = D16 ^ m := by rw [Int.pow_mul]; rfl

/-- Where a slice of the call's own lies: it is read there, and written. -/
theorem Own.spot {e : TypeId} {k : IntKind} {w : World} {base : Nat} {v : Value} {xs : List Int} (h : Own e k w base v xs) (h0 : 0 < xs.length) :
    ∃ g cap, v = .slice (some ⟨g, 0, none⟩) xs.length cap ∧ base ≤ g ∧ g < w.heap.size ∧ xs.length ≤ cap ∧ cap ≤ maxLen ∧ (∀ j, j < xs.length → w.cell? ⟨g, j, none⟩ = some (.int k (xs.getD j 0))) ∧ (∀ j, w.frozen? ⟨g, j, none⟩ = false) ∧
      ∀ j y, j < xs.length → Own e k (w.setCell ⟨g, j, none⟩ (.int k y)) base v (xs.set j y) := by
  rcases h.2 with ⟨rfl, h1⟩ | ⟨g, cap, cur, rfl, hg, hrow, h1, h2, h3, h4⟩
  · omega
  · refine ⟨g, cap, rfl, hg, (Array.getElem?_eq_some_iff.1 hrow).1, h1, h2, fun j hj => ?_, fun j => frozen_of_row w g j cur e hrow, fun j y hj => ⟨by simp, .inr ⟨g, cap, cur.set! j (.int k y), ?_, hg, heap_setCell_same w g j _ e _ hrow, ?_, h2, ?_, ?_⟩⟩⟩
    · rw [cell_of_row w g j cur e (0, 0) hrow]
      have : (cur.toList.take (xs.length * 1))[j]? = (xs.map (Value.int k))[j]? := by rw [h4]
      rw [List.getElem?_take, if_pos (by omega)] at this
      rw [← Array.getElem?_toList, this]
      simp [hj]
    · simp
    · simpa using h1
    · simpa using h3
    · have e1 : (cur.set! j (Value.int k y)).toList = cur.toList.set j (.int k y) := by simp
      rw [e1, List.length_set, List.take_set, h4, List.map_set]

/-- What Read has gathered when i bytes have been gone over, the last first. -/
def RReads (rb : List Int) (i : Nat) (ds : List Int) : Prop :=
  ds.length = (i + 1) / 2 ∧ Dg D16 ds ∧ (i % 2 = 1 → ds.getD (i / 2) 0 < 256) ∧ val D16 ds = low 256 rb i
theorem RReads.even {rb : List Int} {m : Nat} {ds : List Int} (h : RReads rb (2 * m) ds) (hd : 0 ≤ rb.getD (2 * m) 0 ∧ rb.getD (2 * m) 0 < 256) : RReads rb (2 * m + 1) (ds ++ [rb.getD (2 * m) 0]) := by
  obtain ⟨h1, h2, h3, h4⟩ := h
  have hl : ds.length = m := by omega
  refine ⟨by simp [hl]; omega, h2.append (Dg.cons (by unfold D16; omega) (Dg.nil _)), fun _ => ?_, ?_⟩
  · rw [show (2 * m + 1) / 2 = m by omega]
    have : (ds ++ [rb.getD (2 * m) 0]).getD m 0 = rb.getD (2 * m) 0 := by simp [List.getD, List.getElem?_append, hl]
    rw [this]; exact hd.2
  · rw [val_snoc, low_succ, h4, hl, pow256_2]
theorem RReads.odd {rb : List Int} {m : Nat} {ds : List Int} (h : RReads rb (2 * m + 1) ds) (hd : 0 ≤ rb.getD (2 * m + 1) 0 ∧ rb.getD (2 * m + 1) 0 < 256) : RReads rb (2 * m + 1 + 1) (ds.set m (ds.getD m 0 + 256 * rb.getD (2 * m + 1) 0)) := by
  obtain ⟨h1, h2, h3, h4⟩ := h
  have hl : ds.length = m + 1 := by omega
  have h3' := h3 (by omega)
  rw [show (2 * m + 1) / 2 = m by omega] at h3'
  have g := h2.getD D16_pos m
  refine ⟨by simp [hl]; omega, h2.set _ ⟨by omega, by unfold D16; omega⟩, fun e => by omega, ?_⟩
  rw [val_set _ _ _ _ (by omega), low_succ, h4, Int.pow_succ, pow256_2]
  generalize D16 ^ m = p at *
  grind

set_option maxHeartbeats 2000000 in
/-- the document's Read. -/
theorem rRead_any (ao : Option Addr) (n ca : Nat) (bs : List Int) (w : World) (h : NumIn .u8 256 w ao n ca bs) (hn : n ≤ 2000) :
    Calls Try.prog 96 #[.slice ao n ca] w fun e w' => ∃ v, e = .returned v ∧ NumOut .i64 D16 w w' v (val 256 bs.reverse) 1001 := by
  have hl := h.len
  go_enter Try.func96, Try.ntmps96
  go_wp2
  go_loopw [3, 4] (fun vo vi wr => ∃ (i : Nat) (ds : List Int), i ≤ n ∧ vi = .int .i64 i ∧ Own 3 .i64 wr w.heap.size vo ds ∧ RReads bs.reverse i ds ∧ Below w.heap.size w wr) (fun _ vi _ => n - (intOf vi).toNat)
  case atStart => exact ⟨0, [], Nat.zero_le _, rfl, Own.nil _ _ _ _, ⟨rfl, Dg.nil _, fun e => by omega, by simp [val, low_zero]⟩, Below.refl _ _⟩
  case round =>
    obtain ⟨i, ds, hi, rfl, hown, hs, hb⟩ := hrel
    by_cases hlt : i < n
    · have hx := h.lies.old hb
      obtain ⟨b, off, rfl, hblk, hcs⟩ := hx.at (by omega)
      have hcell := hcs (n - 1 - i) (by omega)
      have gx := h.dg.getD (by decide) (n - 1 - i)
      have er := getD_reverse bs i (by omega)
      rw [hl] at er
      have hlen := hs.1
      have hbs := hb.size
      obtain ⟨p, hp⟩ : ∃ p, n - 1 - i = p := ⟨_, rfl⟩
      rw [hp] at hcell gx er
      have hpn : p < n := by omega
      have hpe : n = p + 1 + i := by omega
      clear hp
      rw [← er] at gx hcell
      rcases (show i % 2 = 0 ∨ i % 2 = 1 by omega) with hpar | hpar
      · obtain ⟨m, rfl⟩ : ∃ m, i = 2 * m := ⟨i / 2, by omega⟩
        have HS : Hid (RReads bs.reverse (2 * m + 1) (ds ++ [bs.reverse.getD (2 * m) 0])) := hs.even gx
        have HLB : Hid (ds.length < 1073741824) := by unfold Hid; omega
        generalize bs.reverse.getD (2 * m) 0 = x at *
        obtain ⟨i, hie⟩ : ∃ i, 2 * m = i := ⟨_, rfl⟩
        rw [hie] at hlt hi hpe HS hlen ⊢
        have hev : (i : Int) % 2 = 0 := by omega
        have ek : (n : Int) - 1 - (i : Int) = (p : Int) := by omega
        clear hs hx hcs h hl er hpar hlen hie hpe
        go_wp2_with (at_builtin; refine wpList_append_one rfl _ _ 64 rfl 3 .i64 8 Try.underlying64 Try.infoI w.heap.size u3 ds x (by rfl) hown (by rfl) HLB.out (by decide) w hb hbs ?_)
        intro v' w' hown' hb'
        clear hown hb hbs
        go_wp2
        go_roundw
        case rel => exact ⟨i + 1, _, by omega, by go_num, hown', HS.out, hb'⟩
        case measure => simp [intOf] <;> omega
      · obtain ⟨m, rfl⟩ : ∃ m, i = 2 * m + 1 := ⟨i / 2, by omega⟩
        have HS : Hid (RReads bs.reverse (2 * m + 1 + 1) (ds.set m (ds.getD m 0 + 256 * bs.reverse.getD (2 * m + 1) 0))) := hs.odd gx
        obtain ⟨g, cap, hv, hg1, hg2, hg3, hg4, hcl, hfz, hset⟩ := hown.spot (by omega)
        have hm : m < ds.length := by omega
        have hcg := hcl m hm
        have hfr := hfz m
        have gd := hs.2.1.getD D16_pos m
        have gd0 := gd.1
        have gd1 : ds.getD m 0 < 65536 := gd.2
        have hbne : b < w.heap.size := by
          obtain ⟨b', off', e, hlt', _⟩ := h.lies.at (by omega)
          injection e with e
          injection e with e
          omega
        have hne : b ≠ g := by omega
        have HO : Hid (Own 3 .i64 (wr.setCell ⟨g, m, none⟩ (.int .i64 (ds.getD m 0 + 256 * bs.reverse.getD (2 * m + 1) 0))) w.heap.size (.slice (some ⟨g, 0, none⟩) ds.length cap) (ds.set m (ds.getD m 0 + 256 * bs.reverse.getD (2 * m + 1) 0))) := by have := hset m (ds.getD m 0 + 256 * bs.reverse.getD (2 * m + 1) 0) hm; rw [hv] at this; exact this
        have HB : Hid (Below w.heap.size w wr) := hb
        subst hv
        generalize bs.reverse.getD (2 * m + 1) 0 = x at *
        generalize ds.getD m 0 = y at *
        obtain ⟨i, hie⟩ : ∃ i, 2 * m + 1 = i := ⟨_, rfl⟩
        rw [hie] at hlt hi hpe HS hlen ⊢
        have hev : (i : Int) % 2 = 1 := by omega
        have ehalf : (i : Int) / 2 = (m : Int) := by omega
        have ek : (n : Int) - 1 - (i : Int) = (p : Int) := by omega
        have hmi : (m : Int) < (ds.length : Int) := by omega
        generalize ds.length = L at *
        clear hs hx hcs h hl er hpar hlen hie hpe hset hcl hfz hown hb gd
        go_wp2
        go_region
        all_goals
          go_wp2
          go_roundw
          case rel => exact ⟨i + 1, _, by omega, by go_num, HO.out, HS.out, (HB.out.setCell (by assumption) _).drew⟩
          case measure => simp [intOf] <;> omega
    · obtain rfl : i = n := by omega
      have hlen := hs.1
      obtain ⟨a2, c2, hv, hnum⟩ := hown.num hs.2.1 (by omega)
      have HV : Hid (val D16 ds = val 256 bs.reverse) := by
        unfold Hid
        have e : bs.reverse.length = i := by simp [hl]
        rw [hs.2.2.2, ← e, low_len]
      have HN : Hid (NumIn .i64 D16 wr a2 ds.length c2 ds) := hnum
      have HB : Hid (Below w.heap.size w wr) := hb
      have HL : Hid (ds.length ≤ 1001) := by unfold Hid; omega
      subst hv
      clear hown hs hnum hb h hlen
      go_wp2_with fail
      refine (rtrim_any a2 ds.length c2 ds wr HN.out).mono ?_
      rintro e w4 ⟨rfl, rfl⟩
      go_wp2
      go_ret
      exact ⟨_, rfl, HN.out.out HB.out _ HV.out _ HL.out⟩

end Go.Proofs.Ytcobbbamocdbbaa
/-
  The law EcdsaDigests.
-/
namespace Go.Proofs.Ytcobbbamocdbbaa
open Go.Shelf Go.RowKit
set_option linter.unusedVariables false
set_option linter.unusedSimpArgs false
theorem num_new (k : IntKind) (B : Int) (w : World) (xs : List Int) (t : TypeId) (hd : Dg B xs) (hs : xs.length ≤ 1000) : NumIn k B (w.alloc (.cells (xs.map (Value.int k)).toArray t)) (some ⟨w.heap.size, 0, none⟩) xs.length xs.length xs := by
  refine ⟨⟨rfl, .inr ⟨w.heap.size, 0, rfl, by rw [alloc_sz7]; omega, fun i hi => ?_⟩⟩, Nat.le_refl _, by unfold maxLen; omega, fun h => (by cases h), hd, by omega⟩
  rw [cell_of_row _ _ _ _ _ _ (heap_alloc_new w _)]
  simp [hi, List.getD_eq_getElem?_getD]
set_option maxRecDepth 100000 in
set_option maxHeartbeats 2000000 in
theorem EAwake_any (w : World) : Calls Try.prog 15 #[] w fun e w' => e = .returned (.bool true) ∧ Below w.heap.size w w' := by
  go_enter Try.func15, Try.ntmps15
  go_wp2_with fail
  refine (Curves_any w).mono ?_
  rintro e w2 ⟨v, xs, rfl, ho, hl, hb2⟩
  obtain ⟨g, cap, rfl, hcap, hcm, hall⟩ := cur_at ho hl
  obtain ⟨g1, g2, oo, lo, co, b0, b1, b2, b3, b4, b5, hA, hcu⟩ := hall 0 (by decide)
  have HA : Hid (CuAt w2 g 0 g1 g2 oo lo co b0 b1 b2 b3 b4 b5) := hA
  have HCU : Hid (Cu w2 (curV g1 g2 oo lo co b0 b1 b2 b3 b4 b5) (curZ 0) 1) := hcu
  have x0 : w2.cell? ⟨g, 0, none⟩ = _ := hA.c0
  have x1 : w2.cell? ⟨g, 1, none⟩ = _ := hA.c1
  have x2 : w2.cell? ⟨g, 2, none⟩ = _ := hA.c2
  have x3 : w2.cell? ⟨g, 3, none⟩ = _ := hA.c3
  have x4 : w2.cell? ⟨g, 4, none⟩ = _ := hA.c4
  have x5 : w2.cell? ⟨g, 5, none⟩ = _ := hA.c5
  have x6 : w2.cell? ⟨g, 6, none⟩ = _ := hA.c6
  have x7 : w2.cell? ⟨g, 7, none⟩ = _ := hA.c7
  have x8 : w2.cell? ⟨g, 8, none⟩ = _ := hA.c8
  clear hA hcu hall ho hl
  unfold maxLen at hcm
  have hn1 : NumIn .u8 256 (w2.alloc (.cells #[.int .u8 255, .int .u8 255] 5)) (some ⟨w2.heap.size, 0, none⟩) 2 2 [255, 255] := num_new .u8 256 w2 [255, 255] 5 (by intro x hx; simp at hx; omega) (by decide)
  have ba := (Below.refl w2.heap.size w2).alloc (Nat.le_refl _) (.cells #[.int .u8 255, .int .u8 255] 5)
  have HD := Digest_any _ _ 1 _ 2 2 [255, 255] _ (HCU.out.old ba) (by decide) hn1 (by decide)
  have hz : digZ (curZ 0).n 2 [255, 255] = 511 := by decide +kernel
  rw [hz] at HD
  clear HA HCU hz
  go_wp2_with fail
  clear x0 x1 x2 x3 x4 x5 x6 x7 x8
  go_at_call 44
  refine HD.mono ?_
  rintro e w3 ⟨v, rfl, p1, p2, p3, p4, rfl, hp, hcan, hv, _, hb3⟩
  have e1 := canon_inj B64_one hp.dg (show Dg B64 [511] by intro x hx; simp at hx; unfold B64; omega) hcan (show Canon [511] from rfl) (by rw [hv]; decide)
  subst e1
  have hpl := hp.len
  obtain rfl : 1 = p2 := hpl
  have hn2 : NumIn .u64 B64 (w3.alloc (.cells #[.int .u64 511] 34)) (some ⟨w3.heap.size, 0, none⟩) 1 1 [511] := num_new .u64 B64 w3 [511] 34 (by intro x hx; simp at hx; unfold B64; omega) (by decide)
  have bb := (Below.refl w3.heap.size w3).alloc (Nat.le_refl _) (.cells #[.int .u64 511] 34)
  have HS := Same_yes p1 _ 1 p3 1 [511] _ (hp.old bb).lies hn2.lies (by decide)
  clear HD
  go_wp2_with fail
  go_at_call 43
  refine HS.mono ?_
  rintro e w4 ⟨rfl, hdr⟩
  go_wp2
  go_ret
  have b3 := ((hb2.trans (ba.mono hb2.size)).trans (hb3.mono (Nat.le_trans hb2.size ba.size)))
  exact ⟨rfl, b3.trans ((bb.trans ((hdr.below _).mono bb.size)).mono b3.size)⟩
theorem big_len {ds : List Int} {V : Int} {n : Nat} (hd : Dg D16 ds) (hc : Canon ds) (hv : val D16 ds = V) (hV : V < 256 ^ n) (hn : n ≤ 512) : ds.length ≤ 256 := by
  have h := len_fit (B := D16) (by decide) hd hc (ys := List.replicate 256 65535) (fun x hx => by rw [(List.mem_replicate.1 hx).2]; decide) (by
    have h1 : val D16 (List.replicate 256 65535) = 256 ^ 512 - 1 := by decide +kernel
    have h2 := pow_mono (B := 256) (by decide) hn
    rw [h1, hv]
    omega)
  rw [List.length_replicate] at h
  exact h
end Go.Proofs.Ytcobbbamocdbbaa
