/-
  Contracts of the document's answer: a small number (Small), the quotient and what is left (Div).
-/
import Derived.Test.YtdojbknkaoiioaaRefA
namespace Go.Proofs.Ytdojbknkaoiioaa
open Go.RowKit
set_option linter.unusedVariables false
set_option linter.unusedSimpArgs false

/-- What Small has gathered, and what is left. -/
def Smls (n : Int) (ds : List Int) (x : Int) : Prop :=
  Dg D16 ds ∧ 0 ≤ x ∧ val D16 ds + D16 ^ ds.length * x = n ∧ ∀ j, ds.length = j + 1 → D16 ^ j ≤ n
theorem Smls.step {n : Int} {ds : List Int} {x : Int} (h : Smls n ds x) (hx : 0 < x) : Smls n (ds ++ [x % 65536]) (x / 65536) := by
  obtain ⟨h1, h2, h3, h4⟩ := h
  have hD : D16 = 65536 := rfl
  refine ⟨h1.append (Dg.cons (by rw [hD]; omega) (Dg.nil _)), by omega, ?_, fun j hj => ?_⟩
  · rw [val_snoc, List.length_append, List.length_cons, List.length_nil, Int.pow_succ, ← h3]
    have e : x = x % 65536 + 65536 * (x / 65536) := by omega
    generalize x % 65536 = r at *
    generalize x / 65536 = q at *
    rw [e]
    generalize D16 ^ ds.length = p at *
    rw [hD]
    grind
  · simp at hj
    rw [← hj, ← h3]
    have v0 := val_nonneg D16_pos h1
    have : D16 ^ ds.length * 1 ≤ D16 ^ ds.length * x := Int.mul_le_mul_of_nonneg_left (by omega) (by have : 0 < D16 ^ ds.length := Int.pow_pos D16_pos; omega)
    omega
theorem Smls.few {n : Int} {ds : List Int} {x : Int} (h : Smls n ds x) (hn : n < 9223372036854775808) : ds.length ≤ 4 := by
  cases hl : ds.length with
  | zero => omega
  | succ j =>
    have a := h.2.2.2 j hl
    by_cases hj : j < 4
    · omega
    · have b := pow_mono (B := D16) (by decide) (show 4 ≤ j by omega)
      rw [D16_4] at b
      unfold B64 at b
      omega
theorem Smls.done {n : Int} {ds : List Int} (h : Smls n ds 0) : val D16 ds = n ∧ Canon ds := by
  obtain ⟨h1, h2, h3, h4⟩ := h
  have hv : val D16 ds = n := by simpa using h3
  refine ⟨hv, ?_⟩
  cases hl : ds.length with
  | zero => rw [List.eq_nil_of_length_eq_zero hl]; exact Canon.nil
  | succ j => exact canon_of_ge D16_one h1 j hl (by rw [hv]; exact h4 j hl)

set_option maxHeartbeats 1000000 in
/-- the document's Small. -/
theorem rSmall_any (n : Int) (w : World) (h0 : 0 ≤ n) (h1 : n < 9223372036854775808) :
    Calls Try.prog 44 #[.int .i64 n] w fun e w' => ∃ v, e = .returned v ∧ NumOut .i64 D16 w w' v n 4 := by
  go_enter Try.func44, Try.ntmps44
  go_wp2
  go_loopw [0, 3] (fun vx vo wr => ∃ (x : Int) (ds : List Int), vx = .int .i64 x ∧ x ≤ n ∧ Own 3 .i64 wr w.heap.size vo ds ∧ Smls n ds x ∧ Below w.heap.size w wr) (fun vx _ _ => (intOf vx).toNat)
  case atStart => exact ⟨n, [], rfl, Int.le_refl _, Own.nil _ _ _ _, ⟨Dg.nil _, h0, by simp [val], fun j h => by simp at h⟩, Below.refl _ _⟩
  case round =>
    obtain ⟨x, ds, rfl, hxn, hown, hs, hb⟩ := hrel
    have hx0 := hs.2.1
    have hfew := hs.few h1
    by_cases hx : 0 < x
    · have HS : Hid (Smls n (ds ++ [x % 65536]) (x / 65536)) := hs.step hx
      have HLB : Hid (ds.length < 1073741824) := by unfold Hid; omega
      have hbs := hb.size
      clear hs hfew
      go_wp2_with (at_builtin; refine wpList_append_one rfl _ _ 66 rfl 3 .i64 8 Try.underlying66 Try.infoI w.heap.size u3 ds (x % 65536) (by rfl) hown (by rfl) HLB.out (by decide) w hb hbs ?_)
      intro v' w' hown' hb'
      clear hown hb hbs
      go_wp2
      go_roundw
      case rel => exact ⟨x / 65536, _, rfl, by omega, hown', HS.out, hb'⟩
      case measure => simp [intOf] <;> omega
    · obtain rfl : x = 0 := by omega
      obtain ⟨a2, c2, hv, hnum⟩ := hown.num hs.1 (by omega)
      have HF : Hid (NumOut .i64 D16 w wr (.slice a2 ds.length c2) n 4) := ⟨_, _, _, _, rfl, hnum, hs.done.2, hs.done.1, hfew, hb⟩
      subst hv
      clear hown hs hnum hb hfew
      go_wp2
      go_ret
      exact ⟨_, rfl, HF.out⟩

theorem low_le {B : Int} (hB : 0 < B) (xs : List Int) (hd : Dg B xs) (i : Nat) : low B xs i ≤ val B xs := by
  have h := val_append B (xs.take i) (xs.drop i)
  rw [List.take_append_drop] at h
  have a := val_nonneg hB (hd.drop i)
  have hp : 0 < B ^ (xs.take i).length := Int.pow_pos hB
  have b := Int.mul_nonneg (Int.le_of_lt hp) a
  unfold low
  omega
/-- As often as the first digit surely allows. -/
theorem times_ok (rs ys : List Int) (hr : Dg D16 rs) (hy : Dg D16 ys) (m : Nat) (hm : ys.length = m + 1) (s : Int) (hs0 : 0 ≤ s) (hs : s * (ys.getD m 0 + 1) ≤ rs.getD m 0 + 65536 * rs.getD (m + 1) 0) : s * val D16 ys ≤ val D16 rs := by
  have hD : D16 = 65536 := rfl
  have hp : 0 < D16 ^ m := Int.pow_pos D16_pos
  have e1 : val D16 ys = low D16 ys m + D16 ^ m * ys.getD m 0 := by rw [← low_succ, ← hm, low_len]
  have l1 : low D16 ys m < D16 ^ m := by
    have a := val_lt D16_pos (hy.take m)
    have b : (ys.take m).length = m := by simp; omega
    rw [b] at a; exact a
  have e2 : low D16 rs (m + 1 + 1) = low D16 rs m + D16 ^ m * (rs.getD m 0 + 65536 * rs.getD (m + 1) 0) := by
    rw [low_succ, low_succ, Int.pow_succ]
    generalize D16 ^ m = p at *
    rw [hD]
    grind
  have l2 := low_le D16_pos rs hr (m + 1 + 1)
  have l3 : 0 ≤ low D16 rs m := val_nonneg D16_pos (hr.take m)
  have m1 : s * val D16 ys ≤ s * (D16 ^ m * (ys.getD m 0 + 1)) := by
    refine Int.mul_le_mul_of_nonneg_left ?_ hs0
    rw [e1, Int.mul_add]
    omega
  have m2 : D16 ^ m * (s * (ys.getD m 0 + 1)) ≤ D16 ^ m * (rs.getD m 0 + 65536 * rs.getD (m + 1) 0) := Int.mul_le_mul_of_nonneg_left hs (by omega)
  have e3 : s * (D16 ^ m * (ys.getD m 0 + 1)) = D16 ^ m * (s * (ys.getD m 0 + 1)) := by grind
  omega
theorem set_zero (q : List Int) (i : Nat) (h : q.getD i 0 = 0) : q.set i 0 = q := by
  apply List.ext_getElem
  · simp
  · intro j h1 h2
    rw [List.getElem_set]
    split
    · rename_i e
      subst e
      simp only [List.getD] at h
      rw [List.getElem?_eq_getElem (by simpa using h1)] at h
      simpa using h.symm
    · rfl
/-- What Div has, digits from kk on gone over. -/
def RDivs (xs ys : List Int) (kk : Nat) (q : List Int) (R : Int) : Prop :=
  q.length = xs.length ∧ Dg D16 q ∧ (∀ j, j < kk → q.getD j 0 = 0) ∧ 0 ≤ R ∧ R < val D16 ys ∧ val D16 (xs.drop kk) = val D16 (q.drop kk) * val D16 ys + R
/-- Within the round of digit i. -/
def RDivIn (xs ys : List Int) (i : Nat) (T : Int) (q0 q : List Int) (t R : Int) : Prop :=
  q = q0.set i t ∧ 0 ≤ t ∧ t < 65536 ∧ 0 ≤ R ∧ t * val D16 ys + R = T
theorem rdrop_cons (xs : List Int) (i : Nat) (h : i < xs.length) : xs.drop i = xs.getD i 0 :: xs.drop (i + 1) := by
  rw [List.drop_eq_getElem_cons h]
  simp [List.getD, List.getElem?_eq_getElem h]
theorem RDivs.enter {xs ys : List Int} {i : Nat} {q : List Int} {R : Int} (h : RDivs xs ys (i + 1) q R) (hx : Dg D16 xs) : RDivIn xs ys i (xs.getD i 0 + D16 * R) q q 0 (xs.getD i 0 + D16 * R) := by
  obtain ⟨h1, h2, h3, h4, h5, h6⟩ := h
  have g := hx.getD D16_pos i
  refine ⟨(set_zero q i (h3 i (by omega))).symm, by omega, by omega, ?_, by omega⟩
  have : 0 ≤ D16 * R := Int.mul_nonneg (by decide) h4
  omega
theorem RDivs.top {xs ys : List Int} {i : Nat} {q : List Int} {R : Int} (h : RDivs xs ys (i + 1) q R) (hx : Dg D16 xs) : xs.getD i 0 + D16 * R < D16 * val D16 ys := by
  obtain ⟨h1, h2, h3, h4, h5, h6⟩ := h
  have g := hx.getD D16_pos i
  have : D16 * (R + 1) ≤ D16 * val D16 ys := Int.mul_le_mul_of_nonneg_left (by omega) (by decide)
  rw [Int.mul_add] at this
  omega
theorem RDivIn.step {xs ys : List Int} {i : Nat} {T : Int} {q0 q : List Int} {t R s : Int} (h : RDivIn xs ys i T q0 q t R) (hT : T < D16 * val D16 ys) (hY : 0 < val D16 ys) (hs : 1 ≤ s) (hsR : s * val D16 ys ≤ R) : RDivIn xs ys i T q0 (q.set i (t + s)) (t + s) (R - s * val D16 ys) := by
  obtain ⟨h1, h2, h3, h4, h5⟩ := h
  refine ⟨by rw [h1]; simp, by omega, ?_, by omega, by rw [Int.add_mul]; omega⟩
  by_cases e : t + s < 65536
  · exact e
  · exfalso
    have : D16 * val D16 ys ≤ (t + s) * val D16 ys := Int.mul_le_mul_of_nonneg_right (by unfold D16; omega) (by omega)
    rw [Int.add_mul] at this
    omega
theorem RDivIn.leave {xs ys : List Int} {i : Nat} {T : Int} {q0 q : List Int} {t R R0 : Int} (h : RDivIn xs ys i T q0 q t R) (hd : RDivs xs ys (i + 1) q0 R0) (hi : i < xs.length) (hT : T = xs.getD i 0 + D16 * R0) (hR : R < val D16 ys) : RDivs xs ys i q R := by
  obtain ⟨h1, h2, h3, h4, h5⟩ := h
  obtain ⟨d1, d2, d3, d4, d5, d6⟩ := hd
  subst h1
  refine ⟨by simp [d1], d2.set _ ⟨h2, by unfold D16; omega⟩, fun j hj => ?_, h4, hR, ?_⟩
  · rw [getD_set _ _ _ _ (by omega), if_neg (by omega)]
    exact d3 j (by omega)
  · rw [rdrop_cons xs i hi, rdrop_cons (q0.set i t) i (by simp; omega), val_cons, val_cons, getD_set _ _ _ _ (by omega), if_pos rfl, d6]
    have e : (q0.set i t).drop (i + 1) = q0.drop (i + 1) := by rw [List.drop_set_of_lt (by omega)]
    rw [e]
    rw [hT] at h5
    grind
theorem RDivs.done {xs ys : List Int} {q : List Int} {R : Int} (h : RDivs xs ys 0 q R) : val D16 q = val D16 xs / val D16 ys ∧ R = val D16 xs % val D16 ys := by
  obtain ⟨h1, h2, h3, h4, h5, h6⟩ := h
  simp only [List.drop_zero] at h6
  rw [h6]
  constructor
  · rw [Int.add_comm, Int.add_mul_ediv_right _ _ (by omega), Int.ediv_eq_zero_of_lt h4 h5]; omega
  · rw [Int.add_comm, Int.add_mul_emod_self_right, Int.emod_eq_of_lt h4 h5]
/-- The number that a cell holds. -/
def cellNat (w : World) (a : Addr) : Nat := (intOf ((w.cell? a).getD undef)).toNat
theorem cellNat_row {e : TypeId} {w : World} {g : Nat} {xs : List Int} (h : Row e .i64 w g xs) (j : Nat) (hj : j < xs.length) : cellNat w ⟨g, j, none⟩ = (xs.getD j 0).toNat := by
  unfold cellNat
  rw [h.cell j hj]
  rfl
theorem NumIn.kept {k : IntKind} {B : Int} {w w' : World} {ao : Option Addr} {len cap : Nat} {xs : List Int} (h : NumIn k B w ao len cap xs) {row : Option Nat} (hg : w.grownBy w' row) (hne : ∀ b off s, ao = some ⟨b, off, s⟩ → some b ≠ row) : NumIn k B w' ao len cap xs :=
  ⟨h.lies.kept hg hne, h.lc, h.cm, h.nn, h.dg, h.sm⟩
/-- What is left, as it lies: apart from the quotient's row. -/
def Rem (w : World) (g : Nat) (v : Value) (R : Int) (L : Nat) : Prop :=
  ∃ ao len cap rs, v = .slice ao len cap ∧ NumIn .i64 D16 w ao len cap rs ∧ Canon rs ∧ val D16 rs = R ∧ len ≤ L ∧ ∀ b off s, ao = some ⟨b, off, s⟩ → g < b
theorem Rem.old {w w' : World} {g : Nat} {v : Value} {R : Int} {L : Nat} (h : Rem w g v R L) (hb : Below w.heap.size w w') : Rem w' g v R L := by
  obtain ⟨ao, len, cap, rs, e1, e2, e3, e4, e5, e6⟩ := h
  exact ⟨ao, len, cap, rs, e1, e2.old hb, e3, e4, e5, e6⟩
theorem Rem.len {w : World} {g : Nat} {v : Value} {R : Int} {L : Nat} {ys : List Int} (h : Rem w g v R L) (hy : Dg D16 ys) (hR : R < val D16 ys) : Rem w g v R ys.length := by
  obtain ⟨ao, len, cap, rs, e1, e2, e3, e4, e5, e6⟩ := h
  refine ⟨ao, len, cap, rs, e1, e2, e3, e4, ?_, e6⟩
  have := top_mono D16_one e2.dg hy (by omega)
  have := top_le ys
  have := e2.len
  unfold Canon at e3
  omega
end Go.Proofs.Ytdojbknkaoiioaa
