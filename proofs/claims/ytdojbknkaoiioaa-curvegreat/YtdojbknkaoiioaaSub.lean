/-
  Contracts of nat.Sub, Mul.
-/
import Derived.Test.YtdojbknkaoiioaaArith
import Derived.Deep.DrawnRows
namespace Go.Proofs.Ytdojbknkaoiioaa
open Go.RowKit
set_option linter.unusedVariables false
set_option linter.unusedSimpArgs false
attribute [local go_sem ↓] Go.wp_at_zero Go.wp_at_succ

/-- What stands in the row when i limbs have been taken away. -/
def Subs (xs ys : List Int) (m i : Nat) (cur : List Int) (c : Int) : Prop :=
  cur.length = m ∧ Dg B64 cur ∧ 0 ≤ c ∧ c ≤ 1 ∧ low B64 cur i - B64 ^ i * c = low B64 xs i - low B64 ys i
theorem Subs.zero (xs ys : List Int) (m : Nat) : Subs xs ys m 0 (List.replicate m 0) 0 :=
  ⟨by simp, Dg.zeros B64_pos _, by decide, by decide, by simp [low_zero]⟩
theorem Subs.step {xs ys : List Int} {m i : Nat} {cur : List Int} {c : Int} (h : Subs xs ys m i cur c) (hi : i < m) {ne c' : Int} (hn : 0 ≤ ne ∧ ne < B64) (hc : 0 ≤ c' ∧ c' ≤ 1)
    (he : ne - B64 * c' = xs.getD i 0 - ys.getD i 0 - c) : Subs xs ys m (i + 1) (cur.set i ne) c' := by
  obtain ⟨h1, h2, h3, h4, h5⟩ := h
  refine ⟨by simp [h1], h2.set _ hn, hc.1, hc.2, ?_⟩
  rw [low_set_succ _ _ _ _ (by omega), low_succ, low_succ, Int.pow_succ]
  generalize low B64 cur i = A at *
  generalize low B64 xs i = X at *
  generalize low B64 ys i = Y at *
  generalize B64 ^ i = p at *
  generalize B64 = b at *
  grind
theorem Subs.done {xs ys : List Int} {m : Nat} {cur : List Int} {c : Int} (h : Subs xs ys m m cur c) (hx : top xs ≤ m) (hy : top ys ≤ m) (hle : val B64 ys ≤ val B64 xs) : val B64 cur = val B64 xs - val B64 ys := by
  obtain ⟨h1, h2, h3, h4, h5⟩ := h
  rw [low_all _ _ _ hx, low_all _ _ _ hy] at h5
  have e : low B64 cur m = val B64 cur := by rw [← h1, low_len]
  rw [e] at h5
  have hlt := val_lt B64_pos h2
  rw [h1] at hlt
  have : c = 0 ∨ c = 1 := by omega
  rcases this with rfl | rfl
  · omega
  · rw [Int.mul_one] at h5; omega

set_option maxHeartbeats 2000000 in
/-- nat.Sub: where the difference is not below 0. -/
theorem Sub_yes (ao bo : Option Addr) (la ca lb cb : Nat) (xs ys : List Int) (w : World) (h : NumIn .u64 B64 w ao la ca xs) (h' : NumIn .u64 B64 w bo lb cb ys) (hle : val B64 ys ≤ val B64 xs) :
    Calls Try.prog 26 #[.slice ao la ca, .slice bo lb cb] w fun e w' => ∃ v, e = .returned (.tuple #[v, .bool true]) ∧ NumOut .u64 B64 w w' v (val B64 xs - val B64 ys) la := by
  have hl := h.len
  have hl' := h'.len
  have ht := top_le xs
  have ht' := top_le ys
  have hs := h.sm
  have hs' := h'.sm
  have hm2 : top ys ≤ top xs := top_mono B64_one h'.dg h.dg hle
  obtain ⟨c0, HC0, hc0⟩ : ∃ c0, (∀ w, NumIn .u64 B64 w ao la ca xs → NumIn .u64 B64 w bo lb cb ys → Calls Try.prog 22 #[.slice ao la ca, .slice bo lb cb] w fun e w' => e = .returned (.int .i64 c0) ∧ Drew w w') ∧ 0 ≤ c0 :=
    ⟨_, fun w a b => Cmp_any ao bo la ca lb cb xs ys w a b, by unfold cmpI; split <;> (try split) <;> omega⟩
  generalize hm : top xs = m at *
  go_enter Try.func26, Try.ntmps26
  go_wp2_with fail
  refine (HC0 _ h h').mono ?_
  rintro e w1 ⟨rfl, hd⟩
  have h1 := h.old (hd.below _)
  have h1' := h'.old (hd.below _)
  go_wp2_with fail
  have HLI := limbs_any ao la ca xs w1 h1.lies (by unfold maxLen; omega)
  rw [hm] at HLI
  refine HLI.mono ?_
  rintro e w2 ⟨rfl, rfl⟩
  have HM : Hid _ := hm
  clear HLI hm
  go_wp2_with (at_make; refine wpList_make_row _ rfl _ _ 27 rfl 34 .u64 8 Try.underlying27 Try.infoU _ _ _ _ m rfl rfl rfl rfl (by omega) (by unfold maxLen; omega) ?_)
  intro w3 hrow hbel
  go_wp2
  go_loopw [7, 18] (fun c i wr => ∃ (k : Nat) (cur : List Int) (cc : Int), k ≤ m ∧ i = .int .i64 k ∧ c = .int .u64 cc ∧ Row 34 .u64 wr w2.heap.size cur ∧ Subs xs ys m k cur cc ∧ Below w2.heap.size w2 wr) (fun _ i _ => m - (intOf i).toNat)
  case atStart => exact ⟨0, _, 0, Nat.zero_le _, rfl, rfl, hrow, Subs.zero xs ys m, hbel⟩
  case round =>
    obtain ⟨k, cur, cc, hk, rfl, rfl, hr, ha, hb⟩ := hrel
    by_cases hlt : k < m
    · have hx := h1.lies.old hb
      have hy := h1'.lies.old hb
      have HY := fun w hw => limb_any bo lb cb ys (k : Int) w hw (by unfold maxLen; omega) (by omega)
      rw [Int.toNat_natCast] at HY
      have gx := h.dg.getD B64_pos k
      have gy := h'.dg.getD B64_pos k
      obtain ⟨b, off, rfl, hblk, hc⟩ := hx.at (by omega)
      have hcell := hc k (by omega)
      have hfr := hr.frozen k
      have hcl := hr.cell k (by have := ha.1; omega)
      have hst := fun ne c' => ha.step (ne := ne) (c' := c') (by omega)
      have hcc0 := ha.2.2.1
      have hcc1 := ha.2.2.2.1
      generalize xs.getD k 0 = x at *
      generalize ys.getD k 0 = y at *
      obtain ⟨ne, ov, HC, e3, e4⟩ : ∃ ne ov, (∀ w, (callFunc 63 #[.int .u64 x, .int .u64 y, .int .u64 cc]).run Try.prog w = .ok (.value (.tuple #[.int .u64 ne, .int .u64 ov])) w) ∧ ne = (x - y - cc) % 18446744073709551616 ∧ ov = bor x (y + cc) :=
        ⟨_, _, sub64 x y cc gx.1 gy.1 gy.2 hcc0 hcc1, rfl, rfl⟩
      unfold B64 at gx gy
      unfold bor at e4
      have HS : Hid _ := hst ne ov (by unfold B64; omega) (by split at e4 <;> omega) (by unfold B64; split at e4 <;> omega)
      have HR : Hid _ := hr.set k ne
      have HB : Hid _ := hb.setCell (p := ⟨w2.heap.size, k, none⟩) (Nat.le_refl _) (.int .u64 ne)
      have HLY := hy
      have i0 : (0 : Int) ≤ (k : Int) := by omega
      have i1 : (k : Int) < (la : Int) := by omega
      have i2 : (k : Int) < (m : Int) := by omega
      clear hst e3 e4 ha hr hb hrow hbel h h' gx gy hm2 hx hy hc HC0 hle h1 h1' HM hd
      go_wp2
      go_region_with (first | (go_at_call 61; refine (HY wr.drew HLY).mono ?_; rintro e w2 ⟨rfl, rfl⟩) | simp only [HC])
      all_goals
        go_wp2
        go_roundw
        case rel => exact ⟨k + 1, _, _, by omega, by go_num, rfl, HR.out, HS.out, HB.out.drew⟩
        case measure => simp [intOf]; omega
    · obtain rfl : k = m := by omega
      have hv := ha.done (by rw [HM.out]; exact Nat.le_refl _) hm2 hle
      have hlen := ha.1
      have hr' := hr.num ha.2.1 (by omega)
      rw [hlen] at hr'
      have HV : Hid _ := hv
      have HR : Hid (NumIn _ _ _ _ _ _ _) := hr'
      have HB : Hid (Below w.heap.size w wr) := ((hd.below _).trans (hb.mono (by rw [hd.size]; exact Nat.le_refl _)))
      clear hv hr' ha hb hr hrow hbel hm2 HC0 hle h1 h1' hlen
      go_wp2_with fail
      refine (trim_any _ _ _ _ _ HR.out.lies HR.out.lc HR.out.cm HR.out.nn).mono ?_
      rintro e w4 ⟨rfl, rfl⟩
      go_wp2
      go_ret2
      exact ⟨_, rfl, HR.out.out HB.out _ HV.out _ (by omega)⟩

set_option maxHeartbeats 2000000 in
/-- nat.Sub: where it is below 0. -/
theorem Sub_no (ao bo : Option Addr) (la ca lb cb : Nat) (xs ys : List Int) (w : World) (h : NumIn .u64 B64 w ao la ca xs) (h' : NumIn .u64 B64 w bo lb cb ys) (hle : val B64 xs < val B64 ys) :
    Calls Try.prog 26 #[.slice ao la ca, .slice bo lb cb] w fun e w' => e = .returned (.tuple #[.slice none 0 0, .bool false]) ∧ Below w.heap.size w w' := by
  have HC0 := Cmp_any ao bo la ca lb cb xs ys w h h'
  rw [cmpI_lt hle] at HC0
  go_enter Try.func26, Try.ntmps26
  go_wp2_with fail
  refine HC0.mono ?_
  rintro e w1 ⟨rfl, hd⟩
  go_wp2
  go_ret2
  exact ⟨rfl, hd.below _⟩
end Go.Proofs.Ytdojbknkaoiioaa
