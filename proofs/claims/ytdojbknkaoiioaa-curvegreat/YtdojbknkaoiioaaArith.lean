/-
  Contracts of nat.Norm, Of, Add, Sub, Mul.
-/
import Derived.Test.YtdojbknkaoiioaaOwn
import Derived.Deep.RegionWith
import Derived.Deep.RegionHeld3
namespace Go.Proofs.Ytdojbknkaoiioaa
open Go.RowKit
set_option linter.unusedVariables false
set_option linter.unusedSimpArgs false

theorem ret_val {a b : Value} (h : a = b) : Ending.returned a = .returned b := by rw [h]

theorem add_none (b off j : Nat) : (⟨b, off, none⟩ : Addr).add j = ⟨b, off + j, none⟩ := by
  simp only [Addr.add]
  split
  · subst j; rfl
  · rfl

/-- copy into the head of a row of own memory. -/
theorem wpList_copy_row {P : Program} {w : World} {ops : Array Oper} {rest : List Oper} {o : Oper} {a : Act} {Q : Exit → Act → World → Prop} (hgd : o.guard = none) (d s : Operand) (dT sT : TypeId)
    (ho : o.op = .call { callee := .builtin .copy, args := #[d, s], argTypes := #[dT, sT] }) (e : TypeId) (hu : P.underlying dT = some (.slice e)) (k : IntKind) (bytes : Nat)
    (h2 : (P.info? e).map (fun i => (i.zero, i.size, i.bytes)) = some (some (.int k 0), 1, bytes)) (g : Nat) (ao : Option Addr) (dl dc sl sc : Nat)
    (hd : a.eval d = .slice (some ⟨g, 0, none⟩) dl dc) (hs : a.eval s = .slice ao sl sc) (xs ys : List Int) (hr : Row e k w g xs) (hy : Lies k w ao sl ys) (hdl : dl ≤ xs.length) (n : Nat) (hn : n = min sl dl)
    (B : Nat) (w0 : World) (hb : Below B w0 w) (hB : B ≤ g)
    (h : ∀ w', Row e k w' g (ys.take n ++ xs.drop n) → Below B w0 w' → wpList P ops Q rest (a.put o.dst (goInt n)) w') : wpList P ops Q (o :: rest) a w := by
  have hl := hy.len
  have hsz : (P.info? e).map (·.size) = some 1 := by
    obtain ⟨i, hi, _, hz, _⟩ := info_parts h2
    rw [hi]; simp [hz]
  have hcl : ((ys.take n).map (Value.int k)).length = n := by simp; omega
  refine wpList_copy_splice hgd d s dT sT ho e hu hsz _ ao dl dc sl sc hd hs g 0 (xs.map (Value.int k)) e hr ((ys.take n).map (Value.int k)) (by rw [hcl]; exact hn) ?_ (by rw [hcl]; simp; omega) (ints_oneCell _ _) B w0 hb hB ?_
  · intro h0
    rw [hcl] at h0
    obtain ⟨b, off, rfl, hlt, hc⟩ := hy.at (by omega)
    refine ⟨rfl, _, rfl, fun j v hj => ?_⟩
    simp only [List.getElem?_map, List.getElem?_take] at hj
    split at hj
    · have := hc j (by omega)
      rw [List.getElem?_eq_getElem (by omega)] at hj
      simp only [Option.map_some, Option.some.injEq] at hj
      rw [add_none, this, ← hj]
      simp [List.getD, List.getElem?_eq_getElem (show j < ys.length by omega)]
    · simp at hj
  · intro w' hg hb'
    rw [hcl]
    refine h w' ?_ hb'
    unfold Row
    rw [hg.out]
    congr 2
    simp only [splice, List.take_zero, List.nil_append, Nat.zero_add, hcl]
    simp

set_option maxHeartbeats 1000000 in
/-- nat.Norm. -/
theorem Norm_any (ao : Option Addr) (len cap : Nat) (xs : List Int) (w : World) (h : NumIn .u64 B64 w ao len cap xs) :
    Calls Try.prog 73 #[.slice ao len cap] w fun e w' => ∃ v, e = .returned v ∧ NumOut .u64 B64 w w' v (val B64 xs) len := by
  have hl := h.len
  have ht := top_le xs
  have hs := h.sm
  go_enter Try.func73, Try.ntmps73
  go_wp2_with fail
  refine (limbs_any ao len cap xs w h.lies (by unfold maxLen; omega)).mono ?_
  rintro e w' ⟨rfl, rfl⟩
  go_wp2_with (at_make; refine wpList_make_row _ rfl _ _ 27 rfl 34 .u64 8 Try.underlying27 Try.infoU _ _ _ _ (top xs) rfl rfl rfl rfl (by omega) (by unfold maxLen; omega) ?_)
  intro w1 hrow hbel
  have hl1 := h.lies.old hbel
  go_wp2_with (refine wpList_copy_row rfl _ _ 27 27 rfl 34 Try.underlying27 .u64 8 Try.infoU w'.heap.size ao _ _ _ _ rfl rfl _ xs hrow hl1 (by simp) (top xs) (by omega) w'.heap.size w' hbel (Nat.le_refl _) ?_)
  intro w2 hr2 hb2
  go_wp2
  go_ret
  refine ⟨_, rfl, ?_⟩
  have hn := hr2.num (h.dg.take (top xs)) (by simp; omega)
  have e1 : (xs.take (top xs)).length = top xs := by simp; omega
  rw [e1] at hn
  exact ⟨_, _, _, _, rfl, hn, canon_take_top xs, val_take_top _ _, by omega, hb2⟩

/-! ### The number that the lowest digits say -/
def low (B : Int) (xs : List Int) (i : Nat) : Int := val B (xs.take i)
theorem low_zero (B : Int) (xs : List Int) : low B xs 0 = 0 := by simp [low, val]
theorem low_succ (B : Int) (xs : List Int) (i : Nat) : low B xs (i + 1) = low B xs i + B ^ i * xs.getD i 0 := by
  unfold low
  by_cases h : i < xs.length
  · rw [take_succ_getD xs i h, val_append]
    have : (xs.take i).length = i := by simp; omega
    rw [this]; simp [val]
  · rw [List.take_of_length_le (by omega), List.take_of_length_le (by omega)]
    have : xs.getD i 0 = 0 := by simp [List.getD, List.getElem?_eq_none (show xs.length ≤ i by omega)]
    rw [this]; simp
theorem low_all (B : Int) (xs : List Int) (m : Nat) (h : top xs ≤ m) : low B xs m = val B xs := by
  unfold low
  rw [← val_take_top B xs]
  have e : xs.take m = xs.take (top xs) ++ (xs.drop (top xs)).take (m - top xs) := by
    conv => lhs; rw [show m = top xs + (m - top xs) by omega]
    rw [List.take_add]
  rw [e, val_append, val_zeros B ((xs.drop (top xs)).take (m - top xs)) ?_]
  · simp
  · intro j
    have := top_above xs (top xs + j) (by omega)
    simp only [List.getD, List.getElem?_take, List.getElem?_drop] at this ⊢
    split
    · exact this
    · rfl
theorem low_len (B : Int) (xs : List Int) : low B xs xs.length = val B xs := by unfold low; rw [List.take_of_length_le (Nat.le_refl _)]
theorem low_set (B : Int) (xs : List Int) (i j : Nat) (y : Int) (h : i ≤ j) : low B (xs.set j y) i = low B xs i := by
  unfold low
  rw [List.take_set_of_le h]
theorem low_set_succ (B : Int) (xs : List Int) (i : Nat) (y : Int) (h : i < xs.length) : low B (xs.set i y) (i + 1) = low B xs i + B ^ i * y := by
  rw [low_succ, low_set B xs i i y (Nat.le_refl _), getD_set _ _ _ _ h, if_pos rfl]

theorem row_alloc (w : World) (e : TypeId) (k : IntKind) (n : Int) : Row e k (w.alloc (.cells #[.int k n] e)) w.heap.size [n] := by
  unfold Row
  rw [heap_alloc_new w]; rfl

set_option maxHeartbeats 400000 in
/-- nat.Of. -/
theorem Of_any (n : Int) (w : World) (h0 : 0 ≤ n) (h1 : n < 18446744073709551616) :
    Calls Try.prog 12 #[.int .u64 n] w fun e w' => ∃ v, e = .returned v ∧ NumOut .u64 B64 w w' v n 1 := by
  have hr := (row_alloc w 34 .u64 n).num (B := B64) (Dg.cons ⟨h0, h1⟩ (Dg.nil _)) (by simp)
  have hb : Below w.heap.size w (w.alloc (.cells #[.int .u64 n] 34)) := (Below.refl _ _).alloc (Nat.le_refl _) _
  have HB : Hid _ := hb
  clear hb
  go_enter Try.func12, Try.ntmps12
  go_wp2_with fail
  refine (trim_any _ _ _ [n] _ hr.lies hr.lc hr.cm hr.nn).mono ?_
  rintro e w' ⟨rfl, rfl⟩
  go_wp2
  go_ret
  exact ⟨_, rfl, hr.out HB.out n (by simp [val]) 1 (Nat.le_refl _)⟩

/-- What stands in the row when i limbs have been added. -/
def Adds (xs ys : List Int) (m i : Nat) (cur : List Int) (c : Int) : Prop :=
  cur.length = m + 1 ∧ Dg B64 cur ∧ 0 ≤ c ∧ c ≤ 1 ∧ low B64 cur i + B64 ^ i * c = low B64 xs i + low B64 ys i
theorem Adds.zero (xs ys : List Int) (m : Nat) : Adds xs ys m 0 (List.replicate (m + 1) 0) 0 :=
  ⟨by simp, Dg.zeros B64_pos _, by decide, by decide, by simp [low_zero]⟩
theorem Adds.step {xs ys : List Int} {m i : Nat} {cur : List Int} {c : Int} (h : Adds xs ys m i cur c) (hi : i < m + 1) {ne c' : Int} (hn : 0 ≤ ne ∧ ne < B64) (hc : 0 ≤ c' ∧ c' ≤ 1)
    (he : ne + B64 * c' = xs.getD i 0 + ys.getD i 0 + c) : Adds xs ys m (i + 1) (cur.set i ne) c' := by
  obtain ⟨h1, h2, h3, h4, h5⟩ := h
  refine ⟨by simp [h1], h2.set _ hn, hc.1, hc.2, ?_⟩
  rw [low_set_succ _ _ _ _ (by omega), low_succ, low_succ, Int.pow_succ]
  generalize low B64 cur i = A at *
  generalize low B64 xs i = X at *
  generalize low B64 ys i = Y at *
  generalize B64 ^ i = p at *
  generalize B64 = b at *
  grind
theorem Adds.done {xs ys : List Int} {m : Nat} {cur : List Int} {c : Int} (h : Adds xs ys m m cur c) (hx : top xs ≤ m) (hy : top ys ≤ m) : Dg B64 (cur.set m c) ∧ (cur.set m c).length = m + 1 ∧ val B64 (cur.set m c) = val B64 xs + val B64 ys := by
  obtain ⟨h1, h2, h3, h4, h5⟩ := h
  refine ⟨h2.set _ ⟨h3, by unfold B64; omega⟩, by simp [h1], ?_⟩
  have : (cur.set m c).length = m + 1 := by simp [h1]
  rw [← low_len, this, low_set_succ _ _ _ _ (by omega), h5, low_all _ _ _ hx, low_all _ _ _ hy]

set_option maxHeartbeats 1000000 in
/-- nat.Add. -/
theorem Add_any (ao bo : Option Addr) (la ca lb cb : Nat) (xs ys : List Int) (w : World) (h : NumIn .u64 B64 w ao la ca xs) (h' : NumIn .u64 B64 w bo lb cb ys) (hsum : la + lb < 1073741824) :
    Calls Try.prog 24 #[.slice ao la ca, .slice bo lb cb] w fun e w' => ∃ v, e = .returned v ∧ NumOut .u64 B64 w w' v (val B64 xs + val B64 ys) (max la lb + 1) := by
  have hl := h.len
  have hl' := h'.len
  have ht := top_le xs
  have ht' := top_le ys
  obtain ⟨m, hm, hm1, hm2⟩ : ∃ m : Nat, max (top xs : Int) (top ys : Int) = (m : Int) ∧ m ≤ max la lb ∧ (top xs ≤ m ∧ top ys ≤ m) := ⟨max (top xs) (top ys), by omega, by omega, by omega, by omega⟩
  have hmb : m < 1073741824 := by omega
  go_enter Try.func24, Try.ntmps24
  go_wp2_with fail
  refine (limbs_any ao la ca xs w h.lies (by unfold maxLen; omega)).mono ?_
  rintro e w' ⟨rfl, rfl⟩
  go_wp2_with fail
  refine (limbs_any bo lb cb ys _ h'.lies (by unfold maxLen; omega)).mono ?_
  rintro e w' ⟨rfl, rfl⟩
  go_wp2_with (at_make; refine wpList_make_row _ rfl _ _ 27 rfl 34 .u64 8 Try.underlying27 Try.infoU _ _ _ _ (m + 1) rfl rfl (by omega) (by omega) (by omega) (by unfold maxLen; omega) ?_)
  intro w1 hrow hbel
  go_wp2
  go_loopw [7, 18] (fun c i wr => ∃ (k : Nat) (cur : List Int) (cc : Int), k ≤ m ∧ i = .int .i64 k ∧ c = .int .u64 cc ∧ Row 34 .u64 wr w'.heap.size cur ∧ Adds xs ys m k cur cc ∧ Below w'.heap.size w' wr) (fun _ i _ => m - (intOf i).toNat)
  case atStart => exact ⟨0, _, 0, Nat.zero_le _, rfl, rfl, hrow, Adds.zero xs ys m, hbel⟩
  case round =>
    obtain ⟨k, cur, cc, hk, rfl, rfl, hr, ha, hb⟩ := hrel
    by_cases hlt : k < m
    · have hx := h.lies.old hb
      have hy := h'.lies.old hb
      have HX := fun w hw => limb_any ao la ca xs (k : Int) w hw (by unfold maxLen; omega) (by omega)
      have HY := fun w hw => limb_any bo lb cb ys (k : Int) w hw (by unfold maxLen; omega) (by omega)
      rw [Int.toNat_natCast] at HX HY
      have gx := h.dg.getD B64_pos k
      have gy := h'.dg.getD B64_pos k
      have hfr := hr.frozen k
      have hcl := hr.cell k (by have := ha.1; omega)
      have hst := fun ne c' => ha.step (ne := ne) (c' := c') (by omega)
      have hc0 := ha.2.2.1
      have hc1 := ha.2.2.2.1
      generalize xs.getD k 0 = x at *
      generalize ys.getD k 0 = y at *
      obtain ⟨ne, ov, HC, e3, e4⟩ : ∃ ne ov, (∀ w, (callFunc 60 #[.int .u64 x, .int .u64 y, .int .u64 cc]).run Try.prog w = .ok (.value (.tuple #[.int .u64 ne, .int .u64 ov])) w) ∧ ne = (x + y + cc) % 18446744073709551616 ∧ ov = (x + y + cc) / 18446744073709551616 :=
        ⟨_, _, add64 x y cc gx.1 gy.1 hc0 hc1, rfl, rfl⟩
      unfold B64 at gx gy
      have HS : Hid _ := hst ne ov (by unfold B64; omega) (by omega) (by unfold B64; omega)
      have HR : Hid _ := hr.set k ne
      have HB : Hid _ := hb.setCell (p := ⟨w'.heap.size, k, none⟩) (Nat.le_refl _) (.int .u64 ne)
      have HLX := hx
      have HLY := hy
      clear hst e3 e4 ha hr hb hrow hbel h h' gx gy hm hm1 hm2 hx hy
      go_wp2_with fail
      refine (HX _ HLX).mono ?_
      rintro e w2 ⟨rfl, rfl⟩
      go_wp2_with fail
      refine (HY _ HLY).mono ?_
      rintro e w3 ⟨rfl, rfl⟩
      go_wp2_with (simp only [HC])
      go_roundw
      case rel => exact ⟨k + 1, _, _, by omega, by go_num, rfl, HR.out, HS.out, HB.out⟩
      case measure => simp [intOf]; omega
    · obtain rfl : k = m := by omega
      have hd := ha.done hm2.1 hm2.2
      have hfr := hr.frozen k
      have hcl := hr.cell k (by have := ha.1; omega)
      have hr' := (hr.set k cc).num hd.1 (by omega)
      have hb' := hb.setCell (p := ⟨w'.heap.size, k, none⟩) (Nat.le_refl _) (.int .u64 cc)
      rw [hd.2.1] at hr'
      have HV : Hid _ := hd.2.2
      have HR : Hid (NumIn _ _ _ _ _ _ _) := hr'
      have HB : Hid (Below _ _ _) := hb'
      clear hd hr' hb' ha hb hr hrow hbel hm hm2
      go_wp2_with fail
      refine (trim_any _ _ _ _ _ HR.out.lies HR.out.lc HR.out.cm HR.out.nn).mono ?_
      rintro e w4 ⟨rfl, rfl⟩
      go_wp2
      go_ret
      exact ⟨_, rfl, HR.out.out HB.out _ HV.out _ (by omega)⟩
end Go.Proofs.Ytdojbknkaoiioaa
