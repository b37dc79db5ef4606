/-
  Numbers handed in and answered; make; contracts of nat.Norm, Of, Len, Cmp.
-/
import Derived.Test.YtdojbknkaoiioaaTimes
import Derived.Laws.CopyOwn
import Derived.BigQuiet
import Derived.Deep.QuietTactic
namespace Go.Proofs.Ytdojbknkaoiioaa
open Go.RowKit
set_option linter.unusedVariables false
set_option linter.unusedSimpArgs false

/-- A number that a slice says. -/
structure NumIn (k : IntKind) (B : Int) (w : World) (ao : Option Addr) (len cap : Nat) (xs : List Int) : Prop where
  lies : Lies k w ao len xs
  lc : len ≤ cap
  cm : cap ≤ maxLen
  nn : ao = none → cap = 0
  dg : Dg B xs
  sm : len ≤ 1073741824

/-- An answer: a number without zeros above, of at most L digits; old memory is as it was. -/
def NumOut (k : IntKind) (B : Int) (w w' : World) (v : Value) (n : Int) (L : Nat) : Prop :=
  ∃ ao len cap xs, v = .slice ao len cap ∧ NumIn k B w' ao len cap xs ∧ Canon xs ∧ val B xs = n ∧ len ≤ L ∧ Below w.heap.size w w'

theorem NumIn.old {k : IntKind} {B : Int} {w w' : World} {ao : Option Addr} {len cap : Nat} {xs : List Int} (h : NumIn k B w ao len cap xs) (hb : Below w.heap.size w w') : NumIn k B w' ao len cap xs :=
  ⟨h.lies.old hb, h.lc, h.cm, h.nn, h.dg, h.sm⟩
theorem NumIn.len {k : IntKind} {B : Int} {w : World} {ao : Option Addr} {len cap : Nat} {xs : List Int} (h : NumIn k B w ao len cap xs) : xs.length = len := h.lies.len
theorem NumIn.take {k : IntKind} {B : Int} {w : World} {ao : Option Addr} {len cap : Nat} {xs : List Int} (h : NumIn k B w ao len cap xs) (n : Nat) (hn : n ≤ len) : NumIn k B w ao n cap (xs.take n) :=
  ⟨h.lies.take n hn, by have := h.lc; omega, h.cm, h.nn, h.dg.take n, by have := h.sm; omega⟩
theorem NumIn.nil {k : IntKind} {B : Int} {w : World} : NumIn k B w none 0 0 [] := ⟨Lies.empty _ _ _, Nat.le_refl _, by simp [maxLen], fun _ => rfl, Dg.nil _, by omega⟩
/-- A row of own memory as a number. -/
theorem Row.num {e : TypeId} {k : IntKind} {B : Int} {w : World} {g : Nat} {xs : List Int} (h : Row e k w g xs) (hd : Dg B xs) (hs : xs.length ≤ 1073741824) : NumIn k B w (some ⟨g, 0, none⟩) xs.length xs.length xs := by
  refine ⟨?_, Nat.le_refl _, by unfold maxLen; omega, fun h => (by cases h), hd, hs⟩
  have := h.lies 0 xs.length (by omega)
  simpa using this
/-- An answer that is the trimmed number. -/
theorem NumIn.out {k : IntKind} {B : Int} {w w' : World} {ao : Option Addr} {len cap : Nat} {xs : List Int} (h : NumIn k B w' ao len cap xs) (hb : Below w.heap.size w w') (n : Int) (hv : val B xs = n) (L : Nat) (hL : len ≤ L) :
    NumOut k B w w' (.slice ao (top xs) cap) n L := by
  have hl := h.len
  have ht := top_le xs
  exact ⟨ao, top xs, cap, xs.take (top xs), rfl, h.take _ (by omega), canon_take_top xs, by rw [val_take_top, hv], by omega, hb⟩

theorem Try.infoU : (Try.prog.info? 34).map (fun i => (i.zero, i.size, i.bytes)) = some (some (.int .u64 0), 1, 8) := by kernel_rfl
theorem Try.infoI : (Try.prog.info? 3).map (fun i => (i.zero, i.size, i.bytes)) = some (some (.int .i64 0), 1, 8) := by kernel_rfl
theorem Try.infoB : (Try.prog.info? 5).map (fun i => (i.zero, i.size, i.bytes)) = some (some (.int .u8 0), 1, 1) := by kernel_rfl

/-- make: a new row of zeros. -/
theorem wpList_make_row {P : Program} (w : World) {ops : Array Oper} {rest : List Oper} {o : Oper} {a : Act} {Q : Exit → Act → World → Prop}
    (hg : o.guard = none) (l c : Operand) (t : TypeId) (hop : o.op = Op.makeSlice t l c) (e : TypeId) (k : IntKind) (bytes : Nat)
    (h1 : P.underlying t = some (.slice e)) (h2 : (P.info? e).map (fun i => (i.zero, i.size, i.bytes)) = some (some (.int k 0), 1, bytes))
    (kl kc : IntKind) (L C : Int) (n : Nat) (hl : a.eval l = .int kl L) (hc : a.eval c = .int kc C) (hL : L = (n : Int)) (hC : C = (n : Int)) (b2 : bytes * n ≤ 281474976710656) (b3 : n ≤ maxLen)
    (hK : ∀ w', Row e k w' w.heap.size (List.replicate n 0) → Below w.heap.size w w' → wpList P ops Q rest (a.put o.dst (.slice (some ⟨w.heap.size, 0, none⟩) n n)) w') :
    wpList P ops Q (o :: rest) a w := by
  obtain ⟨i, hi, hz0, hz1, hz2⟩ := info_parts h2
  refine wpList_make_full w hg l c t hop w.heap.size e i (.int k 0) 1 h1 hi hz0 hz1 kl kc L C n hl hc hL hC (by rw [hz2]; exact b2) b3 (Nat.le_refl _) ?_
  intro w' hown hgr
  refine hK w' ?_ ((Below.refl _ _).grown hgr (Nat.le_refl _) (fun k h => by cases h))
  rcases hown.2 with ⟨h', _⟩ | ⟨g', cap', cur, h', _, hrow, _, _, hsz, htake⟩
  · simp at h'
  · simp only [Value.slice.injEq, Option.some.injEq, Addr.mk.injEq, and_true, true_and] at h'
    obtain ⟨rfl, rfl⟩ := h'
    unfold Row
    rw [hrow]
    have e1 : cur.toList = (List.replicate n 0).map (Value.int k) := by
      have e2 : cur.toList.take (n * 1) = cur.toList := List.take_of_length_le (by simp [hsz])
      rw [e2] at htake
      rw [htake]
      simp only [Value.cells, Nat.mul_one, toList_madeCells_one, List.map_replicate]
    rw [← e1]

/-- How many bits a number of limbs has. -/
def lenOf (xs : List Int) : Nat := if top xs = 0 then 0 else (top xs - 1) * 64 + blen (xs.getD (top xs - 1) 0).toNat

set_option maxHeartbeats 400000 in
/-- nat.Len. -/
theorem Len_any (ao : Option Addr) (len cap : Nat) (xs : List Int) (w : World) (h : NumIn .u64 B64 w ao len cap xs) :
    Calls Try.prog 30 #[.slice ao len cap] w fun e w' => e = .returned (.int .i64 (lenOf xs)) ∧ w' = w := by
  have hl := h.len
  have ht := top_le xs
  have hs := h.sm
  by_cases h0 : top xs = 0
  · have hb : (((top xs : Nat) : Int) == 0) = true := by simp [h0]
    have HF : Hid (lenOf xs = 0) := by unfold Hid lenOf; rw [if_pos h0]
    go_enter Try.func30, Try.ntmps30
    go_wp2_with (go_at_call 54; refine (limbs_any ao len cap xs _ h.lies (by unfold maxLen; omega)).mono ?_; rintro e w' ⟨rfl, rfl⟩)
    go_ret
    exact ⟨ret_int (by rw [HF.out]; rfl), rfl⟩
  · obtain ⟨b, off, rfl, hb, hc⟩ := h.lies.at (by omega)
    have hcell := hc (top xs - 1) (by omega)
    have hg := h.dg.getD B64_pos (top xs - 1)
    unfold B64 at hg
    have hbl := blen_le (xs.getD (top xs - 1) 0).toNat 64 (by omega)
    have hbe : (((top xs : Nat) : Int) == 0) = false := by simp [h0]
    have HF : Hid (lenOf xs = (top xs - 1) * 64 + blen (xs.getD (top xs - 1) 0).toNat) := by unfold Hid lenOf; rw [if_neg h0]
    have HL := len64_any (xs.getD (top xs - 1) 0)
    have HLIM := limbs_any (some ⟨b, off, none⟩) len cap xs w h.lies (by unfold maxLen; omega)
    generalize xs.getD (top xs - 1) 0 = x at *
    clear hc h
    go_enter Try.func30, Try.ntmps30
    go_wp2_with fail
    refine HLIM.mono ?_
    rintro e w' ⟨rfl, rfl⟩
    go_wp2_with (go_at_call 64; refine (HL _ hg.1 hg.2).mono ?_; rintro e w' ⟨rfl, rfl⟩)
    go_ret
    exact ⟨ret_int (by rw [HF.out]; omega), rfl⟩

/-- How one number of limbs stands to another one: where one is greater at a place and above all are the same. -/
theorem cmp_at (B : Int) (hB : 1 < B) (xs ys : List Int) (hx : Dg B xs) (hy : Dg B ys) (n : Nat) (hn : xs.length = n) (hn' : ys.length = n) (p : Nat) (hp : p < n)
    (heq : ∀ j, p < j → j < n → xs.getD j 0 = ys.getD j 0) (hlt : xs.getD p 0 < ys.getD p 0) : val B xs < val B ys := by
  have hd : xs.drop (p + 1) = ys.drop (p + 1) := by
    apply List.ext_getElem
    · simp; omega
    · intro i h1 h2
      have := heq (p + 1 + i) (by omega) (by simp at h1; omega)
      simp only [List.getElem_drop]
      simp only [List.getD] at this
      rw [List.getElem?_eq_getElem (by simp at h1; omega), List.getElem?_eq_getElem (by simp at h2; omega)] at this
      simpa using this
  have ex : xs = xs.take (p + 1) ++ xs.drop (p + 1) := (List.take_append_drop _ _).symm
  have ey : ys = ys.take (p + 1) ++ ys.drop (p + 1) := (List.take_append_drop _ _).symm
  rw [ex, ey, hd, val_append, val_append, take_succ_getD xs p (by omega), take_succ_getD ys p (by omega), val_append, val_append]
  have a1 := val_lt (by omega) (hx.take p)
  have a2 := val_nonneg (by omega) (hy.take p)
  have l1 : (xs.take p).length = p := by simp; omega
  have l2 : (ys.take p).length = p := by simp; omega
  simp only [List.length_append, l1, l2, List.length_cons, List.length_nil, val, Int.mul_zero, Int.add_zero]
  rw [l1] at a1
  have a3 : B ^ p * (xs.getD p 0 + 1) ≤ B ^ p * ys.getD p 0 := Int.mul_le_mul_of_nonneg_left (by omega) (Int.le_of_lt (Int.pow_pos (by omega)))
  rw [Int.mul_add] at a3
  omega

theorem cmpI_lt {a b : Int} (h : a < b) : cmpI a b = -1 := by simp [cmpI, h]
theorem cmpI_gt {a b : Int} (h : b < a) : cmpI a b = 1 := by unfold cmpI; rw [if_neg (by omega), if_pos h]
theorem cmpI_eq {a b : Int} (h : a = b) : cmpI a b = 0 := by unfold cmpI; rw [if_neg (by omega), if_neg (by omega)]

/-- The number of fewer digits is less. -/
theorem top_lt_val {B : Int} (hB : 1 < B) {xs ys : List Int} (hx : Dg B xs) (hy : Dg B ys) (h : top xs < top ys) : val B xs < val B ys := by
  by_cases hv : val B xs < val B ys
  · exact hv
  · have := top_mono hB hy hx (by omega); omega

/-- A world that is as it was, but for draws. -/
def Drew (w w' : World) : Prop := ∃ n, w' = w.drewN n
theorem Drew.refl (w : World) : Drew w w := ⟨0, rfl⟩
theorem Drew.more {w w' : World} (h : Drew w w') (n : Nat) : Drew w (w'.drewN n) := by
  obtain ⟨m, rfl⟩ := h
  exact ⟨m + n, World.drewN_drewN _ _ _⟩
theorem Drew.trans {a b c : World} (h : Drew a b) (k : Drew b c) : Drew a c := by obtain ⟨n, rfl⟩ := k; exact h.more n
theorem Drew.cell {w w' : World} (h : Drew w w') (p : Addr) : w'.cell? p = w.cell? p := by obtain ⟨n, rfl⟩ := h; simp
theorem Drew.below {w w' : World} (h : Drew w w') (B : Nat) : Below B w w' := by obtain ⟨n, rfl⟩ := h; exact below_drewN (Below.refl _ _) n
theorem Drew.size {w w' : World} (h : Drew w w') : w'.heap.size = w.heap.size := by obtain ⟨n, rfl⟩ := h; simp

set_option maxHeartbeats 1000000 in
/-- nat.Cmp. -/
theorem Cmp_any (ao bo : Option Addr) (la ca lb cb : Nat) (xs ys : List Int) (w : World) (h : NumIn .u64 B64 w ao la ca xs) (h' : NumIn .u64 B64 w bo lb cb ys) :
    Calls Try.prog 22 #[.slice ao la ca, .slice bo lb cb] w fun e w' => e = .returned (.int .i64 (cmpI (val B64 xs) (val B64 ys))) ∧ Drew w w' := by
  have hl := h.len
  have hl' := h'.len
  have ht := top_le xs
  have ht' := top_le ys
  have hs := h.sm
  have hs' := h'.sm
  have HX : ∀ w, Lies .u64 w ao la xs → Calls Try.prog 54 #[.slice ao la ca] w fun e w' => e = .returned (.int .i64 (top xs)) ∧ w' = w := fun w hw => limbs_any ao la ca xs w hw (by unfold maxLen; omega)
  have HY : ∀ w, Lies .u64 w bo lb ys → Calls Try.prog 54 #[.slice bo lb cb] w fun e w' => e = .returned (.int .i64 (top ys)) ∧ w' = w := fun w hw => limbs_any bo lb cb ys w hw (by unfold maxLen; omega)
  have HC := compare_int (top xs) (top ys)
  by_cases hne : top xs = top ys
  · rw [cmpI_eq (by omega)] at HC
    have hvx := val_take_top B64 xs
    have hvy := val_take_top B64 ys
    rw [← hne] at HY HC hvy ht'
    generalize hn : top xs = n at *
    clear hn hne
    have HVX : Hid _ := hvx
    have HVY : Hid _ := hvy
    clear hvx hvy
    go_enter Try.func22, Try.ntmps22
    go_wp2_with fail
    refine (HX _ h.lies).mono ?_
    rintro e w' ⟨rfl, rfl⟩
    go_wp2_with fail
    refine (HY _ h'.lies).mono ?_
    rintro e w' ⟨rfl, rfl⟩
    go_wp2_with fail
    refine (HC _).mono ?_
    rintro e w' ⟨rfl, rfl⟩
    go_wp2
    go_loopw [20] (fun i wr => ∃ (k : Nat), k ≤ n ∧ i = .int .i64 k ∧ (∀ j, n - k ≤ j → j < n → xs.getD j 0 = ys.getD j 0) ∧ Drew w' wr) (fun i _ => n - (intOf i).toNat)
    case atStart => exact ⟨0, Nat.zero_le _, rfl, fun j h1 h2 => by omega, Drew.refl _⟩
    case round =>
      obtain ⟨k, hk, rfl, heq, hdr⟩ := hrel
      by_cases hlt : k < n
      · obtain ⟨b, off, rfl, hb, hc⟩ := h.lies.at (by omega)
        obtain ⟨b2, off2, rfl, hb2, hc2⟩ := h'.lies.at (by omega)
        have hcell := (hdr.cell _).trans (hc (n - 1 - k) (by omega))
        have hcell2 := (hdr.cell _).trans (hc2 (n - 1 - k) (by omega))
        have hxg : ∀ j, j < n → (xs.take n).getD j 0 = xs.getD j 0 := fun j hj => by simp [List.getD, List.getElem?_take, hj]
        have hyg : ∀ j, j < n → (ys.take n).getD j 0 = ys.getD j 0 := fun j hj => by simp [List.getD, List.getElem?_take, hj]
        have hL := cmp_at B64 B64_one (xs.take n) (ys.take n) (h.dg.take n) (h'.dg.take n) n (by simp; omega) (by simp; omega) (n - 1 - k) (by omega) (fun j h1 h2 => by rw [hxg j h2, hyg j h2]; exact heq j (by omega) h2)
        have hG := cmp_at B64 B64_one (ys.take n) (xs.take n) (h'.dg.take n) (h.dg.take n) n (by simp; omega) (by simp; omega) (n - 1 - k) (by omega) (fun j h1 h2 => by rw [hxg j h2, hyg j h2]; exact (heq j (by omega) h2).symm)
        rw [hxg _ (by omega), hyg _ (by omega), HVX.out, HVY.out] at hL hG
        have hE : xs.getD (n - 1 - k) 0 = ys.getD (n - 1 - k) 0 → ∀ j, n - (k + 1) ≤ j → j < n → xs.getD j 0 = ys.getD j 0 := fun h0 j h1 h2 => by
          by_cases hj : j = n - 1 - k
          · rw [hj]; exact h0
          · exact heq j (by omega) h2
        have HL : Hid _ := hL
        have HG : Hid _ := hG
        have HE : Hid _ := hE
        have HU := compare_u64 (xs.getD (n - 1 - k) 0) (ys.getD (n - 1 - k) 0)
        clear hxg hyg hL hG hE heq HVX HVY HX HY HC hc hc2
        have ep : (n : Int) - 1 - (k : Int) = ((n - 1 - k : Nat) : Int) := by omega
        have b1 : ((n - 1 - k : Nat) : Int) < (la : Int) := by omega
        have b2 : ((n - 1 - k : Nat) : Int) < (lb : Int) := by omega
        generalize xs.getD (n - 1 - k) 0 = x at *
        generalize ys.getD (n - 1 - k) 0 = y at *
        generalize n - 1 - k = p at *
        rcases Int.lt_trichotomy x y with hxy | hxy | hxy
        · rw [cmpI_lt hxy] at HU
          have HFIN : Hid _ := cmpI_lt (HL.out hxy)
          clear HL HG HE
          go_wp2
          go_quiet ((go_at_call 56; exact Calls.quiet_of_same (HU _)))
          go_wp2
          go_ret
          exact ⟨ret_int HFIN.out.symm, hdr.more _⟩
        · rw [cmpI_eq hxy] at HU
          have HFIN : Hid _ := HE.out hxy
          clear HL HG HE hxy
          go_wp2
          go_quiet ((go_at_call 56; exact Calls.quiet_of_same (HU _)))
          go_wp2
          go_roundw
          case rel => exact ⟨k + 1, by omega, by go_num, HFIN.out, hdr.more _⟩
          case measure => simp [intOf]; omega
        · rw [cmpI_gt hxy] at HU
          have HFIN : Hid _ := cmpI_gt (HG.out hxy)
          clear HL HG HE
          go_wp2
          go_quiet ((go_at_call 56; exact Calls.quiet_of_same (HU _)))
          go_wp2
          go_ret
          exact ⟨ret_int HFIN.out.symm, hdr.more _⟩
      · obtain rfl : k = n := by omega
        have HF : Hid (val B64 xs = val B64 ys) := by
          unfold Hid
          rw [← HVX.out, ← HVY.out]
          congr 1
          apply List.ext_getElem
          · simp; omega
          · intro i h1 h2
            have := heq i (by omega) (by simp at h1; omega)
            simp only [List.getD] at this
            rw [List.getElem?_eq_getElem (by simp at h1; omega), List.getElem?_eq_getElem (by simp at h2; omega)] at this
            simpa using this
        clear heq HX HY HC HVX HVY
        go_wp2
        go_ret
        exact ⟨ret_int (cmpI_eq HF.out).symm, hdr⟩
  · have HF : Hid (cmpI (top xs) (top ys) = cmpI (val B64 xs) (val B64 ys)) := by
      unfold Hid
      rcases Nat.lt_or_gt_of_ne hne with hlt | hlt
      · rw [cmpI_lt (by omega), cmpI_lt (top_lt_val B64_one h.dg h'.dg hlt)]
      · rw [cmpI_gt (by omega), cmpI_gt (top_lt_val B64_one h'.dg h.dg hlt)]
    have hnz : (cmpI (top xs) (top ys) != 0) = true := by
      rcases Nat.lt_or_gt_of_ne hne with hlt | hlt
      · rw [cmpI_lt (by omega)]; decide
      · rw [cmpI_gt (by omega)]; decide
    clear hne
    generalize cmpI (top xs) (top ys) = c at *
    go_enter Try.func22, Try.ntmps22
    go_wp2_with fail
    refine (HX _ h.lies).mono ?_
    rintro e w' ⟨rfl, rfl⟩
    go_wp2_with fail
    refine (HY _ h'.lies).mono ?_
    rintro e w' ⟨rfl, rfl⟩
    go_wp2_with fail
    refine (HC _).mono ?_
    rintro e w' ⟨rfl, rfl⟩
    go_wp2
    go_ret
    exact ⟨ret_int HF.out, Drew.refl _⟩
end Go.Proofs.Ytdojbknkaoiioaa
