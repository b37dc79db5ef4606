/-
  What comes in: bytes; the library's tables as they are laid.
-/
import Derived.Test.YtfmldcibhllpcabDoorFH
import Derived.Test.YtfmldcibhllpcabDoorDC
namespace Go.Proofs.YtfmldcibhllpcabDoor
open Go.Shelf Go.RowKit
set_option linter.unusedVariables false
set_option linter.unusedSimpArgs false

def tzL : List Int := [0, 1, 56, 2, 57, 49, 28, 3, 61, 58, 42, 50, 38, 29, 17, 4, 62, 47, 59, 36, 45, 43, 51, 22, 53, 39, 33, 30, 24, 18, 12, 5, 63, 55, 48, 27, 60, 41, 37, 16, 46, 35, 44, 21, 52, 32, 23, 11, 54, 26, 40, 15, 34, 20, 31, 10, 25, 14, 19, 9, 13, 8, 7, 6]
theorem tz_of_reads {w : World} (h : Lib.VarReads Tryd.prog w "math/bits.deBruijn64tab" Rows.laid_math_bits_deBruijn64tab) : Tz w := by
  obtain ⟨g, t, cs, fuel, p, hg, hty, hvar, hd⟩ := h
  obtain rfl := Option.some.inj ((show Tryd.prog.globalNamed "math/bits.deBruijn64tab" = some 3 by kernel_rfl).symm.trans hg)
  obtain rfl := Option.some.inj ((show (Tryd.prog.globals[3]?).map (·.type) = some 83 by kernel_rfl).symm.trans hty)
  rw [show (Rows.laid_math_bits_deBruijn64tab : DataW Unit) = Lib.tabData .u8 tzL by kernel_rfl] at hd
  have hcs := Lib.cells_of_tab (zs := tzL) Tryd.underlying83 Tryd.underlying5 (by kernel_rfl) (by kernel_rfl) hd
  refine ⟨?_, ?_, ?_, ?_⟩
  · rw [World.var?_cell hg hvar 0, ← Array.getElem?_toList, hcs]; rfl
  · rw [World.var?_cell hg hvar 1, ← Array.getElem?_toList, hcs]; rfl
  · rw [World.var?_cell hg hvar 3, ← Array.getElem?_toList, hcs]; rfl
  · rw [World.var?_cell hg hvar 7, ← Array.getElem?_toList, hcs]; rfl
theorem tw_laid {w : World} (h : laidMet Tryd.prog [("math/bits.deBruijn32tab", Rows.laid_math_bits_deBruijn32tab), ("math/bits.deBruijn64tab", Rows.laid_math_bits_deBruijn64tab), ("unicode/utf8.acceptRanges", Rows.laid_unicode_utf8_acceptRanges), ("unicode/utf8.first", Rows.laid_unicode_utf8_first)] w) : Tw w :=
  ⟨Tabs.of_reads (by have := Lib.laidMet.reads h (.tail _ (.tail _ (.tail _ (.head _)))); rwa [show Rows.laid_unicode_utf8_first = Lib.firstData from Pinned.utf8First_eq] at this) (by have := Lib.laidMet.reads h (.tail _ (.tail _ (.head _))); rwa [show (Rows.laid_unicode_utf8_acceptRanges : DataW Unit) = Lib.acceptData by kernel_rfl] at this),
   tz_of_reads (Lib.laidMet.reads h (.tail _ (.head _)))⟩
/-- A slice of numbers that came in. -/
def CameJ (k : IntKind) (w : World) (a : Option Addr) (len cap : Nat) (zs : List Int) : Prop :=
  (a = none ∧ len = 0 ∧ cap = 0 ∧ zs = []) ∨
  ∃ x, a = some x ∧ len ≤ cap ∧ cap ≤ maxLen ∧ zs.length = cap ∧ (∀ i, i < zs.length → w.cell? (x.add i) = some (.int k (zs.getD i 0))) ∧ ∀ n ∈ zs, (Lit.int k n).wf = true
theorem byte_wf {x : Int} (h : (Lit.int .u8 x).wf = true) : 0 ≤ x ∧ x < 256 := by
  simp [Lit.wf, IntKind.min, IntKind.max, IntKind.signed, IntKind.bits] at h
  exact ⟨by omega, by omega⟩
theorem CameJ.le {k : IntKind} {w : World} {a : Option Addr} {len cap : Nat} {zs : List Int} (h : CameJ k w a len cap zs) : len ≤ maxLen := by
  rcases h with ⟨_, h1, _⟩ | ⟨x, _, h1, h2, _⟩
  · rw [h1]; exact Nat.zero_le _
  · exact Nat.le_trans h1 h2
/-- The bytes that came in. -/
theorem CameJ.byv {w : World} {a : Option Addr} {len cap : Nat} {zs : List Int} (h : CameJ .u8 w a len cap zs) : ∃ bs : Bs, bs.length = len ∧ ByV w (fun b => b < w.heap.size) a cap bs := by
  rcases h with ⟨rfl, rfl, rfl, rfl⟩ | ⟨x, rfl, h1, h2, h3, h4, h5⟩
  · exact ⟨[], rfl, ByV.nil w _⟩
  · obtain ⟨b, off, spot⟩ := x
    have hl : ((zs.take len).map fun z => UInt8.ofNat z.toNat).length = len := by simp; omega
    refine ⟨(zs.take len).map fun z => UInt8.ofNat z.toNat, hl, by rw [hl]; exact h1, by unfold maxLen at h2; omega, fun h0 => ?_, fun y hy h0 => ?_⟩
    · rw [hl] at h0
      have hsp : spot = none := by
        have := h4 0 (by omega)
        simpa [Addr.add] using World.cell?_spot this
      subst hsp
      refine ⟨b, off, rfl, fun i hi => ?_⟩
      rw [hl] at hi
      have hc := h4 i (by omega)
      rw [Addr.add_mid] at hc
      rw [hc]
      have hiz : i < zs.length := by omega
      have hw := byte_wf (h5 zs[i] (List.getElem_mem hiz))
      have e1 : zs.getD i 0 = zs[i] := by simp [List.getD, hiz]
      have e2 : ((zs.take len).map fun z => UInt8.ofNat z.toNat).getD i 0 = UInt8.ofNat (zs[i]).toNat := by
        simp [List.getD, List.getElem?_take, hi, List.getElem?_eq_getElem hiz]
      rw [e1, e2]
      congr 2
      simp [UInt8.toNat_ofNat']
      omega
    · cases hy
      rw [hl] at h0
      have hc := h4 0 (by omega)
      have hsp : spot = none := by simpa [Addr.add] using World.cell?_spot hc
      subst hsp
      rw [Addr.add_mid] at hc
      exact World.block_lt_of_cell? w _ hc
theorem pcs_len (item : Nat → Nat → Bs → Except Nat (It × Nat × Bs)) (Q : It → Prop) (C : CntOK item) (H : ∀ w t xs i t' ys, xs.length ≤ 8192 → t ≤ 512 → item w t xs = .ok (i, t', ys) → Q i) (pairs : Bool) (within : Nat) : ∀ (m : Nat) (last : Option It) (kids : List It) (t : Nat) (xs : Bs) (kids' : List It) (t' : Nat) (ys : Bs), xs.length ≤ 8192 → t ≤ 512 → (∀ k ∈ kids, Q k) → pcsC item pairs within m last kids t xs = .ok (kids', t', ys) → ∀ k ∈ kids', Q k
  | 0, last, kids, t, xs, kids', t', ys, hl, ht, h0, h => by
    rw [pcsC] at h
    cases h
    exact h0
  | m + 1, last, kids, t, xs, kids', t', ys, hl, ht, h0, h => by
    rw [pcsC] at h
    cases hk : item within t xs with
    | error e => rw [hk] at h; cases h
    | ok r =>
      obtain ⟨k, t1, zs⟩ := r
      rw [hk] at h
      simp only [] at h
      have e1 := H _ _ _ _ _ _ hl ht hk
      have d1 := C _ _ _ _ _ _ ht hk
      cases pairs with
      | false =>
        simp only [Bool.false_eq_true, if_false] at h
        exact pcs_len item Q C H false within m none (kids ++ [k]) t1 zs kids' t' ys (by omega) d1.2.1 (fun x hx => by rcases List.mem_append.1 hx with hx | hx; exact h0 x hx; simp at hx; subst hx; exact e1) h
      | true =>
        simp only [if_true] at h
        by_cases q0 : keyC k = false
        · rw [if_pos q0] at h
          cases h
        · rw [if_neg q0] at h
          by_cases q1 : badOrd last k = true
          · rw [if_pos q1] at h
            cases h
          · rw [if_neg q1] at h
            cases hv : item within t1 zs with
            | error e => rw [hv] at h; cases h
            | ok r2 =>
              obtain ⟨v, t2, us⟩ := r2
              rw [hv] at h
              simp only [] at h
              have e2 := H _ _ _ _ _ _ (by omega) d1.2.1 hv
              have d2 := C _ _ _ _ _ _ d1.2.1 hv
              exact pcs_len item Q C H true within m (some k) (kids ++ [k, v]) t2 us kids' t' ys (by omega) d2.2.1 (fun x hx => by
                rcases List.mem_append.1 hx with hx | hx
                · exact h0 x hx
                · simp at hx
                  rcases hx with rfl | rfl
                  · exact e1
                  · exact e2) h
theorem pcs_few (item : Nat → Nat → Bs → Except Nat (It × Nat × Bs)) (H : CntOK item) (pairs : Bool) (within : Nat) : ∀ (m : Nat) (last : Option It) (kids : List It) (t : Nat) (xs : Bs) (kids' : List It) (t' : Nat) (ys : Bs), t ≤ 512 → pcsC item pairs within m last kids t xs = .ok (kids', t', ys) → kids'.length + t ≤ kids.length + t' ∧ t' ≤ 512
  | 0, last, kids, t, xs, kids', t', ys, ht, h => by
    rw [pcsC] at h
    cases h
    omega
  | m + 1, last, kids, t, xs, kids', t', ys, ht, h => by
    rw [pcsC] at h
    cases hk : item within t xs with
    | error e => rw [hk] at h; cases h
    | ok r =>
      obtain ⟨k, t1, zs⟩ := r
      rw [hk] at h
      simp only [] at h
      have e1 := H _ _ _ _ _ _ ht hk
      cases pairs with
      | false =>
        simp only [Bool.false_eq_true, if_false] at h
        have := pcs_few item H false within m none (kids ++ [k]) t1 zs kids' t' ys e1.2.1 h
        simp at this
        omega
      | true =>
        simp only [if_true] at h
        by_cases q0 : keyC k = false
        · rw [if_pos q0] at h
          cases h
        · rw [if_neg q0] at h
          by_cases q1 : badOrd last k = true
          · rw [if_pos q1] at h
            cases h
          · rw [if_neg q1] at h
            cases hv : item within t1 zs with
            | error e => rw [hv] at h; cases h
            | ok r2 =>
              obtain ⟨v, t2, us⟩ := r2
              rw [hv] at h
              simp only [] at h
              have e2 := H _ _ _ _ _ _ e1.2.1 hv
              have := pcs_few item H true within m (some k) (kids ++ [k, v]) t2 us kids' t' ys e2.2.1 h
              simp at this
              omega
/-- What was read has room, is neat and not too deep. -/
def trimC (d : Nat) (i : It) : Prop := fitC d i ∧ cleanC d i ∧ deepC d i
theorem trim_leaf (d : Nat) {i : It} (h0 : i.kids = []) (hb : i.b.length ≤ 8192) (hn : neatC i) : trimC d i := by
  cases d with
  | zero => exact ⟨⟨by omega, by rw [h0]; simp⟩, hn, h0⟩
  | succ d => exact ⟨⟨⟨by omega, by rw [h0]; simp⟩, fun k hk => by rw [h0] at hk; simp at hk⟩, ⟨hn, fun k hk => by rw [h0] at hk; simp at hk⟩, fun k hk => by rw [h0] at hk; simp at hk⟩
theorem item_trim1 (d : Nat) (IH : ∀ d', d = d' + 1 → ∀ (within t : Nat) (xs : Bs) (i : It) (t' : Nat) (ys : Bs), xs.length ≤ 8192 → t ≤ 512 → itemC d' within t xs = .ok (i, t', ys) → trimC d' i) (within t : Nat) (xs : Bs) (i : It) (t' : Nat) (ys : Bs) (hl : xs.length ≤ 8192) (h5 : t ≤ 512) (h : itemC d within t xs = .ok (i, t', ys)) : trimC d i := by
  rw [itemC_eq] at h
  by_cases h0 : 512 ≤ t
  · rw [if_pos h0] at h; cases h
  rw [if_neg h0] at h
  cases xs with
  | nil => cases h
  | cons c xs =>
    simp only [] at h
    have hc := c.toNat_lt
    by_cases h7 : c.toNat / 32 = 7
    · rw [if_pos h7] at h
      by_cases hl : c.toNat % 32 < 20 ∨ 22 < c.toNat % 32
      · rw [if_pos hl] at h; cases h
      rw [if_neg hl] at h
      cases h
      exact trim_leaf d rfl (by simp) ⟨by simp, by simp, by simp, fun _ _ => rfl, fun _ _ => rfl, fun _ _ => rfl⟩
    rw [if_neg h7] at h
    cases hn : numC (c.toNat % 32) xs with
    | error e => rw [hn] at h; cases h
    | ok r =>
      obtain ⟨n, zs⟩ := r
      rw [hn] at h
      simp only [] at h
      have hz := numC_len hn
      have hn2 := (numC_form c xs n zs hn).2
      simp only [List.length_cons] at hl
      unfold behC at h
      by_cases k0 : c.toNat / 32 = 0
      · rw [if_pos k0] at h
        cases h
        exact trim_leaf d rfl (by simp) ⟨hn2, by simp, by simp, fun e _ => absurd rfl e, fun _ _ => rfl, fun _ _ => rfl⟩
      rw [if_neg k0] at h
      by_cases k1 : c.toNat / 32 = 1
      · rw [if_pos k1] at h
        cases h
        exact trim_leaf d rfl (by simp) ⟨hn2, by simp, by simp, fun _ e => absurd rfl e, fun _ _ => rfl, fun _ _ => rfl⟩
      rw [if_neg k1] at h
      have ht : (zs.take n).length ≤ 8192 := by rw [List.length_take]; omega
      by_cases k2 : c.toNat / 32 = 2
      · rw [if_pos k2] at h
        by_cases hz : zs.length < n
        · rw [if_pos hz] at h; cases h
        rw [if_neg hz] at h
        cases h
        exact trim_leaf d rfl ht ⟨by simp, by simp only; omega, by simp, fun _ _ => rfl, fun e _ => absurd rfl e, fun _ _ => rfl⟩
      rw [if_neg k2] at h
      by_cases k3 : c.toNat / 32 = 3
      · rw [if_pos k3] at h
        by_cases hz : zs.length < n
        · rw [if_pos hz] at h; cases h
        rw [if_neg hz] at h
        by_cases hu : Lib.validD (zs.take n) = true
        · rw [if_pos hu] at h
          cases h
          exact trim_leaf d rfl ht ⟨by simp, by simp only; omega, by simp, fun _ _ => rfl, fun _ e => absurd rfl e, fun _ _ => rfl⟩
        · rw [if_neg hu] at h; cases h
      rw [if_neg k3] at h
      by_cases k6 : c.toNat / 32 = 6
      · rw [if_pos k6] at h; cases h
      rw [if_neg k6] at h
      cases d with
      | zero => cases h
      | succ d =>
        simp only [] at h
        cases hp : pcsC (itemC d) (decide (c.toNat / 32 = 5)) (within + 1) n none [] (t + 1) zs with
        | error e => rw [hp] at h; cases h
        | ok r =>
          obtain ⟨kids, t2, us⟩ := r
          rw [hp] at h
          simp only [] at h
          cases h
          have hall := pcs_len (itemC d) (trimC d) (item_cnt d) (fun w t xs i t' ys h1 h2 hh => IH d rfl w t xs i t' ys h1 h2 hh) _ _ _ _ _ _ _ _ _ _ (by omega) (by omega) (fun k hk => by simp at hk) hp
          have hfew := pcs_few (itemC d) (item_cnt d) _ _ _ _ _ _ _ _ _ _ (by omega) hp
          simp at hfew
          refine ⟨⟨⟨by simp, by simp only; omega⟩, fun k hk => (hall k hk).1⟩, ⟨⟨by simp, by simp, by simp only; omega, fun _ _ => rfl, fun _ _ => rfl, fun e1 e2 => ?_⟩, fun k hk => (hall k hk).2.1⟩, fun k hk => (hall k hk).2.2⟩
          simp only at e1 e2
          omega
theorem item_trim : ∀ (d within t : Nat) (xs : Bs) (i : It) (t' : Nat) (ys : Bs), xs.length ≤ 8192 → t ≤ 512 → itemC d within t xs = .ok (i, t', ys) → trimC d i := by
  intro d
  induction d with
  | zero => exact fun within t xs i t' ys hl h5 h => item_trim1 0 (fun d' e => by omega) within t xs i t' ys hl h5 h
  | succ d ih => exact fun within t xs i t' ys hl h5 h => item_trim1 (d + 1) (fun d' e => by cases e; exact ih) within t xs i t' ys hl h5 h
theorem dec_trim {xs : Bs} {i : It} {ys : Bs} (h : decC xs = .ok (i, ys)) : trimC 8 i := by
  unfold decC at h
  by_cases h0 : 8192 < xs.length
  · rw [if_pos h0] at h; cases h
  rw [if_neg h0] at h
  cases hi : itemC 8 0 0 xs with
  | error e => rw [hi] at h; cases h
  | ok r =>
    obtain ⟨j, t', zs⟩ := r
    rw [hi] at h
    simp only [Except.ok.injEq, Prod.mk.injEq] at h
    obtain ⟨rfl, rfl⟩ := h
    exact item_trim 8 0 0 xs j t' zs (by omega) (by decide) hi
end Go.Proofs.YtfmldcibhllpcabDoor
