import Derived.Test.YtnckmcmobkpdcaaDoorK01
import Derived.Lib.LaidIn
import Derived.LaidMore
import Derived.WalkKit
import Derived.Test.YtnckmcmobkpdcaaDoorRows
import Derived.WalkSpells
import Derived.WalkLawsBesides
import Derived.Lib.Walk
import Derived.Lib.BitFns
import Derived.Lib.Mul64
import Derived.Laws.Bits64b
import Derived.Laws.Externs
import Derived.Deep.Light
import Derived.Shelf.Spec.BitsCarry
import Derived.Laws.CopyOwn
import Derived.BigQuiet
import Derived.Deep.QuietTactic
/-
  The code's split.
-/
namespace Go.Proofs.YtnckmcmobkpdcaaDoor
open Go.Shelf Go.RowKit
set_option linter.unusedVariables false
set_option linter.unusedSimpArgs false

set_option maxRecDepth 100000 in
set_option maxHeartbeats 4000000 in
/-- splitLength of one byte with no room behind it. -/
theorem splitLength_one (b o : Nat) (f : UInt8) (P : Nat → Prop) (w : World) (h : ByV w P (some ⟨b, o, none⟩) 1 [f]) :
    Calls Tryd.prog 33 #[.slice (some ⟨b, o, none⟩) 1 1] w (SlPost w P (lenD [f])) := by
  have hf := f.toNat_lt
  have c0 : w.cell? ⟨b, o, none⟩ = some (.int .u8 (f.toNat : Int)) := by
    obtain ⟨b', o', e, hc⟩ := h.lies (by simp)
    cases e
    have := hc 0 (by simp)
    simpa using this
  have hdr := h.drop 1 (by simp)
  have hdr' : ByV w P (some ⟨b, o, none⟩) 0 [] := by simpa using hdr
  have HD : Hid (ByV w P (some ⟨b, o, none⟩) 0 []) := hdr'
  obtain ⟨R, hR⟩ : ∃ R, lenD [f] = R := ⟨_, rfl⟩
  rw [hR]
  obtain ⟨F, hF⟩ : ∃ F, f.toNat = F := ⟨_, rfl⟩
  rw [hF] at c0 hf
  have HF : Hid (f.toNat = F ∧ lenD [f] = R) := ⟨hF, hR⟩
  clear hF hR h hdr hdr'
  by_cases q1 : F < 128
  · have q1I : (F : Int) < 128 := by omega
    go_enter Tryd.func33, Tryd.ntmps33
    go_wp2_with fail
    go_quiet (fail)
    go_wp2_with fail
    go_ret3
    exact SlPost.yes F [] _ _ _ (by rw [← HF.out.2]; simp only [lenD, HF.out.1, if_pos q1]) (by omega) rfl HD.out (below_drews (Below.refl _ _) _)
  have q1I : ¬ (F : Int) < 128 := by omega
  by_cases q2 : F = 128
  · subst q2
    have hR0 : R = none := by rw [← HF.out.2]; exact lenD_80 HF.out.1
    go_enter Tryd.func33, Tryd.ntmps33
    go_wp2_with fail
    go_quiet (fail)
    generalize hwq : World.drewN w nq = wq
    have HW : Hid (Below w.heap.size w wq) := by rw [← hwq]; exact below_drews (Below.refl _ _) _
    clear hwq
    go_wp2_with fail
    go_loopw [8, 35] (fun v8 v35 wr => v35 = .int .i64 0 ∧ v8 = .int .i64 0 ∧ wr = wq) (fun _ _ _ => 0)
    case atStart => exact ⟨rfl, rfl, rfl⟩
    case round =>
      obtain ⟨rfl, rfl, rfl⟩ := hrel
      go_wp2_with fail
      go_quiet (fail)
      go_wp2_with fail
      go_ret3
      exact SlPost.no hR0 (below_drews HW.out _)
  have q4 : 128 < F := by omega
  have hmin : 0 < (F : Int) - 128 := by omega
  have hR0 : R = none := by rw [← HF.out.2]; exact lenD_few (by rw [HF.out.1]; simpa using q4)
  go_enter Tryd.func33, Tryd.ntmps33
  go_wp2_with fail
  go_quiet (fail)
  go_wp2_with fail
  go_ret3
  exact SlPost.no hR0 (below_drews (Below.refl _ _) _)
set_option maxRecDepth 100000 in
set_option maxHeartbeats 1000000 in
/-- splitLength. -/
theorem splitLength_any (p : Option Addr) (n c : Nat) (bs : Bs) (P : Nat → Prop) (w : World) (hn : bs.length = n) (h : ByV w P p c bs) :
    Calls Tryd.prog 33 #[.slice p n c] w (SlPost w P (lenD bs)) := by
  cases bs with
  | nil =>
    simp at hn
    subst hn
    go_enter Tryd.func33, Tryd.ntmps33
    go_wp2_with fail
    go_ret3
    exact SlPost.no rfl (Below.refl _ _)
  | cons f xs =>
    obtain ⟨b, o, rfl, _⟩ := h.lies (by simp)
    by_cases hc : c = 1
    · subst hc
      have h1 := h.cap
      have : xs = [] := List.eq_nil_of_length_eq_zero (by simp only [List.length_cons] at h1; omega)
      subst this
      simp at hn
      subst hn
      exact splitLength_one b o f P w h
    · exact splitLength_more b o c n f xs P w (by simpa using hn) h hc
/-- A piece's cells in block g. -/
def Tl (w : World) (g : Nat) (v0 v1 : Value) : Prop := w.heap[g]? = some (.cells #[v0, v1] 24 (0, 0))
theorem Tl.new (w : World) (v0 v1 : Value) : Tl (w.alloc (.cells #[v0, v1] 24)) w.heap.size v0 v1 := heap_alloc_new w _
theorem Tl.same {w w' : World} {g : Nat} {v0 v1 : Value} (h : Tl w g v0 v1) (hb : w'.heap[g]? = w.heap[g]?) : Tl w' g v0 v1 := by unfold Tl; rw [hb]; exact h
theorem Tl.lt {w : World} {g : Nat} {v0 v1 : Value} (h : Tl w g v0 v1) : g < w.heap.size := (Array.getElem?_eq_some_iff.1 h).1
theorem Tl.below {w w' : World} {g : Nat} {v0 v1 : Value} (h : Tl w g v0 v1) (hb : Below w.heap.size w w') : Tl w' g v0 v1 := h.same (hb.block g h.lt)
theorem Tl.c0 {w : World} {g : Nat} {v0 v1 : Value} (h : Tl w g v0 v1) : w.cell? ⟨g, 0, none⟩ = some v0 := by rw [cell_of_row w g 0 _ _ _ h]; rfl
theorem Tl.c1 {w : World} {g : Nat} {v0 v1 : Value} (h : Tl w g v0 v1) : w.cell? ⟨g, 1, none⟩ = some v1 := by rw [cell_of_row w g 1 _ _ _ h]; rfl
theorem Tl.fr {w : World} {g : Nat} {v0 v1 : Value} (h : Tl w g v0 v1) (j : Nat) : w.frozen? ⟨g, j, none⟩ = false := frozen_of_row w g j _ _ h
theorem Tl.set0 {w : World} {g : Nat} {v0 v1 : Value} (h : Tl w g v0 v1) (u : Value) : Tl (w.setCell ⟨g, 0, none⟩ u) g u v1 := by
  unfold Tl; rw [heap_set_at w g 0 _ _ _ _ h]; rfl
theorem Tl.set1 {w : World} {g : Nat} {v0 v1 : Value} (h : Tl w g v0 v1) (u : Value) : Tl (w.setCell ⟨g, 1, none⟩ u) g v0 u := by
  unfold Tl; rw [heap_set_at w g 1 _ _ _ _ h]; rfl
theorem Tl.set2 {w : World} {g : Nat} {v0 v1 : Value} (h : Tl w g v0 v1) (u u' : Value) : Tl ((w.setCell ⟨g, 0, none⟩ u).setCell ⟨g, 1, none⟩ u') g u u' := (h.set0 u).set1 u'
/-- What the walk asks of such a block. -/
theorem Tl.facts {w : World} {g : Nat} {v0 v1 : Value} (h : Tl w g v0 v1) : w.cell? ⟨g, 0, none⟩ = some v0 ∧ w.cell? ⟨g, 1, none⟩ = some v1 ∧ w.frozen? ⟨g, 0, none⟩ = false ∧ w.frozen? ⟨g, 1, none⟩ = false := ⟨h.c0, h.c1, h.fr 0, h.fr 1⟩
theorem Tl.facts1 {w : World} {g : Nat} {v0 v1 : Value} (h : Tl w g v0 v1) (u : Value) : (w.setCell ⟨g, 0, none⟩ u).cell? ⟨g, 1, none⟩ = some v1 ∧ (w.setCell ⟨g, 0, none⟩ u).frozen? ⟨g, 1, none⟩ = false := ⟨(h.set0 u).c1, (h.set0 u).fr 1⟩
theorem but_set2 (w : World) (g : Nat) (u u' : Value) : But g w ((w.setCell ⟨g, 0, none⟩ u).setCell ⟨g, 1, none⟩ u') := (But.setCell g w 0 u).trans (But.setCell g _ 1 u')
theorem sizeTlv : (Tryd.prog.info? 24).map (·.size) = some 2 := by kernel_rfl
theorem ret_tlv3 {fn : Func} {p u v : Tmp} (h : fn.results = #[.cell p 24, .tmp u, .tmp v]) (tmps : Array Value) (w : World) (g : Nat) (c0 c1 : Value) (hp : tmps.getD p undef = .pointer (some ⟨g, 0, none⟩)) (hg : Tl w g c0 c1) :
    (results fn tmps).run Tryd.prog w = .ok (.tuple #[.agg #[c0, c1], tmps.getD u undef, tmps.getD v undef]) w := by
  have hl := run_loadVar_row (P := Tryd.prog) w g 24 24 #[c0, c1] (0, 0) _ hg Tryd.underlying24 rfl (sizeTlv)
  have hp' : tmps[p]?.getD undef = .pointer (some ⟨g, 0, none⟩) := by simpa using hp
  simp only [results, h]
  simp [Sem.run_bind, Result.andThen, asAddr, hl, hp']
theorem ret_tlv1 {fn : Func} {p : Tmp} (h : fn.results = #[.cell p 24]) (tmps : Array Value) (w : World) (g : Nat) (c0 c1 : Value) (hp : tmps.getD p undef = .pointer (some ⟨g, 0, none⟩)) (hg : Tl w g c0 c1) :
    (results fn tmps).run Tryd.prog w = .ok (.agg #[c0, c1]) w := by
  have hl := run_loadVar_row (P := Tryd.prog) w g 24 24 #[c0, c1] (0, 0) _ hg Tryd.underlying24 rfl (sizeTlv)
  have hp' : tmps[p]?.getD undef = .pointer (some ⟨g, 0, none⟩) := by simpa using hp
  simp only [results, h]
  simp [Sem.run_bind, Result.andThen, asAddr, hl, hp']
/-- A piece's value. -/
abbrev tlvV (t : Nat) (p : Option Addr) (n c : Nat) : Value := .agg #[.int .u8 (t : Int), .slice p n c]
/-- What split and Read answer; P: where the answer lies. -/
def SpPost (w : World) (P : World → Nat → Prop) (R : Except Nat ((UInt8 × Bs) × Bs)) (e : Ending) (w' : World) : Prop :=
  Below w.heap.size w w' ∧ ((∃ t b r p1 c1 p2 c2, R = .ok ((t, b), r) ∧ e = .returned (.tuple #[.agg #[.int .u8 (t.toNat : Int), .slice p1 b.length c1], .slice p2 r.length c2, .int .i64 0]) ∧ ByV w' (P w) p1 c1 b ∧ ByV w' (P w) p2 c2 r) ∨ (∃ k, R = .error k ∧ e = .returned (.tuple #[.agg #[.int .u8 0, .slice none 0 0], .slice none 0 0, .int .i64 (k : Int)])))
theorem SpPost.okx {w w' : World} {P : World → Nat → Prop} {t : UInt8} {b r : Bs} {e : Ending} (h : SpPost w P (.ok ((t, b), r)) e w') : Below w.heap.size w w' ∧ ∃ p1 c1 p2 c2, e = .returned (.tuple #[.agg #[.int .u8 (t.toNat : Int), .slice p1 b.length c1], .slice p2 r.length c2, .int .i64 0]) ∧ ByV w' (P w) p1 c1 b ∧ ByV w' (P w) p2 c2 r := by
  obtain ⟨h1, (⟨t, b, r, p1, c1, p2, c2, hR, h2⟩ | ⟨k, hR, _⟩)⟩ := h
  · cases hR; exact ⟨h1, p1, c1, p2, c2, h2⟩
  · cases hR
theorem SpPost.errx {w w' : World} {P : World → Nat → Prop} {k : Nat} {e : Ending} (h : SpPost w P (.error k) e w') : Below w.heap.size w w' ∧ e = .returned (.tuple #[.agg #[.int .u8 0, .slice none 0 0], .slice none 0 0, .int .i64 (k : Int)]) := by
  obtain ⟨h1, (⟨t, b, r, p1, c1, p2, c2, hR, h2⟩ | ⟨k', hR, h2⟩)⟩ := h
  · cases hR
  · cases hR; exact ⟨h1, h2⟩
theorem SpPost.bad {w w' : World} {P : World → Nat → Prop} {R : Except Nat ((UInt8 × Bs) × Bs)} (k : Nat) (hR : R = .error k) (hb : Below w.heap.size w w') : SpPost w P R (.returned (.tuple #[.agg #[.int .u8 0, .slice none 0 0], .slice none 0 0, .int .i64 (k : Int)])) w' := ⟨hb, .inr ⟨k, hR, rfl⟩⟩
end Go.Proofs.YtnckmcmobkpdcaaDoor
/-
  Times: years and months.
-/
namespace Go.Proofs.YtnckmcmobkpdcaaDoor
open Go.Shelf Go.RowKit
set_option linter.unusedVariables false
set_option linter.unusedSimpArgs false

def mdL : List Int := [31, 28, 31, 30, 31, 30, 31, 31, 30, 31, 30, 31]
/-- The months' days as they are laid. -/
def Md (w : World) : Prop := ∀ i, i < 12 → w.cell? ⟨0, i, none⟩ = some (.int .i64 (mdL.getD i 0))
theorem Md.lt {w : World} (h : Md w) : 0 < w.heap.size := World.block_lt_of_cell? _ _ (h 0 (by decide))
theorem Md.below {w w' : World} (h : Md w) (hb : Below w.heap.size w w') : Md w' := fun i hi => (World.cell?_of_block (w := w) (hb.block _ h.lt)).trans (h i hi)
/-- Has a year 366 days? -/
def leapD (y : Nat) : Bool := (y % 4 == 0 && y % 100 != 0) || y % 400 == 0
/-- A month's days. -/
def monD (y m : Nat) : Nat := (mdL.getD (m - 1) 0).toNat + (if m = 2 ∧ leapD y = true then 1 else 0)
set_option maxRecDepth 100000 in
set_option maxHeartbeats 1000000 in
/-- isLong. -/
theorem isLong_any (y : Nat) (hy : y ≤ 99999) (w : World) : Calls Tryd.prog 35 #[.int .i64 (y : Int)] w fun e w' => e = .returned (.bool (leapD y)) ∧ w' = w := by
  obtain ⟨B, hB⟩ : ∃ B, leapD y = B := ⟨_, rfl⟩
  rw [hB]
  have HB : Hid (leapD y = B) := hB
  clear hB
  by_cases h4 : y % 4 = 0
  · have k4 : (((y : Int) % 4) == 0) = true := by simp; omega
    by_cases h1 : y % 100 = 0
    · have k1 : (((y : Int) % 100) != 0) = false := by simp; omega
      by_cases h5 : y % 400 = 0
      · have k5 : (((y : Int) % 400) == 0) = true := by simp; omega
        have hb : B = true := by rw [← HB.out]; simp [leapD, h4, h1, h5]
        subst hb
        clear h4 h1 h5
        go_enter Tryd.func35, Tryd.ntmps35
        go_wp2_with fail
        go_ret
        exact ⟨rfl, rfl⟩
      · have k5 : (((y : Int) % 400) == 0) = false := by simp; omega
        have hb : B = false := by rw [← HB.out]; simp [leapD, h4, h1, h5]
        subst hb
        clear h4 h1 h5
        go_enter Tryd.func35, Tryd.ntmps35
        go_wp2_with fail
        go_ret
        exact ⟨rfl, rfl⟩
    · have k1 : (((y : Int) % 100) != 0) = true := by simp; omega
      have hb : B = true := by rw [← HB.out]; simp [leapD, h4, h1]
      subst hb
      clear h4 h1
      go_enter Tryd.func35, Tryd.ntmps35
      go_wp2_with fail
      go_ret
      exact ⟨rfl, rfl⟩
  · have k4 : (((y : Int) % 4) == 0) = false := by simp; omega
    have h5 : ¬ y % 400 = 0 := by omega
    have k5 : (((y : Int) % 400) == 0) = false := by simp; omega
    have hb : B = false := by rw [← HB.out]; simp [leapD, h4, h5]
    subst hb
    clear h4 h5
    go_enter Tryd.func35, Tryd.ntmps35
    go_wp2_with fail
    go_ret
    exact ⟨rfl, rfl⟩
set_option maxRecDepth 100000 in
set_option maxHeartbeats 1000000 in
/-- longYears. -/
theorem longYears_any (y : Nat) (h1 : 1 ≤ y) (hy : y ≤ 99999) (w : World) : Calls Tryd.prog 31 #[.int .i64 (y : Int)] w fun e w' => e = .returned (.int .i64 (((y - 1) / 4 - (y - 1) / 100 + (y - 1) / 400 : Nat) : Int)) ∧ w' = w := by
  obtain ⟨k, rfl⟩ : ∃ k, y = k + 1 := ⟨y - 1, by omega⟩
  go_enter Tryd.func31, Tryd.ntmps31
  go_wp2_with fail
  go_ret
  refine ⟨?_, rfl⟩
  have e : (((k + 1 - 1) / 4 - (k + 1 - 1) / 100 + (k + 1 - 1) / 400 : Nat) : Int) = (k : Int) / 4 - (k : Int) / 100 + (k : Int) / 400 := by omega
  rw [e]
  rfl
set_option maxRecDepth 100000 in
set_option maxHeartbeats 1000000 in
/-- withCentury. -/
theorem withCentury_any (d : Nat) (hd : d ≤ 99) (w : World) : Calls Tryd.prog 29 #[.int .i64 (d : Int)] w fun e w' => e = .returned (.int .i64 ((if d < 50 then 2000 + d else 1900 + d : Nat) : Int)) ∧ w' = w := by
  by_cases q : d < 50
  · have qI : (2000 : Int) + (d : Int) < 2050 := by omega
    rw [if_pos q]
    go_enter Tryd.func29, Tryd.ntmps29
    go_wp2_with fail
    go_ret
    exact ⟨by push_cast; rfl, rfl⟩
  · have qI : ¬ (2000 : Int) + (d : Int) < 2050 := by omega
    rw [if_neg q]
    go_enter Tryd.func29, Tryd.ntmps29
    go_wp2_with fail
    go_ret
    exact ⟨by push_cast; rfl, rfl⟩
set_option maxRecDepth 100000 in
set_option maxHeartbeats 1000000 in
/-- daysOf. -/
theorem daysOf_any (y m : Nat) (hy : y ≤ 99999) (h1 : 1 ≤ m) (h2 : m ≤ 12) (w : World) (hM : Md w) : Calls Tryd.prog 30 #[.int .i64 (y : Int), .int .i64 (m : Int)] w fun e w' => e = .returned (.int .i64 (monD y m : Int)) ∧ w' = w := by
  have HL := isLong_any y hy
  obtain ⟨k, rfl⟩ : ∃ k, m = k + 1 := ⟨m - 1, by omega⟩
  have hc := hM k (by omega)
  obtain ⟨D, hD⟩ : ∃ D, mdL.getD k 0 = D := ⟨_, rfl⟩
  have hD2 : 28 ≤ D ∧ D ≤ 31 := by
    rw [← hD]
    have : ∀ k, k < 12 → 28 ≤ mdL.getD k 0 ∧ mdL.getD k 0 ≤ 31 := by decide
    exact this k (by omega)
  rw [hD] at hc
  have HV : Hid ((monD y (k + 1) : Int) = D + (if k = 1 ∧ leapD y = true then 1 else 0)) := by
    show (monD y (k + 1) : Int) = _
    unfold monD
    rw [Nat.add_sub_cancel, hD]
    by_cases hh : k + 1 = 2 ∧ leapD y = true
    · rw [if_pos hh, if_pos ⟨by omega, hh.2⟩]
      omega
    · rw [if_neg hh, if_neg (by intro h; exact hh ⟨by omega, h.2⟩)]
      omega
  obtain ⟨V, hV⟩ : ∃ V : Nat, monD y (k + 1) = V := ⟨_, rfl⟩
  rw [hV] at HV ⊢
  clear hD hV
  obtain ⟨hD3, hD4⟩ := hD2
  by_cases q : k = 1
  · have qI : ((k : Int) + 1 == 2) = true := by simp; omega
    cases hlp : leapD y with
    | true =>
      rw [hlp] at HL HV
      have hv : (V : Int) = D + 1 := by rw [HV.out, if_pos ⟨q, rfl⟩]
      clear HV q
      go_enter Tryd.func30, Tryd.ntmps30
      go_wp2_with (go_at_call 35; refine (HL _).mono ?_; rintro e w1 ⟨rfl, rfl⟩)
      go_ret
      exact ⟨by rw [hv]; rfl, rfl⟩
    | false =>
      rw [hlp] at HL HV
      have hv : (V : Int) = D := by rw [HV.out, if_neg (by simp)]; omega
      clear HV q
      go_enter Tryd.func30, Tryd.ntmps30
      go_wp2_with (go_at_call 35; refine (HL _).mono ?_; rintro e w1 ⟨rfl, rfl⟩)
      go_ret
      exact ⟨by rw [hv]; rfl, rfl⟩
  · have qI : ((k : Int) + 1 == 2) = false := by simp; omega
    have hv : (V : Int) = D := by rw [HV.out, if_neg (by intro h; exact q h.1)]; omega
    clear HV q
    go_enter Tryd.func30, Tryd.ntmps30
    go_wp2_with fail
    go_ret
    exact ⟨by rw [hv]; rfl, rfl⟩
/-- A number of digits. -/
def numGo : Nat → Bs → Option Nat
  | n, [] => some n
  | n, c :: xs => if c.toNat < 48 ∨ 57 < c.toNat then none else numGo (10 * n + (c.toNat - 48)) xs
theorem numGo_cons (n : Nat) (c : UInt8) (xs : Bs) : numGo n (c :: xs) = if c.toNat < 48 ∨ 57 < c.toNat then none else numGo (10 * n + (c.toNat - 48)) xs := rfl
/-- What numberOf answers. -/
def numV : Option Nat → Value
  | some n => .tuple #[.int .i64 (n : Int), .bool true]
  | none => .tuple #[.int .i64 0, .bool false]
set_option maxRecDepth 100000 in
set_option maxHeartbeats 4000000 in
/-- numberOf. -/
theorem numberOf_any (p : Option Addr) (n c : Nat) (bs : Bs) (w : World) (hl : bs.length = n) (hn : n ≤ 4) (h : BAt w p n bs) :
    Calls Tryd.prog 28 #[.slice p n c] w fun e w' => e = .returned (numV (numGo 0 bs)) ∧ w' = w := by
  obtain ⟨R, hR⟩ : ∃ R, numGo 0 bs = R := ⟨_, rfl⟩
  rw [hR]
  have HV : Hid (BAt w p n bs ∧ bs.length = n ∧ numGo 0 bs = R) := ⟨h, hl, hR⟩
  clear h hl hR
  go_enter Tryd.func28, Tryd.ntmps28
  go_wp2_with fail
  go_loopw [4, 9] (fun v4 v9 wr => ∃ j N : Nat, j ≤ n ∧ v9 = .int .i64 (j : Int) ∧ v4 = .int .i64 (N : Int) ∧ N < 10 ^ j ∧ numGo N (bs.drop j) = R ∧ wr = w) (fun _ v9 _ => n - (intOf v9).toNat)
  case atStart => exact ⟨0, 0, by omega, rfl, rfl, by decide, by simpa using HV.out.2.2, rfl⟩
  case round =>
    obtain ⟨j, N, hj, rfl, rfl, hN, hRj, rfl⟩ := hrel
    have HR : Hid (numGo N (bs.drop j) = R ∧ N < 10 ^ j) := ⟨hRj, hN⟩
    have hNb : N ≤ 10000 := Nat.le_of_lt (Nat.lt_of_lt_of_le hN (Nat.le_trans (Nat.pow_le_pow_right (by decide) (show j ≤ 4 by omega)) (by decide)))
    clear hRj hN
    rcases Nat.lt_or_eq_of_le hj with hj | rfl
    rotate_left
    · have hRs : R = some N := by rw [← HR.out.1, List.drop_of_length_le (by rw [HV.out.2.1]; exact Nat.le_refl _)]; rfl
      have HRs : Hid (R = some N) := hRs
      clear hRs
      go_wp2_with fail
      go_ret2
      exact ⟨by rw [HRs.out]; rfl, rfl⟩
    obtain ⟨b, o, rfl, hcl⟩ := HV.out.1 (by omega)
    have hjI : (j : Int) < (n : Int) := by omega
    have hj0 : (0 : Int) ≤ (j : Int) := by omega
    have c0 := hcl j (by omega)
    obtain ⟨y, hy⟩ : ∃ y, bs.getD j 0 = y := ⟨_, rfl⟩
    have hyl := y.toNat_lt
    have hdr : bs.drop j = y :: bs.drop (j + 1) := by
      have hjl : j < bs.length := by rw [HV.out.2.1]; omega
      rw [List.drop_eq_getElem_cons hjl]
      congr 1
      rw [← hy]
      simp [List.getD, hjl]
    rw [hy] at c0
    obtain ⟨Y, hY⟩ : ∃ Y, y.toNat = Y := ⟨_, rfl⟩
    rw [hY] at c0 hyl
    have HR2 : Hid (R = if Y < 48 ∨ 57 < Y then none else numGo (10 * N + (Y - 48)) (bs.drop (j + 1))) := by
      show R = _
      rw [← HR.out.1, hdr, numGo_cons, hY]
    clear hY hdr hy hcl
    by_cases q1 : Y < 48
    · have q1I : (Y : Int) < 48 := by omega
      have HRs : Hid (R = none) := by show R = none; rw [HR2.out, if_pos (.inl q1)]
      go_wp2_with fail
      go_ret2
      exact ⟨by rw [HRs.out]; rfl, rfl⟩
    have q1I : ¬ (Y : Int) < 48 := by omega
    by_cases q2 : 57 < Y
    · have q2I : (57 : Int) < (Y : Int) := by omega
      have HRs : Hid (R = none) := by show R = none; rw [HR2.out, if_pos (.inr q2)]
      go_wp2_with fail
      go_ret2
      exact ⟨by rw [HRs.out]; rfl, rfl⟩
    have q2I : ¬ (57 : Int) < (Y : Int) := by omega
    have HRs : Hid (numGo (10 * N + (Y - 48)) (bs.drop (j + 1)) = R ∧ 10 * N + (Y - 48) < 10 ^ (j + 1)) := ⟨by rw [HR2.out, if_neg (by omega)], by have := HR.out.2; rw [Nat.pow_succ]; omega⟩
    go_wp2_with fail
    exact ⟨⟨j + 1, 10 * N + (Y - 48), by omega, by push_cast; rfl, by congr 1; omega, HRs.out.2, HRs.out.1, trivial⟩, by simp only [intOf]; omega⟩
end Go.Proofs.YtnckmcmobkpdcaaDoor
/-
  Plain mathematics of numbers written as digits, the least first: values, the place of the greatest digit that isn't 0, uniqueness. No program in sight.
-/
namespace Go.Proofs.YtnckmcmobkpdcaaDoor
open Go.RowKit
set_option linter.unusedVariables false

/-- The number that digits say, in base B, the least first. -/
def val (B : Int) : List Int → Int
  | [] => 0
  | x :: xs => x + B * val B xs

/-- How many digits there are up to the greatest that isn't 0. -/
def top : List Int → Nat
  | [] => 0
  | x :: xs => if top xs = 0 then (if x = 0 then 0 else 1) else top xs + 1

/-- Each is a digit of base B. -/
def Dg (B : Int) (xs : List Int) : Prop := ∀ x ∈ xs, 0 ≤ x ∧ x < B

theorem top_le (xs : List Int) : top xs ≤ xs.length := by
  induction xs with
  | nil => simp [top]
  | cons x xs ih => simp only [top, List.length_cons]; split <;> (try split) <;> omega

theorem top_above : ∀ (xs : List Int) (j : Nat), top xs ≤ j → xs.getD j 0 = 0
  | [], j, _ => by simp
  | x :: xs, j, h => by
    simp only [top] at h
    split at h
    · rename_i h0
      split at h
      · rename_i hx
        cases j with
        | zero => simpa using hx
        | succ j => simpa using top_above xs j (by omega)
      · cases j with
        | zero => omega
        | succ j => simpa using top_above xs j (by omega)
    · cases j with
      | zero => omega
      | succ j => simpa using top_above xs j (by omega)

theorem top_hit : ∀ (xs : List Int) (h : 0 < top xs), xs.getD (top xs - 1) 0 ≠ 0
  | [], h => by simp [top] at h
  | x :: xs, h => by
    simp only [top] at h ⊢
    split
    · rename_i h0
      rw [if_pos h0] at h
      split
      · rename_i hx; rw [if_pos hx] at h; omega
      · simpa
    · rename_i h0
      have := top_hit xs (by omega)
      obtain ⟨m, hm⟩ : ∃ m, top xs = m + 1 := ⟨top xs - 1, by omega⟩
      rw [hm] at this ⊢
      simpa using this

/-- The place is told by what stands there and above. -/
theorem top_eq (xs : List Int) (n : Nat) (h1 : ∀ j, n ≤ j → j < xs.length → xs.getD j 0 = 0) (h2 : n = 0 ∨ xs.getD (n - 1) 0 ≠ 0) : top xs = n := by
  rcases Nat.lt_trichotomy (top xs) n with h | h | h
  · rcases h2 with h2 | h2
    · omega
    · exact absurd (top_above xs (n - 1) (by omega)) h2
  · exact h
  · have hl := top_le xs
    exact absurd (h1 (top xs - 1) (by omega) (by omega)) (top_hit xs (by omega))

theorem val_nil (B : Int) : val B [] = 0 := rfl
theorem val_cons (B x : Int) (xs : List Int) : val B (x :: xs) = x + B * val B xs := rfl
theorem val_append (B : Int) (xs ys : List Int) : val B (xs ++ ys) = val B xs + B ^ xs.length * val B ys := by
  induction xs with
  | nil => simp [val]
  | cons x xs ih => simp only [List.cons_append, val, ih, List.length_cons, Int.pow_succ]; grind
theorem val_zeros (B : Int) : ∀ (xs : List Int), (∀ j, xs.getD j 0 = 0) → val B xs = 0
  | [], _ => rfl
  | x :: xs, h => by
    have h0 := h 0
    simp at h0
    rw [val, h0, val_zeros B xs (fun j => by simpa using h (j + 1))]
    simp
theorem val_replicate (B : Int) (n : Nat) : val B (List.replicate n 0) = 0 := val_zeros B _ (fun j => by simp [List.getD, List.getElem?_replicate]; split <;> rfl)
theorem val_take_top (B : Int) (xs : List Int) : val B (xs.take (top xs)) = val B xs := by
  have h : val B (xs.drop (top xs)) = 0 := val_zeros B _ (fun j => by
    have := top_above xs (top xs + j) (by omega)
    simpa [List.getD, List.getElem?_drop] using this)
  have h2 := val_append B (xs.take (top xs)) (xs.drop (top xs))
  rw [List.take_append_drop, h] at h2
  rw [h2]; simp
theorem top_take_top (xs : List Int) : top (xs.take (top xs)) = (xs.take (top xs)).length := by
  have hl := top_le xs
  have hlen : (xs.take (top xs)).length = top xs := by simp; omega
  rw [hlen]
  refine top_eq _ _ (fun j h1 h2 => by omega) ?_
  by_cases h : top xs = 0
  · exact .inl h
  · right
    have := top_hit xs (by omega)
    simp only [List.getD, List.getElem?_take] at this ⊢
    rw [if_pos (by omega)]
    exact this

theorem Dg.nil (B : Int) : Dg B [] := fun x h => by simp at h
theorem Dg.cons {B x : Int} {xs : List Int} (h : 0 ≤ x ∧ x < B) (t : Dg B xs) : Dg B (x :: xs) := fun y hy => by
  rcases List.mem_cons.1 hy with rfl | hy
  · exact h
  · exact t y hy
theorem Dg.head {B x : Int} {xs : List Int} (h : Dg B (x :: xs)) : 0 ≤ x ∧ x < B := h x (by simp)
theorem Dg.tail {B x : Int} {xs : List Int} (h : Dg B (x :: xs)) : Dg B xs := fun y hy => h y (by simp [hy])
theorem Dg.append {B : Int} {xs ys : List Int} (h : Dg B xs) (k : Dg B ys) : Dg B (xs ++ ys) := fun y hy => by
  rcases List.mem_append.1 hy with hy | hy
  · exact h y hy
  · exact k y hy
theorem Dg.take {B : Int} {xs : List Int} (h : Dg B xs) (n : Nat) : Dg B (xs.take n) := fun y hy => h y (List.mem_of_mem_take hy)
theorem Dg.drop {B : Int} {xs : List Int} (h : Dg B xs) (n : Nat) : Dg B (xs.drop n) := fun y hy => h y (List.mem_of_mem_drop hy)
theorem Dg.set {B : Int} {xs : List Int} (h : Dg B xs) (n : Nat) {y : Int} (hy : 0 ≤ y ∧ y < B) : Dg B (xs.set n y) := fun z hz => by
  rcases List.mem_or_eq_of_mem_set hz with hz | rfl
  · exact h z hz
  · exact hy
theorem Dg.zeros {B : Int} (hB : 0 < B) (n : Nat) : Dg B (List.replicate n 0) := fun y hy => by
  rw [List.eq_of_mem_replicate hy]; omega
theorem Dg.getD {B : Int} {xs : List Int} (hB : 0 < B) (h : Dg B xs) (i : Nat) : 0 ≤ xs.getD i 0 ∧ xs.getD i 0 < B := by
  by_cases hi : i < xs.length
  · have : xs.getD i 0 = xs[i] := by simp [List.getD, hi]
    rw [this]; exact h _ (List.getElem_mem hi)
  · have : xs.getD i 0 = 0 := by simp [List.getD, List.getElem?_eq_none (by omega : xs.length ≤ i)]
    rw [this]; omega

theorem val_nonneg {B : Int} (hB : 0 < B) : ∀ {xs : List Int}, Dg B xs → 0 ≤ val B xs
  | [], _ => by simp [val]
  | x :: xs, h => by
    have h1 := h.head
    have h2 := val_nonneg hB h.tail
    have h3 : 0 ≤ B * val B xs := Int.mul_nonneg (by omega) h2
    rw [val]; omega
theorem val_lt {B : Int} (hB : 0 < B) : ∀ {xs : List Int}, Dg B xs → val B xs < B ^ xs.length
  | [], _ => by simp [val]
  | x :: xs, h => by
    have h1 := h.head
    have h2 := val_lt hB h.tail
    have h3 : B * (val B xs + 1) ≤ B * B ^ xs.length := Int.mul_le_mul_of_nonneg_left (by omega) (by omega)
    rw [val, List.length_cons, Int.pow_succ, Int.mul_comm (B ^ xs.length) B]
    rw [Int.mul_add] at h3
    omega

/-- Two digits' lists of one length that say one number are one. -/
theorem val_inj {B : Int} (hB : 0 < B) : ∀ {xs ys : List Int}, xs.length = ys.length → Dg B xs → Dg B ys → val B xs = val B ys → xs = ys
  | [], [], _, _, _, _ => rfl
  | [], y :: ys, h, _, _, _ => by simp at h
  | x :: xs, [], h, _, _, _ => by simp at h
  | x :: xs, y :: ys, hl, hx, hy, hv => by
    rw [val, val] at hv
    have h1 := hx.head
    have h2 := hy.head
    have e1 : x = y := by
      have a : (x + B * val B xs) % B = x := by rw [Int.add_mul_emod_self_left]; exact Int.emod_eq_of_lt h1.1 h1.2
      have b : (y + B * val B ys) % B = y := by rw [Int.add_mul_emod_self_left]; exact Int.emod_eq_of_lt h2.1 h2.2
      rw [← a, hv, b]
    have e2 : val B xs = val B ys := by
      have : B * val B xs = B * val B ys := by omega
      exact Int.eq_of_mul_eq_mul_left (by omega) this
    rw [e1, val_inj hB (by simpa using hl) hx.tail hy.tail e2]

/-- Digits without zeros above the greatest say a number that fills them. -/
theorem val_ge {B : Int} (hB : 0 < B) {xs : List Int} (hd : Dg B xs) (n : Nat) (h : top xs = n + 1) : B ^ n ≤ val B xs := by
  have h0 := val_take_top B xs
  have hl := top_le xs
  have ht := top_hit xs (by omega)
  rw [h] at h0 ht
  have e : xs.take (n + 1) = xs.take n ++ [xs.getD n 0] := by
    rw [List.take_succ_eq_append_getElem (by omega)]
    congr 2
    simp [List.getD, List.getElem?_eq_getElem (show n < xs.length by omega)]
  rw [e, val_append] at h0
  have hn : (xs.take n).length = n := by simp; omega
  have hg := hd.getD hB n
  have hv := val_nonneg hB (hd.take n)
  rw [← h0, hn]
  simp only [Nat.add_sub_cancel] at ht
  have hp : 0 < B ^ n := Int.pow_pos hB
  have : B ^ n * 1 ≤ B ^ n * val B [xs.getD n 0] := Int.mul_le_mul_of_nonneg_left (by simp only [val]; omega) (by omega)
  omega

theorem pow_mono {B : Int} (hB : 1 ≤ B) {m n : Nat} (h : m ≤ n) : B ^ m ≤ B ^ n := by
  obtain ⟨k, rfl⟩ := Nat.le.dest h
  rw [Int.pow_add]
  have h1 : 0 < B ^ m := Int.pow_pos (by omega)
  have h2 : 0 < B ^ k := Int.pow_pos (by omega)
  have := Int.mul_le_mul_of_nonneg_left (show 1 ≤ B ^ k by omega) (show 0 ≤ B ^ m by omega)
  omega

/-- How many digits a number fills is told by the number. -/
theorem top_mono {B : Int} (hB : 1 < B) {xs ys : List Int} (hx : Dg B xs) (hy : Dg B ys) (h : val B xs ≤ val B ys) : top xs ≤ top ys := by
  by_cases h1 : top xs ≤ top ys
  · exact h1
  · exfalso
    obtain ⟨n, hn⟩ : ∃ n, top xs = n + 1 := ⟨top xs - 1, by omega⟩
    have a := val_ge (by omega) hx n hn
    have b := val_lt (by omega) (hy.take (top ys))
    rw [val_take_top] at b
    have hl := top_le ys
    have c : (ys.take (top ys)).length = top ys := by simp; omega
    rw [c] at b
    have d := pow_mono (B := B) (by omega) (show top ys ≤ n by omega)
    omega

/-- No zeros above the greatest digit. -/
def Canon (xs : List Int) : Prop := top xs = xs.length
theorem Canon.nil : Canon [] := rfl
theorem canon_take_top (xs : List Int) : Canon (xs.take (top xs)) := top_take_top xs

/-- One number has one form. -/
theorem canon_inj {B : Int} (hB : 1 < B) {xs ys : List Int} (hx : Dg B xs) (hy : Dg B ys) (cx : Canon xs) (cy : Canon ys) (h : val B xs = val B ys) : xs = ys := by
  have a := top_mono hB hx hy (by omega)
  have b := top_mono hB hy hx (by omega)
  unfold Canon at cx cy
  exact val_inj (by omega) (by omega) hx hy h

/-! ### Numbers in memory -/
/-- The slice at that address, of that length, holds the numbers xs (of that kind). -/
def Lies (k : IntKind) (w : World) (ao : Option Addr) (len : Nat) (xs : List Int) : Prop :=
  xs.length = len ∧ (len = 0 ∨ ∃ b off, ao = some ⟨b, off, none⟩ ∧ b < w.heap.size ∧ ∀ i, i < len → w.cell? ⟨b, off + i, none⟩ = some (.int k (xs.getD i 0)))

theorem Lies.len {k : IntKind} {w : World} {ao : Option Addr} {len : Nat} {xs : List Int} (h : Lies k w ao len xs) : xs.length = len := h.1
theorem Lies.at {k : IntKind} {w : World} {ao : Option Addr} {len : Nat} {xs : List Int} (h : Lies k w ao len xs) (hl : 0 < len) :
    ∃ b off, ao = some ⟨b, off, none⟩ ∧ b < w.heap.size ∧ ∀ i, i < len → w.cell? ⟨b, off + i, none⟩ = some (.int k (xs.getD i 0)) := by
  rcases h.2 with h | h
  · omega
  · exact h
theorem Lies.below {k : IntKind} {w w' : World} {ao : Option Addr} {len : Nat} {xs : List Int} (h : Lies k w ao len xs) {B : Nat} (hb : Below B w w') (hB : ∀ b off s, ao = some ⟨b, off, s⟩ → b < w.heap.size → b < B) : Lies k w' ao len xs := by
  refine ⟨h.1, ?_⟩
  rcases h.2 with h0 | ⟨b, off, e, hlt, hc⟩
  · exact .inl h0
  · exact .inr ⟨b, off, e, Nat.lt_of_lt_of_le hlt hb.size, fun i hi => (hb.cell (p := ⟨b, off + i, none⟩) (hB b off none e hlt)).trans (hc i hi)⟩
theorem Lies.old {k : IntKind} {w w' : World} {ao : Option Addr} {len : Nat} {xs : List Int} (h : Lies k w ao len xs) (hb : Below w.heap.size w w') : Lies k w' ao len xs :=
  h.below hb fun _ _ _ _ h => h
theorem Lies.take {k : IntKind} {w : World} {ao : Option Addr} {len : Nat} {xs : List Int} (h : Lies k w ao len xs) (n : Nat) (hn : n ≤ len) : Lies k w ao n (xs.take n) := by
  refine ⟨by rw [List.length_take, h.1]; omega, ?_⟩
  rcases h.2 with h0 | ⟨b, off, e, hlt, hc⟩
  · exact .inl (by omega)
  · refine .inr ⟨b, off, e, hlt, fun i hi => ?_⟩
    rw [hc i (by omega)]
    simp only [List.getD, List.getElem?_take]
    rw [if_pos hi]
theorem Lies.empty (k : IntKind) (w : World) (ao : Option Addr) : Lies k w ao 0 [] := ⟨rfl, .inl rfl⟩

end Go.Proofs.YtnckmcmobkpdcaaDoor
/-
  Contracts of nat's small functions: limbs, trim, limb.
-/
namespace Go.Proofs.YtnckmcmobkpdcaaDoor
open Go.RowKit
set_option linter.unusedVariables false

theorem ret_int {k : IntKind} {a b : Int} (h : a = b) : Ending.returned (.int k a) = .returned (.int k b) := by rw [h]

theorem ret_slice {ao : Option Addr} {a b c d : Nat} (h : a = b) (h' : c = d) : Ending.returned (.slice ao a c) = .returned (.slice ao b d) := by rw [h, h']

set_option maxHeartbeats 400000 in
/-- nat.limbs. -/
theorem limbs_any (ao : Option Addr) (len cap : Nat) (xs : List Int) (w : World) (h : Lies .u64 w ao len xs) (hm : len ≤ maxLen) :
    Calls Tryd.prog 37 #[.slice ao len cap] w fun e w' => e = .returned (.int .i64 (top xs)) ∧ w' = w := by
  have hl := h.len
  unfold maxLen at hm
  go_enter Tryd.func37, Tryd.ntmps37
  go_wp2
  go_loop [7] (fun i => ∃ k : Nat, k ≤ len ∧ i = .int .i64 k ∧ ∀ j, len - k ≤ j → j < len → xs.getD j 0 = 0) (fun i => len - (intOf i).toNat)
  case atStart => exact ⟨0, Nat.zero_le _, rfl, fun j h1 h2 => by omega⟩
  case round =>
    obtain ⟨k, hk, rfl, hz⟩ := hrel
    by_cases hlt : k < len
    · obtain ⟨b, off, rfl, hb, hc⟩ := h.at (by omega)
      have hcell := hc (len - k - 1) (by omega)
      go_wp2
      · have hne : (xs[len - k - 1]?.getD 0 != 0) = true := by assumption
        go_ret
        refine ⟨ret_int ?_, rfl⟩
        rw [top_eq xs (len - k) (fun j h1 h2 => hz j h1 (by omega)) (.inr (by simpa [List.getD] using hne))]
        omega
      · have hne : (xs[len - k - 1]?.getD 0 != 0) = false := by assumption
        go_round
        case rel =>
          refine ⟨k + 1, by omega, by go_num, fun j h1 h2 => ?_⟩
          by_cases hj : j = len - k - 1
          · subst hj; simpa [List.getD] using hne
          · exact hz j (by omega) h2
        case measure => simp [intOf]; omega
    · go_wp2
      go_ret
      refine ⟨ret_int ?_, rfl⟩
      rw [top_eq xs 0 (fun j h1 h2 => hz j (by omega) (by omega)) (.inl rfl)]
      rfl

set_option maxHeartbeats 400000 in
/-- nat.trim. -/
theorem trim_any (ao : Option Addr) (len cap : Nat) (xs : List Int) (w : World) (h : Lies .u64 w ao len xs) (hlc : len ≤ cap) (hm : cap ≤ maxLen) (hn : ao = none → cap = 0) :
    Calls Tryd.prog 34 #[.slice ao len cap] w fun e w' => e = .returned (.slice ao (top xs) cap) ∧ w' = w := by
  have hl := h.len
  have ht := top_le xs
  have hm' := hm
  unfold maxLen at hm
  go_enter Tryd.func34, Tryd.ntmps34
  go_wp2_with fail
  refine (limbs_any ao len cap xs w h (by unfold maxLen; omega)).mono ?_
  rintro e w' ⟨rfl, rfl⟩
  cases ao with
  | none =>
    obtain rfl := hn rfl
    obtain rfl : len = 0 := by omega
    have ht0 : top xs = 0 := by omega
    rw [ht0]
    go_wp2
    go_ret
    exact ⟨ret_slice (by omega) rfl, rfl⟩
  | some a =>
    go_wp2
    go_ret
    exact ⟨rfl, rfl⟩

end Go.Proofs.YtnckmcmobkpdcaaDoor
/-
  Contracts of math/bits and cmp as nat calls them: Len64, LeadingZeros64, Compare, Mul64, Add64, Sub64.
-/
namespace Go.Proofs.YtnckmcmobkpdcaaDoor
open Go.RowKit Go.Lib
set_option linter.unusedVariables false
set_option linter.unusedSimpArgs false

/-- -1, 0, 1: how a number stands to another one. -/
def cmpI (a b : Int) : Int := if a < b then -1 else if b < a then 1 else 0

/-- How many bits a number has. -/
def blen (n : Nat) : Nat := if n = 0 then 0 else n.log2 + 1
theorem blen_zero : blen 0 = 0 := rfl
theorem blen_lt (n : Nat) : n < 2 ^ blen n := by
  unfold blen
  split
  · subst n; decide
  · exact Nat.lt_log2_self
theorem blen_ge (n : Nat) (h : n ≠ 0) : 2 ^ (blen n - 1) ≤ n := by
  unfold blen
  rw [if_neg h]
  exact Nat.log2_self_le h
theorem blen_pos (n : Nat) (h : n ≠ 0) : 0 < blen n := by unfold blen; rw [if_neg h]; omega
theorem blen_eq (n k : Nat) (h1 : 2 ^ k ≤ n) (h2 : n < 2 ^ (k + 1)) : blen n = k + 1 := by
  have hn : n ≠ 0 := by have := Nat.two_pow_pos k; omega
  have a := blen_lt n
  have b := blen_ge n hn
  have c := blen_pos n hn
  have d : k < blen n := (Nat.pow_lt_pow_iff_right (by decide)).1 (Nat.lt_of_le_of_lt h1 a)
  have e : blen n - 1 < k + 1 := (Nat.pow_lt_pow_iff_right (by decide)).1 (Nat.lt_of_le_of_lt b h2)
  omega
theorem blen_le (n k : Nat) (h : n < 2 ^ k) : blen n ≤ k := by
  by_cases hn : n = 0
  · subst hn; simp [blen]
  · have b := blen_ge n hn
    have e : blen n - 1 < k := (Nat.pow_lt_pow_iff_right (by decide)).1 (Nat.lt_of_le_of_lt b h)
    omega
theorem blen_shift (n k : Nat) (h : 2 ^ k ≤ n) : blen n = k + blen (n / 2 ^ k) := by
  have hp := Nat.two_pow_pos k
  have hq : n / 2 ^ k ≠ 0 := by
    have := (Nat.le_div_iff_mul_le hp).2 (show 1 * 2 ^ k ≤ n by omega)
    omega
  have a := blen_lt (n / 2 ^ k)
  have b := blen_ge (n / 2 ^ k) hq
  have c := blen_pos (n / 2 ^ k) hq
  obtain ⟨m, hm⟩ : ∃ m, blen (n / 2 ^ k) = m + 1 := ⟨blen (n / 2 ^ k) - 1, by omega⟩
  rw [hm] at a b ⊢
  simp only [Nat.add_sub_cancel] at b
  have := blen_eq n (k + m) (by
    rw [Nat.pow_add, Nat.mul_comm]
    exact (Nat.le_div_iff_mul_le hp).1 b) (by
    rw [show k + m + 1 = (m + 1) + k by omega, Nat.pow_add]
    exact (Nat.div_lt_iff_lt_mul hp).1 a)
  omega

set_option maxRecDepth 100000 in
theorem tab_all : ∀ n : Fin 256, len8tab[n.val]? = some (UInt8.ofNat (blen n.val)) ∧ blen n.val ≤ 8 := by decide +kernel
set_option maxRecDepth 100000 in
theorem tab_size : (len8tab.size : Int) = 256 := by
  have : len8tab.size = 256 := by decide +kernel
  omega
/-- The table's byte and the count before it. -/
theorem tab_step (k : Nat) (y : Int) (x : Nat) (hs : y.toNat < len8tab.size) (h0 : 0 ≤ y) (h1 : y ≤ 255) (hy : y.toNat = x / 2 ^ k) (hk : k = 0 ∨ 2 ^ k ≤ x) (hk2 : k ≤ 56) :
    wrap64 ((k : Int) + wrap64 ((len8tab[y.toNat]'hs).toNat : Int)) = (blen x : Int) := by
  obtain ⟨a, b⟩ := tab_all ⟨y.toNat, by omega⟩
  simp only at a b
  rw [getElem?_pos len8tab y.toNat hs] at a
  injection a with a
  rw [a]
  have e : (UInt8.ofNat (blen y.toNat)).toNat = blen y.toNat := by
    rw [UInt8.toNat_ofNat']; omega
  rw [e]
  have f : blen x = k + blen y.toNat := by
    rcases hk with rfl | hk
    · rw [hy]; simp
    · rw [hy]; exact blen_shift x k hk
  rw [f]
  unfold wrap64
  omega

/-! ### Add64, Sub64, which run at once -/
/-- What Sub64 borrows. -/
def bor (x y : Int) : Int := if x < y then 1 else 0
theorem bor_01 (x y : Int) : 0 ≤ bor x y ∧ bor x y ≤ 1 := by unfold bor; split <;> omega
end Go.Proofs.YtnckmcmobkpdcaaDoor
/-
  Contracts of math/bits.Mul64 and nat.mulAdd.
-/
namespace Go.Proofs.YtnckmcmobkpdcaaDoor
open Go.RowKit Go.Lib
set_option linter.unusedVariables false
set_option linter.unusedSimpArgs false

theorem low_half (a : Nat) (ha : a < 18446744073709551616) : bits .and .u64 (a : Int) 4294967295 = ((a % 4294967296 : Nat) : Int) := by
  have h := bits_and_u64_nat a 4294967295 ha (by omega)
  rw [show a &&& 4294967295 = a % 4294967296 from Nat.and_two_pow_sub_one_eq_mod a 32] at h
  exact h
theorem cast_div32 (a : Nat) : (a : Int) / 4294967296 = ((a / 4294967296 : Nat) : Int) := by omega
theorem cast_mul (a b : Nat) : (a : Int) * (b : Int) = ((a * b : Nat) : Int) := (Int.natCast_mul a b).symm
theorem cast_add (a b : Nat) : (a : Int) + (b : Int) = ((a + b : Nat) : Int) := (Int.natCast_add a b).symm
theorem wrap_fit (a : Nat) (ha : a < 18446744073709551616) : IntKind.u64.wrap (a : Int) = (a : Int) := by rw [IntKind.wrap_u64]; omega
theorem wrap_mod (a : Nat) : IntKind.u64.wrap (a : Int) = ((a % 18446744073709551616 : Nat) : Int) := by rw [IntKind.wrap_u64]; omega

theorem ret_two {k l : IntKind} {a b c d : Int} (h : a = b) (h' : c = d) : Ending.returned (.tuple #[.int k a, .int l c]) = .returned (.tuple #[.int k b, .int l d]) := by rw [h, h']

theorem prod_lt (a b more : Int) (ha0 : 0 ≤ a) (ha : a < 18446744073709551616) (hb0 : 0 ≤ b) (hb : b < 18446744073709551616) (hm : more < 18446744073709551616) :
    a * b + more < 18446744073709551616 * 18446744073709551616 - 18446744073709551616 + 1 := by
  have h1 : a * b ≤ 18446744073709551615 * 18446744073709551615 := Int.mul_le_mul (by omega) (by omega) hb0 (by omega)
  omega

/-! ### A row of the program's own memory -/
/-- Block g is a row of numbers that may be written. -/
def Row (e : TypeId) (k : IntKind) (w : World) (g : Nat) (xs : List Int) : Prop := w.heap[g]? = some (.cells ((xs.map (Value.int k)).toArray) e (0, 0))
theorem Row.lt {e : TypeId} {k : IntKind} {w : World} {g : Nat} {xs : List Int} (h : Row e k w g xs) : g < w.heap.size := by
  unfold Row at h
  exact (Array.getElem?_eq_some_iff.1 h).1
theorem Row.cell {e : TypeId} {k : IntKind} {w : World} {g : Nat} {xs : List Int} (h : Row e k w g xs) (j : Nat) (hj : j < xs.length) : w.cell? ⟨g, j, none⟩ = some (.int k (xs.getD j 0)) := by
  rw [cell_of_row w g j _ e (0, 0) h]
  simp [hj]
theorem Row.frozen {e : TypeId} {k : IntKind} {w : World} {g : Nat} {xs : List Int} (h : Row e k w g xs) (j : Nat) : w.frozen? ⟨g, j, none⟩ = false := frozen_of_row w g j _ e h
theorem Row.set {e : TypeId} {k : IntKind} {w : World} {g : Nat} {xs : List Int} (h : Row e k w g xs) (j : Nat) (y : Int) : Row e k (w.setCell ⟨g, j, none⟩ (.int k y)) g (xs.set j y) := by
  unfold Row
  rw [heap_setCell_same w g j _ e _ h]
  simp [List.map_set]
theorem Row.kept {e : TypeId} {k : IntKind} {w w' : World} {g : Nat} {xs : List Int} (h : Row e k w g xs) {row : Option Nat} (hg : w.grownBy w' row) (hne : some g ≠ row) : Row e k w' g xs := by
  unfold Row
  rw [hg.block g h.lt hne]; exact h
theorem Row.below {e : TypeId} {k : IntKind} {w w' : World} {g : Nat} {xs : List Int} (h : Row e k w g xs) {B : Nat} (hg : Below B w w') (hne : g < B) : Row e k w' g xs := by
  unfold Row
  rw [hg.block g hne]; exact h
theorem Row.lies {e : TypeId} {k : IntKind} {w : World} {g : Nat} {xs : List Int} (h : Row e k w g xs) (off len : Nat) (hl : off + len ≤ xs.length) : Lies k w (some ⟨g, off, none⟩) len ((xs.drop off).take len) := by
  refine ⟨by simp; omega, .inr ⟨g, off, rfl, h.lt, fun i hi => ?_⟩⟩
  rw [h.cell (off + i) (by omega)]
  simp only [List.getD, List.getElem?_take, List.getElem?_drop]
  rw [if_pos hi]
theorem grown_set (w : World) (g j : Nat) (u : Value) : w.grownBy (w.setCell ⟨g, j, none⟩ u) (some g) :=
  ⟨rfl, rfl, rfl, by simp, fun k _ hk => heap_setCell_other w ⟨g, j, none⟩ k u (fun e => hk (by simp [e]))⟩
theorem grown_trans {a b c : World} {row : Option Nat} (h : a.grownBy b row) (k : b.grownBy c row) : a.grownBy c row :=
  ⟨k.os.trans h.os, k.tape.trans h.tape, k.output.trans h.output, Nat.le_trans h.size k.size, fun i hi hne => (k.block i (Nat.lt_of_lt_of_le hi h.size) hne).trans (h.block i hi hne)⟩
theorem Lies.kept {k : IntKind} {w w' : World} {ao : Option Addr} {len : Nat} {xs : List Int} (h : Lies k w ao len xs) {row : Option Nat} (hg : w.grownBy w' row) (hne : ∀ b off s, ao = some ⟨b, off, s⟩ → some b ≠ row) : Lies k w' ao len xs := by
  refine ⟨h.1, ?_⟩
  rcases h.2 with h0 | ⟨b, off, e, hlt, hc⟩
  · exact .inl h0
  · exact .inr ⟨b, off, e, Nat.lt_of_lt_of_le hlt hg.size, fun i hi => hg.cell (hc i hi) (hne b off none e)⟩
end Go.Proofs.YtnckmcmobkpdcaaDoor
/-
  Times: a year, the seconds.
-/
namespace Go.Proofs.YtnckmcmobkpdcaaDoor
open Go.Shelf Go.RowKit
set_option linter.unusedVariables false
set_option linter.unusedSimpArgs false

/-- A moment is one. -/
def existB (y m d h mi s : Nat) : Bool := decide (1 ≤ m ∧ m ≤ 12 ∧ 1 ≤ d ∧ d ≤ monD y m ∧ h < 24 ∧ mi < 60 ∧ s < 60)
/-- Years with a 29th of February ahead of one. -/
def lyD (y : Nat) : Nat := (y - 1) / 4 - (y - 1) / 100 + (y - 1) / 400
/-- The days of so many months. -/
def monsD (y : Nat) : Nat → Nat
  | 0 => 0
  | k + 1 => monsD y k + monD y (k + 1)
/-- A moment's seconds. -/
def secsD (y m d h mi s : Nat) : Nat := (((365 * (y - 1970) + lyD y - 477 + monsD y (m - 1) + (d - 1)) * 24 + h) * 60 + mi) * 60 + s
theorem monD_le (y m : Nat) : monD y m ≤ 32 := by
  unfold monD
  have h1 : ∀ k, k < 12 → (mdL.getD k 0).toNat ≤ 31 := by decide
  have h2 : (mdL.getD (m - 1) 0).toNat ≤ 31 := by
    by_cases h : m - 1 < 12
    · exact h1 _ h
    · simp only [List.getD]
      rw [List.getElem?_eq_none (by simp [mdL]; omega)]
      decide
  split <;> omega
theorem monsD_le (y : Nat) : ∀ k, monsD y k ≤ 32 * k
  | 0 => Nat.le_refl _
  | k + 1 => by
    have := monsD_le y k
    have := monD_le y (k + 1)
    simp only [monsD]
    omega
theorem row_moment (w : World) (y m d h mi s : Nat) : Row 56 .i64 (w.alloc (.cells #[.int .i64 (y : Int), .int .i64 (m : Int), .int .i64 (d : Int), .int .i64 (h : Int), .int .i64 (mi : Int), .int .i64 (s : Int)] 56)) w.heap.size [(y : Int), (m : Int), (d : Int), (h : Int), (mi : Int), (s : Int)] := heap_alloc_new w _
set_option maxRecDepth 100000 in
set_option maxHeartbeats 4000000 in
/-- exists. -/
theorem exists_any (y m d h mi s : Nat) (hy : y ≤ 99999) (hm : m ≤ 99999) (hd : d ≤ 99999) (hh : h ≤ 99999) (hmi : mi ≤ 99999) (hs : s ≤ 99999) (w : World) (hM : Md w) :
    Calls Tryd.prog 20 #[.agg #[.int .i64 (y : Int), .int .i64 (m : Int), .int .i64 (d : Int), .int .i64 (h : Int), .int .i64 (mi : Int), .int .i64 (s : Int)]] w fun e w' => e = .returned (.bool (existB y m d h mi s)) ∧ Below w.heap.size w w' := by
  obtain ⟨B, hB⟩ : ∃ B, existB y m d h mi s = B := ⟨_, rfl⟩
  rw [hB]
  have HB : Hid (existB y m d h mi s = B) := hB
  have R1 := row_moment w y m d h mi s
  have b1 : Below w.heap.size w (w.alloc (.cells #[.int .i64 (y : Int), .int .i64 (m : Int), .int .i64 (d : Int), .int .i64 (h : Int), .int .i64 (mi : Int), .int .i64 (s : Int)] 56)) := (Below.refl _ _).alloc (Nat.le_refl _) _
  generalize hW1 : w.alloc (.cells #[.int .i64 (y : Int), .int .i64 (m : Int), .int .i64 (d : Int), .int .i64 (h : Int), .int .i64 (mi : Int), .int .i64 (s : Int)] 56) = W1 at R1 b1
  have c0 := R1.cell 0 (by simp)
  have c1 := R1.cell 1 (by simp)
  have c2 := R1.cell 2 (by simp)
  have c3 := R1.cell 3 (by simp)
  have c4 := R1.cell 4 (by simp)
  have c5 := R1.cell 5 (by simp)
  simp only [List.getD, List.getElem?_cons_zero, List.getElem?_cons_succ, Option.getD_some] at c0 c1 c2 c3 c4 c5
  have HW : Hid (Below w.heap.size w W1) := b1
  have hM1 := hM.below b1
  clear R1 b1 hB hM
  have HNO : Hid (¬ (1 ≤ m ∧ m ≤ 12 ∧ 1 ≤ d ∧ d ≤ monD y m ∧ h < 24 ∧ mi < 60 ∧ s < 60) → B = false) := fun hn => by rw [← HB.out]; unfold existB; exact decide_eq_false hn
  have HYES : Hid ((1 ≤ m ∧ m ≤ 12 ∧ 1 ≤ d ∧ d ≤ monD y m ∧ h < 24 ∧ mi < 60 ∧ s < 60) → B = true) := fun hn => by rw [← HB.out]; unfold existB; exact decide_eq_true hn
  by_cases q1 : m < 1
  · have q1I : (m : Int) < 1 := by omega
    obtain rfl := HNO.out (by omega)
    clear q1
    go_enter Tryd.func20, Tryd.ntmps20
    go_wp2_with fail
    go_ret
    exact ⟨rfl, HW.out⟩
  have q1I : ¬ (m : Int) < 1 := by omega
  by_cases q2 : 12 < m
  · have q2I : (12 : Int) < (m : Int) := by omega
    obtain rfl := HNO.out (by omega)
    go_enter Tryd.func20, Tryd.ntmps20
    go_wp2_with fail
    go_ret
    exact ⟨rfl, HW.out⟩
  have q2I : ¬ (12 : Int) < (m : Int) := by omega
  have HDY := fun W (hW : Md W) => daysOf_any y m hy (by omega) (by omega) W hW
  have hDb := monD_le y m
  obtain ⟨D, hD⟩ : ∃ D, monD y m = D := ⟨_, rfl⟩
  rw [hD] at HDY hDb
  have HD : Hid (monD y m = D) := hD
  clear hD
  by_cases q3 : d < 1
  · have q3I : (d : Int) < 1 := by omega
    obtain rfl := HNO.out (by omega)
    go_enter Tryd.func20, Tryd.ntmps20
    go_wp2_with fail
    go_quiet (fail)
    go_wp2_with fail
    go_ret
    exact ⟨rfl, below_drews HW.out _⟩
  have q3I : ¬ (d : Int) < 1 := by omega
  by_cases q4 : D < d
  · have q4I : (D : Int) < (d : Int) := by omega
    obtain rfl := HNO.out (by rw [HD.out]; omega)
    go_enter Tryd.func20, Tryd.ntmps20
    go_wp2_with fail
    go_quiet ((go_at_call 30; exact Calls.quiet_of_same (HDY _ hM1)))
    go_wp2_with fail
    go_ret
    exact ⟨rfl, below_drews HW.out _⟩
  have q4I : ¬ (D : Int) < (d : Int) := by omega
  by_cases q5 : h < 24
  · have q5I : (h : Int) < 24 := by omega
    by_cases q6 : mi < 60
    · have q6I : (mi : Int) < 60 := by omega
      by_cases q7 : s < 60
      · have q7I : (s : Int) < 60 := by omega
        obtain rfl := HYES.out (by rw [HD.out]; omega)
        go_enter Tryd.func20, Tryd.ntmps20
        go_wp2_with fail
        go_quiet ((go_at_call 30; exact Calls.quiet_of_same (HDY _ hM1)))
        go_wp2_with fail
        go_ret
        exact ⟨rfl, below_drews HW.out _⟩
      · have q7I : ¬ (s : Int) < 60 := by omega
        obtain rfl := HNO.out (by omega)
        go_enter Tryd.func20, Tryd.ntmps20
        go_wp2_with fail
        go_quiet ((go_at_call 30; exact Calls.quiet_of_same (HDY _ hM1)))
        go_wp2_with fail
        go_ret
        exact ⟨by show Ending.returned (.bool (decide ((s : Int) < 60))) = _; rw [decide_eq_false (show ¬ ((s : Int) < 60) by omega)], below_drews HW.out _⟩
    · have q6I : ¬ (mi : Int) < 60 := by omega
      obtain rfl := HNO.out (by omega)
      go_enter Tryd.func20, Tryd.ntmps20
      go_wp2_with fail
      go_quiet ((go_at_call 30; exact Calls.quiet_of_same (HDY _ hM1)))
      go_wp2_with fail
      go_ret
      exact ⟨rfl, below_drews HW.out _⟩
  · have q5I : ¬ (h : Int) < 24 := by omega
    obtain rfl := HNO.out (by omega)
    go_enter Tryd.func20, Tryd.ntmps20
    go_wp2_with fail
    go_quiet ((go_at_call 30; exact Calls.quiet_of_same (HDY _ hM1)))
    go_wp2_with fail
    go_ret
    exact ⟨rfl, below_drews HW.out _⟩
end Go.Proofs.YtnckmcmobkpdcaaDoor
/-
  Times: the seconds, a year.
-/
namespace Go.Proofs.YtnckmcmobkpdcaaDoor
open Go.Shelf Go.RowKit
set_option linter.unusedVariables false
set_option linter.unusedSimpArgs false

set_option maxRecDepth 100000 in
set_option maxHeartbeats 4000000 in
/-- seconds. -/
theorem seconds_any (y m d h mi s : Nat) (hy1 : 1970 ≤ y) (hy : y ≤ 9999) (hm1 : 1 ≤ m) (hm : m ≤ 12) (hd1 : 1 ≤ d) (hd : d ≤ 99) (hh : h ≤ 99) (hmi : mi ≤ 99) (hs : s ≤ 99) (w : World) (hM : Md w) :
    Calls Tryd.prog 21 #[.agg #[.int .i64 (y : Int), .int .i64 (m : Int), .int .i64 (d : Int), .int .i64 (h : Int), .int .i64 (mi : Int), .int .i64 (s : Int)]] w fun e w' => e = .returned (.int .i64 (secsD y m d h mi s : Int)) ∧ Below w.heap.size w w' := by
  have R1 := row_moment w y m d h mi s
  have b1 : Below w.heap.size w (w.alloc (.cells #[.int .i64 (y : Int), .int .i64 (m : Int), .int .i64 (d : Int), .int .i64 (h : Int), .int .i64 (mi : Int), .int .i64 (s : Int)] 56)) := (Below.refl _ _).alloc (Nat.le_refl _) _
  generalize hW1 : w.alloc (.cells #[.int .i64 (y : Int), .int .i64 (m : Int), .int .i64 (d : Int), .int .i64 (h : Int), .int .i64 (mi : Int), .int .i64 (s : Int)] 56) = W1 at R1 b1
  have c0 := R1.cell 0 (by simp)
  have c1 := R1.cell 1 (by simp)
  have c2 := R1.cell 2 (by simp)
  have c3 := R1.cell 3 (by simp)
  have c4 := R1.cell 4 (by simp)
  have c5 := R1.cell 5 (by simp)
  simp only [List.getD, List.getElem?_cons_zero, List.getElem?_cons_succ, Option.getD_some] at c0 c1 c2 c3 c4 c5
  have HW : Hid (Below w.heap.size w W1) := b1
  have hM1 := hM.below b1
  clear R1 b1 hM
  have HL := longYears_any y (by omega) (by omega)
  have HL0 : ∀ w : World, Calls Tryd.prog 31 #[.int .i64 1970] w fun e w' => e = .returned (.int .i64 477) ∧ w' = w := longYears_any 1970 (by omega) (by omega)
  obtain ⟨LY, hLY⟩ : ∃ LY : Nat, (y - 1) / 4 - (y - 1) / 100 + (y - 1) / 400 = LY := ⟨_, rfl⟩
  rw [hLY] at HL
  have hLY2 : LY ≤ 10000 ∧ 477 ≤ LY := by omega
  have HLY : Hid (lyD y = LY) := hLY
  clear hLY
  obtain ⟨hLY3, hLY4⟩ := hLY2
  go_enter Tryd.func21, Tryd.ntmps21
  go_wp2_with fail
  go_quiet ((go_at_call 31; first | (go_at_call_of 31 (Value.int .i64 1970); with_reducible exact Calls.quiet_of_same (HL0 _)) | with_reducible exact Calls.quiet_of_same (HL _)))
  obtain ⟨A, hA⟩ : ∃ A : Nat, 365 * (y - 1970) + LY - 477 = A := ⟨_, rfl⟩
  have hAI : (365 : Int) * ((y : Int) - 1970) + (LY : Int) - 477 = (A : Int) := by omega
  have hAb : A ≤ 4000000 := by omega
  rw [hAI]
  generalize hwq : World.drewN W1 nq = wq
  have hbq : Below w.heap.size w wq := by rw [← hwq]; exact below_drews HW.out _
  replace c0 : wq.cell? ⟨w.heap.size, 0, none⟩ = some (.int .i64 (y : Int)) := by rw [← hwq]; exact c0
  replace c1 : wq.cell? ⟨w.heap.size, 1, none⟩ = some (.int .i64 (m : Int)) := by rw [← hwq]; exact c1
  replace c2 : wq.cell? ⟨w.heap.size, 2, none⟩ = some (.int .i64 (d : Int)) := by rw [← hwq]; exact c2
  replace c3 : wq.cell? ⟨w.heap.size, 3, none⟩ = some (.int .i64 (h : Int)) := by rw [← hwq]; exact c3
  replace c4 : wq.cell? ⟨w.heap.size, 4, none⟩ = some (.int .i64 (mi : Int)) := by rw [← hwq]; exact c4
  replace c5 : wq.cell? ⟨w.heap.size, 5, none⟩ = some (.int .i64 (s : Int)) := by rw [← hwq]; exact c5
  have hMq : Hid (Md wq) := by show Md wq; rw [← hwq]; exact hM1
  have HA : Hid (365 * (y - 1970) + lyD y - 477 = A ∧ Below w.heap.size w wq) := ⟨by rw [HLY.out]; exact hA, hbq⟩
  clear hwq hbq hM1 HW hW1 hA hAI HL HL0 hLY3 hLY4 HLY
  obtain ⟨k0, hk0⟩ : ∃ k0, m = k0 + 1 := ⟨m - 1, by omega⟩
  have hk0I : (m : Int) - 1 = (k0 : Int) := by omega
  have HK0 : Hid (m = k0 + 1) := hk0
  have hk12 : k0 ≤ 11 := by omega
  clear hk0 hm1 hm
  go_wp2_with fail
  go_loopw [3, 18] (fun v3 v18 wr => ∃ k : Nat, k ≤ k0 ∧ v18 = .int .i64 (k : Int) ∧ v3 = .int .i64 ((A + monsD y k : Nat) : Int) ∧ wr = wq) (fun _ v18 _ => k0 - (intOf v18).toNat)
  case atStart => exact ⟨0, by omega, rfl, by simp [monsD], rfl⟩
  case round =>
    obtain ⟨k, hk, rfl, rfl, rfl⟩ := hrel
    have hmb := monsD_le y k
    obtain ⟨MS, hMS⟩ : ∃ MS, A + monsD y k = MS := ⟨_, rfl⟩
    have hMSb : MS ≤ 4001000 := by omega
    have HMS : Hid (A + monsD y k = MS) := hMS
    rw [hMS]
    clear hMS hmb
    rcases Nat.lt_or_eq_of_le hk with hk | rfl
    · have hkI : (k : Int) < (k0 : Int) := by omega
      have HDY := daysOf_any y (k + 1) (by omega) (by omega) (by omega) wr hMq.out
      have hDb := monD_le y (k + 1)
      obtain ⟨D, hD⟩ : ∃ D, monD y (k + 1) = D := ⟨_, rfl⟩
      rw [hD] at HDY hDb
      have HD : Hid (monD y (k + 1) = D) := hD
      clear hD
      rw [show ((k + 1 : Nat) : Int) = (k : Int) + 1 by omega] at HDY
      go_wp2_with (go_at_call 30; refine HDY.mono ?_; rintro e w2 ⟨rfl, rfl⟩)
      exact ⟨⟨k + 1, by omega, by push_cast; rfl, by congr 1; simp only [monsD]; rw [HD.out]; have := HMS.out; omega, trivial⟩, by simp only [intOf]; omega⟩
    · have hfin : Hid (((((MS + (d - 1)) * 24 + h) * 60 + mi) * 60 + s) = secsD y m d h mi s) := by
        show _ = secsD y m d h mi s
        unfold secsD
        rw [HA.out.1, HK0.out, Nat.add_sub_cancel, HMS.out]
      go_wp2_with fail
      go_ret
      refine ⟨?_, HA.out.2⟩
      rw [← hfin.out]
      show Ending.returned (Value.int .i64 _) = _
      congr 2
      omega
end Go.Proofs.YtnckmcmobkpdcaaDoor
/-
  Times: a year.
-/
namespace Go.Proofs.YtnckmcmobkpdcaaDoor
open Go.Shelf Go.RowKit
set_option linter.unusedVariables false
set_option linter.unusedSimpArgs false

/-- The year of two digits. -/
def centD (d : Nat) : Nat := if d < 50 then 2000 + d else 1900 + d
/-- A time's year, and what stands behind it. -/
def yearD (t : Nat) (bs : Bs) : Option (Nat × Bs) :=
  if t = 23 ∧ bs.length = 13 then (match numGo 0 (bs.take 2) with
    | none => none
    | some d => if 1970 ≤ centD d then some (centD d, bs.drop 2) else none)
  else if t = 24 ∧ bs.length = 15 then (match numGo 0 (bs.take 4) with
    | none => none
    | some d => if 2050 ≤ d then some (d, bs.drop 4) else none)
  else none
theorem numGo_lt : ∀ (bs : Bs) (n m : Nat), numGo n bs = some m → m < (n + 1) * 10 ^ bs.length
  | [], n, m, h => by cases h; simp
  | c :: xs, n, m, h => by
    rw [numGo_cons] at h
    split at h
    · cases h
    · rename_i hq
      have h1 := numGo_lt xs _ _ h
      refine Nat.lt_of_lt_of_le h1 ?_
      rw [List.length_cons, Nat.pow_succ, Nat.mul_comm (10 ^ xs.length) 10, ← Nat.mul_assoc]
      exact Nat.mul_le_mul_right _ (by omega)
/-- What splitYear answers. -/
def YrPost (w : World) (P : Nat → Prop) (R : Option (Nat × Bs)) (e : Ending) (w' : World) : Prop :=
  Below w.heap.size w w' ∧ ((∃ y r p c, R = some (y, r) ∧ 1970 ≤ y ∧ y ≤ 9999 ∧ r.length = 11 ∧ e = .returned (.tuple #[.int .i64 (y : Int), .slice p 11 c, .bool true]) ∧ ByV w' P p c r) ∨ (R = none ∧ ∃ a b, e = .returned (.tuple #[a, b, .bool false])))
theorem YrPost.no {w w' : World} {P : Nat → Prop} {R : Option (Nat × Bs)} {a b : Value} (hR : R = none) (hb : Below w.heap.size w w') : YrPost w P R (.returned (.tuple #[a, b, .bool false])) w' := ⟨hb, .inr ⟨hR, a, b, rfl⟩⟩
theorem YrPost.nob {w w' : World} {P : Nat → Prop} {R : Option (Nat × Bs)} {a b : Value} {B : Bool} (hB : B = false) (hR : R = none) (hb : Below w.heap.size w w') : YrPost w P R (.returned (.tuple #[a, b, .bool B])) w' := by subst hB; exact YrPost.no hR hb
set_option maxRecDepth 100000 in
set_option maxHeartbeats 4000000 in
/-- splitYear. -/
theorem splitYear_any (t : Nat) (ht : t < 256) (p : Option Addr) (n c : Nat) (bs : Bs) (P : Nat → Prop) (w : World) (hl : bs.length = n) (h : ByV w P p c bs) :
    Calls Tryd.prog 18 #[.agg #[.int .u8 (t : Int), .slice p n c]] w (YrPost w P (yearD t bs)) := by
  obtain ⟨W1, hW1⟩ : ∃ W1, w.alloc (.cells #[.int .u8 (t : Int), .slice p n c] 24) = W1 := ⟨_, rfl⟩
  have b1 : Below w.heap.size w W1 := by rw [← hW1]; exact (Below.refl _ _).alloc (Nat.le_refl _) _
  have s1 : Tl W1 w.heap.size (.int .u8 (t : Int)) (.slice p n c) := by rw [← hW1]; exact Tl.new w _ _
  obtain ⟨g0, g1, g2, g3⟩ := s1.facts
  have hbig := h.big
  have hcap := h.cap
  rw [hl] at hcap
  have HS : Hid (Below w.heap.size w W1 ∧ ByV w P p c bs ∧ bs.length = n) := ⟨b1, h, hl⟩
  clear s1 b1 h
  obtain ⟨R, hR⟩ : ∃ R, yearD t bs = R := ⟨_, rfl⟩
  rw [hR]
  unfold yearD at hR
  rw [hl] at hR
  clear hl
  by_cases q1 : t = 23 ∧ n = 13
  · rw [if_pos q1] at hR
    obtain ⟨q2, q3⟩ := q1
    subst q3
    have e1 : ((t : Int) == 23) = true := by simp; omega
    have HN := numberOf_any p 2 c (bs.take 2) W1 (by rw [List.length_take, HS.out.2.2]; rfl) (by omega) (by have := (HS.out.2.1.take 2 (by rw [HS.out.2.2]; omega)).lies; rw [List.length_take, HS.out.2.2] at this; exact this.below HS.out.1)
    obtain ⟨b, o, rfl, _⟩ := HS.out.2.1.lies (by rw [HS.out.2.2]; omega)
    have hc2 : ¬ c = 2 := by omega
    have k1 : (2 : Int) ≤ (c : Int) := by omega
    have k2 : (13 : Int) ≤ (c : Int) := by omega
    have k3 : (c : Int) ≤ 9223372036854775807 := by omega
    have HD : Hid (ByV w P (some ⟨b, o + 2, none⟩) (c - 2) (bs.drop 2)) := by
      have := HS.out.2.1.drop 2 (by rw [HS.out.2.2]; omega)
      rw [if_neg hc2] at this
      exact this
    clear q2
    cases hnum : numGo 0 (bs.take 2) with
    | none =>
      rw [hnum] at HN hR
      have HR : Hid (R = none) := hR.symm
      have HC : ∀ w : World, Calls Tryd.prog 29 #[.int .i64 0] w fun e w' => e = .returned (.int .i64 2000) ∧ w' = w := withCentury_any 0 (by omega)
      clear hR hnum
      go_enter Tryd.func18, Tryd.ntmps18
      go_wp2_with (first | (go_at_call 28; refine HN.mono ?_; rintro e w2 ⟨rfl, rfl⟩; simp only [numV]) | (go_at_call 29; refine (HC _).mono ?_; rintro e w2 ⟨rfl, rfl⟩))
      go_quiet (fail)
      go_wp2_with fail
      go_ret3
      exact YrPost.no HR.out (below_drews HS.out.1 _)
    | some d =>
      rw [hnum] at HN hR
      have hd := numGo_lt _ _ _ hnum
      rw [List.length_take, HS.out.2.2] at hd
      have hd2 : d ≤ 99 := by have : d < (0 + 1) * 10 ^ min 2 13 := hd; have e : (0 + 1) * 10 ^ min 2 13 = 100 := (by decide); omega
      have HC := withCentury_any d hd2
      have HC' : Hid ((if d < 50 then 2000 + d else 1900 + d : Nat) = centD d) := rfl
      rw [HC'.out] at HC
      have hcb : centD d ≤ 2049 ∧ 1900 ≤ centD d := by unfold centD; split <;> omega
      simp only [] at hR
      obtain ⟨Y, hY⟩ : ∃ Y, centD d = Y := ⟨_, rfl⟩
      rw [hY] at HC hcb hR
      obtain ⟨hY1, hY2⟩ := hcb
      clear hnum hd hY HC'
      by_cases q5 : 1970 ≤ Y
      · have q5I : (1970 : Int) ≤ (Y : Int) := by omega
        have HR : Hid (R = some (Y, bs.drop 2)) := by show R = _; rw [← hR, if_pos q5]
        clear hR
        go_enter Tryd.func18, Tryd.ntmps18
        go_wp2_with (first | (go_at_call 28; refine HN.mono ?_; rintro e w2 ⟨rfl, rfl⟩; simp only [numV]) | (go_at_call 29; refine (HC _).mono ?_; rintro e w2 ⟨rfl, rfl⟩))
        go_quiet (fail)
        go_wp2_with fail
        go_ret3
        exact ⟨below_drews HS.out.1 _, .inl ⟨Y, bs.drop 2, _, _, HR.out, q5, by omega, by rw [List.length_drop, HS.out.2.2], rfl, HD.out.keep (fun g _ hlt => (below_drews HS.out.1 _).block g hlt)⟩⟩
      · have q5I : ¬ (1970 : Int) ≤ (Y : Int) := by omega
        have HR : Hid (R = none) := by show R = _; rw [← hR, if_neg q5]
        clear hR
        go_enter Tryd.func18, Tryd.ntmps18
        go_wp2_with (first | (go_at_call 28; refine HN.mono ?_; rintro e w2 ⟨rfl, rfl⟩; simp only [numV]) | (go_at_call 29; refine (HC _).mono ?_; rintro e w2 ⟨rfl, rfl⟩))
        go_quiet (fail)
        go_wp2_with fail
        go_ret3
        exact YrPost.nob (decide_eq_false (show ¬ ((1970 : Int) ≤ (Y : Int)) by omega)) HR.out (below_drews HS.out.1 _)
  rw [if_neg q1] at hR
  by_cases q2 : t = 24 ∧ n = 15
  · rw [if_pos q2] at hR
    obtain ⟨q3, q4⟩ := q2
    subst q4
    have e1 : ((t : Int) == 24) = true := by simp; omega
    have e0 : ((t : Int) == 23) = false := by simp; omega
    have HN := numberOf_any p 4 c (bs.take 4) W1 (by rw [List.length_take, HS.out.2.2]; rfl) (by omega) (by have := (HS.out.2.1.take 4 (by rw [HS.out.2.2]; omega)).lies; rw [List.length_take, HS.out.2.2] at this; exact this.below HS.out.1)
    obtain ⟨b, o, rfl, _⟩ := HS.out.2.1.lies (by rw [HS.out.2.2]; omega)
    have hc2 : ¬ c = 4 := by omega
    have k1 : (4 : Int) ≤ (c : Int) := by omega
    have k2 : (15 : Int) ≤ (c : Int) := by omega
    have k3 : (c : Int) ≤ 9223372036854775807 := by omega
    have HD : Hid (ByV w P (some ⟨b, o + 4, none⟩) (c - 4) (bs.drop 4)) := by
      have := HS.out.2.1.drop 4 (by rw [HS.out.2.2]; omega)
      rw [if_neg hc2] at this
      exact this
    clear q3 q1
    cases hnum : numGo 0 (bs.take 4) with
    | none =>
      rw [hnum] at HN hR
      have HR : Hid (R = none) := hR.symm
      clear hR hnum
      go_enter Tryd.func18, Tryd.ntmps18
      go_wp2_with (go_at_call 28; refine HN.mono ?_; rintro e w2 ⟨rfl, rfl⟩; simp only [numV])
      go_quiet (fail)
      go_wp2_with fail
      go_ret3
      exact YrPost.no HR.out (below_drews HS.out.1 _)
    | some d =>
      rw [hnum] at HN hR
      have hd := numGo_lt _ _ _ hnum
      rw [List.length_take, HS.out.2.2] at hd
      have hd2 : d ≤ 9999 := by have : d < (0 + 1) * 10 ^ min 4 15 := hd; have e : (0 + 1) * 10 ^ min 4 15 = 10000 := (by decide); omega
      simp only [] at hR
      clear hnum hd
      by_cases q5 : 2050 ≤ d
      · have q5I : (2050 : Int) ≤ (d : Int) := by omega
        have HR : Hid (R = some (d, bs.drop 4)) := by show R = _; rw [← hR, if_pos q5]
        clear hR
        go_enter Tryd.func18, Tryd.ntmps18
        go_wp2_with (go_at_call 28; refine HN.mono ?_; rintro e w2 ⟨rfl, rfl⟩; simp only [numV])
        go_quiet (fail)
        go_wp2_with fail
        go_ret3
        exact ⟨below_drews HS.out.1 _, .inl ⟨d, bs.drop 4, _, _, HR.out, by omega, by omega, by rw [List.length_drop, HS.out.2.2], rfl, HD.out.keep (fun g _ hlt => (below_drews HS.out.1 _).block g hlt)⟩⟩
      · have q5I : ¬ (2050 : Int) ≤ (d : Int) := by omega
        have HR : Hid (R = none) := by show R = _; rw [← hR, if_neg q5]
        clear hR
        go_enter Tryd.func18, Tryd.ntmps18
        go_wp2_with (go_at_call 28; refine HN.mono ?_; rintro e w2 ⟨rfl, rfl⟩; simp only [numV])
        go_quiet (fail)
        go_wp2_with fail
        go_ret3
        exact YrPost.nob (decide_eq_false (show ¬ ((2050 : Int) ≤ (d : Int)) by omega)) HR.out (below_drews HS.out.1 _)
  rw [if_neg q2] at hR
  have HR : Hid (R = none) := hR.symm
  clear hR
  by_cases q3 : t = 23
  · have e0 : ((t : Int) == 23) = true := by simp; omega
    have e1 : ((t : Int) == 24) = false := by simp; omega
    have e2 : ((n : Int) == 13) = false := by simp; omega
    clear q1 q2 q3
    go_enter Tryd.func18, Tryd.ntmps18
    go_wp2_with fail
    go_ret3
    exact YrPost.no HR.out HS.out.1
  have e0 : ((t : Int) == 23) = false := by simp; omega
  by_cases q4 : t = 24
  · have e1 : ((t : Int) == 24) = true := by simp; omega
    have e2 : ((n : Int) == 15) = false := by simp; omega
    clear q1 q2 q3 q4
    go_enter Tryd.func18, Tryd.ntmps18
    go_wp2_with fail
    go_ret3
    exact YrPost.no HR.out HS.out.1
  have e1 : ((t : Int) == 24) = false := by simp; omega
  clear q1 q2 q3 q4
  go_enter Tryd.func18, Tryd.ntmps18
  go_wp2_with fail
  go_ret3
  exact YrPost.no HR.out HS.out.1
end Go.Proofs.YtnckmcmobkpdcaaDoor
/-
  Times: a moment.
-/
namespace Go.Proofs.YtnckmcmobkpdcaaDoor
open Go.Shelf Go.RowKit
set_option linter.unusedVariables false
set_option linter.unusedSimpArgs false

/-- The two digits at place i. -/
def twoD (r : Bs) (i : Nat) : Option Nat := numGo 0 ((r.drop (2 * i)).take 2)
/-- So many numbers of two digits. -/
def twosD (r : Bs) : Nat → Option (List Nat)
  | 0 => some []
  | k + 1 => match twosD r k with
    | none => none
    | some l => match twoD r k with
      | none => none
      | some x => some (l ++ [x])
theorem twosD_none (r : Bs) (k : Nat) (h : twosD r k = none) : ∀ j, twosD r (k + j) = none
  | 0 => h
  | j + 1 => by
    have := twosD_none r k h j
    show twosD r (k + j + 1) = none
    simp only [twosD, this]
theorem twosD_len (r : Bs) : ∀ (k : Nat) (l : List Nat), twosD r k = some l → l.length = k ∧ ∀ x ∈ l, x ≤ 99
  | 0, l, h => by cases h; exact ⟨rfl, fun x hx => by cases hx⟩
  | k + 1, l, h => by
    simp only [twosD] at h
    cases h1 : twosD r k with
    | none => rw [h1] at h; cases h
    | some l' =>
      rw [h1] at h
      simp only [] at h
      cases h2 : twoD r k with
      | none => rw [h2] at h; cases h
      | some x =>
        rw [h2] at h
        cases h
        obtain ⟨h3, h4⟩ := twosD_len r k l' h1
        refine ⟨by simp [h3], fun z hz => ?_⟩
        rcases List.mem_append.1 hz with hz | hz
        · exact h4 z hz
        · simp at hz
          subst hz
          have h5 := numGo_lt _ _ _ h2
          have h6 : ((r.drop (2 * k)).take 2).length ≤ 2 := by rw [List.length_take]; omega
          have h7 : (0 + 1) * 10 ^ ((r.drop (2 * k)).take 2).length ≤ 100 := by
            rw [Nat.zero_add, Nat.one_mul]
            exact Nat.le_trans (Nat.pow_le_pow_right (by decide) h6) (by decide)
          omega
/-- A moment's values. -/
abbrev momV (y m d h mi s : Nat) : Value := .agg #[.int .i64 (y : Int), .int .i64 (m : Int), .int .i64 (d : Int), .int .i64 (h : Int), .int .i64 (mi : Int), .int .i64 (s : Int)]
/-- What momentOf answers. -/
def MoPost (w : World) (y : Nat) (r : Bs) (e : Ending) (w' : World) : Prop :=
  Below w.heap.size w w' ∧ ((∃ m d h mi s, twosD r 5 = some [m, d, h, mi, s] ∧ (r.getD 10 0).toNat = 90 ∧ e = .returned (.tuple #[momV y m d h mi s, .bool true])) ∨ ((twosD r 5 = none ∨ (r.getD 10 0).toNat ≠ 90) ∧ ∃ a b c d e' f : Int, e = .returned (.tuple #[.agg #[.int .i64 a, .int .i64 b, .int .i64 c, .int .i64 d, .int .i64 e', .int .i64 f], .bool false])))
theorem sizeMom : (Tryd.prog.info? 56).map (·.size) = some 6 := by kernel_rfl
theorem ret_mom {fn : Func} {p u : Tmp} (h : fn.results = #[.cell p 56, .tmp u]) (tmps : Array Value) (w : World) (g : Nat) (x0 x1 x2 x3 x4 x5 : Int) (hp : tmps.getD p undef = .pointer (some ⟨g, 0, none⟩)) (hg : Row 56 .i64 w g [x0, x1, x2, x3, x4, x5]) :
    (results fn tmps).run Tryd.prog w = .ok (.tuple #[.agg #[.int .i64 x0, .int .i64 x1, .int .i64 x2, .int .i64 x3, .int .i64 x4, .int .i64 x5], tmps.getD u undef]) w := by
  have hl := run_loadVar_row (P := Tryd.prog) w g 56 56 #[.int .i64 x0, .int .i64 x1, .int .i64 x2, .int .i64 x3, .int .i64 x4, .int .i64 x5] (0, 0) _ hg Tryd.underlying56 rfl (sizeMom)
  have hp' : tmps[p]?.getD undef = .pointer (some ⟨g, 0, none⟩) := by simpa using hp
  simp only [results, h]
  simp [Sem.run_bind, Result.andThen, asAddr, hl, hp']
theorem pad_set (l : List Nat) (k x : Nat) (hl : l.length = k) (hk : k < 5) : (l.map (fun x : Nat => (x : Int)) ++ List.replicate (5 - k) 0).set k (x : Int) = (l ++ [x]).map (fun x : Nat => (x : Int)) ++ List.replicate (5 - (k + 1)) 0 := by
  rw [List.set_append_right _ _ (by simp [hl])]
  rw [show 5 - k = (5 - (k + 1)) + 1 by omega, List.replicate_succ]
  simp [hl]
theorem but_set6 (w : World) (g : Nat) (a b c d e f : Value) : But g w ((((((w.setCell ⟨g, 0, none⟩ a).setCell ⟨g, 1, none⟩ b).setCell ⟨g, 2, none⟩ c).setCell ⟨g, 3, none⟩ d).setCell ⟨g, 4, none⟩ e).setCell ⟨g, 5, none⟩ f) :=
  (But.setCell g w 0 a).trans ((But.setCell g _ 1 b).trans ((But.setCell g _ 2 c).trans ((But.setCell g _ 3 d).trans ((But.setCell g _ 4 e).trans (But.setCell g _ 5 f)))))
theorem Row.set6 {w : World} {g : Nat} {x0 x1 x2 x3 x4 x5 : Int} (h : Row 56 .i64 w g [x0, x1, x2, x3, x4, x5]) (a b c d e f : Int) : Row 56 .i64 ((((((w.setCell ⟨g, 0, none⟩ (.int .i64 a)).setCell ⟨g, 1, none⟩ (.int .i64 b)).setCell ⟨g, 2, none⟩ (.int .i64 c)).setCell ⟨g, 3, none⟩ (.int .i64 d)).setCell ⟨g, 4, none⟩ (.int .i64 e)).setCell ⟨g, 5, none⟩ (.int .i64 f)) g [a, b, c, d, e, f] :=
  (((((h.set 0 a).set 1 b).set 2 c).set 3 d).set 4 e).set 5 f
theorem set6_other {w : World} {r r1 j : Nat} {v a b c d e f : Value} (h : w.cell? ⟨r1, j, none⟩ = some v) (hne : r ≠ r1) : ((((((w.setCell ⟨r, 0, none⟩ a).setCell ⟨r, 1, none⟩ b).setCell ⟨r, 2, none⟩ c).setCell ⟨r, 3, none⟩ d).setCell ⟨r, 4, none⟩ e).setCell ⟨r, 5, none⟩ f).cell? ⟨r1, j, none⟩ = some v :=
  ((but_set6 w r a b c d e f).cell (p := ⟨r1, j, none⟩) (World.block_lt_of_cell? w _ h) (fun e => hne e.symm)).trans h
theorem Row.but {e : TypeId} {k : IntKind} {w w' : World} {g g' : Nat} {xs : List Int} (h : Row e k w g xs) (hb : But g' w w') (hne : g ≠ g') : Row e k w' g xs := by
  show w'.heap[g]? = _
  rw [hb.block g h.lt hne]
  exact h
set_option maxRecDepth 100000 in
set_option maxHeartbeats 4000000 in
/-- momentOf. -/
theorem momentOf_any (y : Nat) (hy : y ≤ 9999) (p : Option Addr) (c : Nat) (r : Bs) (P : Nat → Prop) (w : World) (hl : r.length = 11) (h : ByV w P p c r) :
    Calls Tryd.prog 19 #[.int .i64 (y : Int), .slice p 11 c] w (MoPost w y r) := by
  have hbig := h.big
  have hcap := h.cap
  rw [hl] at hcap
  obtain ⟨b, o, rfl, hcl⟩ := h.lies (by rw [hl]; omega)
  have HV : Hid (ByV w P (some ⟨b, o, none⟩) c r ∧ r.length = 11 ∧ ∀ i, i < 11 → w.cell? ⟨b, o + i, none⟩ = some (.int .u8 ((r.getD i 0).toNat : Int))) := ⟨h, hl, fun i hi => hcl i (by omega)⟩
  clear h hl hcl
  go_enter Tryd.func19, Tryd.ntmps19
  go_wp2_with fail
  have hA0 : Row 56 .i64 (w.alloc (.cells #[.int .i64 0, .int .i64 0, .int .i64 0, .int .i64 0, .int .i64 0, .int .i64 0] 56)) w.heap.size [0, 0, 0, 0, 0, 0] := heap_alloc_new w _
  have hA1 : Row 70 .i64 ((w.alloc (.cells #[.int .i64 0, .int .i64 0, .int .i64 0, .int .i64 0, .int .i64 0, .int .i64 0] 56)).alloc (.cells #[.int .i64 0, .int .i64 0, .int .i64 0, .int .i64 0, .int .i64 0] 70)) (w.heap.size + 1) [0, 0, 0, 0, 0] := by
    have := heap_alloc_new (w.alloc (.cells #[.int .i64 0, .int .i64 0, .int .i64 0, .int .i64 0, .int .i64 0, .int .i64 0] 56)) (.cells #[.int .i64 0, .int .i64 0, .int .i64 0, .int .i64 0, .int .i64 0] 70)
    rw [alloc_sz] at this
    exact this
  have hB0 : Below w.heap.size w ((w.alloc (.cells #[.int .i64 0, .int .i64 0, .int .i64 0, .int .i64 0, .int .i64 0, .int .i64 0] 56)).alloc (.cells #[.int .i64 0, .int .i64 0, .int .i64 0, .int .i64 0, .int .i64 0] 70)) := ((Below.refl _ _).alloc (Nat.le_refl _) _).alloc (alloc_le _ _) _
  have hA2 := hA0.below (w' := (w.alloc (.cells #[.int .i64 0, .int .i64 0, .int .i64 0, .int .i64 0, .int .i64 0, .int .i64 0] 56)).alloc (.cells #[.int .i64 0, .int .i64 0, .int .i64 0, .int .i64 0, .int .i64 0] 70)) ((Below.refl _ _).alloc (Nat.le_refl _) _) hA0.lt
  generalize hW0 : (w.alloc (.cells #[.int .i64 0, .int .i64 0, .int .i64 0, .int .i64 0, .int .i64 0, .int .i64 0] 56)).alloc (.cells #[.int .i64 0, .int .i64 0, .int .i64 0, .int .i64 0, .int .i64 0] 70) = W0 at hA1 hB0 hA2
  have HW0 : Hid (Row 70 .i64 W0 (w.heap.size + 1) [0, 0, 0, 0, 0] ∧ Row 56 .i64 W0 w.heap.size [0, 0, 0, 0, 0, 0] ∧ Below w.heap.size w W0) := ⟨hA1, hA2, hB0⟩
  clear hA0 hA1 hA2 hB0 hW0
  go_loopw [11] (fun v11 wr => ∃ (k : Nat) (l : List Nat), k ≤ 5 ∧ v11 = .int .i64 (k : Int) ∧ twosD r k = some l ∧ Row 70 .i64 wr (w.heap.size + 1) (l.map (fun x : Nat => (x : Int)) ++ List.replicate (5 - k) 0) ∧ Row 56 .i64 wr w.heap.size [0, 0, 0, 0, 0, 0] ∧ Below w.heap.size w wr) (fun v11 _ => 5 - (intOf v11).toNat)
  case atStart => exact ⟨0, [], by omega, rfl, rfl, HW0.out.1, HW0.out.2.1, HW0.out.2.2⟩
  case round =>
    obtain ⟨k, l, hk, rfl, hl, hrow, hres, hb⟩ := hrel
    obtain ⟨hll, hlx⟩ := twosD_len r k l hl
    rcases Nat.lt_or_eq_of_le hk with hk | rfl
    · obtain ⟨K2, hK2⟩ : ∃ K2, 2 * k = K2 := ⟨_, rfl⟩
      have hK2I : (2 : Int) * (k : Int) = (K2 : Int) := by omega
      have hkI : (k : Int) < 5 := by omega
      have k1 : (K2 : Int) + 2 ≤ (c : Int) := by omega
      have k2 : (K2 : Int) ≤ (K2 : Int) + 2 := by omega
      have k3 : (c : Int) ≤ 9223372036854775807 := by omega
      have k4 : (K2 : Int) ≤ 8 := by omega
      have hc2 : ¬ c = K2 := by omega
      have hlen2 : ((r.drop K2).take 2).length = 2 := by rw [List.length_take, List.length_drop, HV.out.2.1]; omega
      have HN := numberOf_any (some ⟨b, o + K2, none⟩) 2 (c - K2) ((r.drop K2).take 2) wr hlen2 (by omega) (fun _ => ⟨b, o + K2, rfl, fun i hi => by
        have h1 := HV.out.2.2 (K2 + i) (by omega)
        rw [Nat.add_assoc, hb.cell (p := ⟨b, o + (K2 + i), none⟩) (World.block_lt_of_cell? w _ h1), h1]
        simp [List.getD, List.getElem?_take, hi]⟩)
      have hfr := hrow.frozen k
      have hlr : (l.map (fun x : Nat => (x : Int)) ++ List.replicate (5 - k) 0).length = 5 := by simp [hll]; omega
      have hck := hrow.cell k (by rw [hlr]; omega)
      have d0 := hres.cell 0 (by simp)
      have d1 := hres.cell 1 (by simp)
      have d2 := hres.cell 2 (by simp)
      have d3 := hres.cell 3 (by simp)
      have d4 := hres.cell 4 (by simp)
      have d5 := hres.cell 5 (by simp)
      simp only [List.getD, List.getElem?_cons_zero, List.getElem?_cons_succ, Option.getD_some] at d0 d1 d2 d3 d4 d5
      have f0 := hres.frozen 0
      have f1 := hres.frozen 1
      have f2 := hres.frozen 2
      have f3 := hres.frozen 3
      have f4 := hres.frozen 4
      have f5 := hres.frozen 5
      obtain ⟨old, hold⟩ : ∃ z, (l.map (fun x : Nat => (x : Int)) ++ List.replicate (5 - k) 0).getD k 0 = z := ⟨_, rfl⟩
      rw [hold] at hck
      have HI : Hid (twosD r k = some l ∧ Row 70 .i64 wr (w.heap.size + 1) (l.map (fun x : Nat => (x : Int)) ++ List.replicate (5 - k) 0) ∧ Row 56 .i64 wr w.heap.size [0, 0, 0, 0, 0, 0] ∧ Below w.heap.size w wr ∧ l.length = k ∧ 2 * k = K2) := ⟨hl, hrow, hres, hb, hll, hK2⟩
      clear hl hrow hres hb hll hlr hold hlen2 hK2 hlx
      cases hnum : numGo 0 ((r.drop K2).take 2) with
      | none =>
        rw [hnum] at HN
        have HNN : Hid (twosD r 5 = none) := by
          have h1 : twosD r (k + 1) = none := by simp only [twosD, HI.out.1, twoD, HI.out.2.2.2.2.2, hnum]
          have h2 := twosD_none r (k + 1) h1 (4 - k)
          rw [show k + 1 + (4 - k) = 5 by omega] at h2
          exact h2
        clear hnum
        go_wp2_with (go_at_call 28; refine HN.mono ?_; rintro e w2 ⟨rfl, rfl⟩; simp only [numV])
        refine bodyPost_ret (ret_mom rfl _ _ w.heap.size _ _ _ _ _ _ rfl (HI.out.2.2.1.set6 0 0 0 0 0 0)) rfl ?_
        exact ⟨HI.out.2.2.2.1.trans ((but_set6 _ w.heap.size _ _ _ _ _ _).below (Nat.le_refl _) HI.out.2.2.2.1.size), .inr ⟨.inl HNN.out, 0, 0, 0, 0, 0, 0, rfl⟩⟩
      | some x =>
        rw [hnum] at HN
        have HX : Hid (twosD r (k + 1) = some (l ++ [x])) := by show twosD r (k + 1) = _; simp only [twosD, HI.out.1, twoD, HI.out.2.2.2.2.2, hnum]
        clear hnum
        go_wp2_with (go_at_call 28; refine HN.mono ?_; rintro e w2 ⟨rfl, rfl⟩; simp only [numV])
        have hbt := But.setCell (w.heap.size + 1) w2 k (.int .i64 (x : Int))
        exact ⟨⟨k + 1, l ++ [x], by omega, by push_cast; rfl, HX.out, by rw [← pad_set l k x HI.out.2.2.2.2.1 hk]; exact HI.out.2.1.set k (x : Int), HI.out.2.2.1.but hbt (by omega), HI.out.2.2.2.1.trans (hbt.below (by omega) HI.out.2.2.2.1.size)⟩, by simp only [intOf]; omega⟩
    · obtain ⟨m, d, h, mi, s, rfl⟩ : ∃ m d h mi s, l = [m, d, h, mi, s] := by
        match l, hll with
        | [m, d, h, mi, s], _ => exact ⟨m, d, h, mi, s, rfl⟩
      have a0 := hrow.cell 0 (by simp)
      have a1 := hrow.cell 1 (by simp)
      have a2 := hrow.cell 2 (by simp)
      have a3 := hrow.cell 3 (by simp)
      have a4 := hrow.cell 4 (by simp)
      simp only [List.getD, List.map_cons, List.map_nil, List.cons_append, List.nil_append, List.getElem?_cons_zero, List.getElem?_cons_succ, Option.getD_some] at a0 a1 a2 a3 a4
      have hz10 := HV.out.2.2 10 (by omega)
      replace hz10 := (hb.cell (p := ⟨b, o + 10, none⟩) (World.block_lt_of_cell? w _ hz10)).trans hz10
      obtain ⟨Z, hZ⟩ : ∃ Z, (r.getD 10 0).toNat = Z := ⟨_, rfl⟩
      have hZl := (r.getD 10 0).toNat_lt
      rw [hZ] at hz10 hZl
      have k3 : (c : Int) ≤ 9223372036854775807 := by omega
      have HI : Hid (twosD r 5 = some [m, d, h, mi, s] ∧ Row 56 .i64 wr w.heap.size [0, 0, 0, 0, 0, 0] ∧ Below w.heap.size w wr ∧ (r.getD 10 0).toNat = Z) := ⟨hl, hres, hb, hZ⟩
      have hbr : b ≠ w.heap.size := by
        have h1 := HV.out.2.2 10 (by omega)
        have h2 := World.block_lt_of_cell? w _ h1
        exact Nat.ne_of_lt h2
      have hlw := hres.lt
      clear hl hrow hb hlx hll hZ
      go_wp2_with fail
      have R2 := row_moment wr y m d h mi s
      have bX : Below wr.heap.size wr (wr.alloc (.cells #[.int .i64 (y : Int), .int .i64 (m : Int), .int .i64 (d : Int), .int .i64 (h : Int), .int .i64 (mi : Int), .int .i64 (s : Int)] 56)) := (Below.refl _ _).alloc (Nat.le_refl _) _
      have hres2 := hres.below bX hlw
      replace hz10 := (bX.cell (p := ⟨b, o + 10, none⟩) (World.block_lt_of_cell? wr _ hz10)).trans hz10
      generalize hX1 : wr.alloc (.cells #[.int .i64 (y : Int), .int .i64 (m : Int), .int .i64 (d : Int), .int .i64 (h : Int), .int .i64 (mi : Int), .int .i64 (s : Int)] 56) = X1 at R2 bX hres2 hz10
      obtain ⟨G, hG⟩ : ∃ G, wr.heap.size = G := ⟨_, rfl⟩
      rw [hG] at R2 ⊢
      have hGne : w.heap.size ≠ G := by omega
      have x0 := R2.cell 0 (by simp)
      have x1 := R2.cell 1 (by simp)
      have x2 := R2.cell 2 (by simp)
      have x3 := R2.cell 3 (by simp)
      have x4 := R2.cell 4 (by simp)
      have x5 := R2.cell 5 (by simp)
      have d0 := hres2.cell 0 (by simp)
      have d1 := hres2.cell 1 (by simp)
      have d2 := hres2.cell 2 (by simp)
      have d3 := hres2.cell 3 (by simp)
      have d4 := hres2.cell 4 (by simp)
      have d5 := hres2.cell 5 (by simp)
      simp only [List.getD, List.getElem?_cons_zero, List.getElem?_cons_succ, Option.getD_some] at x0 x1 x2 x3 x4 x5 d0 d1 d2 d3 d4 d5
      have f0 := hres2.frozen 0
      have f1 := hres2.frozen 1
      have f2 := hres2.frozen 2
      have f3 := hres2.frozen 3
      have f4 := hres2.frozen 4
      have f5 := hres2.frozen 5
      have HX : Hid (Row 56 .i64 X1 w.heap.size [0, 0, 0, 0, 0, 0] ∧ Below w.heap.size w X1) := ⟨hres2, HI.out.2.2.1.trans (bX.mono HI.out.2.2.1.size)⟩
      clear a0 a1 a2 a3 a4 hres hres2 R2 bX hX1 hG
      have hzS : ((((((X1.drew.setCell ⟨w.heap.size, 0, none⟩ (.int .i64 (y : Int))).setCell ⟨w.heap.size, 1, none⟩ (.int .i64 (m : Int))).setCell ⟨w.heap.size, 2, none⟩ (.int .i64 (d : Int))).setCell ⟨w.heap.size, 3, none⟩ (.int .i64 (h : Int))).setCell ⟨w.heap.size, 4, none⟩ (.int .i64 (mi : Int))).setCell ⟨w.heap.size, 5, none⟩ (.int .i64 (s : Int))).cell? ⟨b, o + 10, none⟩ = some (.int .u8 (Z : Int)) := set6_other hz10 hbr.symm
      clear hk hy hbig hcap hbr hlw hGne
      go_region
      go_wp2_with fail
      clear hzS x0 x1 x2 x3 x4 x5 d0 d1 d2 d3 d4 d5 f0 f1 f2 f3 f4 f5 hz10
      have R6 := HX.out.1.set6 (y : Int) (m : Int) (d : Int) (h : Int) (mi : Int) (s : Int)
      have bb := HX.out.2.trans ((but_set6 X1 w.heap.size (.int .i64 (y : Int)) (.int .i64 (m : Int)) (.int .i64 (d : Int)) (.int .i64 (h : Int)) (.int .i64 (mi : Int)) (.int .i64 (s : Int))).below (Nat.le_refl _) HX.out.2.size)
      generalize ((((((X1.setCell ⟨w.heap.size, 0, none⟩ (.int .i64 (y : Int))).setCell ⟨w.heap.size, 1, none⟩ (.int .i64 (m : Int))).setCell ⟨w.heap.size, 2, none⟩ (.int .i64 (d : Int))).setCell ⟨w.heap.size, 3, none⟩ (.int .i64 (h : Int))).setCell ⟨w.heap.size, 4, none⟩ (.int .i64 (mi : Int))).setCell ⟨w.heap.size, 5, none⟩ (.int .i64 (s : Int))) = X6 at R6 bb ⊢
      have R7 : Row 56 .i64 X6.drew w.heap.size [(y : Int), (m : Int), (d : Int), (h : Int), (mi : Int), (s : Int)] := R6
      refine bodyPost_ret (ret_mom rfl _ X6.drew w.heap.size (y : Int) (m : Int) (d : Int) (h : Int) (mi : Int) (s : Int) rfl R7) rfl ?_
      refine ⟨bb.drew, ?_⟩
      by_cases hz : Z = 90
      · have e1 : ((Z : Int) == 90) = true := by simp; omega
        exact .inl ⟨m, d, h, mi, s, HI.out.1, HI.out.2.2.2.trans hz, by show Ending.returned (.tuple #[momV y m d h mi s, .bool ((Z : Int) == 90)]) = _; rw [e1]⟩
      · have e1 : ((Z : Int) == 90) = false := by simp; omega
        exact .inr ⟨.inr (by rw [HI.out.2.2.2]; exact hz), (y : Int), (m : Int), (d : Int), (h : Int), (mi : Int), (s : Int), by show Ending.returned (.tuple #[momV y m d h mi s, .bool ((Z : Int) == 90)]) = _; rw [e1]⟩
end Go.Proofs.YtnckmcmobkpdcaaDoor
/-
  The code's Time.
-/
namespace Go.Proofs.YtnckmcmobkpdcaaDoor
open Go.Shelf Go.RowKit
set_option linter.unusedVariables false
set_option linter.unusedSimpArgs false

/-- A moment's seconds, if it is one. -/
def momD (y : Nat) (r : Bs) : Option Nat := match twosD r 5 with
  | some [m, d, h, mi, s] => if (r.getD 10 0).toNat = 90 ∧ existB y m d h mi s = true then some (secsD y m d h mi s) else none
  | _ => none
/-- A time's seconds. -/
def timeD (t : Nat) (bs : Bs) : Option Nat := match yearD t bs with
  | none => none
  | some (y, r) => momD y r
/-- What Time answers. -/
def timeV : Option Nat → Value
  | some n => .tuple #[.int .u64 (n : Int), .int .i64 0]
  | none => .tuple #[.int .u64 0, .int .i64 31]
theorem secsD_lt (y m d h mi s : Nat) (hy : y ≤ 9999) (hm : m ≤ 12) (hd : d ≤ 99) (hh : h ≤ 99) (hmi : mi ≤ 99) (hs : s ≤ 99) : secsD y m d h mi s < 9223372036854775807 := by
  unfold secsD
  have h1 := monsD_le y (m - 1)
  have h2 : lyD y ≤ 10000 := by unfold lyD; omega
  generalize monsD y (m - 1) = A at *
  generalize lyD y = B at *
  omega
set_option maxRecDepth 100000 in
set_option maxHeartbeats 4000000 in
/-- Time. -/
theorem derTime (t : Nat) (ht : t < 256) (p : Option Addr) (n c : Nat) (bs : Bs) (P : Nat → Prop) (w : World) (hl : bs.length = n) (h : ByV w P p c bs) (hM : Md w) :
    Calls Tryd.prog 11 #[.agg #[.int .u8 (t : Int), .slice p n c]] w fun e w' => e = .returned (timeV (timeD t bs)) ∧ Below w.heap.size w w' := by
  obtain ⟨W1, hW1⟩ : ∃ W1, w.alloc (.cells #[.int .u8 (t : Int), .slice p n c] 24) = W1 := ⟨_, rfl⟩
  have b1 : Below w.heap.size w W1 := by rw [← hW1]; exact (Below.refl _ _).alloc (Nat.le_refl _) _
  have s1 : Tl W1 w.heap.size (.int .u8 (t : Int)) (.slice p n c) := by rw [← hW1]; exact Tl.new w _ _
  obtain ⟨g0, g1, g2, g3⟩ := s1.facts
  have HY := splitYear_any t ht p n c bs (fun b => b < w.heap.size) W1 hl ((h.mono (fun g _ hlt => hlt)).keep (fun g hg _ => b1.block g hg))
  have HS : Hid (Below w.heap.size w W1 ∧ Md W1) := ⟨b1, hM.below b1⟩
  obtain ⟨T, hT⟩ : ∃ T, timeD t bs = T := ⟨_, rfl⟩
  rw [hT]
  unfold timeD at hT
  clear s1 b1 h hM hl
  cases hR : yearD t bs with
  | none =>
    rw [hR] at HY hT
    have HT : Hid (T = none) := hT.symm
    clear hT hR
    go_enter Tryd.func11, Tryd.ntmps11
    go_wp2_with (go_at_call 18; refine HY.mono ?_; rintro e w2 ⟨hb2, (⟨y, r, p2, c2, hk, _⟩ | ⟨_, a, b, rfl⟩)⟩; (try cases hk); have HB2 : Hid (Below W1.heap.size W1 w2) := hb2; clear hb2)
    go_ret2
    exact ⟨by rw [HT.out]; rfl, HS.out.1.trans (HB2.out.mono HS.out.1.size)⟩
  | some q =>
    obtain ⟨y, r⟩ := q
    rw [hR] at HY hT
    simp only [] at hT
    clear hR
    go_enter Tryd.func11, Tryd.ntmps11
    go_wp2_with (go_at_call 18; refine HY.mono ?_; rintro e w2 ⟨hb2, (⟨y', r', p2, c2, hk, hy1, hy2, hr11, rfl, hv2⟩ | ⟨hk, _⟩)⟩; rotate_left; (cases hk); cases hk; have HMO := momentOf_any y hy2 p2 c2 r (fun b => b < w.heap.size) w2 hr11 hv2; have HB2 : Hid (Below w.heap.size w w2 ∧ Md w2) := ⟨HS.out.1.trans (hb2.mono HS.out.1.size), HS.out.2.below hb2⟩; clear hb2 hv2)
    go_at_call 19
    refine HMO.mono ?_
    rintro e w3 ⟨hb3, (⟨m, d, h, mi, s, h5, hz, rfl⟩ | ⟨hno, a1, a2, a3, a4, a5, a6, rfl⟩)⟩
    · obtain ⟨_, hx⟩ := twosD_len r 5 _ h5
      have hm9 := hx m (by simp)
      have hd9 := hx d (by simp)
      have hh9 := hx h (by simp)
      have hmi9 := hx mi (by simp)
      have hs9 := hx s (by simp)
      have hB3 : Below w.heap.size w w3 := HB2.out.1.trans (hb3.mono HB2.out.1.size)
      have hM3 : Md w3 := HB2.out.2.below hb3
      have R4 := row_moment w3 y m d h mi s
      have b4 : Below w3.heap.size w3 (w3.alloc (.cells #[.int .i64 (y : Int), .int .i64 (m : Int), .int .i64 (d : Int), .int .i64 (h : Int), .int .i64 (mi : Int), .int .i64 (s : Int)] 56)) := (Below.refl _ _).alloc (Nat.le_refl _) _
      obtain ⟨W4, hW4⟩ : ∃ W4, w3.alloc (.cells #[.int .i64 (y : Int), .int .i64 (m : Int), .int .i64 (d : Int), .int .i64 (h : Int), .int .i64 (mi : Int), .int .i64 (s : Int)] 56) = W4 := ⟨_, rfl⟩
      rw [hW4] at R4 b4
      obtain ⟨G, hG⟩ : ∃ G, w3.heap.size = G := ⟨_, rfl⟩
      have HW4 : Hid (w3.alloc (.cells #[.int .i64 (y : Int), .int .i64 (m : Int), .int .i64 (d : Int), .int .i64 (h : Int), .int .i64 (mi : Int), .int .i64 (s : Int)] 56) = W4 ∧ w3.heap.size = G) := ⟨hW4, hG⟩
      rw [hG] at R4
      have hM4 := hM3.below b4
      have hB4 : Below w.heap.size w W4 := hB3.trans (b4.mono hB3.size)
      have HE := exists_any y m d h mi s (by omega) (by omega) (by omega) (by omega) (by omega) (by omega) W4 hM4
      have HTT : Hid (T = if existB y m d h mi s = true then some (secsD y m d h mi s) else none) := by
        show T = _
        rw [← hT]
        unfold momD
        rw [h5]
        simp only []
        by_cases hx : existB y m d h mi s = true
        · rw [if_pos ⟨hz, hx⟩, if_pos hx]
        · rw [if_neg (by intro hh; exact hx hh.2), if_neg hx]
      have c0 := R4.cell 0 (by simp)
      have c1 := R4.cell 1 (by simp)
      have c2 := R4.cell 2 (by simp)
      have c3 := R4.cell 3 (by simp)
      have c4 := R4.cell 4 (by simp)
      have c5 := R4.cell 5 (by simp)
      simp only [List.getD, List.getElem?_cons_zero, List.getElem?_cons_succ, Option.getD_some] at c0 c1 c2 c3 c4 c5
      have HX : Hid (Below w.heap.size w W4 ∧ Md W4 ∧ Row 56 .i64 W4 G [(y : Int), (m : Int), (d : Int), (h : Int), (mi : Int), (s : Int)]) := ⟨hB4, hM4, R4⟩
      clear hT h5 hz hx hB3 hM3 b4 hM4 hB4 R4 hb3 hW4 hG HMO
      cases hex : existB y m d h mi s with
      | false =>
        rw [hex] at HE HTT
        clear hex
        have HT0 : Hid (T = none) := HTT.out
        clear HTT
        go_wp2_with fail
        go_at_call 20
        rw [HW4.out.1, HW4.out.2]
        refine HE.mono ?_
        rintro e w5 ⟨rfl, hb5⟩
        have HB5 : Hid (Below W4.heap.size W4 w5) := hb5
        clear hb5
        go_wp2_with fail
        go_ret2
        exact ⟨by rw [HT0.out]; rfl, HX.out.1.trans (HB5.out.mono HX.out.1.size)⟩
      | true =>
        have hex2 := hex
        unfold existB at hex2
        have hq := of_decide_eq_true hex2
        rw [hex] at HE HTT
        have HT0 : Hid (T = some (secsD y m d h mi s)) := HTT.out
        have HSE := fun W (hW : Md W) => seconds_any y m d h mi s hy1 hy2 hq.1 hq.2.1 hq.2.2.1 hd9 hh9 hmi9 hs9 W hW
        have hsl := secsD_lt y m d h mi s hy2 hq.2.1 hd9 hh9 hmi9 hs9
        obtain ⟨SS, hSS⟩ : ∃ SS, secsD y m d h mi s = SS := ⟨_, rfl⟩
        rw [hSS] at HT0 HSE hsl
        have hslI : (SS : Int) < 9223372036854775807 := by omega
        clear HTT hex hex2 hq hSS
        go_wp2_with fail
        go_at_call 20
        rw [HW4.out.1, HW4.out.2]
        refine HE.mono ?_
        rintro e w5 ⟨rfl, hb5⟩
        have R5 := HX.out.2.2.below hb5 HX.out.2.2.lt
        replace c0 := R5.cell 0 (by simp)
        replace c1 := R5.cell 1 (by simp)
        have c2' := R5.cell 2 (by simp)
        replace c3 := R5.cell 3 (by simp)
        replace c4 := R5.cell 4 (by simp)
        replace c5 := R5.cell 5 (by simp)
        simp only [List.getD, List.getElem?_cons_zero, List.getElem?_cons_succ, Option.getD_some] at c0 c1 c2' c3 c4 c5
        have HB5 : Hid (Below w.heap.size w w5 ∧ Md w5) := ⟨HX.out.1.trans (hb5.mono HX.out.1.size), HX.out.2.1.below hb5⟩
        clear hb5 R5
        go_wp2_with (go_at_call 21; refine (HSE w5 HB5.out.2).mono ?_; rintro e w6 ⟨rfl, hb6⟩; have HB6 : Hid (Below w5.heap.size w5 w6) := hb6; clear hb6)
        go_ret2
        exact ⟨by rw [HT0.out]; rfl, HB5.out.1.trans (HB6.out.mono HB5.out.1.size)⟩
    · have HT0 : Hid (T = none) := by
        show T = none
        rw [← hT]
        unfold momD
        rcases hno with hno | hno
        · rw [hno]
        · split
          · rw [if_neg (by intro hh; exact hno hh.1)]
          · rfl
      have HB3 : Hid (Below w.heap.size w w3) := HB2.out.1.trans (hb3.mono HB2.out.1.size)
      clear hT hno hb3 HMO
      go_wp2_with fail
      go_ret2
      exact ⟨by rw [HT0.out]; rfl, HB3.out.alloc HB3.out.size _⟩
end Go.Proofs.YtnckmcmobkpdcaaDoor
/-
  The calendar of the law DerDays: what is written of a day and a second, and that reading it gives them back.
-/
namespace Go.Proofs.YtnckmcmobkpdcaaDoor
open Go.Shelf Go.RowKit
set_option linter.unusedVariables false
set_option linter.unusedSimpArgs false

/-- Two digits of a number. -/
def twoB (n : Nat) : Bs := [UInt8.ofNat (48 + n / 10 % 10), UInt8.ofNat (48 + n % 10)]
theorem digit_nat (k : Nat) (h : k < 10) : (UInt8.ofNat (48 + k)).toNat = 48 + k := by
  rw [UInt8.toNat_ofNat']
  exact Nat.mod_eq_of_lt (by omega)
theorem numGo_two (a n : Nat) (h : n < 100) (xs : Bs) : numGo a (twoB n ++ xs) = numGo (100 * a + n) xs := by
  have h1 := digit_nat (n / 10 % 10) (by omega)
  have h2 := digit_nat (n % 10) (by omega)
  show numGo a (UInt8.ofNat (48 + n / 10 % 10) :: UInt8.ofNat (48 + n % 10) :: xs) = _
  rw [numGo_cons, h1, if_neg (by omega), numGo_cons, h2, if_neg (by omega)]
  congr 1
  omega
theorem numGo_two0 (a n : Nat) (h : n < 100) : numGo a (twoB n) = some (100 * a + n) := by
  have := numGo_two a n h []
  rw [List.append_nil] at this
  exact this
/-- What is written behind the century. -/
def restB (m d h mi s : Nat) : Bs := twoB m ++ (twoB d ++ (twoB h ++ (twoB mi ++ (twoB s ++ [90]))))
theorem restB_len (m d h mi s : Nat) : (restB m d h mi s).length = 11 := rfl
theorem twosD_rest (m d h mi s : Nat) (hm : m < 100) (hd : d < 100) (hh : h < 100) (hmi : mi < 100) (hs : s < 100) : twosD (restB m d h mi s) 5 = some [m, d, h, mi, s] := by
  have e0 : twoD (restB m d h mi s) 0 = some m := (numGo_two0 0 m hm).trans (by rw [Nat.mul_zero, Nat.zero_add])
  have e1 : twoD (restB m d h mi s) 1 = some d := (numGo_two0 0 d hd).trans (by rw [Nat.mul_zero, Nat.zero_add])
  have e2 : twoD (restB m d h mi s) 2 = some h := (numGo_two0 0 h hh).trans (by rw [Nat.mul_zero, Nat.zero_add])
  have e3 : twoD (restB m d h mi s) 3 = some mi := (numGo_two0 0 mi hmi).trans (by rw [Nat.mul_zero, Nat.zero_add])
  have e4 : twoD (restB m d h mi s) 4 = some s := (numGo_two0 0 s hs).trans (by rw [Nat.mul_zero, Nat.zero_add])
  simp only [twosD, e0, e1, e2, e3, e4, List.nil_append, List.cons_append]
theorem momD_rest (y m d h mi s : Nat) (hm : m < 100) (hd : d < 100) (hh : h < 100) (hmi : mi < 100) (hs : s < 100) (he : existB y m d h mi s = true) : momD y (restB m d h mi s) = some (secsD y m d h mi s) := by
  unfold momD
  rw [twosD_rest m d h mi s hm hd hh hmi hs]
  have e : ((restB m d h mi s).getD 10 0).toNat = 90 := rfl
  simp only [e, he, and_self, if_true]
theorem timeD_utc (y m d h mi s : Nat) (h1 : 1970 ≤ y) (h2 : y < 2050) (hm : m < 100) (hd : d < 100) (hh : h < 100) (hmi : mi < 100) (hs : s < 100) (he : existB y m d h mi s = true) :
    timeD 23 (twoB (y % 100) ++ restB m d h mi s) = some (secsD y m d h mi s) := by
  have e0 : numGo 0 ((twoB (y % 100) ++ restB m d h mi s).take 2) = some (y % 100) := (numGo_two0 0 (y % 100) (by omega)).trans (by rw [Nat.mul_zero, Nat.zero_add])
  have e1 : centD (y % 100) = y := by
    unfold centD
    split <;> omega
  have e2 : yearD 23 (twoB (y % 100) ++ restB m d h mi s) = some (y, restB m d h mi s) := by
    unfold yearD
    rw [if_pos ⟨rfl, rfl⟩, e0]
    simp only [e1, if_pos h1]
    rfl
  unfold timeD
  rw [e2]
  exact momD_rest y m d h mi s hm hd hh hmi hs he
theorem timeD_long (y m d h mi s : Nat) (h1 : 2050 ≤ y) (h2 : y < 10000) (hm : m < 100) (hd : d < 100) (hh : h < 100) (hmi : mi < 100) (hs : s < 100) (he : existB y m d h mi s = true) :
    timeD 24 (twoB (y / 100) ++ (twoB (y % 100) ++ restB m d h mi s)) = some (secsD y m d h mi s) := by
  have e0 : numGo 0 ((twoB (y / 100) ++ (twoB (y % 100) ++ restB m d h mi s)).take 4) = some y := by
    show numGo 0 (twoB (y / 100) ++ twoB (y % 100)) = some y
    rw [numGo_two 0 (y / 100) (by omega), numGo_two0 _ _ (by omega)]
    congr 1
    omega
  have e2 : yearD 24 (twoB (y / 100) ++ (twoB (y % 100) ++ restB m d h mi s)) = some (y, restB m d h mi s) := by
    unfold yearD
    rw [if_neg (fun k => absurd k.1 (by decide)), if_pos ⟨rfl, rfl⟩, e0]
    simp only [if_pos h1]
    rfl
  unfold timeD
  rw [e2]
  exact momD_rest y m d h mi s hm hd hh hmi hs he
/-- A year's days. -/
def yrD (y : Nat) : Nat := if leapD y = true then 366 else 365
/-- The days ahead of a year, counted from 1970. -/
def dayD (y : Nat) : Nat := 365 * (y - 1970) + lyD y - 477
theorem leapD_iff (y : Nat) : leapD y = true ↔ (y % 4 = 0 ∧ y % 100 ≠ 0) ∨ y % 400 = 0 := by
  simp only [leapD, Bool.or_eq_true, Bool.and_eq_true, beq_iff_eq, bne_iff_ne, ne_eq]
theorem lyD_ge (y : Nat) (h : 1970 ≤ y) : 477 ≤ lyD y := by
  unfold lyD
  omega
theorem lyD_step (y : Nat) (h : 1970 ≤ y) : lyD (y + 1) = lyD y + (if leapD y = true then 1 else 0) := by
  unfold lyD
  by_cases hl : leapD y = true
  · have := (leapD_iff y).1 hl
    rw [if_pos hl]
    omega
  · have : ¬ ((y % 4 = 0 ∧ y % 100 ≠ 0) ∨ y % 400 = 0) := fun k => hl ((leapD_iff y).2 k)
    rw [if_neg hl]
    omega
theorem dayD_0 : dayD 1970 = 0 := by decide +kernel
theorem dayD_step (y : Nat) (h : 1970 ≤ y) : dayD (y + 1) = dayD y + yrD y := by
  have h1 := lyD_ge y h
  have h2 := lyD_step y h
  unfold dayD yrD
  rw [h2]
  by_cases hl : leapD y = true
  · rw [if_pos hl, if_pos hl]
    omega
  · rw [if_neg hl, if_neg hl]
    omega
theorem dayD_ge (y : Nat) (h : 1970 ≤ y) : 365 * (y - 1970) ≤ dayD y := by
  have h1 := lyD_ge y h
  unfold dayD
  omega
theorem monsD_12 (y : Nat) : monsD y 12 = yrD y := by
  unfold yrD
  by_cases hl : leapD y = true
  · simp only [monsD, monD, hl, mdL]
    decide +kernel
  · simp only [monsD, monD, hl, mdL]
    decide +kernel
theorem secs_all (N D s y m : Nat) (hd : dayD y + monsD y (m - 1) + D = N) (hs : s < 86400) : secsD y m (D + 1) (s / 3600) (s / 60 % 60) (s % 60) = N * 86400 + s := by
  have e : secsD y m (D + 1) (s / 3600) (s / 60 % 60) (s % 60) = (((dayD y + monsD y (m - 1) + (D + 1 - 1)) * 24 + s / 3600) * 60 + s / 60 % 60) * 60 + s % 60 := rfl
  rw [e, Nat.add_sub_cancel, hd]
  omega
end Go.Proofs.YtnckmcmobkpdcaaDoor
/-
  Contracts of nat.addTimes and nat.subTimes: a so often added to, or taken away from, limbs in their place.
-/
namespace Go.Proofs.YtnckmcmobkpdcaaDoor
open Go.RowKit
set_option linter.unusedVariables false
set_option linter.unusedSimpArgs false

/-- The base of limbs. -/
def B64 : Int := 18446744073709551616
theorem B64_pos : 0 < B64 := by decide
theorem B64_one : 1 < B64 := by decide

/-- Limbs from o on, so many. -/
def seg (xs : List Int) (o i : Nat) : List Int := (xs.drop o).take i
theorem seg_succ (xs : List Int) (o i : Nat) (h : o + i < xs.length) : seg xs o (i + 1) = seg xs o i ++ [xs.getD (o + i) 0] := by
  unfold seg
  rw [List.take_succ_eq_append_getElem (by simp; omega)]
  congr 2
  simp [List.getD, List.getElem?_eq_getElem h]
theorem seg_len (xs : List Int) (o i : Nat) (h : o + i ≤ xs.length) : (seg xs o i).length = i := by unfold seg; simp; omega
theorem seg_set (xs : List Int) (o i : Nat) (y : Int) : seg (xs.set (o + i) y) o i = seg xs o i := by
  unfold seg
  apply List.ext_getElem?
  intro j
  simp only [List.getElem?_take, List.getElem?_drop]
  by_cases hj : j < i
  · simp only [hj, if_true]
    rw [List.getElem?_set_ne (by omega)]
  · simp [hj]
theorem getD_set (xs : List Int) (j k : Nat) (y : Int) (h : k < xs.length) : (xs.set k y).getD j 0 = if j = k then y else xs.getD j 0 := by
  simp only [List.getD, List.getElem?_set]
  by_cases hj : k = j
  · subst hj; simp [h]
  · simp [hj, Ne.symm hj]
theorem take_succ_getD (xs : List Int) (i : Nat) (h : i < xs.length) : xs.take (i + 1) = xs.take i ++ [xs.getD i 0] := by
  rw [List.take_succ_eq_append_getElem h]
  congr 2
  simp [List.getD, List.getElem?_eq_getElem h]

/-- What stands in the row when i limbs have been gone over: s is 1 for sums, -1 for differences; c is carried, or borrowed. -/
def Runs (s : Int) (xs ys : List Int) (o i : Nat) (t : Int) (cur : List Int) (c : Int) : Prop :=
  cur.length = xs.length ∧ (∀ j, j < o ∨ o + i ≤ j → cur.getD j 0 = xs.getD j 0) ∧ Dg B64 cur ∧ 0 ≤ c ∧ c < B64 ∧
    val B64 (seg cur o i) + s * (B64 ^ i * c) = val B64 (seg xs o i) + s * (t * val B64 (ys.take i))

theorem Runs.zero {s : Int} {xs ys : List Int} {o : Nat} {t : Int} (hd : Dg B64 xs) : Runs s xs ys o 0 t xs 0 :=
  ⟨rfl, fun _ _ => rfl, hd, by decide, by decide, by simp [seg, val]⟩

theorem Runs.step {s : Int} {xs ys : List Int} {o i : Nat} {t : Int} {cur : List Int} {c : Int} (h : Runs s xs ys o i t cur c) (ho : o + i < xs.length) (hy : i < ys.length) {next c' : Int}
    (hn : 0 ≤ next ∧ next < B64) (hc : 0 ≤ c' ∧ c' < B64) (he : next + s * (B64 * c') = cur.getD (o + i) 0 + s * (ys.getD i 0 * t + c)) : Runs s xs ys o (i + 1) t (cur.set (o + i) next) c' := by
  obtain ⟨h1, h2, h3, h4, h5, h6⟩ := h
  refine ⟨by simp [h1], fun j hj => ?_, h3.set _ hn, hc.1, hc.2, ?_⟩
  · rw [getD_set _ _ _ _ (by omega), if_neg (by omega)]
    exact h2 j (by omega)
  · have e1 : seg (cur.set (o + i) next) o (i + 1) = seg cur o i ++ [next] := by
      rw [seg_succ _ _ _ (by simp; omega), seg_set, getD_set _ _ _ _ (by omega), if_pos rfl]
    rw [e1, seg_succ xs o i ho, take_succ_getD ys i hy]
    simp only [val_append, seg_len cur o i (by omega), seg_len xs o i (by omega), val]
    have e2 : (ys.take i).length = i := by simp; omega
    rw [e2, Int.pow_succ]
    have e3 := h2 (o + i) (by omega)
    rw [e3] at he
    generalize val B64 (seg cur o i) = A at *
    generalize val B64 (seg xs o i) = X at *
    generalize val B64 (ys.take i) = Y at *
    generalize B64 ^ i = p at *
    generalize ys.getD i 0 = y at *
    generalize xs.getD (o + i) 0 = x at *
    generalize B64 = b at *
    grind

theorem add_round (x y t c hi lo ne ov : Int) (hx : 0 ≤ x ∧ x < B64) (hy : 0 ≤ y ∧ y < B64) (ht : 0 ≤ t ∧ t < B64) (hc : 0 ≤ c ∧ c < B64)
    (e1 : hi = (y * t + c) / 18446744073709551616) (e2 : lo = (y * t + c) % 18446744073709551616) (e3 : ne = (x + lo) % 18446744073709551616) (e4 : ov = (x + lo) / 18446744073709551616) :
    (0 ≤ ne ∧ ne < B64) ∧ (0 ≤ hi + ov ∧ hi + ov < B64) ∧ ne + 1 * (B64 * (hi + ov)) = x + 1 * (y * t + c) := by
  unfold B64 at *
  have hp := prod_lt y t c hy.1 hy.2 ht.1 ht.2 hc.2
  have hp0 : 0 ≤ y * t := Int.mul_nonneg hy.1 ht.1
  generalize y * t = P at *
  omega
theorem sub_round (x y t c hi lo ne ov : Int) (hx : 0 ≤ x ∧ x < B64) (hy : 0 ≤ y ∧ y < B64) (ht : 0 ≤ t ∧ t < B64) (hc : 0 ≤ c ∧ c < B64)
    (e1 : hi = (y * t + c) / 18446744073709551616) (e2 : lo = (y * t + c) % 18446744073709551616) (e3 : ne = (x - lo) % 18446744073709551616) (e4 : ov = bor x lo) :
    (0 ≤ ne ∧ ne < B64) ∧ (0 ≤ hi + ov ∧ hi + ov < B64) ∧ ne + -1 * (B64 * (hi + ov)) = x + -1 * (y * t + c) := by
  unfold B64 bor at *
  have hp := prod_lt y t c hy.1 hy.2 ht.1 ht.2 hc.2
  have hp0 : 0 ≤ y * t := Int.mul_nonneg hy.1 ht.1
  generalize y * t = P at *
  split at e4 <;> omega

end Go.Proofs.YtnckmcmobkpdcaaDoor
/-
  Numbers handed in and answered; make; contracts of nat.Norm, Of, Len, Cmp.
-/
namespace Go.Proofs.YtnckmcmobkpdcaaDoor
open Go.RowKit
set_option linter.unusedVariables false
set_option linter.unusedSimpArgs false

/-- A number that a slice says. -/
structure NumIn (k : IntKind) (B : Int) (w : World) (ao : Option Addr) (len cap : Nat) (xs : List Int) : Prop where
  lies : Lies k w ao len xs
  lc : len ≤ cap
  cm : cap ≤ maxLen
  nn : ao = none → cap = 0
  dg : Dg B xs
  sm : len ≤ 1073741824

/-- An answer: a number without zeros above, of at most L digits; old memory is as it was. -/
def NumOut (k : IntKind) (B : Int) (w w' : World) (v : Value) (n : Int) (L : Nat) : Prop :=
  ∃ ao len cap xs, v = .slice ao len cap ∧ NumIn k B w' ao len cap xs ∧ Canon xs ∧ val B xs = n ∧ len ≤ L ∧ Below w.heap.size w w'

theorem NumIn.old {k : IntKind} {B : Int} {w w' : World} {ao : Option Addr} {len cap : Nat} {xs : List Int} (h : NumIn k B w ao len cap xs) (hb : Below w.heap.size w w') : NumIn k B w' ao len cap xs :=
  ⟨h.lies.old hb, h.lc, h.cm, h.nn, h.dg, h.sm⟩
theorem NumIn.len {k : IntKind} {B : Int} {w : World} {ao : Option Addr} {len cap : Nat} {xs : List Int} (h : NumIn k B w ao len cap xs) : xs.length = len := h.lies.len
theorem NumIn.take {k : IntKind} {B : Int} {w : World} {ao : Option Addr} {len cap : Nat} {xs : List Int} (h : NumIn k B w ao len cap xs) (n : Nat) (hn : n ≤ len) : NumIn k B w ao n cap (xs.take n) :=
  ⟨h.lies.take n hn, by have := h.lc; omega, h.cm, h.nn, h.dg.take n, by have := h.sm; omega⟩
theorem NumIn.nil {k : IntKind} {B : Int} {w : World} : NumIn k B w none 0 0 [] := ⟨Lies.empty _ _ _, Nat.le_refl _, by simp [maxLen], fun _ => rfl, Dg.nil _, by omega⟩
/-- A row of own memory as a number. -/
theorem Row.num {e : TypeId} {k : IntKind} {B : Int} {w : World} {g : Nat} {xs : List Int} (h : Row e k w g xs) (hd : Dg B xs) (hs : xs.length ≤ 1073741824) : NumIn k B w (some ⟨g, 0, none⟩) xs.length xs.length xs := by
  refine ⟨?_, Nat.le_refl _, by unfold maxLen; omega, fun h => (by cases h), hd, hs⟩
  have := h.lies 0 xs.length (by omega)
  simpa using this
/-- An answer that is the trimmed number. -/
theorem NumIn.out {k : IntKind} {B : Int} {w w' : World} {ao : Option Addr} {len cap : Nat} {xs : List Int} (h : NumIn k B w' ao len cap xs) (hb : Below w.heap.size w w') (n : Int) (hv : val B xs = n) (L : Nat) (hL : len ≤ L) :
    NumOut k B w w' (.slice ao (top xs) cap) n L := by
  have hl := h.len
  have ht := top_le xs
  exact ⟨ao, top xs, cap, xs.take (top xs), rfl, h.take _ (by omega), canon_take_top xs, by rw [val_take_top, hv], by omega, hb⟩

theorem Tryd.infoU : (Tryd.prog.info? 34).map (fun i => (i.zero, i.size, i.bytes)) = some (some (.int .u64 0), 1, 8) := by kernel_rfl
theorem Tryd.infoI : (Tryd.prog.info? 3).map (fun i => (i.zero, i.size, i.bytes)) = some (some (.int .i64 0), 1, 8) := by kernel_rfl
theorem Tryd.infoB : (Tryd.prog.info? 5).map (fun i => (i.zero, i.size, i.bytes)) = some (some (.int .u8 0), 1, 1) := by kernel_rfl

/-- make: a new row of zeros. -/
theorem wpList_make_row {P : Program} (w : World) {ops : Array Oper} {rest : List Oper} {o : Oper} {a : Act} {Q : Exit → Act → World → Prop}
    (hg : o.guard = none) (l c : Operand) (t : TypeId) (hop : o.op = Op.makeSlice t l c) (e : TypeId) (k : IntKind) (bytes : Nat)
    (h1 : P.underlying t = some (.slice e)) (h2 : (P.info? e).map (fun i => (i.zero, i.size, i.bytes)) = some (some (.int k 0), 1, bytes))
    (kl kc : IntKind) (L C : Int) (n : Nat) (hl : a.eval l = .int kl L) (hc : a.eval c = .int kc C) (hL : L = (n : Int)) (hC : C = (n : Int)) (b2 : bytes * n ≤ 281474976710656) (b3 : n ≤ maxLen)
    (hK : ∀ w', Row e k w' w.heap.size (List.replicate n 0) → Below w.heap.size w w' → wpList P ops Q rest (a.put o.dst (.slice (some ⟨w.heap.size, 0, none⟩) n n)) w') :
    wpList P ops Q (o :: rest) a w := by
  obtain ⟨i, hi, hz0, hz1, hz2⟩ := info_parts h2
  refine wpList_make_full w hg l c t hop w.heap.size e i (.int k 0) 1 h1 hi hz0 hz1 kl kc L C n hl hc hL hC (by rw [hz2]; exact b2) b3 (Nat.le_refl _) ?_
  intro w' hown hgr
  refine hK w' ?_ ((Below.refl _ _).grown hgr (Nat.le_refl _) (fun k h => by cases h))
  rcases hown.2 with ⟨h', _⟩ | ⟨g', cap', cur, h', _, hrow, _, _, hsz, htake⟩
  · simp at h'
  · simp only [Value.slice.injEq, Option.some.injEq, Addr.mk.injEq, and_true, true_and] at h'
    obtain ⟨rfl, rfl⟩ := h'
    unfold Row
    rw [hrow]
    have e1 : cur.toList = (List.replicate n 0).map (Value.int k) := by
      have e2 : cur.toList.take (n * 1) = cur.toList := List.take_of_length_le (by simp [hsz])
      rw [e2] at htake
      rw [htake]
      simp only [Value.cells, Nat.mul_one, toList_madeCells_one, List.map_replicate]
    rw [← e1]

/-- How many bits a number of limbs has. -/
def lenOf (xs : List Int) : Nat := if top xs = 0 then 0 else (top xs - 1) * 64 + blen (xs.getD (top xs - 1) 0).toNat

/-- How one number of limbs stands to another one: where one is greater at a place and above all are the same. -/
theorem cmp_at (B : Int) (hB : 1 < B) (xs ys : List Int) (hx : Dg B xs) (hy : Dg B ys) (n : Nat) (hn : xs.length = n) (hn' : ys.length = n) (p : Nat) (hp : p < n)
    (heq : ∀ j, p < j → j < n → xs.getD j 0 = ys.getD j 0) (hlt : xs.getD p 0 < ys.getD p 0) : val B xs < val B ys := by
  have hd : xs.drop (p + 1) = ys.drop (p + 1) := by
    apply List.ext_getElem
    · simp; omega
    · intro i h1 h2
      have := heq (p + 1 + i) (by omega) (by simp at h1; omega)
      simp only [List.getElem_drop]
      simp only [List.getD] at this
      rw [List.getElem?_eq_getElem (by simp at h1; omega), List.getElem?_eq_getElem (by simp at h2; omega)] at this
      simpa using this
  have ex : xs = xs.take (p + 1) ++ xs.drop (p + 1) := (List.take_append_drop _ _).symm
  have ey : ys = ys.take (p + 1) ++ ys.drop (p + 1) := (List.take_append_drop _ _).symm
  rw [ex, ey, hd, val_append, val_append, take_succ_getD xs p (by omega), take_succ_getD ys p (by omega), val_append, val_append]
  have a1 := val_lt (by omega) (hx.take p)
  have a2 := val_nonneg (by omega) (hy.take p)
  have l1 : (xs.take p).length = p := by simp; omega
  have l2 : (ys.take p).length = p := by simp; omega
  simp only [List.length_append, l1, l2, List.length_cons, List.length_nil, val, Int.mul_zero, Int.add_zero]
  rw [l1] at a1
  have a3 : B ^ p * (xs.getD p 0 + 1) ≤ B ^ p * ys.getD p 0 := Int.mul_le_mul_of_nonneg_left (by omega) (Int.le_of_lt (Int.pow_pos (by omega)))
  rw [Int.mul_add] at a3
  omega

theorem cmpI_lt {a b : Int} (h : a < b) : cmpI a b = -1 := by simp [cmpI, h]
theorem cmpI_gt {a b : Int} (h : b < a) : cmpI a b = 1 := by unfold cmpI; rw [if_neg (by omega), if_pos h]
theorem cmpI_eq {a b : Int} (h : a = b) : cmpI a b = 0 := by unfold cmpI; rw [if_neg (by omega), if_neg (by omega)]

/-- The number of fewer digits is less. -/
theorem top_lt_val {B : Int} (hB : 1 < B) {xs ys : List Int} (hx : Dg B xs) (hy : Dg B ys) (h : top xs < top ys) : val B xs < val B ys := by
  by_cases hv : val B xs < val B ys
  · exact hv
  · have := top_mono hB hy hx (by omega); omega

/-- A world that is as it was, but for draws. -/
def Drew (w w' : World) : Prop := ∃ n, w' = w.drewN n
theorem Drew.refl (w : World) : Drew w w := ⟨0, rfl⟩
theorem Drew.more {w w' : World} (h : Drew w w') (n : Nat) : Drew w (w'.drewN n) := by
  obtain ⟨m, rfl⟩ := h
  exact ⟨m + n, World.drewN_drewN _ _ _⟩
theorem Drew.trans {a b c : World} (h : Drew a b) (k : Drew b c) : Drew a c := by obtain ⟨n, rfl⟩ := k; exact h.more n
theorem Drew.cell {w w' : World} (h : Drew w w') (p : Addr) : w'.cell? p = w.cell? p := by obtain ⟨n, rfl⟩ := h; simp
theorem Drew.below {w w' : World} (h : Drew w w') (B : Nat) : Below B w w' := by obtain ⟨n, rfl⟩ := h; exact below_drewN (Below.refl _ _) n
theorem Drew.size {w w' : World} (h : Drew w w') : w'.heap.size = w.heap.size := by obtain ⟨n, rfl⟩ := h; simp

end Go.Proofs.YtnckmcmobkpdcaaDoor
