/-
  Keys, in the code.
-/
import Derived.Test.YtfmldcibhllpcabDoorCR
import Derived.Lib.BytesEntry
import Derived.Laws.Externs
namespace Go.Proofs.YtfmldcibhllpcabDoor
open Go.Shelf Go.RowKit
set_option linter.unusedVariables false
set_option linter.unusedSimpArgs false

/-- Is it a number? -/
def numK (k : Nat) : Bool := decide (k = 1 ∨ k = 2)
/-- Has it a key's kind? -/
def keyK (k : Nat) : Bool := decide (1 ≤ k ∧ k ≤ 4)
set_option maxRecDepth 100000 in
set_option maxHeartbeats 2000000 in
theorem isNumber_any (k : Nat) (hk : k < 256) (c1 c2 c3 : Value) (w : World) : Calls Tryd.prog 41 #[.agg #[.int .u8 (k : Int), c1, c2, c3]] w fun e w' => e = .returned (.bool (numK k)) ∧ Below w.heap.size w w' := by
  obtain ⟨r, hr⟩ : ∃ r, numK k = r := ⟨_, rfl⟩
  rw [hr]
  have HR : Hid (numK k = r) := hr
  have hk1 : (k : Int) < 256 := by omega
  clear hr
  by_cases h1 : k = 1
  · subst h1
    go_enter Tryd.func41, Tryd.ntmps41
    go_wp2
    go_ret
    exact ⟨by rw [← HR.out]; rfl, (Below.refl _ _).alloc (Nat.le_refl _) _⟩
  · have h1b : ((k : Int) == 1) = false := by simp; omega
    by_cases h2 : k = 2
    · subst h2
      go_enter Tryd.func41, Tryd.ntmps41
      go_wp2
      go_ret
      exact ⟨by rw [← HR.out]; rfl, (Below.refl _ _).alloc (Nat.le_refl _) _⟩
    · have h2b : ((k : Int) == 2) = false := by simp; omega
      go_enter Tryd.func41, Tryd.ntmps41
      go_wp2
      go_ret
      exact ⟨by rw [← HR.out]; simp [numK, h1, h2], (Below.refl _ _).alloc (Nat.le_refl _) _⟩
set_option maxRecDepth 100000 in
set_option maxHeartbeats 2000000 in
theorem mayBeKey_any (k : Nat) (hk : k < 256) (c1 c2 c3 : Value) (w : World) : Calls Tryd.prog 37 #[.agg #[.int .u8 (k : Int), c1, c2, c3]] w fun e w' => e = .returned (.bool (keyK k)) ∧ Below w.heap.size w w' := by
  obtain ⟨r, hr⟩ : ∃ r, keyK k = r := ⟨_, rfl⟩
  rw [hr]
  have HR : Hid (keyK k = r) := hr
  have hk1 : (k : Int) < 256 := by omega
  have HN := fun W => isNumber_any k hk c1 c2 c3 W
  obtain ⟨z, hz⟩ : ∃ z, numK k = z := ⟨_, rfl⟩
  rw [hz] at HN
  have HZ : Hid (numK k = z) := hz
  clear hr hz
  cases z with
  | true =>
    have hrt : r = true := by
      have h1 := HZ.out
      have h2 := HR.out
      simp [numK] at h1
      rw [← h2]
      simp [keyK]
      omega
    subst hrt
    go_enter Tryd.func37, Tryd.ntmps37
    go_wp2_with (go_at_call 41; refine (HN _).mono ?_; rintro e w1 ⟨rfl, hb1⟩)
    go_ret
    exact ⟨rfl, ((Below.refl _ _).alloc (Nat.le_refl _) _).trans (hb1.mono (by rw [alloc_sz]; omega))⟩
  | false =>
    have hnk : ¬ (k = 1 ∨ k = 2) := by have h1 := HZ.out; simpa [numK] using h1
    have hc0 : ∀ w1 : World, Below (w.alloc (Obj.cells #[.int .u8 (k : Int), c1, c2, c3] 29)).heap.size (w.alloc (Obj.cells #[.int .u8 (k : Int), c1, c2, c3] 29)) w1 → w1.cell? ⟨w.heap.size, 0, none⟩ = some (.int .u8 (k : Int)) := fun w1 hb => by
      rw [hb.cell (p := ⟨w.heap.size, 0, none⟩) (by rw [alloc_sz]; show w.heap.size < w.heap.size + 1; omega)]
      rw [cell_of_row _ w.heap.size 0 _ _ _ (heap_alloc_new w _)]
      rfl
    by_cases h3 : k = 3
    · subst h3
      go_enter Tryd.func37, Tryd.ntmps37
      go_wp2_with (go_at_call 41; refine (HN _).mono ?_; rintro e w1 ⟨rfl, hb1⟩; have hq := hc0 w1 hb1)
      go_ret
      exact ⟨by rw [← HR.out]; rfl, ((Below.refl _ _).alloc (Nat.le_refl _) _).trans (hb1.mono (by rw [alloc_sz]; omega))⟩
    · have h3b : ((k : Int) == 3) = false := by simp; omega
      by_cases h4 : k = 4
      · subst h4
        go_enter Tryd.func37, Tryd.ntmps37
        go_wp2_with (go_at_call 41; refine (HN _).mono ?_; rintro e w1 ⟨rfl, hb1⟩; have hq := hc0 w1 hb1)
        go_ret
        exact ⟨by rw [← HR.out]; rfl, ((Below.refl _ _).alloc (Nat.le_refl _) _).trans (hb1.mono (by rw [alloc_sz]; omega))⟩
      · have h4b : ((k : Int) == 4) = false := by simp; omega
        go_enter Tryd.func37, Tryd.ntmps37
        go_wp2_with (go_at_call 41; refine (HN _).mono ?_; rintro e w1 ⟨rfl, hb1⟩; have hq := hc0 w1 hb1)
        go_ret
        exact ⟨by rw [← HR.out]; simp [keyK]; omega, ((Below.refl _ _).alloc (Nat.le_refl _) _).trans (hb1.mono (by rw [alloc_sz]; omega))⟩
/-- A comparison of numbers. -/
def cmpN (a b : Nat) : Int := if a < b then -1 else if b < a then 1 else 0
set_option maxRecDepth 100000 in
set_option maxHeartbeats 2000000 in
theorem cmp8_any (a b : Nat) (ha : a < 256) (hb : b < 256) (w : World) : Calls Tryd.prog 42 #[.int .u8 (a : Int), .int .u8 (b : Int)] w fun e w' => e = .returned (.int .i64 (cmpN a b)) ∧ w' = w := by
  obtain ⟨r, hr⟩ : ∃ r, cmpN a b = r := ⟨_, rfl⟩
  rw [hr]
  have HR : Hid (cmpN a b = r) := hr
  clear hr
  go_enter Tryd.func42, Tryd.ntmps42
  go_wp2
  all_goals
    go_ret
    refine ⟨?_, rfl⟩
    rw [← HR.out]
    unfold cmpN
    repeat' split
  all_goals first | rfl | omega
set_option maxRecDepth 100000 in
set_option maxHeartbeats 2000000 in
theorem cmp64_any (a b : Nat) (ha : a < 18446744073709551616) (hb : b < 18446744073709551616) (w : World) : Calls Tryd.prog 43 #[.int .u64 (a : Int), .int .u64 (b : Int)] w fun e w' => e = .returned (.int .i64 (cmpN a b)) ∧ w' = w := by
  obtain ⟨r, hr⟩ : ∃ r, cmpN a b = r := ⟨_, rfl⟩
  rw [hr]
  have HR : Hid (cmpN a b = r) := hr
  clear hr
  go_enter Tryd.func43, Tryd.ntmps43
  go_wp2
  all_goals
    go_ret
    refine ⟨?_, rfl⟩
    rw [← HR.out]
    unfold cmpN
    repeat' split
  all_goals first | rfl | omega
set_option maxRecDepth 100000 in
set_option maxHeartbeats 2000000 in
theorem cmpI_any (a b : Nat) (ha : a < 9223372036854775808) (hb : b < 9223372036854775808) (w : World) : Calls Tryd.prog 45 #[.int .i64 (a : Int), .int .i64 (b : Int)] w fun e w' => e = .returned (.int .i64 (cmpN a b)) ∧ w' = w := by
  obtain ⟨r, hr⟩ : ∃ r, cmpN a b = r := ⟨_, rfl⟩
  rw [hr]
  have HR : Hid (cmpN a b = r) := hr
  clear hr
  go_enter Tryd.func45, Tryd.ntmps45
  go_wp2
  all_goals
    go_ret
    refine ⟨?_, rfl⟩
    rw [← HR.out]
    unfold cmpN
    repeat' split
  all_goals first | rfl | omega

theorem bytesOf_slice {P : Program} {w : World} {p : Option Addr} {n c : Nat} {l : Bs} (h : BAt w p n l) (hl : l.length = n) : (Extern.Bytes.bytesOf (.slice p n c)).run P w = .ok ⟨l.toArray⟩ w := by
  by_cases h0 : 0 < n
  · obtain ⟨b, o, rfl, hc⟩ := h h0
    have hx := Lib.run_loadBytesX (P := P) w (l.map fun b => (b.toNat : Int)) ⟨b, o, none⟩ .empty (fun j x hj => by
      rw [List.getElem?_map] at hj
      cases hq : l[j]? with
      | none => simp [hq] at hj
      | some y =>
        have hjl := (List.getElem?_eq_some_iff.1 hq).1
        rw [hq] at hj
        simp at hj
        subst hj
        rw [Addr.add_mid, hc j (by omega)]
        simp [List.getD, hq])
    rw [List.length_map, hl, bytesOf_map] at hx
    show Sem.run P (Extern.Bytes.loadBytes ⟨b, o, none⟩ n .empty) w = _
    rw [hx]
    congr 1
    apply ByteArray.ext
    show (#[] : Array UInt8) ++ l.toArray = l.toArray
    simp
  · have hn : n = 0 := by omega
    subst hn
    have : l = [] := List.eq_nil_of_length_eq_zero hl
    subst this
    cases p with
    | none => rfl
    | some a => rfl
theorem run_compareSlices {P : Program} {w : World} {p q : Option Addr} {n m c d : Nat} {x y : Bs} (h1 : BAt w p n x) (hx : x.length = n) (h2 : BAt w q m y) (hy : y.length = m) :
    (Extern.BytealgCompare.compare #[.slice p n c, .slice q m d]).run P w = .ok (.int .i64 (Lib.compareBytes x y)) w := by
  change Sem.run P (do pure (goInt (Extern.BytealgCompare.cmp (← Extern.Bytes.bytesOf (.slice p n c)) (← Extern.Bytes.bytesOf (.slice q m d))))) w = _
  simp only [Sem.run_bind, bytesOf_slice h1 hx, bytesOf_slice h2 hy, Sem.run_pure, Result.andThen]
  rw [Lib.cmp_eq]
  rfl
set_option maxRecDepth 100000 in
set_option maxHeartbeats 2000000 in
theorem bytesCompare_any {w : World} {p q : Option Addr} {n m c d : Nat} {x y : Bs} (h1 : BAt w p n x) (hx : x.length = n) (h2 : BAt w q m y) (hy : y.length = m) : Calls Tryd.prog 46 #[.slice p n c, .slice q m d] w fun e w' => e = .returned (.int .i64 (Lib.compareBytes x y)) ∧ w' = w := by
  have hr := run_compareSlices (P := Tryd.prog) (c := c) (d := d) h1 hx h2 hy
  go_enter Tryd.func46, Tryd.ntmps46
  go_wp2
  rw [run_callFunc_extern Tryd.func50 (by kernel_rfl) (by kernel_rfl) (by kernel_rfl) (e := Extern.BytealgCompare.compare) (by kernel_rfl), hr]
  simp only [Result.andThen]
  rw [Oper.upon_value]
  go_wp2
  go_ret
  exact ⟨rfl, rfl⟩
end Go.Proofs.YtfmldcibhllpcabDoor
