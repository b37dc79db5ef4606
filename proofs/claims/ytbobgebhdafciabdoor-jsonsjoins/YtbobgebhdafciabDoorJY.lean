/-
  The reader's signs of a text.
-/
import Derived.Test.YtbobgebhdafciabDoorJX
namespace Go.Proofs.YtbobgebhdafciabDoor
open Go.Shelf Go.RowKit
set_option linter.unusedVariables false
set_option linter.unusedSimpArgs false

theorem ret2i {k : IntKind} {a b : Int} {t : Bool} (h : a = b) : Ending.returned (.tuple #[.int k a, .bool t]) = .returned (.tuple #[.int k b, .bool t]) := by rw [h]
theorem tk1_none {k c : UInt8} {xs : Bs} (h : tk [k] (c :: xs) = none) : c ≠ k := fun e => by
  subst e
  simp [tk] at h
theorem tk1_some {k : UInt8} {xs ys : Bs} (h : tk [k] xs = some ys) : xs = k :: ys := tk_some h
theorem esc_none {bs : Bs} (h0 : tk [117] bs = none) (h1 : tk [34] bs = none) (h2 : tk [92] bs = none) (h3 : tk [47] bs = none) (h4 : tk [98] bs = none) (h5 : tk [102] bs = none) (h6 : tk [110] bs = none) (h7 : tk [114] bs = none) (h8 : tk [116] bs = none) : escS bs = none := by
  cases bs with
  | nil => rfl
  | cons c xs => simp [escS, escC, tk1_none h0, tk1_none h1, tk1_none h2, tk1_none h3, tk1_none h4, tk1_none h5, tk1_none h6, tk1_none h7, tk1_none h8]

set_option maxRecDepth 100000 in
set_option maxHeartbeats 4000000 in
/-- escapedUnits. -/
theorem units_any (g : Nat) (bs : Bs) (nv : Value) (o : Nat) (w : World) (h : Rd w g bs nv o) :
    Calls Tryd.prog 57 #[.pointer (some ⟨g, 0, none⟩)] w fun e w' => But g w w' ∧ ((∃ (r : Nat) (ys : Bs), unitsS bs = some (r, ys) ∧ r < 1114112 ∧ e = .returned (.tuple #[.int .i32 r, .bool true]) ∧ Rd w' g ys nv o) ∨ (unitsS bs = none ∧ (∃ v, e = .returned (.tuple #[.int .i32 v, .bool false])) ∧ ∃ ys, Rd w' g ys nv o)) := by
  have HU1 := unit_any g bs nv o w h
  have HU2 := fun W zs (hz : Rd W g zs nv o) => unit_any g zs nv o W hz
  have HT := fun W zs (hz : Rd W g zs nv o) => take_any ⟨#[92, 117]⟩ g zs nv o W hz
  clear h
  go_enter Tryd.func57, Tryd.ntmps57
  go_wp2_with fail
  go_at_call 60
  refine HU1.mono ?_
  clear HU1
  rintro e w1 ⟨c1, (⟨u, ys, a1, a2, rfl, a4⟩ | ⟨a1, rfl, zs, a4⟩)⟩
  · obtain ⟨x, hx⟩ : ∃ x : Int, (u : Int) = x := ⟨_, rfl⟩
    rw [hx]
    have hx0 : 0 ≤ x := by omega
    have hx1 : x ≤ 65535 := by omega
    have H : Hid (unitS 4 0 bs = some (u, ys) ∧ u < 65536 ∧ (u : Int) = x) := ⟨a1, a2, hx⟩
    clear a1 a2 hx
    by_cases q1 : x < 55296
    · go_wp2_with fail
      go_ret2
      exact ⟨c1, .inl ⟨u, ys, by unfold unitsS; rw [H.out.1]; simp only; rw [if_pos (by have := H.out.2.2; omega)], by have := H.out; omega, by rw [H.out.2.2]; rfl, a4⟩⟩
    by_cases q2 : 57344 ≤ x
    · go_wp2_with fail
      go_ret2
      exact ⟨c1, .inl ⟨u, ys, by unfold unitsS; rw [H.out.1]; simp only; rw [if_pos (by have := H.out.2.2; omega)], by have := H.out; omega, by rw [H.out.2.2]; rfl, a4⟩⟩
    have hS : unitsS bs = if 56320 ≤ u then none else lowS u ys := by unfold unitsS; rw [H.out.1]; simp only; rw [if_neg (by have := H.out.2.2; omega)]
    have HS : Hid (unitsS bs = if 56320 ≤ u then none else lowS u ys) := hS
    clear hS
    by_cases q3 : 56320 ≤ x
    · go_wp2_with fail
      go_ret2
      exact ⟨c1, .inr ⟨by rw [HS.out, if_pos (by have := H.out.2.2; omega)], ⟨0, rfl⟩, ys, a4⟩⟩
    have HS2 : Hid (unitsS bs = lowS u ys) := by show unitsS bs = lowS u ys; rw [HS.out, if_neg (by have := H.out.2.2; omega)]
    clear HS
    go_wp2_with (go_at_call 15; refine (HT _ _ (by assumption)).mono ?_; rintro e w2 ⟨c2, (⟨zs, b1, rfl, b3⟩ | ⟨b1, rfl, b3⟩)⟩)
    · clear a4
      go_at_call 60
      refine (HU2 _ _ b3).mono ?_
      clear HU2
      rintro e w3 ⟨c3, (⟨v, us, d1, d2, rfl, d4⟩ | ⟨d1, rfl, us, d4⟩)⟩
      · obtain ⟨y, hy⟩ : ∃ y : Int, (v : Int) = y := ⟨_, rfl⟩
        rw [hy]
        have hy0 : 0 ≤ y := by omega
        have hy1 : y ≤ 65535 := by omega
        have HL : Hid (unitsS bs = (if v < 56320 ∨ 57344 ≤ v then none else some (65536 + (u - 55296) * 1024 + (v - 56320), us)) ∧ (v : Int) = y) := ⟨by rw [HS2.out]; unfold lowS; rw [b1]; simp only; rw [d1], hy⟩
        clear d1 d2 hy HS2 b1
        by_cases r1 : y < 56320
        · go_wp2_with fail
          go_ret2
          exact ⟨(c1.trans c2).trans c3, .inr ⟨by rw [HL.out.1, if_pos (by have := HL.out.2; omega)], ⟨0, rfl⟩, us, d4⟩⟩
        by_cases r2 : 57344 ≤ y
        · go_wp2_with fail
          go_ret2
          exact ⟨(c1.trans c2).trans c3, .inr ⟨by rw [HL.out.1, if_pos (by have := HL.out.2; omega)], ⟨0, rfl⟩, us, d4⟩⟩
        go_wp2_with fail
        go_ret2
        refine ⟨(c1.trans c2).trans c3, .inl ⟨65536 + (u - 55296) * 1024 + (v - 56320), us, by rw [HL.out.1, if_neg (by have := HL.out.2; omega)], by have := HL.out.2; have := H.out; omega, ?_, d4⟩⟩
        exact ret2i (by have := H.out; have := HL.out; omega)
      · go_wp2_with fail
        go_ret2
        exact ⟨(c1.trans c2).trans c3, .inr ⟨by rw [HS2.out]; unfold lowS; rw [b1]; simp only; rw [d1], ⟨0, rfl⟩, us, d4⟩⟩
    · go_ret2
      exact ⟨c1.trans c2, .inr ⟨by rw [HS2.out]; unfold lowS; rw [b1], ⟨0, rfl⟩, ys, b3⟩⟩
  · go_wp2_with fail
    go_ret2
    exact ⟨c1, .inr ⟨by unfold unitsS; rw [a1], ⟨0, rfl⟩, zs, a4⟩⟩

set_option maxRecDepth 100000 in
set_option maxHeartbeats 4000000 in
/-- escape. -/
theorem escape_any (g : Nat) (bs : Bs) (nv : Value) (o : Nat) (w : World) (h : Rd w g bs nv o) :
    Calls Tryd.prog 52 #[.pointer (some ⟨g, 0, none⟩)] w fun e w' => But g w w' ∧ ((∃ (r : Nat) (ys : Bs), escS bs = some (r, ys) ∧ r < 1114112 ∧ e = .returned (.tuple #[.int .i32 r, .bool true]) ∧ Rd w' g ys nv o) ∨ (escS bs = none ∧ (∃ v, e = .returned (.tuple #[.int .i32 v, .bool false])) ∧ ∃ ys, Rd w' g ys nv o)) := by
  have HU := fun W zs (hz : Rd W g zs nv o) => units_any g zs nv o W hz
  have HT := fun s W (hz : Rd W g bs nv o) => take_any s g bs nv o W hz
  have cc := But.refl g w
  go_enter Tryd.func52, Tryd.ntmps52
  go_wp2_with (first
    | (go_at_call 15; refine (HT _ _ (by assumption)).mono ?_; (rintro e w2 ⟨c2, (⟨zs, b1, rfl, b3⟩ | ⟨b1, rfl, b3⟩)⟩ <;> (replace cc := cc.trans c2; clear c2)))
    | (go_at_call 57; refine (HU _ _ (by assumption)).mono ?_; rintro e w3 ⟨c3, (⟨r, us, d1, d2, rfl, d4⟩ | ⟨d1, ⟨v, rfl⟩, us, d4⟩)⟩))
  all_goals go_ret2
  all_goals first
    | exact ⟨cc.trans c3, .inl ⟨r, us, by rw [tk1_some b1]; simp [escS, d1], d2, rfl, d4⟩⟩
    | exact ⟨cc.trans c3, .inr ⟨by rw [tk1_some b1]; simp [escS, d1], ⟨v, rfl⟩, us, d4⟩⟩
    | exact ⟨cc, .inl ⟨34, zs, by rw [tk1_some b1]; rfl, by decide, rfl, b3⟩⟩
    | exact ⟨cc, .inl ⟨92, zs, by rw [tk1_some b1]; rfl, by decide, rfl, b3⟩⟩
    | exact ⟨cc, .inl ⟨47, zs, by rw [tk1_some b1]; rfl, by decide, rfl, b3⟩⟩
    | exact ⟨cc, .inl ⟨8, zs, by rw [tk1_some b1]; rfl, by decide, rfl, b3⟩⟩
    | exact ⟨cc, .inl ⟨12, zs, by rw [tk1_some b1]; rfl, by decide, rfl, b3⟩⟩
    | exact ⟨cc, .inl ⟨10, zs, by rw [tk1_some b1]; rfl, by decide, rfl, b3⟩⟩
    | exact ⟨cc, .inl ⟨13, zs, by rw [tk1_some b1]; rfl, by decide, rfl, b3⟩⟩
    | exact ⟨cc, .inl ⟨9, zs, by rw [tk1_some b1]; rfl, by decide, rfl, b3⟩⟩
    | exact ⟨cc, .inr ⟨esc_none (by assumption) (by assumption) (by assumption) (by assumption) (by assumption) (by assumption) (by assumption) (by assumption) (by assumption), ⟨0, rfl⟩, bs, b3⟩⟩

end Go.Proofs.YtbobgebhdafciabDoor
