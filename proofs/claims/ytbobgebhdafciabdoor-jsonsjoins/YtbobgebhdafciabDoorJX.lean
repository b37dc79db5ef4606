/-
  The reader's units: four digits of base sixteen.
-/
import Derived.Test.YtbobgebhdafciabDoorJT
import Derived.RegionTactic
import Derived.BigRegion
import Derived.RangeFuncRecord
namespace Go.Proofs.YtbobgebhdafciabDoor
open Go.Shelf Go.RowKit
set_option linter.unusedVariables false
set_option linter.unusedSimpArgs false

/-- But for two blocks the world is as it was. -/
structure But2 (g b : Nat) (w w' : World) : Prop where
  os : w'.os = w.os
  tape : w'.tape = w.tape
  output : w'.output = w.output
  size : w.heap.size ≤ w'.heap.size
  block : ∀ k, k < w.heap.size → k ≠ g → k ≠ b → w'.heap[k]? = w.heap[k]?
theorem But2.refl (g b : Nat) (w : World) : But2 g b w w := ⟨rfl, rfl, rfl, Nat.le_refl _, fun _ _ _ _ => rfl⟩
theorem But2.trans {g b : Nat} {x y z : World} (h : But2 g b x y) (k : But2 g b y z) : But2 g b x z :=
  ⟨k.os.trans h.os, k.tape.trans h.tape, k.output.trans h.output, Nat.le_trans h.size k.size, fun i hi hg hb => (k.block i (Nat.lt_of_lt_of_le hi h.size) hg hb).trans (h.block i hi hg hb)⟩
theorem But2.set1 (g b : Nat) (w : World) (j : Nat) (v : Value) : But2 g b w (w.setCell ⟨g, j, none⟩ v) := ⟨rfl, rfl, rfl, by simp [World.setCell], fun k _ hk _ => Below.heap_setCell w ⟨g, j, none⟩ v k hk⟩
theorem But2.set2 (g b : Nat) (w : World) (j : Nat) (v : Value) : But2 g b w (w.setCell ⟨b, j, none⟩ v) := ⟨rfl, rfl, rfl, by simp [World.setCell], fun k _ _ hk => Below.heap_setCell w ⟨b, j, none⟩ v k hk⟩
theorem But2.drew (g b : Nat) (w : World) : But2 g b w w.drew := ⟨rfl, rfl, rfl, Nat.le_refl _, fun _ _ _ _ => rfl⟩

theorem alloc_new (w : World) (x : Obj) : (w.alloc x).heap[w.heap.size]? = some x := World.alloc_heap_new w x
/-- A box of one cell. -/
def Bx (w : World) (b : Nat) (t : TypeId) (v : Value) : Prop := w.heap[b]? = some (.cells #[v] t (0, 0))
theorem Bx.cell {w : World} {b : Nat} {t : TypeId} {v : Value} (h : Bx w b t v) : w.cell? ⟨b, 0, none⟩ = some v := by rw [cell_of_row w b 0 _ _ _ h]; rfl
theorem Bx.frozen {w : World} {b : Nat} {t : TypeId} {v : Value} (h : Bx w b t v) : w.frozen? ⟨b, 0, none⟩ = false := frozen_of_row w b 0 _ _ h
theorem Bx.lt {w : World} {b : Nat} {t : TypeId} {v : Value} (h : Bx w b t v) : b < w.heap.size := (Array.getElem?_eq_some_iff.1 h).1
theorem Bx.set {w : World} {b : Nat} {t : TypeId} {v : Value} (h : Bx w b t v) (u : Value) : Bx (w.setCell ⟨b, 0, none⟩ u) b t u := by
  unfold Bx; rw [heap_set_at w b 0 u _ _ _ h]; rfl
theorem Bx.same {w w' : World} {b : Nat} {t : TypeId} {v : Value} (h : Bx w b t v) (hb : w'.heap[b]? = w.heap[b]?) : Bx w' b t v := by unfold Bx; rw [hb]; exact h

theorem digit_end {w : World} {g ub : Nat} {rv nv x0 x : Value} {o : Nat} {xs : Bs} (h : RdAt w g rv nv o) (hu : Bx w ub 21 x0) (hgu : ub ≠ g) (hgl : g < ub) (n k : Nat) {p : Option Addr} (hr : RestV w g p k xs) (hn : xs.length = n) :
    But2 g ub w (((w.setCell ⟨ub, 0, none⟩ x).setCell ⟨g, 0, none⟩ (.slice p n k)).drew.drew) ∧ Rd (((w.setCell ⟨ub, 0, none⟩ x).setCell ⟨g, 0, none⟩ (.slice p n k)).drew.drew) g xs nv o ∧ Bx (((w.setCell ⟨ub, 0, none⟩ x).setCell ⟨g, 0, none⟩ (.slice p n k)).drew.drew) ub 21 x := by
  subst hn
  refine ⟨(((But2.set2 g ub w 0 x).trans (But2.set1 g ub _ 0 _)).trans (But2.drew _ _ _)).trans (But2.drew _ _ _), ⟨p, k, ?_, ?_⟩, ?_⟩
  · have h' : RdAt (w.setCell ⟨ub, 0, none⟩ x) g rv nv o := h.same (Below.heap_setCell w ⟨ub, 0, none⟩ x g (fun e => hgu e.symm))
    exact h'.setRest _
  · exact hr.keep (fun j hj => by
      show ((w.setCell ⟨ub, 0, none⟩ x).setCell ⟨g, 0, none⟩ (.slice p xs.length k)).heap[j]? = w.heap[j]?
      rw [Below.heap_setCell _ _ _ _ (by simp; omega), Below.heap_setCell _ _ _ _ (by simp; omega)])
  · exact (hu.set x).same (Below.heap_setCell (w.setCell ⟨ub, 0, none⟩ x) ⟨g, 0, none⟩ (.slice p xs.length k) ub hgu)

set_option maxHeartbeats 4000000 in
/-- A digit that is one. -/
theorem digit_yes (a z : Nat) (v : Int) (rb ub g : Nat) (u : Nat) (c : UInt8) (xs : Bs) (nv : Value) (o : Nat) (w : World) (h : Rd w g (c :: xs) nv o) (hr : Bx w rb 48 (.pointer (some ⟨g, 0, none⟩))) (hu : Bx w ub 21 (.int .i32 u))
    (hub : u < 65536) (hv0 : 0 ≤ v) (hv : v ≤ 10) (hz : z ≤ 255) (ha : a ≤ c.toNat) (hcz : c.toNat ≤ z) (hgu : ub ≠ g) (hgr : rb ≠ g) (hur : ub ≠ rb) (hgl : g < ub) :
    Calls Tryd.prog 61 #[.int .u8 a, .int .u8 z, .int .i32 v, .pointer (some ⟨rb, 0, none⟩), .pointer (some ⟨ub, 0, none⟩)] w fun e w' => e = .returned (.bool true) ∧ But2 g ub w w' ∧ Rd w' g xs nv o ∧ Bx w' ub 21 (.int .i32 ((u : Int) * 16 + v + ((c.toNat : Int) - a))) := by
  obtain ⟨p, k, h1, h2⟩ := h
  obtain ⟨b, off, rfl, hcl⟩ := h2.lies (by simp)
  have hc0 := hcl 0 (by simp)
  have hd := h2.drop 1 (by simp)
  have hkb := h2.cap
  simp only [List.length_cons] at hkb
  have hbg := (h2.early _ rfl).1
  simp only at hbg
  rw [Nat.add_zero] at hc0
  simp only [List.getD_cons_zero] at hc0
  have e1 := h1.rest
  simp only [List.length_cons] at e1
  have hlen : (xs.length : Int) + 1 ≠ 0 := by omega
  have f1 := h1.frozen 0
  have e2 := hr.cell
  have e3 := hu.cell
  have f3 := hu.frozen
  obtain ⟨C, hC⟩ : ∃ C, c.toNat = C := ⟨_, rfl⟩
  rw [hC] at hc0 ha hcz ⊢
  obtain ⟨n, hn⟩ : ∃ n, xs.length = n := ⟨_, rfl⟩
  rw [hn] at e1 hkb
  have hCb : C < 256 := by omega
  have hx1 : ((n + 1 : Nat) : Int) = (n : Int) + 1 := by omega
  have H : Hid (RdAt w g (.slice (some ⟨b, off, none⟩) (c :: xs).length k) nv o ∧ RestV w g (if k = 1 then some ⟨b, off, none⟩ else some ⟨b, off + 1, none⟩) (k - 1) xs) := ⟨h1, by simpa [Addr.add] using hd⟩
  clear h1 h2 hcl hd hx1 hlen
  have hne : ((n : Int) + 1 == 0) = false := by simp; omega
  have q1 : decide ((C : Int) < (a : Int)) = false := by simp; omega
  have q2 : decide ((z : Int) < (C : Int)) = false := by simp; omega
  go_enter Tryd.func61, Tryd.ntmps61
  have n1 : ¬ rb = ub := fun e => hur e.symm
  have n2 : ¬ g = ub := fun e => hgu e.symm
  have n3 : ¬ b = ub := by omega
  go_wp2
  go_region
  go_wp2
  go_region
  go_wp2
  all_goals go_ret
  · exact ⟨rfl, digit_end H.out.1 hu hgu hgl n _ (by have := H.out.2; have hk : k = 1 := (by first | assumption | omega); rw [if_pos hk, hk] at this; exact this) hn⟩
  · rename_i hk1
    have hk1' : ¬ k = 1 := by first | exact hk1 | omega
    exact ⟨rfl, digit_end H.out.1 hu hgu hgl n _ (by have := H.out.2; rw [if_neg hk1'] at this; exact this) hn⟩

set_option maxHeartbeats 4000000 in
/-- A digit that is none. -/
theorem digit_no (a z : Nat) (v : Int) (rb ub g : Nat) (bs : Bs) (nv : Value) (o : Nat) (w : World) (h : Rd w g bs nv o) (hr : Bx w rb 48 (.pointer (some ⟨g, 0, none⟩)))
    (hno : ∀ c xs, bs = c :: xs → c.toNat < a ∨ z < c.toNat) :
    Calls Tryd.prog 61 #[.int .u8 a, .int .u8 z, .int .i32 v, .pointer (some ⟨rb, 0, none⟩), .pointer (some ⟨ub, 0, none⟩)] w fun e w' => e = .returned (.bool false) ∧ w' = w := by
  obtain ⟨p, k, h1, h2⟩ := h
  have e1 := h1.rest
  have e2 := hr.cell
  cases bs with
  | nil =>
    simp only [List.length_nil] at e1
    go_enter Tryd.func61, Tryd.ntmps61
    go_wp2
    go_ret
    exact ⟨rfl, rfl⟩
  | cons c xs =>
    obtain ⟨b, off, rfl, hcl⟩ := h2.lies (by simp)
    have hc0 := hcl 0 (by simp)
    have hkb := h2.cap
    simp only [List.length_cons] at hkb e1
    rw [Nat.add_zero] at hc0
    simp only [List.getD_cons_zero] at hc0
    have hn := hno c xs rfl
    obtain ⟨C, hC⟩ : ∃ C, c.toNat = C := ⟨_, rfl⟩
    rw [hC] at hc0 hn
    obtain ⟨n, hn'⟩ : ∃ n, xs.length = n := ⟨_, rfl⟩
    rw [hn'] at e1 hkb
    have hne : ((n : Int) + 1 == 0) = false := by simp; omega
    clear h1 h2 hcl hno hC
    by_cases ha : C < a
    · have q1 : decide ((C : Int) < (a : Int)) = true := by simp; omega
      clear hn
      go_enter Tryd.func61, Tryd.ntmps61
      go_wp2
      go_ret
      exact ⟨rfl, rfl⟩
    · have hz : z < C := by omega
      have q1 : decide ((C : Int) < (a : Int)) = false := by simp; omega
      have q2 : decide ((z : Int) < (C : Int)) = true := by simp; omega
      clear hn
      go_enter Tryd.func61, Tryd.ntmps61
      go_wp2
      go_ret
      exact ⟨rfl, rfl⟩

/-- What a try of a digit does: the box's number then, if it was one. -/
def hxD (a z : Nat) (v : Int) (u : Nat) : Bs → Option (Int × Bs)
  | [] => none
  | c :: xs => if a ≤ c.toNat ∧ c.toNat ≤ z then some ((u : Int) * 16 + v + ((c.toNat : Int) - a), xs) else none
theorem digit_any (a z : Nat) (v : Int) (rb ub g : Nat) (u : Nat) (bs : Bs) (nv : Value) (o : Nat) (w : World) (h : Rd w g bs nv o) (hr : Bx w rb 48 (.pointer (some ⟨g, 0, none⟩))) (hu : Bx w ub 21 (.int .i32 u))
    (hub : u < 65536) (hv0 : 0 ≤ v) (hv : v ≤ 10) (hz : z ≤ 255) (hgu : ub ≠ g) (hgr : rb ≠ g) (hur : ub ≠ rb) (hgl : g < ub) :
    Calls Tryd.prog 61 #[.int .u8 a, .int .u8 z, .int .i32 v, .pointer (some ⟨rb, 0, none⟩), .pointer (some ⟨ub, 0, none⟩)] w fun e w' => (∃ x ys, hxD a z v u bs = some (x, ys) ∧ e = .returned (.bool true) ∧ But2 g ub w w' ∧ Rd w' g ys nv o ∧ Bx w' ub 21 (.int .i32 x)) ∨ (hxD a z v u bs = none ∧ e = .returned (.bool false) ∧ w' = w) := by
  cases bs with
  | nil =>
    refine (digit_no a z v rb ub g [] nv o w h hr (fun c xs e => by cases e)).mono ?_
    rintro e w' ⟨rfl, rfl⟩
    exact .inr ⟨rfl, rfl, rfl⟩
  | cons c xs =>
    by_cases hc : a ≤ c.toNat ∧ c.toNat ≤ z
    · refine (digit_yes a z v rb ub g u c xs nv o w h hr hu hub hv0 hv hz hc.1 hc.2 hgu hgr hur hgl).mono ?_
      rintro e w' ⟨rfl, h1, h2, h3⟩
      exact .inl ⟨_, xs, by simp [hxD, hc], rfl, h1, h2, h3⟩
    · refine (digit_no a z v rb ub g (c :: xs) nv o w h hr (fun c' xs' e => by cases e; omega)).mono ?_
      rintro e w' ⟨rfl, rfl⟩
      exact .inr ⟨by simp [hxD, hc], rfl, rfl⟩
/-- One step of the units. -/
theorem hx_step (k u : Nat) (bs : Bs) : unitS (k + 1) u bs = (match hxD 48 57 0 u bs with
    | some (x, ys) => unitS k x.toNat ys
    | none => match hxD 97 102 10 u bs with
      | some (x, ys) => unitS k x.toNat ys
      | none => match hxD 65 70 10 u bs with
        | some (x, ys) => unitS k x.toNat ys
        | none => none) := by
  cases bs with
  | nil => simp [unitS, hxD]
  | cons c xs =>
    simp only [unitS, hxD, hx]
    by_cases h1 : 48 ≤ c.toNat ∧ c.toNat ≤ 57
    · rw [if_pos h1, if_pos h1]; simp only; congr 1; omega
    · rw [if_neg h1, if_neg h1]
      by_cases h2 : 97 ≤ c.toNat ∧ c.toNat ≤ 102
      · rw [if_pos h2, if_pos h2]; simp only; congr 1; omega
      · rw [if_neg h2, if_neg h2]
        by_cases h3 : 65 ≤ c.toNat ∧ c.toNat ≤ 70
        · rw [if_pos h3, if_pos h3]; simp only; congr 1; omega
        · rw [if_neg h3, if_neg h3]
theorem hxD_lt {a z : Nat} {v : Int} {u m : Nat} {bs ys : Bs} {x : Int} (h : hxD a z v u bs = some (x, ys)) (hv : 0 ≤ v) (hz : v + (z : Int) - a < 16) (hu : u < m) : ∃ y : Nat, x = (y : Int) ∧ y < 16 * m := by
  cases bs with
  | nil => cases h
  | cons c xs =>
    simp only [hxD] at h
    split at h
    · cases h; exact ⟨((u : Int) * 16 + v + ((c.toNat : Int) - a)).toNat, by omega, by omega⟩
    · cases h

set_option maxHeartbeats 4000000 in
/-- unit. -/
theorem unit_any (g : Nat) (bs : Bs) (nv : Value) (o : Nat) (w : World) (h : Rd w g bs nv o) :
    Calls Tryd.prog 60 #[.pointer (some ⟨g, 0, none⟩)] w fun e w' => But g w w' ∧ ((∃ (u : Nat) (ys : Bs), unitS 4 0 bs = some (u, ys) ∧ u < 65536 ∧ e = .returned (.tuple #[.int .i32 u, .bool true]) ∧ Rd w' g ys nv o) ∨ (unitS 4 0 bs = none ∧ e = .returned (.tuple #[.int .i32 0, .bool false]) ∧ ∃ ys, Rd w' g ys nv o)) := by
  have hg := h.lt
  have hmf : ∀ (fn : Fn) (first cap : Array Value) (w : World), (Instr.makeFunc fn first cap).run Tryd.prog w = .ok (.func fn first cap) w := fun _ _ _ _ => rfl
  obtain ⟨rb, hrb⟩ : ∃ rb, w.heap.size = rb := ⟨_, rfl⟩
  have hrb' : g < rb := by omega
  obtain ⟨W, hW⟩ : ∃ W, (w.alloc (.cells #[.pointer (some ⟨g, 0, none⟩)] 48)).alloc (.cells #[.int .i32 0] 21) = W := ⟨_, rfl⟩
  have hB : Below w.heap.size w W := by rw [← hW]; exact ((Below.refl _ _).alloc (Nat.le_refl _) _).alloc (by simp) _
  have hx1 : Bx W rb 48 (.pointer (some ⟨g, 0, none⟩)) := by
    unfold Bx
    rw [← hW, Below.heap_alloc _ _ _ (by simp; omega), ← hrb]
    exact alloc_new _ _
  have hx2 : Bx W (rb + 1) 21 (.int .i32 ((0 : Nat) : Int)) := by
    unfold Bx
    rw [← hW, show rb + 1 = (w.alloc (.cells #[.pointer (some ⟨g, 0, none⟩)] 48)).heap.size by simp; omega]
    exact alloc_new _ _
  have hR : Rd W g bs nv o := h.below hB
  have HH : Hid (Below w.heap.size w W ∧ Bx W rb 48 (.pointer (some ⟨g, 0, none⟩)) ∧ Bx W (rb + 1) 21 (.int .i32 ((0 : Nat) : Int)) ∧ Rd W g bs nv o) := ⟨hB, hx1, hx2, hR⟩
  clear hB hx1 hx2 hR h
  go_enter Tryd.func60, Tryd.ntmps60
  go_wp2_with fail
  clear hW
  go_loopw [7] (fun vi wr => ∃ (k u : Nat) (ys : Bs), k ≤ 4 ∧ vi = .int .i64 k ∧ unitS 4 0 bs = unitS (4 - k) u ys ∧ u < 16 ^ k ∧ But2 g (rb + 1) W wr ∧ Rd wr g ys nv o ∧ Bx wr (rb + 1) 21 (.int .i32 u)) (fun vi _ => 4 - (intOf vi).toNat)
  case atStart => exact ⟨0, 0, bs, by omega, rfl, rfl, by decide, But2.refl _ _ _, HH.out.2.2.2, HH.out.2.2.1⟩
  case round =>
    obtain ⟨k, u, ys, hk, rfl, hS, hu, hb, hr, hx⟩ := hrel
    have hxr : Bx wr rb 48 (.pointer (some ⟨g, 0, none⟩)) := HH.out.2.1.same (hb.block rb HH.out.2.1.lt (by omega) (by omega))
    have hBut : But g w wr := ⟨hb.os.trans HH.out.1.os, hb.tape.trans HH.out.1.tape, hb.output.trans HH.out.1.output, Nat.le_trans HH.out.1.size hb.size, fun j hj hjg => (hb.block j (Nat.lt_of_lt_of_le hj HH.out.1.size) hjg (by omega)).trans (HH.out.1.block j hj)⟩
    by_cases hlt : k < 4
    · have hu6 : u < 65536 := Nat.lt_of_lt_of_le hu (by have : 16 ^ k ≤ 16 ^ 3 := Nat.pow_le_pow_right (by decide) (by omega); omega)
      have HD := fun (a z : Nat) (v : Int) h1 h2 h3 => digit_any a z v rb (rb + 1) g u ys nv o wr hr hxr hx hu6 h1 h2 h3 (by omega) (by omega) (by omega) (by omega)
      have H1 := HD 48 57 0 (by omega) (by omega) (by omega)
      have H2 := HD 97 102 10 (by omega) (by omega) (by omega)
      have H3 := HD 65 70 10 (by omega) (by omega) (by omega)
      have hS' := hS
      rw [show 4 - k = (4 - (k + 1)) + 1 by omega, hx_step (4 - (k + 1)) u ys] at hS'
      have HB : Hid (But g w wr ∧ But2 g (rb + 1) W wr ∧ unitS 4 0 bs = _ ∧ u < 16 ^ k) := ⟨hBut, hb, hS', hu⟩
      clear HD hS hS' hBut hb hx hxr hu
      have e48 : ((48 : Nat) : Int) = 48 := rfl
      go_wp2_with (first
        | (go_at_call_of 61 (Value.int .u8 48); refine H1.mono ?_; rintro e w1 (⟨x, zs, g1, rfl, g3, g4, g5⟩ | ⟨g1, rfl, rfl⟩))
        | (go_at_call_of 61 (Value.int .u8 97); refine H2.mono ?_; rintro e w2 (⟨x, zs, g6, rfl, g3, g4, g5⟩ | ⟨g6, rfl, rfl⟩))
        | (go_at_call_of 61 (Value.int .u8 65); refine H3.mono ?_; rintro e w3 (⟨x, zs, g7, rfl, g3, g4, g5⟩ | ⟨g7, rfl, rfl⟩)))
      · obtain ⟨y, rfl, hy⟩ := hxD_lt g1 (by omega) (by omega) HB.out.2.2.2
        refine ⟨⟨k + 1, y, zs, by omega, by go_num, by rw [HB.out.2.2.1, g1]; simp, by rw [Nat.pow_succ]; omega, HB.out.2.1.trans g3, g4, g5⟩, by simp [intOf]; omega⟩
      · obtain ⟨y, rfl, hy⟩ := hxD_lt g6 (by omega) (by omega) HB.out.2.2.2
        refine ⟨⟨k + 1, y, zs, by omega, by go_num, by rw [HB.out.2.2.1, g1, g6]; simp, by rw [Nat.pow_succ]; omega, HB.out.2.1.trans g3, g4, g5⟩, by simp [intOf]; omega⟩
      · obtain ⟨y, rfl, hy⟩ := hxD_lt g7 (by omega) (by omega) HB.out.2.2.2
        refine ⟨⟨k + 1, y, zs, by omega, by go_num, by rw [HB.out.2.2.1, g1, g6, g7]; simp, by rw [Nat.pow_succ]; omega, HB.out.2.1.trans g3, g4, g5⟩, by simp [intOf]; omega⟩
      · go_ret2
        exact ⟨HB.out.1, .inr ⟨by rw [HB.out.2.2.1, g1, g6, g7], rfl, ys, hr⟩⟩
    · obtain rfl : k = 4 := by omega
      have e1 := hx.cell
      have HB : Hid (But g w wr ∧ unitS 4 0 bs = some (u, ys) ∧ u < 65536) := ⟨hBut, hS, hu⟩
      clear hS hBut hb hx hxr hu hlt
      go_wp2
      go_ret2
      exact ⟨HB.out.1, .inl ⟨u, ys, HB.out.2.1, HB.out.2.2, rfl, hr⟩⟩
end Go.Proofs.YtbobgebhdafciabDoor
