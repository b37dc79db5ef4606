import Derived.Test.YtiblpcfkecalcabDoorK12
import Derived.Test.YtiblpcfkecalcabDoorK10
import Derived.Test.YtiblpcfkecalcabDoorK11
/-
  The code's Seq; DerReads.
-/
namespace Go.Proofs.YtiblpcfkecalcabDoor
open Go.Shelf Go.RowKit
set_option linter.unusedVariables false
set_option linter.unusedSimpArgs false

theorem own_nil0 (w : World) : (w.alloc (.cells #[] 5)).ownsRow w.heap.size 5 1 (.slice (some ⟨w.heap.size, 0, none⟩) 0 0) 0 (Lib.byteCells []) := World.ownsRow_lit w #[] 0 (Nat.le_refl _) (Nat.zero_le _) (by simp)
theorem Pcs.mono {w : World} {B B' : Nat} {P Q : Nat → Prop} {v : Value} {l : List Pc} (h : Pcs w B P v l) (hB : B' ≤ B) (hPQ : ∀ g, P g → g < w.heap.size → Q g) : Pcs w B' Q v l :=
  ⟨⟨h.own.1, by
    rcases h.own.2 with h1 | ⟨g1, cap, cur, e1, h1, h2⟩
    · exact .inl h1
    · exact .inr ⟨g1, cap, cur, e1, by omega, h2⟩⟩, fun x hx => (h.at_ x hx).mono hPQ⟩
theorem Pcs.below {w w' : World} {B : Nat} {P : Nat → Prop} {v : Value} {l : List Pc} (h : Pcs w B P v l) (hb : Below w.heap.size w w') : Pcs w' B P v l :=
  ⟨owns_keep h.own (fun g hg => hb.block g (owns_lt h.own hg).2.1), fun x hx => (h.at_ x hx).keep (fun g _ hlt => hb.block g hlt)⟩
theorem ByV.below {w w' : World} {P : Nat → Prop} {p : Option Addr} {c : Nat} {l : Bs} (h : ByV w P p c l) (hb : Below w.heap.size w w') : ByV w' P p c l := h.keep (fun g _ hlt => hb.block g hlt)
/-- The pieces of a sequence, or the first fault. -/
def sqD (bs : Bs) : List (UInt8 × Bs) × Nat := match readD bs with
  | .error k => ([], k)
  | .ok ((t, b), r) => if t.toNat ≠ 48 ∨ 0 < r.length then ([], 30) else pcsD b
/-- What is answered, as one form. -/
def okP (R : List (UInt8 × Bs) × Nat) : List (UInt8 × Bs) := if R.2 = 0 then R.1 else []
theorem LsPost.uni {w w' : World} {P : World → Nat → Prop} {R : List (UInt8 × Bs) × Nat} {e : Ending} (h : LsPost w P R e w') : Below w.heap.size w w' ∧ ∃ l v, e = .returned (.tuple #[v, .int .i64 (R.2 : Int)]) ∧ pcsOf l = okP R ∧ Pcs w' w.heap.size (P w) v l ∧ (R.2 ≠ 0 → v = .slice none 0 0) := by
  obtain ⟨hb, (⟨h1, he⟩ | ⟨h1, l, v, h2, he, h3⟩)⟩ := h
  · exact ⟨hb, [], .slice none 0 0, he, by unfold okP; rw [if_neg h1]; rfl, ⟨World.ownsRow_nil _ _ _ _, fun x hx => by cases hx⟩, fun _ => rfl⟩
  · exact ⟨hb, l, v, by rw [h1]; exact he, by unfold okP; rw [if_pos h1]; exact h2, h3, fun h => absurd h1 h⟩
def spT : Except Nat ((UInt8 × Bs) × Bs) → Nat
  | .error _ => 0
  | .ok ((t, _), _) => t.toNat
def spB : Except Nat ((UInt8 × Bs) × Bs) → Bs
  | .error _ => []
  | .ok ((_, b), _) => b
def spR : Except Nat ((UInt8 × Bs) × Bs) → Bs
  | .error _ => []
  | .ok (_, r) => r
def spK : Except Nat ((UInt8 × Bs) × Bs) → Nat
  | .error k => k
  | .ok _ => 0
theorem SpPost.uni {w w' : World} {P : World → Nat → Prop} {R : Except Nat ((UInt8 × Bs) × Bs)} {e : Ending} (h : SpPost w P R e w') : Below w.heap.size w w' ∧ ∃ p1 c1 p2 c2, e = .returned (.tuple #[.agg #[.int .u8 (spT R : Int), .slice p1 (spB R).length c1], .slice p2 (spR R).length c2, .int .i64 (spK R : Int)]) ∧ ByV w' (P w) p1 c1 (spB R) ∧ ByV w' (P w) p2 c2 (spR R) := by
  obtain ⟨hb, (⟨t, b, r, p1, c1, p2, c2, rfl, he, h1, h2⟩ | ⟨k, rfl, he⟩)⟩ := h
  · exact ⟨hb, p1, c1, p2, c2, he, h1, h2⟩
  · exact ⟨hb, none, 0, none, 0, he, ByV.nil _ _, ByV.nil _ _⟩
set_option maxRecDepth 100000 in
set_option maxHeartbeats 4000000 in
/-- Seq. -/
theorem derSeq (p : Option Addr) (n c : Nat) (bs : Bs) (P : Nat → Prop) (w : World) (hn : bs.length = n) (h : ByV w P p c bs) :
    Calls Tryd.prog 14 #[.slice p n c] w (LsPost w (fun w b => w.heap.size ≤ b) (sqD bs)) := by
  have HSP := derSplit p n c bs (fun b => b < w.heap.size) w hn (h.mono (fun b _ hlt => hlt))
  clear h hn
  cases hr : readD bs with
  | error k =>
    rw [hr] at HSP
    have hk := read_err hr
    have hkb : ((k : Int) != 0) = true := by simp; omega
    have HR : Hid (sqD bs = ([], k) ∧ k ≠ 0) := ⟨by unfold sqD; rw [hr], by omega⟩
    clear hr hk
    go_enter Tryd.func14, Tryd.ntmps14
    go_wp2_with (go_at_call 28; refine HSP.mono ?_; intro e w2 hp; obtain ⟨hb2, he⟩ := hp.errx; subst he; clear hp HSP)
    go_ret2
    rw [HR.out.1]
    exact ⟨hb2.alloc hb2.size _, .inl ⟨HR.out.2, rfl⟩⟩
  | ok x =>
    obtain ⟨⟨t, b⟩, r⟩ := x
    rw [hr] at HSP
    have hlens := read_len hr
    obtain ⟨TN, hTN⟩ : ∃ T, t.toNat = T := ⟨_, rfl⟩
    obtain ⟨LB, hLB⟩ : ∃ T, b.length = T := ⟨_, rfl⟩
    obtain ⟨Lr, hLr⟩ : ∃ T, r.length = T := ⟨_, rfl⟩
    by_cases h48 : TN = 48 ∧ Lr = 0
    · obtain ⟨q1, q2⟩ := h48
      subst q1 q2
      have HR : Hid (sqD bs = pcsD b) := by show sqD bs = _; unfold sqD; rw [hr]; simp only []; rw [if_neg (by omega)]
      clear hr hlens
      have h48b : (((48 : Nat) : Int) != 48) = false := rfl
      go_enter Tryd.func14, Tryd.ntmps14
      go_wp2_with (first
        | (go_at_call 28; refine HSP.mono ?_; intro e w2 hp; obtain ⟨hb2, p1, c1, p2, c2, he, hv1, hv2⟩ := hp.okx; subst he; rw [hTN, hLB, hLr]; clear hp HSP hv2)
        | (go_at_call 13; refine (derList p1 LB c1 b _ _ hLB (hv1.below ((Below.refl _ _).alloc (Nat.le_refl _) _))).mono ?_; intro e w4 hp; obtain ⟨hb4, l4, v4, he, hl4, hp4, hn4⟩ := hp.uni; subst he; clear hp))
      go_ret2
      have hb3 : Below w.heap.size w (w2.alloc (.cells #[.int .u8 48, .slice p1 LB c1] 24)) := hb2.alloc hb2.size _
      refine ⟨hb3.trans (hb4.mono hb3.size), ?_⟩
      rw [HR.out]
      by_cases h0 : (pcsD b).2 = 0
      · refine .inr ⟨h0, l4, v4, ?_, by rw [h0]; rfl, hp4.mono hb3.size (fun g hg _ => Nat.le_trans hb3.size hg)⟩
        rw [hl4]
        unfold okP
        rw [if_pos h0]
      · refine .inl ⟨h0, ?_⟩
        rw [hn4 h0]
        rfl
    · have HR : Hid (sqD bs = ([], 30)) := by show sqD bs = _; unfold sqD; rw [hr]; simp only []; rw [if_pos (by omega)]
      clear hr hlens
      by_cases h4 : TN = 48
      · subst h4
        have hLI : (0 : Int) < (Lr : Int) := by omega
        have h48b : (((48 : Nat) : Int) != 48) = false := rfl
        go_enter Tryd.func14, Tryd.ntmps14
        go_wp2_with (go_at_call 28; refine HSP.mono ?_; intro e w2 hp; obtain ⟨hb2, p1, c1, p2, c2, he, hv1, hv2⟩ := hp.okx; subst he; rw [hTN, hLB, hLr]; clear hp HSP hv2)
        go_ret2
        rw [HR.out]
        exact ⟨hb2.alloc hb2.size _, .inl ⟨by omega, rfl⟩⟩
      · have h48b : ((TN : Int) != 48) = true := by simp; omega
        go_enter Tryd.func14, Tryd.ntmps14
        go_wp2_with (go_at_call 28; refine HSP.mono ?_; intro e w2 hp; obtain ⟨hb2, p1, c1, p2, c2, he, hv1, hv2⟩ := hp.okx; subst he; rw [hTN, hLB, hLr]; clear hp HSP hv2)
        go_ret2
        rw [HR.out]
        exact ⟨hb2.alloc hb2.size _, .inl ⟨by omega, rfl⟩⟩
end Go.Proofs.YtiblpcfkecalcabDoor
