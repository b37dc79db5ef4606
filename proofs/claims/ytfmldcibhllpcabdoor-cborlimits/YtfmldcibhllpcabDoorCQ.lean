/-
  The code's reader: a key.
-/
import Derived.Test.YtfmldcibhllpcabDoorCP
namespace Go.Proofs.YtfmldcibhllpcabDoor
open Go.Shelf Go.RowKit
set_option linter.unusedVariables false
set_option linter.unusedSimpArgs false

/-- A key, behind the last one. -/
def keyR (R : Except Nat (It × Nat × Bs)) (last : Option It) : Except Nat (It × Nat × Bs) := match R with
  | .error k => .error k
  | .ok (i, t', ys) => if keyC i = false then .error 20 else if badOrd last i then .error 21 else .ok (i, t', ys)
theorem pcsC_pair (item : Nat → Nat → Bs → Except Nat (It × Nat × Bs)) (within m : Nat) (last : Option It) (kids : List It) (t : Nat) (xs : Bs) : pcsC item true within (m + 1) last kids t xs = match keyR (item within t xs) last with
    | .error e => .error e
    | .ok (k, t1, ys) => match item within t1 ys with
      | .error e => .error e
      | .ok (v, t2, zs) => pcsC item true within m (some k) (kids ++ [k, v]) t2 zs := by
  rw [pcsC]
  unfold keyR
  cases item within t xs with
  | error e => rfl
  | ok r =>
    obtain ⟨i, t', ys⟩ := r
    simp only [if_true]
    by_cases h1 : keyC i = false
    · rw [if_pos h1, if_pos h1]
    · rw [if_neg h1, if_neg h1]
      by_cases h2 : badOrd last i = true
      · rw [if_pos h2, if_pos h2]
      · rw [if_neg h2, if_neg h2]
        rfl
/-- The last key of a list of keys and values. -/
def lastK (kids : List It) : Option It := if kids.length = 0 then none else kids[kids.length - 2]?
theorem lastK_two (kids : List It) (k v : It) : lastK (kids ++ [k, v]) = some k := by
  unfold lastK
  rw [if_neg (by simp)]
  simp
/-- keyError, behind a list of keys and values. -/
theorem keyError_any (k : It) (d g s0 : Nat) (P : Nat → Prop) (c0 c1 c2 c3 : Value) (q qa : Option Addr) (m ca : Nat) (css : List (List Value)) (kids : List It) (w : World) (hk : ItHd w P [c0, c1, c2, c3] k q) (hl : Kl w s0 g 0 d (.slice qa m ca) css kids) (hg : g < s0) (hm : kids.length = m) (he : m = 0 ∨ 2 ≤ m) (hmb : m ≤ 1000000) :
    Calls Tryd.prog 32 #[.slice qa m ca, .agg #[c0, c1, c2, c3]] w fun e w' => e = .returned (.int .i64 (if keyC k = false then 20 else if badOrd (lastK kids) k then 21 else 0)) ∧ Below w.heap.size w w' := by
  by_cases h0 : m = 0 ∨ keyC k = false
  · refine (keyError_first k P c0 c1 c2 c3 q qa m ca w hk h0 (by omega)).mono ?_
    rintro e w' ⟨rfl, hb⟩
    refine ⟨?_, hb⟩
    rcases h0 with h0 | h0
    · have : lastK kids = none := by unfold lastK; rw [if_pos (by omega)]
      rw [this]
      rfl
    · rw [if_pos h0, if_pos h0]
  · have hkc : keyC k = true := by cases hh : keyC k with | true => rfl | false => exact absurd (.inr hh) h0
    obtain ⟨m', rfl⟩ : ∃ m', m = m' + 2 := ⟨m - 2, by omega⟩
    have hlt : m' < kids.length := by omega
    obtain ⟨l, hlk⟩ : ∃ l, kids[m']? = some l := ⟨_, List.getElem?_eq_getElem hlt⟩
    obtain ⟨b, o, rfl, hb, a0, a1, a2, a3, k0, k1, k2, k3, hit⟩ := hl.get hg hlk
    obtain ⟨ql, hhd⟩ := hit.head
    refine (keyError_next k l P _ c0 c1 c2 c3 a0 a1 a2 a3 q ql b o m' ca w hk hhd hkc (by omega) k0 k1 k2 k3).mono ?_
    rintro e w' ⟨rfl, hb'⟩
    refine ⟨?_, hb'⟩
    have hla : lastK kids = some l := by unfold lastK; rw [if_neg (by omega), hm]; exact hlk
    rw [hla, if_neg (show ¬ keyC k = false by simp [hkc])]
    cases hq : aheadC l k with
    | true => simp [badOrd, hq]
    | false => simp [badOrd, hq]
theorem set4_other {w : World} {r r1 j : Nat} {v d0 d1 d2 d3 : Value} (h : w.cell? ⟨r1, j, none⟩ = some v) (hne : r ≠ r1) : ((((w.setCell ⟨r, 0, none⟩ d0).setCell ⟨r, 1, none⟩ d1).setCell ⟨r, 2, none⟩ d2).setCell ⟨r, 3, none⟩ d3).cell? ⟨r1, j, none⟩ = some v := by
  rw [← h]
  exact (But.set4 w r d0 d1 d2 d3).cell (p := ⟨r1, j, none⟩) (World.block_lt_of_cell? w ⟨r1, j, none⟩ h) (fun e => hne e.symm)
set_option maxRecDepth 100000 in
set_option maxHeartbeats 4000000 in
/-- key. -/
theorem key_any (d : Nat) (HI : ItemOK d) (g s0 : Nat) (bs : Bs) (t o : Nat) (qa : Option Addr) (m ca : Nat) (css : List (List Value)) (kids : List It) (w : World) (h : Cr w g bs t o) (hG : Gl g) (hT : Tabs w) (hd : d + o = 8) (ht : t ≤ 512) (hl : bs.length ≤ 8192) (hK : Kl w s0 g 0 d (.slice qa m ca) css kids) (hg : g < s0) (hs : s0 ≤ w.heap.size) (hm : kids.length = m) (he : m = 0 ∨ 2 ≤ m) (hmb : m ≤ 1000000) :
    Calls Tryd.prog 40 #[.pointer (some ⟨g, 0, none⟩), .slice qa m ca] w (ItPost d g o w (keyR (itemC d o t bs) (lastK kids))) := by
  have hb := fun o => (Below.refl w.heap.size w).alloc (Nat.le_refl _) o
  have HC := fun o => h.below (hb o)
  have hgw := h.lt
  have s0' := Slot.new w (.int .u8 0) (.int .u64 0) (.slice none 0 0) (.slice none 0 0)
  have z0 := alloc_sz w (.cells #[.int .u8 0, .int .u64 0, .slice none 0 0, .slice none 0 0] 29)
  have HH := fun o => HI g bs t _ _ (HC o) hG (hT.below (hb o)) hd ht hl
  cases hR : itemC d o t bs with
  | error k =>
    rw [hR] at HH
    have hRR : keyR (.error k) (lastK kids) = .error k := rfl
    rw [hRR]
    obtain ⟨hk0, hk1⟩ := item_err d _ _ _ _ hR
    have hkb : ((k : Int) != 0) = true := by simp; omega
    have hkI : (k : Int) < 100 := by omega
    go_enter Tryd.func40, Tryd.ntmps40
    go_wp2_with (first
      | (go_at_call 15; refine (HH _).mono ?_; intro e w1 hp; obtain ⟨hb1, _, _, zs, t', v0, v1, p1, n1, d1, p2, n2, d2, rfl, hr1⟩ := hp.errx; have s1 := s0'.same (hb1.block _ (by omega) (by omega)); obtain ⟨q0, q1, q2, q3, q4, q5, q6, q7⟩ := s1.allfacts))
    have s2 : Slot (w1.alloc (.cells #[.int .u8 v0, .int .u64 v1, .slice p1 n1 d1, .slice p2 n2 d2] 29)) w.heap.size (.int .u8 0) (.int .u64 0) (.slice none 0 0) (.slice none 0 0) := s1.same (heap_alloc_old w1 _ s1.lt)
    have s3 := s2.set4 (.int .u8 0) (.int .u64 0) (.slice none 0 0) (.slice none 0 0)
    have b2 : Below w1.heap.size w1 (w1.alloc (.cells #[.int .u8 v0, .int .u64 v1, .slice p1 n1 d1, .slice p2 n2 d2] 29)) := (Below.refl _ _).alloc (Nat.le_refl _) _
    have b3 := But.set4 (w1.alloc (.cells #[.int .u8 v0, .int .u64 v1, .slice p1 n1 d1, .slice p2 n2 d2] 29)) w.heap.size (.int .u8 0) (.int .u64 0) (.slice none 0 0) (.slice none 0 0)
    refine bodyPost_ret (ret_item rfl _ _ w.heap.size _ _ _ _ rfl s3) rfl ?_
    exact ⟨(((But.ofBelow (hb _)).trans hb1).trans (But.ofBelow b2)).fresh b3 (Nat.le_refl _), .inr ⟨k, zs, t', _, _, _, _, _, _, _, _, rfl, hk0, hk1, rfl, (hr1.below b2).slot b3 (by omega)⟩⟩
  | ok r =>
    obtain ⟨i, t', ys⟩ := r
    rw [hR] at HH
    have HE := fun P c0 c1 c2 c3 q W h1 h2 => keyError_any i d g s0 P c0 c1 c2 c3 q qa m ca css kids W h1 h2 hg hm he hmb
    obtain ⟨z, hz⟩ : ∃ z : Nat, (if keyC i = false then (20 : Int) else if badOrd (lastK kids) i then 21 else 0) = (z : Int) ∧ keyR (.ok (i, t', ys)) (lastK kids) = (if z = 0 then .ok (i, t', ys) else .error z) ∧ z < 100 := by
      unfold keyR
      by_cases h1 : keyC i = false
      · exact ⟨20, by rw [if_pos h1]; rfl, by simp [h1], by decide⟩
      · by_cases h2 : badOrd (lastK kids) i = true
        · exact ⟨21, by rw [if_neg h1, if_pos h2]; rfl, by simp [h1, h2], by decide⟩
        · exact ⟨0, by rw [if_neg h1, if_neg h2]; rfl, by simp [h1, h2], by decide⟩
    obtain ⟨hz1, hz2, hz3⟩ := hz
    rw [hz1] at HE
    rw [hz2]
    obtain ⟨RR, hRe⟩ : ∃ RR : Except Nat (It × Nat × Bs), (if z = 0 then .ok (i, t', ys) else .error z) = RR := ⟨_, rfl⟩
    rw [hRe]
    have HRR : Hid ((if z = 0 then (.ok (i, t', ys) : Except Nat (It × Nat × Bs)) else .error z) = RR) := hRe
    have HKl : ∀ w1 X, But g (w.alloc (.cells #[.int .u8 0, .int .u64 0, .slice none 0 0, .slice none 0 0] 29)) w1 → Kl (w1.alloc X) s0 g 0 d (.slice qa m ca) css kids := fun w1 X hb1 => hK.keep (fun b hne hlt => by
      have hb2 := ((But.ofBelow (g := g) (hb (.cells #[.int .u8 0, .int .u64 0, .slice none 0 0, .slice none 0 0] 29))).trans hb1).trans (But.ofBelow ((Below.refl w1.heap.size w1).alloc (Nat.le_refl _) X))
      exact hb2.block b hlt hne) hg
    clear hz1 hz2 hRe hK
    go_enter Tryd.func40, Tryd.ntmps40
    go_wp2_with (first
      | (go_at_call 15; refine (HH _).mono ?_; intro e w1 hp; obtain ⟨hb1, p, c, q, c', rfl, hi, hr1⟩ := hp.okx; clear hp; have s1 := s0'.same (hb1.block _ (by omega) (by omega)); obtain ⟨q0, q1, q2, q3, q4, q5, q6, q7⟩ := s1.allfacts)
      )
    obtain ⟨W1, hW1⟩ : ∃ W1, w1.alloc (.cells #[.int .u8 (i.kind : Int), .int .u64 (i.n : Int), .slice p i.b.length c, .slice q i.kids.length c'] 29) = W1 := ⟨_, rfl⟩
    obtain ⟨r1, hr1'⟩ : ∃ r, w1.heap.size = r := ⟨_, rfl⟩
    have b2 : Below w1.heap.size w1 W1 := by rw [← hW1]; exact (Below.refl _ _).alloc (Nat.le_refl _) _
    have a1 : Slot W1 r1 (.int .u8 (i.kind : Int)) (.int .u64 (i.n : Int)) (.slice p i.b.length c) (.slice q i.kids.length c') := by rw [← hW1, ← hr1']; exact Slot.new w1 _ _ _ _
    have a0 : Slot W1 w.heap.size (.int .u8 0) (.int .u64 0) (.slice none 0 0) (.slice none 0 0) := s1.same (b2.block _ s1.lt)
    have hKW := HKl w1 (.cells #[.int .u8 (i.kind : Int), .int .u64 (i.n : Int), .slice p i.b.length c, .slice q i.kids.length c'] 29) hb1
    have hs1 := s1.lt
    have hne : w.heap.size ≠ r1 := by omega
    rw [hW1] at hKW
    rw [hW1, hr1']
    obtain ⟨x0, x1, x2, x3, y0, y1, y2, y3⟩ := a1.facts
    have hi1 := hi.below b2
    obtain ⟨qh, hh⟩ := hi1.head
    have HE2 := HE _ _ _ _ _ _ W1.drew (hh.keep (w' := W1.drew) (fun _ _ _ => rfl)) (hKW.keep (w' := W1.drew) (fun _ _ _ => rfl) hg)
    obtain ⟨K0, hK0⟩ : ∃ K0 : Nat, i.kind = K0 := ⟨_, rfl⟩
    obtain ⟨N0, hN0⟩ : ∃ K0 : Nat, i.n = K0 := ⟨_, rfl⟩
    obtain ⟨L0, hL0⟩ : ∃ K0 : Nat, i.b.length = K0 := ⟨_, rfl⟩
    obtain ⟨M0, hM0⟩ : ∃ K0 : Nat, i.kids.length = K0 := ⟨_, rfl⟩
    have HI1 : Hid (ItOk W1 _ d _ i) := hi1
    have HS : Hid (Slot W1 w.heap.size (.int .u8 0) (.int .u64 0) (.slice none 0 0) (.slice none 0 0) ∧ Slot W1 r1 (.int .u8 (i.kind : Int)) (.int .u64 (i.n : Int)) (.slice p i.b.length c) (.slice q i.kids.length c') ∧ Below w1.heap.size w1 W1 ∧ w1.heap.size = r1) := ⟨a0, a1, b2, hr1'⟩
    rw [hK0, hN0, hL0, hM0] at HE2 HI1 HS ⊢
    rw [hK0] at x0
    rw [hN0] at x1
    rw [hL0] at x2
    rw [hM0] at x3
    have HEQ : Hid (i.kind = K0 ∧ i.n = N0 ∧ i.b.length = L0 ∧ i.kids.length = M0) := ⟨hK0, hN0, hL0, hM0⟩
    clear hK0 hN0 hL0 hM0 q0 q1 q2 q3 q4 q5 q6 q7 hKW HKl HE hi hi1 hh a1 hW1 hr1' b2 hs1
    go_region_held3 (fun W => W.cell? ⟨r1, 0, none⟩ = some (.int .u8 (K0 : Int)) ∧ W.cell? ⟨r1, 1, none⟩ = some (.int .u64 (N0 : Int)) ∧ W.cell? ⟨r1, 2, none⟩ = some (.slice p L0 c) ∧ W.cell? ⟨r1, 3, none⟩ = some (.slice q M0 c'))
      (first | exact ⟨x0, x1, x2, x3⟩ | exact ⟨u0, u1, u2, u3⟩ | exact ⟨set4_other u0 hne, set4_other u1 hne, set4_other u2 hne, set4_other u3 hne⟩) (first
      | (go_at_call 32; refine HE2.mono ?_; rintro e w2 ⟨rfl, hb2⟩; have a2 := a0.same (hb2.block _ a0.lt); obtain ⟨k0, k1, k2, k3, f0, f1, f2, f3⟩ := a2.facts; have hlr := HS.out.2.1.lt; have u0 := (hb2.cell (p := ⟨r1, 0, none⟩) hlr).trans x0; have u1 := (hb2.cell (p := ⟨r1, 1, none⟩) hlr).trans x1; have u2 := (hb2.cell (p := ⟨r1, 2, none⟩) hlr).trans x2; have u3 := (hb2.cell (p := ⟨r1, 3, none⟩) hlr).trans x3))
    go_wp2
    have s3 := a2.set4 (.int .u8 (K0 : Int)) (.int .u64 (N0 : Int)) (.slice p L0 c) (.slice q M0 c')
    have b3 := But.set4 w2 w.heap.size (.int .u8 (K0 : Int)) (.int .u64 (N0 : Int)) (.slice p L0 c) (.slice q M0 c')
    refine bodyPost_ret (ret_item rfl _ _ w.heap.size _ _ _ _ rfl s3) rfl ?_
    have hbw : Below W1.heap.size W1 w2 := ⟨hb2.os, hb2.tape, hb2.output, hb2.size, hb2.block⟩
    have hb12 : But g w w2 := (((But.ofBelow (hb _)).trans hb1).trans (But.ofBelow HS.out.2.2.1)).trans (But.ofBelow hbw)
    have hcr : Cr w2 g ys t' o := (hr1.below HS.out.2.2.1).below hbw
    refine ⟨hb12.fresh b3 (Nat.le_refl _), ?_⟩
    rw [← HRR.out]
    by_cases hz0 : z = 0
    · rw [if_pos hz0]
      subst hz0
      refine .inl ⟨_, _, _, _, _, _, _, rfl, rfl, ?_, hcr.slot b3 (by omega)⟩
      have h4 := (HI1.out.below hbw).mono (Q := fun b => b < 0 ∨ w.heap.size + 1 ≤ b) (fun k hk _ => by rw [z0] at hk; exact hk)
      exact (h4.keep (fun k hk hlt => b3.block k hlt (by omega))).mono (fun k hk _ => by omega)
    · rw [if_neg hz0]
      exact .inr ⟨z, ys, t', _, _, _, _, _, _, _, _, rfl, by omega, hz3, rfl, hcr.slot b3 (by omega)⟩
end Go.Proofs.YtfmldcibhllpcabDoor
