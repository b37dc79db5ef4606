/-
  The code's reader: bytes and texts.
-/
import Derived.Test.YtfmldcibhllpcabDoorCO
namespace Go.Proofs.YtfmldcibhllpcabDoor
open Go.Shelf Go.RowKit
set_option linter.unusedVariables false
set_option linter.unusedSimpArgs false

set_option maxRecDepth 100000 in
set_option maxHeartbeats 2000000 in
/-- behindNumber: bytes or a text that are not there. -/
theorem beh_short (d K n g : Nat) (bs : Bs) (t o : Nat) (w : World) (h : Cr w g bs t o) (hK : K = 2 ∨ K = 3) (hn : n < 18446744073709551616) (hl : bs.length < n) :
    Calls Tryd.prog 25 #[.pointer (some ⟨g, 0, none⟩), .int .u8 ((K + 1 : Nat) : Int), .int .u64 (n : Int)] w (ItPost d g o w (behC d o K n t bs)) := by
  have hR : behC d o K n t bs = .error 20 := by rcases hK with rfl | rfl <;> simp [behC, hl]
  rw [hR]
  have hb := fun o => (Below.refl w.heap.size w).alloc (Nat.le_refl _) o
  have HT := fun W (hW : Cr W g bs t o) => ctake_no g n bs t o W hW hl hn
  have HC := fun o => h.below (hb o)
  clear hR hl
  rcases hK with rfl | rfl
  all_goals
    go_enter Tryd.func25, Tryd.ntmps25
    go_wp2_with (go_at_call 22; refine (HT _ (HC _)).mono ?_; rintro e w1 ⟨rfl, rfl⟩)
    refine bodyPost_ret (ret_item rfl _ _ w.heap.size _ _ _ _ rfl (heap_alloc_new w _)) rfl ?_
    exact ⟨But.ofBelow (hb _), .inr ⟨20, bs, t, _, _, _, _, _, _, _, _, rfl, by decide, by decide, rfl, HC _⟩⟩
set_option maxRecDepth 100000 in
set_option maxHeartbeats 2000000 in
/-- behindNumber: bytes. -/
theorem beh_bytes (d n g : Nat) (bs : Bs) (t o : Nat) (w : World) (h : Cr w g bs t o) (hn : n ≤ bs.length) (hl : bs.length ≤ 8192) :
    Calls Tryd.prog 25 #[.pointer (some ⟨g, 0, none⟩), .int .u8 3, .int .u64 (n : Int)] w (ItPost d g o w (behC d o 2 n t bs)) := by
  have hR : behC d o 2 n t bs = .ok (⟨3, 0, bs.take n, []⟩, t, bs.drop n) := by simp [behC]; omega
  rw [hR]
  have hb := fun o => (Below.refl w.heap.size w).alloc (Nat.le_refl _) o
  have HT := fun W (hW : Cr W g bs t o) => ctake_yes g n bs t o W hW hn
  have HC := fun o => h.below (hb o)
  have hlen : (bs.take n).length = n := by rw [List.length_take]; omega
  have hn2 : n ≤ 1000000 := by omega
  have hg := h.lt
  have s0 := Slot.new w (.int .u8 0) (.int .u64 0) (.slice none 0 0) (.slice none 0 0)
  have z0 := alloc_sz w (.cells #[.int .u8 0, .int .u64 0, .slice none 0 0, .slice none 0 0] 29)
  clear hR
  go_enter Tryd.func25, Tryd.ntmps25
  go_wp2_with (first
    | (go_at_call 22; refine (HT _ (HC _)).mono ?_; rintro e w1 ⟨p, c, rfl, hv1, hr1, hb1⟩; have s1 := s0.same (hb1.block _ (by omega) (by omega)))
    | (go_at_call 16; refine (clone_any p n c (bs.take n) _ hlen (by have := hv1.lies; rw [hlen] at this; exact this) hn2).mono ?_; rintro e w2 ⟨hb2, p', c', rfl, hv2⟩; have s2 := s1.same (hb2.block _ s1.lt); obtain ⟨k0, k1, k2, k3, f0, f1, f2, f3⟩ := s2.facts))
  have s3 := s2.set4 (.int .u8 3) (.int .u64 0) (.slice p' n c') (.slice none 0 0)
  have b3 := But.set4 w2 w.heap.size (.int .u8 3) (.int .u64 0) (.slice p' n c') (.slice none 0 0)
  refine bodyPost_ret (ret_item rfl _ _ w.heap.size _ _ _ _ rfl s3) rfl ?_
  have hb12 : But g w w2 := ((But.ofBelow (hb _)).trans hb1).trans (But.ofBelow hb2)
  refine ⟨hb12.fresh b3 (Nat.le_refl _), .inl ⟨_, _, _, _, _, _, _, rfl, rfl, ?_, (hr1.below hb2).slot b3 (by omega)⟩⟩
  have hs1 : w.heap.size < w1.heap.size := s1.lt
  have hv3 : ByV _ (fun b => b < 0 ∨ w.heap.size ≤ b) p' c' (bs.take n) := (hv2.keep (fun k hk hlt => b3.block k hlt (by omega))).mono (fun k hk _ => by right; omega)
  have hi := ItOk.leaf (i := ⟨3, 0, bs.take n, []⟩) d (show (3 : Nat) < 256 by decide) (show (0 : Nat) < 18446744073709551616 by decide) hv3 rfl
  simp only [hlen] at hi
  exact hi
set_option maxRecDepth 100000 in
set_option maxHeartbeats 2000000 in
/-- behindNumber: a text. -/
theorem beh_text (d n g : Nat) (bs : Bs) (t o : Nat) (w : World) (h : Cr w g bs t o) (hG : Gl g) (hT : Tabs w) (hn : n ≤ bs.length) (hl : bs.length ≤ 8192) :
    Calls Tryd.prog 25 #[.pointer (some ⟨g, 0, none⟩), .int .u8 4, .int .u64 (n : Int)] w (ItPost d g o w (behC d o 3 n t bs)) := by
  have hR : behC d o 3 n t bs = if Lib.validD (bs.take n) then .ok (⟨4, 0, bs.take n, []⟩, t, bs.drop n) else .error 23 := by
    unfold behC
    rw [if_neg (by decide), if_neg (by decide), if_neg (by decide), if_pos rfl, if_neg (by omega)]
  have hb := fun o => (Below.refl w.heap.size w).alloc (Nat.le_refl _) o
  have HT := fun W (hW : Cr W g bs t o) => ctake_yes g n bs t o W hW hn
  have HC := fun o => h.below (hb o)
  have hlen : (bs.take n).length = n := by rw [List.length_take]; omega
  have hn2 : n ≤ 1000000 := by omega
  have hg := h.lt
  have s0 := Slot.new w (.int .u8 0) (.int .u64 0) (.slice none 0 0) (.slice none 0 0)
  have z0 := alloc_sz w (.cells #[.int .u8 0, .int .u64 0, .slice none 0 0, .slice none 0 0] 29)
  have HV := fun p c W hW1 hW2 hW3 => valid_any p n c (bs.take n) W hlen hW1 hW2 hn2 hW3
  obtain ⟨va, hva⟩ : ∃ va, Lib.validD (bs.take n) = va := ⟨_, rfl⟩
  rw [hva] at hR HV
  rw [hR]
  clear hR hva
  cases va with
  | false =>
    rw [if_neg (by decide)]
    go_enter Tryd.func25, Tryd.ntmps25
    go_wp2_with (first
      | (go_at_call 22; refine (HT _ (HC _)).mono ?_; rintro e w1 ⟨p, c, rfl, hv1, hr1, hb1⟩; have s1 := s0.same (hb1.block _ (by omega) (by omega)))
      | (go_at_call 18; refine (HV p c _ (by have := hv1.lies; rw [hlen] at this; exact this) (by have := hv1.cap; rw [hlen] at this; exact this) (hT.cbut hG ((But.ofBelow (hb _)).trans hb1) hg)).mono ?_; rintro e w2 ⟨rfl, hb2⟩; have s2 := s1.same (hb2.block _ s1.lt); obtain ⟨k0, k1, k2, k3, f0, f1, f2, f3⟩ := s2.facts))
    have s3 := s2.set4 (.int .u8 0) (.int .u64 0) (.slice none 0 0) (.slice none 0 0)
    have b3 := But.set4 w2 w.heap.size (.int .u8 0) (.int .u64 0) (.slice none 0 0) (.slice none 0 0)
    refine bodyPost_ret (ret_item rfl _ _ w.heap.size _ _ _ _ rfl s3) rfl ?_
    have hb12 : But g w w2 := ((But.ofBelow (hb _)).trans hb1).trans (But.ofBelow hb2)
    exact ⟨hb12.fresh b3 (Nat.le_refl _), .inr ⟨23, _, _, _, _, _, _, _, _, _, _, rfl, by decide, by decide, rfl, (hr1.below hb2).slot b3 (by omega)⟩⟩
  | true =>
    rw [if_pos rfl]
    go_enter Tryd.func25, Tryd.ntmps25
    go_wp2_with (first
      | (go_at_call 22; refine (HT _ (HC _)).mono ?_; rintro e w1 ⟨p, c, rfl, hv1, hr1, hb1⟩; have s1 := s0.same (hb1.block _ (by omega) (by omega)))
      | (go_at_call 18; refine (HV p c _ (by have := hv1.lies; rw [hlen] at this; exact this) (by have := hv1.cap; rw [hlen] at this; exact this) (hT.cbut hG ((But.ofBelow (hb _)).trans hb1) hg)).mono ?_; rintro e w2 ⟨rfl, hb2⟩; have s2 := s1.same (hb2.block _ s1.lt))
      | (go_at_call 16; refine (clone_any p n c (bs.take n) _ hlen (by have := hv1.lies.below hb2; rw [hlen] at this; exact this) hn2).mono ?_; rintro e w4 ⟨hb4, p', c', rfl, hv4⟩; have s4 := s2.same (hb4.block _ s2.lt); obtain ⟨k0, k1, k2, k3, f0, f1, f2, f3⟩ := s4.facts))
    have s3 := s4.set4 (.int .u8 4) (.int .u64 0) (.slice p' n c') (.slice none 0 0)
    have b3 := But.set4 w4 w.heap.size (.int .u8 4) (.int .u64 0) (.slice p' n c') (.slice none 0 0)
    refine bodyPost_ret (ret_item rfl _ _ w.heap.size _ _ _ _ rfl s3) rfl ?_
    have hb12 : But g w w4 := (((But.ofBelow (hb _)).trans hb1).trans (But.ofBelow hb2)).trans (But.ofBelow hb4)
    refine ⟨hb12.fresh b3 (Nat.le_refl _), .inl ⟨_, _, _, _, _, _, _, rfl, rfl, ?_, ((hr1.below hb2).below hb4).slot b3 (by omega)⟩⟩
    have hs1 : w.heap.size < w2.heap.size := s2.lt
    have hv3 : ByV _ (fun b => b < 0 ∨ w.heap.size ≤ b) p' c' (bs.take n) := (hv4.keep (fun k hk hlt => b3.block k hlt (by omega))).mono (fun k hk _ => by right; omega)
    have hi := ItOk.leaf (i := ⟨4, 0, bs.take n, []⟩) d (show (4 : Nat) < 256 by decide) (show (0 : Nat) < 18446744073709551616 by decide) hv3 rfl
    simp only [hlen] at hi
    exact hi
set_option maxRecDepth 100000 in
set_option maxHeartbeats 2000000 in
/-- behindNumber: kind 6. -/
theorem beh_tag (d n g : Nat) (bs : Bs) (t o : Nat) (w : World) (h : Cr w g bs t o) (hn : n < 18446744073709551616) :
    Calls Tryd.prog 25 #[.pointer (some ⟨g, 0, none⟩), .int .u8 7, .int .u64 (n : Int)] w (ItPost d g o w (behC d o 6 n t bs)) := by
  have hR : behC d o 6 n t bs = .error 20 := by simp [behC]
  rw [hR]
  have hb := fun o => (Below.refl w.heap.size w).alloc (Nat.le_refl _) o
  have HC := fun o => h.below (hb o)
  clear hR
  go_enter Tryd.func25, Tryd.ntmps25
  go_wp2
  refine bodyPost_ret (ret_item rfl _ _ w.heap.size _ _ _ _ rfl (heap_alloc_new w _)) rfl ?_
  exact ⟨But.ofBelow (hb _), .inr ⟨20, bs, t, _, _, _, _, _, _, _, _, rfl, by decide, by decide, rfl, HC _⟩⟩
end Go.Proofs.YtfmldcibhllpcabDoor
