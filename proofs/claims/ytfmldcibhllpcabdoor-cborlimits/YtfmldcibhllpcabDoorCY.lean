/-
  The code's reader: an item.
-/
import Derived.Test.YtfmldcibhllpcabDoorCX
namespace Go.Proofs.YtfmldcibhllpcabDoor
open Go.Shelf Go.RowKit
set_option linter.unusedVariables false
set_option linter.unusedSimpArgs false

set_option maxRecDepth 100000 in
set_option maxHeartbeats 2000000 in
/-- kids, within too many others. -/
theorem kids_deep (K n g : Nat) (bs : Bs) (t : Nat) (w : World) (h : Cr w g bs t 8) (hK : K < 256) (hn : n < 18446744073709551616) :
    Calls Tryd.prog 34 #[.pointer (some ⟨g, 0, none⟩), .int .u8 (K : Int), .int .u64 (n : Int)] w fun e w' => e = .returned (.tuple #[.slice none 0 0, .int .i64 13]) ∧ Below w.heap.size w w' := by
  have hg := h.lt
  obtain ⟨rb, hrb⟩ : ∃ rb, w.heap.size = rb := ⟨_, rfl⟩
  obtain ⟨W0, hW0⟩ : ∃ W0, w.alloc (.cells #[.pointer (some ⟨g, 0, none⟩)] 59) = W0 := ⟨_, rfl⟩
  have hb0 : Below w.heap.size w W0 := by rw [← hW0]; exact (Below.refl _ _).alloc (Nat.le_refl _) _
  have x0 : CBx W0 rb 59 (.pointer (some ⟨g, 0, none⟩)) := by unfold CBx; rw [← hW0, ← hrb]; exact heap_alloc_new _ _
  have r0 := h.below hb0
  have er := x0.cell
  have co := r0.opn
  have HB : Hid (Below w.heap.size w W0) := hb0
  clear x0 r0 h hb0
  go_enter_defers Tryd.func34, Tryd.ntmps34
  go_wp2_with fail
  exact ⟨_, results_tmp2 rfl _ _ _, rfl, HB.out⟩

theorem kidsAt_slot {w w' : World} {g s0 s1 r d : Nat} {q : Option Addr} {kids : List It} (h : KidsAt (ItOk w (fun b => b < 0 ∨ s0 ≤ b) d) w (fun b => b < 0 ∨ s0 ≤ b) q kids) (hb : But r w w') (hr : g ≤ r ∧ r < s0) (hs : s1 ≤ s0) : KidsAt (ItOk w' (fun b => b < 0 ∨ s1 ≤ b) d) w' (fun b => b < 0 ∨ s1 ≤ b) q kids := fun j k hj => by
  obtain ⟨b, o, e, hP, c0, c1, c2, c3, k0, k1, k2, k3, hr'⟩ := h j k hj
  have hlt := World.block_lt_of_cell? w ⟨b, o + j * 4, none⟩ k0
  have hc : ∀ x v, w.cell? ⟨b, x, none⟩ = some v → w'.cell? ⟨b, x, none⟩ = some v := fun x v hv => by rw [← hv]; exact hb.cell (p := ⟨b, x, none⟩) hlt (by show b ≠ r; omega)
  exact ⟨b, o, e, by omega, c0, c1, c2, c3, hc _ _ k0, hc _ _ k1, hc _ _ k2, hc _ _ k3, (hr'.keep (fun k hk hlt => hb.block k hlt (by omega))).mono (fun k hk _ => by omega)⟩
/-- Kids as an item. -/
def kidsR (K : Nat) (R : Except Nat (List It × Nat × Bs)) : Except Nat (It × Nat × Bs) := match R with
  | .error e => .error e
  | .ok (kids, t2, us) => .ok (⟨K + 1, 0, [], kids⟩, t2, us)
theorem behC_zero (o K n t : Nat) (bs : Bs) (hK : K = 4 ∨ K = 5) : behC 0 o K n t bs = .error 13 := by
  unfold behC
  rw [if_neg (by omega), if_neg (by omega), if_neg (by omega), if_neg (by omega), if_neg (by omega)]
theorem behC_kids (d o K n t : Nat) (bs : Bs) (hK : K = 4 ∨ K = 5) : behC (d + 1) o K n t bs = kidsR K (pcsC (itemC d) (decide (K = 5)) (o + 1) n none [] t bs) := by
  unfold behC kidsR
  rw [if_neg (by omega), if_neg (by omega), if_neg (by omega), if_neg (by omega), if_neg (by omega)]
  rfl
set_option maxRecDepth 100000 in
set_option maxHeartbeats 2000000 in
/-- behindNumber: kids. -/
theorem beh_kids (d d' K n g : Nat) (bs : Bs) (t o : Nat) (w : World) (h : Cr w g bs t o) (hK : K = 4 ∨ K = 5) (hG : Gl g) (R : Except Nat (List It × Nat × Bs)) (hd : ∀ r, R = .ok r → d = d' + 1)
    (HH : ∀ W, Cr W g bs t o → Below w.heap.size w W → Calls Tryd.prog 34 #[.pointer (some ⟨g, 0, none⟩), .int .u8 ((K + 1 : Nat) : Int), .int .u64 (n : Int)] W (KidsPost d' g o W R)) :
    Calls Tryd.prog 25 #[.pointer (some ⟨g, 0, none⟩), .int .u8 ((K + 1 : Nat) : Int), .int .u64 (n : Int)] w (ItPost d g o w (kidsR K R)) := by
  have hb := fun o => (Below.refl w.heap.size w).alloc (Nat.le_refl _) o
  have HC := fun o => h.below (hb o)
  have hg := h.lt
  have s0 := Slot.new w (.int .u8 0) (.int .u64 0) (.slice none 0 0) (.slice none 0 0)
  have z0 := alloc_sz w (.cells #[.int .u8 0, .int .u64 0, .slice none 0 0, .slice none 0 0] 29)
  have HH2 := fun o => HH _ (HC o) (hb o)
  clear HH
  cases hRR : R with
  | error k =>
    rw [hRR] at HH2
    have e0 : kidsR K (.error k) = .error k := rfl
    rw [e0]
    rcases hK with rfl | rfl
    · go_enter Tryd.func25, Tryd.ntmps25
      go_wp2_with (go_at_call 34; refine (HH2 _).mono ?_; intro e w1 hp; obtain ⟨hb1, hk0, hk1, zs, t', rfl, hr1⟩ := hp.errx; clear hp; have s1 := s0.same (hb1.block _ (by omega) (by omega)); obtain ⟨k0, k1, k2, k3, f0, f1, f2, f3⟩ := s1.facts)
      have s3 := s1.set4 (.int .u8 (5 : Int)) (.int .u64 0) (.slice none 0 0) (.slice none 0 0)
      have b3 := But.set4 w1 w.heap.size (.int .u8 (5 : Int)) (.int .u64 0) (.slice none 0 0) (.slice none 0 0)
      refine bodyPost_ret (ret_item rfl _ _ w.heap.size _ _ _ _ rfl s3) rfl ?_
      exact ⟨((But.ofBelow (hb _)).trans hb1).fresh b3 (Nat.le_refl _), .inr ⟨k, zs, t', _, _, _, _, _, _, _, _, rfl, hk0, hk1, rfl, hr1.slot b3 (by omega)⟩⟩
    · go_enter Tryd.func25, Tryd.ntmps25
      go_wp2_with (go_at_call 34; refine (HH2 _).mono ?_; intro e w1 hp; obtain ⟨hb1, hk0, hk1, zs, t', rfl, hr1⟩ := hp.errx; clear hp; have s1 := s0.same (hb1.block _ (by omega) (by omega)); obtain ⟨k0, k1, k2, k3, f0, f1, f2, f3⟩ := s1.facts)
      have s3 := s1.set4 (.int .u8 (6 : Int)) (.int .u64 0) (.slice none 0 0) (.slice none 0 0)
      have b3 := But.set4 w1 w.heap.size (.int .u8 (6 : Int)) (.int .u64 0) (.slice none 0 0) (.slice none 0 0)
      refine bodyPost_ret (ret_item rfl _ _ w.heap.size _ _ _ _ rfl s3) rfl ?_
      exact ⟨((But.ofBelow (hb _)).trans hb1).fresh b3 (Nat.le_refl _), .inr ⟨k, zs, t', _, _, _, _, _, _, _, _, rfl, hk0, hk1, rfl, hr1.slot b3 (by omega)⟩⟩
  | ok r =>
    obtain ⟨kids, t2, us⟩ := r
    rw [hRR] at HH2
    have hdd := hd _ hRR
    subst hdd
    have e0 : kidsR K (.ok (kids, t2, us)) = .ok (⟨K + 1, 0, [], kids⟩, t2, us) := rfl
    rw [e0]
    obtain ⟨ML, hML⟩ : ∃ ML, kids.length = ML := ⟨_, rfl⟩
    rcases hK with rfl | rfl
    · go_enter Tryd.func25, Tryd.ntmps25
      go_wp2_with (go_at_call 34; refine (HH2 _).mono ?_; intro e w1 hp; obtain ⟨hb1, q, c', rfl, hq1, hq2, hq3, hr1⟩ := hp.okx; clear hp; have s1 := s0.same (hb1.block _ (by omega) (by omega)); obtain ⟨k0, k1, k2, k3, f0, f1, f2, f3⟩ := s1.facts; rw [hML])
      have s3 := s1.set4 (.int .u8 (5 : Int)) (.int .u64 0) (.slice none 0 0) (.slice q ML c')
      have b3 := But.set4 w1 w.heap.size (.int .u8 (5 : Int)) (.int .u64 0) (.slice none 0 0) (.slice q ML c')
      refine bodyPost_ret (ret_item rfl _ _ w.heap.size _ _ _ _ rfl s3) rfl ?_
      refine ⟨((But.ofBelow (hb _)).trans hb1).fresh b3 (Nat.le_refl _), .inl ⟨_, _, _, _, _, _, _, rfl, rfl, ?_, hr1.slot b3 (by omega)⟩⟩
      refine ⟨q, ⟨none, 0, c', by rw [← hML]; rfl, show (5 : Nat) < 256 by decide, show (0 : Nat) < 18446744073709551616 by decide, ByV.nil _ _, hq1, hq2⟩, ?_⟩
      exact kidsAt_slot (g := g) hq3 b3 (by omega) (by omega)
    · go_enter Tryd.func25, Tryd.ntmps25
      go_wp2_with (go_at_call 34; refine (HH2 _).mono ?_; intro e w1 hp; obtain ⟨hb1, q, c', rfl, hq1, hq2, hq3, hr1⟩ := hp.okx; clear hp; have s1 := s0.same (hb1.block _ (by omega) (by omega)); obtain ⟨k0, k1, k2, k3, f0, f1, f2, f3⟩ := s1.facts; rw [hML])
      have s3 := s1.set4 (.int .u8 (6 : Int)) (.int .u64 0) (.slice none 0 0) (.slice q ML c')
      have b3 := But.set4 w1 w.heap.size (.int .u8 (6 : Int)) (.int .u64 0) (.slice none 0 0) (.slice q ML c')
      refine bodyPost_ret (ret_item rfl _ _ w.heap.size _ _ _ _ rfl s3) rfl ?_
      refine ⟨((But.ofBelow (hb _)).trans hb1).fresh b3 (Nat.le_refl _), .inl ⟨_, _, _, _, _, _, _, rfl, rfl, ?_, hr1.slot b3 (by omega)⟩⟩
      refine ⟨q, ⟨none, 0, c', by rw [← hML]; rfl, show (6 : Nat) < 256 by decide, show (0 : Nat) < 18446744073709551616 by decide, ByV.nil _ _, hq1, hq2⟩, ?_⟩
      exact kidsAt_slot (g := g) hq3 b3 (by omega) (by omega)
end Go.Proofs.YtfmldcibhllpcabDoor
