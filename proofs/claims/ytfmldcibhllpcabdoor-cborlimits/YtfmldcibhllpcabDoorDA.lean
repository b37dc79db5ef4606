/-
  The code's Decode and Whole.
-/
import Derived.Test.YtfmldcibhllpcabDoorCZ
namespace Go.Proofs.YtfmldcibhllpcabDoor
open Go.Shelf Go.RowKit
set_option linter.unusedVariables false
set_option linter.unusedSimpArgs false

/-- What Decode answers. -/
def DecPost (w : World) (R : Except Nat (It × Bs)) (e : Ending) (w' : World) : Prop :=
  Below w.heap.size w w' ∧ ((∃ (i : It) (ys : Bs) (p : Option Addr) (c : Nat) (q : Option Addr) (c' : Nat) (pr : Option Addr) (cr : Nat), R = .ok (i, ys) ∧ e = .returned (.tuple #[.agg #[.int .u8 (i.kind : Int), .int .u64 (i.n : Int), .slice p i.b.length c, .slice q i.kids.length c'], .slice pr ys.length cr, .int .i64 0]) ∧ ItOk w' (fun b => w.heap.size ≤ b) 8 [.int .u8 (i.kind : Int), .int .u64 (i.n : Int), .slice p i.b.length c, .slice q i.kids.length c'] i ∧ ByV w' (fun b => w.heap.size ≤ b) pr cr ys)
    ∨ (∃ (k : Nat), R = .error k ∧ 0 < k ∧ k < 100 ∧ e = .returned (.tuple #[noC, .slice none 0 0, .int .i64 (k : Int)])))
theorem ret_item3 {fn : Func} {p u v : Tmp} (h : fn.results = #[.cell p 29, .tmp u, .tmp v]) (tmps : Array Value) (w : World) (g : Nat) (c0 c1 c2 c3 : Value) (hp : tmps.getD p undef = .pointer (some ⟨g, 0, none⟩)) (hg : w.heap[g]? = some (.cells #[c0, c1, c2, c3] 29 (0, 0))) :
    (results fn tmps).run Tryd.prog w = .ok (.tuple #[.agg #[c0, c1, c2, c3], tmps.getD u undef, tmps.getD v undef]) w := by
  have hl := run_loadVar_row (P := Tryd.prog) w g 29 29 #[c0, c1, c2, c3] (0, 0) _ hg Tryd.underlying29 rfl (sizeItem)
  have hp' : tmps[p]?.getD undef = .pointer (some ⟨g, 0, none⟩) := by simpa using hp
  simp only [results, h]
  simp [Sem.run_bind, Result.andThen, asAddr, hl, hp']
set_option maxRecDepth 100000 in
set_option maxHeartbeats 1000000 in
/-- Decode. -/
theorem Decode_any (p : Option Addr) (n c : Nat) (bs : Bs) (w : World) (hn : bs.length = n) (h : ByV w (fun b => b < w.heap.size) p c bs) (hT : Tabs w) :
    Calls Tryd.prog 12 #[.slice p n c] w (DecPost w (decC bs)) := by
  subst hn
  have hcap := h.cap
  have hbig := h.big
  have hb := fun o => (Below.refl w.heap.size w).alloc (Nat.le_refl _) o
  unfold decC
  by_cases hl : 8192 < bs.length
  · rw [if_pos hl]
    obtain ⟨n, hn⟩ : ∃ n, bs.length = n := ⟨_, rfl⟩
    rw [hn] at hl hcap ⊢
    have hlI : 8192 < (n : Int) := by omega
    have hnI : (n : Int) ≤ 9223372036854775807 := by omega
    go_enter Tryd.func12, Tryd.ntmps12
    go_wp2_with fail
    refine bodyPost_ret (ret_item3 rfl _ _ w.heap.size _ _ _ _ rfl (heap_alloc_new w _)) rfl ?_
    exact ⟨hb _, .inr ⟨3, rfl, by decide, by decide, rfl⟩⟩
  · rw [if_neg hl]
    obtain ⟨W0, hW0⟩ : ∃ W0, w.alloc (.cells #[.int .u8 0, .int .u64 0, .slice none 0 0, .slice none 0 0] 29) = W0 := ⟨_, rfl⟩
    have b0 : Below w.heap.size w W0 := by rw [← hW0]; exact hb _
    have z0 : W0.heap.size = w.heap.size + 1 := by rw [← hW0]; exact alloc_sz w _
    have s0 : Slot W0 w.heap.size (.int .u8 0) (.int .u64 0) (.slice none 0 0) (.slice none 0 0) := by rw [← hW0]; exact Slot.new w _ _ _ _
    obtain ⟨n, hn⟩ : ∃ n, bs.length = n := ⟨_, rfl⟩
    rw [hn] at hl hcap
    have hlI : ¬ 8192 < (n : Int) := by omega
    rw [hn]
    have b1 : Below W0.heap.size W0 (W0.alloc (.cells #[.slice p n c, .int .i64 0, .int .i64 0] 51)) := (Below.refl _ _).alloc (Nat.le_refl _) _
    have z1 : (W0.alloc (.cells #[.slice p n c, .int .i64 0, .int .i64 0] 51)).heap.size = w.heap.size + 2 := by rw [alloc_sz, z0]
    have bw1 : Below w.heap.size w (W0.alloc (.cells #[.slice p n c, .int .i64 0, .int .i64 0] 51)) := b0.trans (b1.mono b0.size)
    have r1 : Cr (W0.alloc (.cells #[.slice p n c, .int .i64 0, .int .i64 0] 51)) (w.heap.size + 1) bs 0 0 := by
      refine ⟨p, c, ?_, (h.keep (fun k hk _ => bw1.block k hk)).mono (fun k hk _ => by omega)⟩
      unfold CrAt
      rw [← z0, hn]
      exact heap_alloc_new W0 _
    have s1 := s0.same (b1.block _ (by omega))
    have hG : Gl (w.heap.size + 1) := fun k hk => by have := hT.lt k hk; omega
    have HI := item_ok 8 (w.heap.size + 1) bs 0 0 (W0.alloc (.cells #[.slice p n c, .int .i64 0, .int .i64 0] 51)) r1 hG (hT.below bw1) rfl (by decide) (by omega)
    have HW : Hid (Below w.heap.size w (W0.alloc (.cells #[.slice p n c, .int .i64 0, .int .i64 0] 51)) ∧ (W0.alloc (.cells #[.slice p n c, .int .i64 0, .int .i64 0] 51)).heap.size = w.heap.size + 2 ∧  Slot (W0.alloc (.cells #[.slice p n c, .int .i64 0, .int .i64 0] 51)) w.heap.size (.int .u8 0) (.int .u64 0) (.slice none 0 0) (.slice none 0 0)) := ⟨bw1, z1, s1⟩
    cases hR : itemC 8 0 0 bs with
    | error k =>
      simp only []
      obtain ⟨hk0, hk1⟩ := item_err 8 _ _ _ _ hR
      have hkb : ((k : Int) != 0) = true := by simp; omega
      have hkI : (k : Int) < 100 := by omega
      rw [hR] at HI
      clear s0 s1 r1 b1 z1 bw1 b0 h hT hG
      go_enter Tryd.func12, Tryd.ntmps12
      go_wp2_with (go_at_call 15; refine HI.mono ?_; intro e w2 hp; obtain ⟨hb2, _, _, zs, t', v0, v1, p1, n1, d1, p2, n2, d2, rfl, hr2⟩ := hp.errx; clear hp; have s2 := HW.out.2.2.same (hb2.block _ (by have := HW.out; omega) (by omega)); obtain ⟨q0, q1, q2, q3, q4, q5, q6, q7⟩ := s2.allfacts)
      have hW := HW.out
      have b4 : Below w2.heap.size w2 (w2.alloc (.cells #[.int .u8 v0, .int .u64 v1, .slice p1 n1 d1, .slice p2 n2 d2] 29)) := (Below.refl _ _).alloc (Nat.le_refl _) _
      have s3 := (s2.same (b4.block _ s2.lt)).set4 (.int .u8 0) (.int .u64 0) (.slice none 0 0) (.slice none 0 0)
      have b3 := But.set4 (w2.alloc (.cells #[.int .u8 v0, .int .u64 v1, .slice p1 n1 d1, .slice p2 n2 d2] 29)) w.heap.size (.int .u8 0) (.int .u64 0) (.slice none 0 0) (.slice none 0 0)
      refine bodyPost_ret (ret_item3 rfl _ _ w.heap.size _ _ _ _ rfl s3) rfl ?_
      exact ⟨(hW.1.trans (((hb2.below (B := w.heap.size) (by omega) (by omega)).trans (b4.mono (by have := hb2.size; omega))).trans (b3.below (B := w.heap.size) (Nat.le_refl _) (by have := hb2.size; have := b4.size; omega)))), .inr ⟨k, rfl, hk0, hk1, rfl⟩⟩
    | ok r =>
      obtain ⟨i, t', ys⟩ := r
      simp only []
      rw [hR] at HI
      clear s0 s1 r1 b1 z1 bw1 b0 h hT hG
      go_enter Tryd.func12, Tryd.ntmps12
      go_wp2_with (go_at_call 15; refine HI.mono ?_; intro e w2 hp; obtain ⟨hb2, pb, cb, pk, ck, rfl, hi, hr2⟩ := hp.okx; clear hp; have s2 := HW.out.2.2.same (hb2.block _ (by have := HW.out; omega) (by omega)))
      have hW := HW.out
      obtain ⟨pr, cr, hra, hrb⟩ := hr2
      obtain ⟨L, hL⟩ : ∃ L, ys.length = L := ⟨_, rfl⟩
      rw [hL] at hra
      have hls := item_cnt 8 _ _ _ _ _ _ (by decide) hR
      obtain ⟨W2, hW2⟩ : ∃ W2, w2.alloc (.cells #[.int .u8 (i.kind : Int), .int .u64 (i.n : Int), .slice pb i.b.length cb, .slice pk i.kids.length ck] 29) = W2 := ⟨_, rfl⟩
      obtain ⟨r1, hr1⟩ : ∃ r, w2.heap.size = r := ⟨_, rfl⟩
      have b2 : Below w2.heap.size w2 W2 := by rw [← hW2]; exact (Below.refl _ _).alloc (Nat.le_refl _) _
      have a1 : Slot W2 r1 (.int .u8 (i.kind : Int)) (.int .u64 (i.n : Int)) (.slice pb i.b.length cb) (.slice pk i.kids.length ck) := by rw [← hW2, ← hr1]; exact Slot.new w2 _ _ _ _
      have a0 : Slot W2 w.heap.size (.int .u8 0) (.int .u64 0) (.slice none 0 0) (.slice none 0 0) := s2.same (b2.block _ s2.lt)
      have hs2 := s2.lt
      have hne : w.heap.size ≠ r1 := by omega
      have hbz := hb2.size
      have hra2 := hra.same (b2.block _ hra.lt)
      have xr := hra2.rest
      have hrb2 := hrb.keep (w' := W2) (fun k hk hlt => b2.block k hlt)
      rw [hW2, hr1]
      obtain ⟨x0, x1, x2, x3, y0, y1, y2, y3⟩ := a1.facts
      have hi1 := hi.below b2
      have HCl := clone_any pr L cr ys W2.drew hL (by have := hrb2.lies; rw [hL] at this; exact this) (by omega)
      obtain ⟨K0, hK0⟩ : ∃ K0 : Nat, i.kind = K0 := ⟨_, rfl⟩
      obtain ⟨N0, hN0⟩ : ∃ K0 : Nat, i.n = K0 := ⟨_, rfl⟩
      obtain ⟨L0, hL0⟩ : ∃ K0 : Nat, i.b.length = K0 := ⟨_, rfl⟩
      obtain ⟨M0, hM0⟩ : ∃ K0 : Nat, i.kids.length = K0 := ⟨_, rfl⟩
      have HI1 : Hid (ItOk W2 _ 8 _ i) := hi1
      have HS : Hid (Slot W2 r1 (.int .u8 (i.kind : Int)) (.int .u64 (i.n : Int)) (.slice pb i.b.length cb) (.slice pk i.kids.length ck) ∧ Below w2.heap.size w2 W2 ∧ w2.heap.size = r1 ∧ w.heap.size + 1 < W2.heap.size) := ⟨a1, b2, hr1, by have := b2.size; omega⟩
      rw [hK0, hN0, hL0, hM0] at HI1 HS ⊢
      rw [hK0] at x0
      rw [hN0] at x1
      rw [hL0] at x2
      rw [hM0] at x3
      have HEQ : Hid (i.kind = K0 ∧ i.n = N0 ∧ i.b.length = L0 ∧ i.kids.length = M0 ∧ ys.length = L) := ⟨hK0, hN0, hL0, hM0, hL⟩
      clear hK0 hN0 hL0 hM0 hi hi1 a1 hW2 hr1 b2 hs2 hrb hrb2 hra hra2 hL hW HI hls hR hW0 hbz s2 y0 y1 y2 y3 hcap hbig hl hn hlI
      go_region_held3 (fun W => W.cell? ⟨r1, 0, none⟩ = some (.int .u8 (K0 : Int)) ∧ W.cell? ⟨r1, 1, none⟩ = some (.int .u64 (N0 : Int)) ∧ W.cell? ⟨r1, 2, none⟩ = some (.slice pb L0 cb) ∧ W.cell? ⟨r1, 3, none⟩ = some (.slice pk M0 ck) ∧ W.cell? ⟨w.heap.size + 1, 0, none⟩ = some (.slice pr L cr))
        (first | exact ⟨x0, x1, x2, x3, xr⟩ | exact ⟨u0, u1, u2, u3, u4⟩ | exact ⟨set4_other u0 hne, set4_other u1 hne, set4_other u2 hne, set4_other u3 hne, set4_other u4 (by omega)⟩) (first
        | (go_at_call 16; refine HCl.mono ?_; rintro e w3 ⟨hb3, p', c', rfl, hv3⟩; have a2 := a0.same (hb3.block _ a0.lt); obtain ⟨k0, k1, k2, k3, f0, f1, f2, f3⟩ := a2.facts; have hlr := HS.out.1.lt; have u0 := (hb3.cell (p := ⟨r1, 0, none⟩) hlr).trans x0; have u1 := (hb3.cell (p := ⟨r1, 1, none⟩) hlr).trans x1; have u2 := (hb3.cell (p := ⟨r1, 2, none⟩) hlr).trans x2; have u3 := (hb3.cell (p := ⟨r1, 3, none⟩) hlr).trans x3; have u4 := (hb3.cell (p := ⟨w.heap.size + 1, 0, none⟩) HS.out.2.2.2).trans xr))
      go_wp2
      have s3 := a2.set4 (.int .u8 (K0 : Int)) (.int .u64 (N0 : Int)) (.slice pb L0 cb) (.slice pk M0 ck)
      have b3 := But.set4 w3 w.heap.size (.int .u8 (K0 : Int)) (.int .u64 (N0 : Int)) (.slice pb L0 cb) (.slice pk M0 ck)
      refine bodyPost_ret (ret_item3 rfl _ _ w.heap.size _ _ _ _ rfl s3) rfl ?_
      have hbw : Below W2.heap.size W2 w3 := ⟨hb3.os, hb3.tape, hb3.output, hb3.size, hb3.block⟩
      have hW := HW.out
      have hE := HEQ.out
      have hS := HS.out
      have hsz2 := hb2.size
      have bA : Below w.heap.size w w3 := hW.1.trans ((hb2.below (B := w.heap.size) (by omega) (by omega)).trans ((hS.2.1.mono (by omega)).trans (hbw.mono (by omega))))
      refine ⟨bA.trans (b3.below (B := w.heap.size) (Nat.le_refl _) bA.size), .inl ⟨i, ys, pb, cb, pk, ck, p', c', rfl, ?_, ?_, ?_⟩⟩
      · rw [hE.1, hE.2.1, hE.2.2.1, hE.2.2.2.1, hE.2.2.2.2]
        rfl
      · rw [hE.1, hE.2.1, hE.2.2.1, hE.2.2.2.1]
        have h4 := (HI1.out.below hbw).mono (Q := fun b => w.heap.size + 2 ≤ b) (fun k hk _ => by rw [hW.2.1] at hk; omega)
        exact (h4.keep (fun k hk hlt => b3.block k hlt (by omega))).mono (fun k hk _ => by omega)
      · have hv4 : ByV w3 (fun b => w.heap.size + 1 ≤ b) p' c' ys := hv3.mono (fun k hk _ => by have hh : W2.heap.size ≤ k := hk; omega)
        exact (hv4.keep (fun k hk hlt => b3.block k hlt (by omega))).mono (fun k hk _ => by omega)
end Go.Proofs.YtfmldcibhllpcabDoor
