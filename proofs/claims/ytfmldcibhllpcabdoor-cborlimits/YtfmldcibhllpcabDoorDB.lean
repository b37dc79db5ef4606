/-
  The code's Whole.
-/
import Derived.Test.YtfmldcibhllpcabDoorDA
namespace Go.Proofs.YtfmldcibhllpcabDoor
open Go.Shelf Go.RowKit
set_option linter.unusedVariables false
set_option linter.unusedSimpArgs false

theorem DecPost.okx {w : World} {i : It} {ys : Bs} {e : Ending} {w' : World} (h : DecPost w (.ok (i, ys)) e w') : Below w.heap.size w w' ∧ ∃ (p : Option Addr) (c : Nat) (q : Option Addr) (c' : Nat) (pr : Option Addr) (cr : Nat), e = .returned (.tuple #[.agg #[.int .u8 (i.kind : Int), .int .u64 (i.n : Int), .slice p i.b.length c, .slice q i.kids.length c'], .slice pr ys.length cr, .int .i64 0]) ∧ ItOk w' (fun b => w.heap.size ≤ b) 8 [.int .u8 (i.kind : Int), .int .u64 (i.n : Int), .slice p i.b.length c, .slice q i.kids.length c'] i ∧ ByV w' (fun b => w.heap.size ≤ b) pr cr ys := by
  obtain ⟨h1, (⟨i', ys', p, c, q, c', pr, cr, hR, h2⟩ | ⟨k, hR, _⟩)⟩ := h
  · cases hR
    exact ⟨h1, p, c, q, c', pr, cr, h2⟩
  · cases hR
theorem DecPost.errx {w : World} {k : Nat} {e : Ending} {w' : World} (h : DecPost w (.error k) e w') : Below w.heap.size w w' ∧ 0 < k ∧ k < 100 ∧ e = .returned (.tuple #[.agg #[.int .u8 0, .int .u64 0, .slice none 0 0, .slice none 0 0], .slice none 0 0, .int .i64 (k : Int)]) := by
  obtain ⟨h1, (⟨i', ys', p, c, q, c', pr, cr, hR, h2⟩ | ⟨k', hR, h2⟩)⟩ := h
  · cases hR
  · cases hR
    exact ⟨h1, h2⟩
theorem dec_err {bs : Bs} {k : Nat} (h : decC bs = .error k) : 0 < k ∧ k < 100 := by
  unfold decC at h
  split at h
  · cases h
    exact ⟨by decide, by decide⟩
  · cases hi : itemC 8 0 0 bs with
    | error e => rw [hi] at h; cases h; exact item_err 8 _ _ _ _ hi
    | ok r => rw [hi] at h; cases h
theorem dec_len {bs : Bs} {i : It} {ys : Bs} (h : decC bs = .ok (i, ys)) : ys.length ≤ 8192 := by
  unfold decC at h
  split at h
  · cases h
  · cases hi : itemC 8 0 0 bs with
    | error e => rw [hi] at h; cases h
    | ok r =>
      obtain ⟨j, t, zs⟩ := r
      rw [hi] at h
      cases h
      have := item_cnt 8 _ _ _ _ _ _ (by decide) hi
      omega
/-- What Whole answers. -/
def WholePost (w : World) (R : Except Nat It) (e : Ending) (w' : World) : Prop :=
  Below w.heap.size w w' ∧ ((∃ (i : It) (p : Option Addr) (c : Nat) (q : Option Addr) (c' : Nat), R = .ok i ∧ e = .returned (.tuple #[.agg #[.int .u8 (i.kind : Int), .int .u64 (i.n : Int), .slice p i.b.length c, .slice q i.kids.length c'], .int .i64 0]) ∧ ItOk w' (fun b => w.heap.size ≤ b) 8 [.int .u8 (i.kind : Int), .int .u64 (i.n : Int), .slice p i.b.length c, .slice q i.kids.length c'] i)
    ∨ (∃ (k : Nat), R = .error k ∧ 0 < k ∧ k < 100 ∧ e = .returned (.tuple #[noC, .int .i64 (k : Int)])))
set_option maxRecDepth 100000 in
set_option maxHeartbeats 1000000 in
/-- Whole. -/
theorem Whole_any (p : Option Addr) (n c : Nat) (bs : Bs) (w : World) (hn : bs.length = n) (h : ByV w (fun b => b < w.heap.size) p c bs) (hT : Tabs w) :
    Calls Tryd.prog 8 #[.slice p n c] w (WholePost w (wholeC bs)) := by
  obtain ⟨W0, hW0⟩ : ∃ W0, w.alloc (.cells #[.int .u8 0, .int .u64 0, .slice none 0 0, .slice none 0 0] 29) = W0 := ⟨_, rfl⟩
  have b0 : Below w.heap.size w W0 := by rw [← hW0]; exact (Below.refl _ _).alloc (Nat.le_refl _) _
  have z0 : W0.heap.size = w.heap.size + 1 := by rw [← hW0]; exact alloc_sz w _
  have s0 : Slot W0 w.heap.size (.int .u8 0) (.int .u64 0) (.slice none 0 0) (.slice none 0 0) := by rw [← hW0]; exact Slot.new w _ _ _ _
  have HD := Decode_any p n c bs W0 hn ((h.keep (fun k hk _ => b0.block k hk)).mono (fun k hk _ => by omega)) (hT.below b0)
  unfold wholeC
  cases hR : decC bs with
  | error k =>
    simp only []
    obtain ⟨hk0, hk1⟩ := dec_err hR
    have hkb : ((k : Int) != 0) = true := by simp; omega
    have hkI : (k : Int) < 100 := by omega
    rw [hR] at HD
    clear h hT hR
    go_enter Tryd.func8, Tryd.ntmps8
    go_wp2_with (go_at_call 12; refine HD.mono ?_; intro e w2 hp; obtain ⟨hb2, _, _, rfl⟩ := hp.errx; clear hp; have s2 := s0.same (hb2.block _ (by omega)); obtain ⟨q0, q1, q2, q3, q4, q5, q6, q7⟩ := s2.allfacts)
    have b4 : Below w2.heap.size w2 (w2.alloc (.cells #[.int .u8 0, .int .u64 0, .slice none 0 0, .slice none 0 0] 29)) := (Below.refl _ _).alloc (Nat.le_refl _) _
    have s3 := (s2.same (b4.block _ s2.lt)).set4 (.int .u8 0) (.int .u64 0) (.slice none 0 0) (.slice none 0 0)
    have b3 := But.set4 (w2.alloc (.cells #[.int .u8 0, .int .u64 0, .slice none 0 0, .slice none 0 0] 29)) w.heap.size (.int .u8 0) (.int .u64 0) (.slice none 0 0) (.slice none 0 0)
    refine bodyPost_ret (ret_item rfl _ _ w.heap.size _ _ _ _ rfl s3) rfl ?_
    have hz2 := hb2.size
    have hz4 := b4.size
    exact ⟨(b0.trans (hb2.mono (by omega))).trans ((b4.mono (by omega)).trans (b3.below (B := w.heap.size) (Nat.le_refl _) (by omega))), .inr ⟨k, rfl, hk0, hk1, rfl⟩⟩
  | ok r =>
    obtain ⟨i, ys⟩ := r
    simp only []
    have hyl := dec_len hR
    rw [hR] at HD
    obtain ⟨L, hL⟩ : ∃ L, ys.length = L := ⟨_, rfl⟩
    by_cases hy : ys = []
    · rw [if_pos hy]
      have hL0 : L = 0 := by rw [← hL, hy]; rfl
      subst hL0
      clear h hT hR
      go_enter Tryd.func8, Tryd.ntmps8
      go_wp2_with (go_at_call 12; refine HD.mono ?_; intro e w2 hp; obtain ⟨hb2, pb, cb, pk, ck, pr, cr, rfl, hi, hv⟩ := hp.okx; rw [hL]; clear hp; have s2 := s0.same (hb2.block _ (by omega)); obtain ⟨q0, q1, q2, q3, q4, q5, q6, q7⟩ := s2.allfacts)
      have b4 : Below w2.heap.size w2 (w2.alloc (.cells #[.int .u8 (i.kind : Int), .int .u64 (i.n : Int), .slice pb i.b.length cb, .slice pk i.kids.length ck] 29)) := (Below.refl _ _).alloc (Nat.le_refl _) _
      have s3 := (s2.same (b4.block _ s2.lt)).set4 (.int .u8 (i.kind : Int)) (.int .u64 (i.n : Int)) (.slice pb i.b.length cb) (.slice pk i.kids.length ck)
      have b3 := But.set4 (w2.alloc (.cells #[.int .u8 (i.kind : Int), .int .u64 (i.n : Int), .slice pb i.b.length cb, .slice pk i.kids.length ck] 29)) w.heap.size (.int .u8 (i.kind : Int)) (.int .u64 (i.n : Int)) (.slice pb i.b.length cb) (.slice pk i.kids.length ck)
      refine bodyPost_ret (ret_item rfl _ _ w.heap.size _ _ _ _ rfl s3) rfl ?_
      have hz2 := hb2.size
      have hz4 := b4.size
      refine ⟨(b0.trans (hb2.mono (by omega))).trans ((b4.mono (by omega)).trans (b3.below (B := w.heap.size) (Nat.le_refl _) (by omega))), .inl ⟨i, pb, cb, pk, ck, rfl, rfl, ?_⟩⟩
      have h4 := (hi.below b4).mono (Q := fun b => w.heap.size + 1 ≤ b) (fun k hk _ => by omega)
      exact (h4.keep (fun k hk hlt => b3.block k hlt (by omega))).mono (fun k hk _ => by omega)
    · rw [if_neg hy]
      have hL0 : 0 < (L : Int) := by have := List.length_pos_iff.2 hy; omega
      have hL1 : (L : Int) ≤ 8192 := by omega
      have hLn : 0 < L := by omega
      clear h hT hR
      go_enter Tryd.func8, Tryd.ntmps8
      go_wp2_with (go_at_call 12; refine HD.mono ?_; intro e w2 hp; obtain ⟨hb2, pb, cb, pk, ck, pr, cr, rfl, hi, hv⟩ := hp.okx; rw [hL]; clear hp; have s2 := s0.same (hb2.block _ (by omega)); obtain ⟨q0, q1, q2, q3, q4, q5, q6, q7⟩ := s2.allfacts)
      have b4 : Below w2.heap.size w2 (w2.alloc (.cells #[.int .u8 (i.kind : Int), .int .u64 (i.n : Int), .slice pb i.b.length cb, .slice pk i.kids.length ck] 29)) := (Below.refl _ _).alloc (Nat.le_refl _) _
      have s3 := (s2.same (b4.block _ s2.lt)).set4 (.int .u8 0) (.int .u64 0) (.slice none 0 0) (.slice none 0 0)
      have b3 := But.set4 (w2.alloc (.cells #[.int .u8 (i.kind : Int), .int .u64 (i.n : Int), .slice pb i.b.length cb, .slice pk i.kids.length ck] 29)) w.heap.size (.int .u8 0) (.int .u64 0) (.slice none 0 0) (.slice none 0 0)
      refine bodyPost_ret (ret_item rfl _ _ w.heap.size _ _ _ _ rfl s3) rfl ?_
      have hz2 := hb2.size
      have hz4 := b4.size
      exact ⟨(b0.trans (hb2.mono (by omega))).trans ((b4.mono (by omega)).trans (b3.below (B := w.heap.size) (Nat.le_refl _) (by omega))), .inr ⟨20, rfl, by decide, by decide, rfl⟩⟩
end Go.Proofs.YtfmldcibhllpcabDoor
