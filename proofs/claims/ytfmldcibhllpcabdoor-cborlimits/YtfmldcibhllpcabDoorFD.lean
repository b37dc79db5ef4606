/-
  The code's writer: a head.
-/
import Derived.Test.YtfmldcibhllpcabDoorFC
import Derived.Laws.Bits64b
namespace Go.Proofs.YtfmldcibhllpcabDoor
open Go.Shelf Go.RowKit
set_option linter.unusedVariables false
set_option linter.unusedSimpArgs false

/-- The library's table of trailing zeros, as far as it is used. -/
def Tz (w : World) : Prop := w.cell? ⟨3, 0, none⟩ = some (.int .u8 0) ∧ w.cell? ⟨3, 1, none⟩ = some (.int .u8 1) ∧ w.cell? ⟨3, 3, none⟩ = some (.int .u8 2) ∧ w.cell? ⟨3, 7, none⟩ = some (.int .u8 3)
theorem Tz.lt {w : World} (h : Tz w) : 3 < w.heap.size := World.block_lt_of_cell? _ _ h.1
theorem Tz.keep {w w' : World} (h : Tz w) (hb : w'.heap[3]? = w.heap[3]?) : Tz w' :=
  ⟨(World.cell?_of_block (w := w) hb).trans h.1, (World.cell?_of_block (w := w) hb).trans h.2.1, (World.cell?_of_block (w := w) hb).trans h.2.2.1, (World.cell?_of_block (w := w) hb).trans h.2.2.2⟩
theorem Tz.below {w w' : World} (h : Tz w) (hb : Below w.heap.size w w') : Tz w' := h.keep (hb.block _ h.lt)
theorem tzk0 : IntKind.u64.wrap (bits BinOp.and IntKind.u64 1 (IntKind.u64.wrap (-1)) * 285870213051353865) / 288230376151711744 = 0 := by decide +kernel
theorem tzk1 : IntKind.u64.wrap (bits BinOp.and IntKind.u64 2 (IntKind.u64.wrap (-2)) * 285870213051353865) / 288230376151711744 = 1 := by decide +kernel
theorem tzk2 : IntKind.u64.wrap (bits BinOp.and IntKind.u64 4 (IntKind.u64.wrap (-4)) * 285870213051353865) / 288230376151711744 = 3 := by decide +kernel
theorem tzk3 : IntKind.u64.wrap (bits BinOp.and IntKind.u64 8 (IntKind.u64.wrap (-8)) * 285870213051353865) / 288230376151711744 = 7 := by decide +kernel
set_option maxRecDepth 100000 in
set_option maxHeartbeats 1000000 in
theorem tz64_any (k : Nat) (hk : k = 0 ∨ k = 1 ∨ k = 2 ∨ k = 3) (w : World) (h : Tz w) : Calls Tryd.prog 36 #[.int .u64 ((2 ^ k : Nat) : Int)] w fun e w' => e = .returned (.int .i64 (k : Int)) ∧ w' = w := by
  obtain ⟨h0, h1, h2, h3⟩ := h
  rcases hk with rfl | rfl | rfl | rfl
  · go_enter Tryd.func36, Tryd.ntmps36
    go_wp2_with (simp only [tzk0])
    go_ret
    exact ⟨rfl, rfl⟩
  · go_enter Tryd.func36, Tryd.ntmps36
    go_wp2_with (simp only [tzk1])
    go_ret
    exact ⟨rfl, rfl⟩
  · go_enter Tryd.func36, Tryd.ntmps36
    go_wp2_with (simp only [tzk2])
    go_ret
    exact ⟨rfl, rfl⟩
  · go_enter Tryd.func36, Tryd.ntmps36
    go_wp2_with (simp only [tzk3])
    go_ret
    exact ⟨rfl, rfl⟩
set_option maxRecDepth 100000 in
set_option maxHeartbeats 1000000 in
theorem tz_any (k : Nat) (hk : k = 0 ∨ k = 1 ∨ k = 2 ∨ k = 3) (w : World) (h : Tz w) : Calls Tryd.prog 29 #[.int .u64 ((2 ^ k : Nat) : Int)] w fun e w' => e = .returned (.int .i64 (k : Int)) ∧ w' = w := by
  have HT := tz64_any k hk w h
  rcases hk with rfl | rfl | rfl | rfl
  all_goals
    go_enter Tryd.func29, Tryd.ntmps29
    go_wp2_with (go_at_call 36; refine HT.mono ?_; rintro e w1 ⟨rfl, rfl⟩)
    go_ret
    exact ⟨rfl, rfl⟩
set_option maxHeartbeats 1000000 in
theorem formKind_any (K : Nat) (hK : K < 9) (w : World) : Calls Tryd.prog 27 #[.int .u8 ((K + 1 : Nat) : Int)] w fun e w' => e = .returned (.int .u8 (K : Int)) ∧ w' = w := by
  have h1 : (K : Int) < 9 := by omega
  go_enter Tryd.func27, Tryd.ntmps27
  go_wp2
  go_ret
  exact ⟨by go_num, rfl⟩
set_option maxHeartbeats 1000000 in
theorem wordForm_any (k : Nat) (hk : k = 7 ∨ k = 8 ∨ k = 9) (w : World) : Calls Tryd.prog 21 #[.int .u8 (k : Int)] w fun e w' => e = .returned (.int .u8 ((k + 237 : Nat) : Int)) ∧ w' = w := by
  rcases hk with rfl | rfl | rfl
  all_goals
    go_enter Tryd.func21, Tryd.ntmps21
    go_wp2
    go_ret
    exact ⟨by first | rfl | go_num, rfl⟩
theorem or32 : ∀ (K : Fin 6) (x : Fin 32), bits .or .u8 ((32 * K.val : Nat) : Int) ((x.val : Nat) : Int) = ((32 * K.val + x.val : Nat) : Int) := by decide
theorem bat_one (w : World) (x : UInt8) : BAt (w.alloc (.cells #[.int .u8 (x.toNat : Int)] 5)) (some ⟨w.heap.size, 0, none⟩) 1 [x] := fun _ => ⟨_, _, rfl, fun i hi => by
  obtain rfl : i = 0 := by omega
  rw [cell_of_row _ _ _ _ _ _ (heap_alloc_new w _)]
  rfl⟩
/-- One byte put. -/
theorem put_one (g : Nat) (fb : Option Nat) (bs : Bs) (t o : Nat) (x : Nat) (hx : x < 256) (w : World) (h : Wt w g fb bs t o) :
    Calls Tryd.prog 19 #[.pointer (some ⟨g, 0, none⟩), .slice (some ⟨w.heap.size, 0, none⟩) 1 1] (w.alloc (.cells #[.int .u8 (x : Int)] 5)) fun e w' => e = .returned (.tuple #[]) ∧ ∃ fb', WTo g fb w w' fb' ∧ Wt w' g fb' (bs ++ [UInt8.ofNat x]) t o := by
  have ex : (UInt8.ofNat x).toNat = x := by simp; omega
  have hB := bat_one w (UInt8.ofNat x)
  rw [ex] at hB
  have hb : Below w.heap.size w (w.alloc (.cells #[.int .u8 (x : Int)] 5)) := (Below.refl _ _).alloc (Nat.le_refl _) _
  refine (put_any g fb bs t o _ 1 1 [UInt8.ofNat x] _ (h.below hb) rfl hB (by decide)).mono ?_
  rintro e w' ⟨rfl, fb', h1, h2⟩
  exact ⟨rfl, fb', (WTo.ofBelow hb).trans h1, h2⟩
set_option maxRecDepth 100000 in
set_option maxHeartbeats 1000000 in
/-- number, of less than 24. -/
theorem num_low (g : Nat) (fb : Option Nat) (bs : Bs) (t o K n : Nat) (hK : K < 6) (hn : n < 24) (w : World) (h : Wt w g fb bs t o) :
    Calls Tryd.prog 17 #[.pointer (some ⟨g, 0, none⟩), .int .u8 ((K + 1 : Nat) : Int), .int .u64 (n : Int)] w fun e w' => e = .returned (.tuple #[]) ∧ ∃ fb', WTo g fb w w' fb' ∧ Wt w' g fb' (bs ++ headF K n) t o := by
  have hnI : (n : Int) < 24 := by omega
  have hor : bits .or .u8 (32 * (K : Int)) (n : Int) = ((32 * K + n : Nat) : Int) := by
    have h0 := or32 ⟨K, hK⟩ ⟨n, by omega⟩
    simp only at h0
    rw [← h0]
    rfl
  have HS := sizeOf_any n (by omega) w
  rw [show szC n = 0 by simp [szC, hn]] at HS
  have HP := put_one g fb bs t o (32 * K + n) (by omega) w h
  have HF := formKind_any K (by omega) w
  have e1 : headF K n = [UInt8.ofNat (32 * K + n)] := by unfold headF; rw [if_pos hn]
  rw [e1]
  obtain ⟨X, hX⟩ : ∃ X : Nat, 32 * K + n = X := ⟨_, rfl⟩
  rw [hX] at HP hor ⊢
  have hKI : (K : Int) < 6 := by omega
  have hsh : IntKind.u8.wrap ((K : Int) * 32) = ((32 * K : Nat) : Int) := by rw [IntKind.wrap_u8]; omega
  go_enter Tryd.func17, Tryd.ntmps17
  go_wp2_with (first
    | (go_at_call 27; refine HF.mono ?_; rintro e w1 ⟨rfl, rfl⟩)
    | (go_at_call 28; refine HS.mono ?_; rintro e w1 ⟨rfl, rfl⟩)
    | (go_at_call 19; refine HP.mono ?_; rintro e w1 ⟨rfl, hw1⟩))
  refine bodyPost_ret (results_none rfl _ _ _) rfl ?_
  exact ⟨rfl, hw1⟩
theorem head_high (K n : Nat) (hn : 24 ≤ n) : ∃ k, (k = 0 ∨ k = 1 ∨ k = 2 ∨ k = 3) ∧ szC n = 2 ^ k ∧ headF K n = UInt8.ofNat (32 * K + (24 + k)) :: beF (2 ^ k) n := by
  have q : ¬ n < 24 := by omega
  by_cases h1 : n < 256
  · exact ⟨0, by omega, by simp [szC, q, h1], by simp [headF, q, h1]⟩
  by_cases h2 : n < 65536
  · exact ⟨1, by omega, by simp [szC, q, h1, h2], by simp [headF, q, h1, h2]⟩
  by_cases h3 : n < 4294967296
  · exact ⟨2, by omega, by simp [szC, q, h1, h2, h3], by simp [headF, q, h1, h2, h3]⟩
  exact ⟨3, by omega, by simp [szC, q, h1, h2, h3], by simp [headF, q, h1, h2, h3]⟩
set_option maxRecDepth 100000 in
set_option maxHeartbeats 1000000 in
/-- number, of 24 and more. -/
theorem num_high (g : Nat) (fb : Option Nat) (bs : Bs) (t o K n : Nat) (hK : K < 6) (hn : 24 ≤ n) (hn2 : n < 18446744073709551616) (w : World) (h : Wt w g fb bs t o) (hT : Tz w) :
    Calls Tryd.prog 17 #[.pointer (some ⟨g, 0, none⟩), .int .u8 ((K + 1 : Nat) : Int), .int .u64 (n : Int)] w fun e w' => e = .returned (.tuple #[]) ∧ ∃ fb', WTo g fb w w' fb' ∧ Wt w' g fb' (bs ++ headF K n) t o := by
  obtain ⟨k, hk, hs, hh⟩ := head_high K n hn
  have hnI : (n : Int) < 18446744073709551616 := by omega
  have hor : bits .or .u8 (32 * (K : Int)) (24 + (k : Int)) = ((32 * K + (24 + k) : Nat) : Int) := by
    have h0 := or32 ⟨K, hK⟩ ⟨24 + k, by omega⟩
    simp only at h0
    rw [← h0]
    rfl
  have HS := sizeOf_any n (by omega) w
  rw [hs] at HS
  have HP := put_one g fb bs t o (32 * K + (24 + k)) (by omega) w h
  have HF := formKind_any K (by omega) w
  have HT := tz_any k hk w hT
  have hkI : (k : Int) ≤ 3 := by omega
  rw [hh]
  obtain ⟨X, hX⟩ : ∃ X : Nat, 32 * K + (24 + k) = X := ⟨_, rfl⟩
  obtain ⟨S, hS⟩ : ∃ S : Nat, 2 ^ k = S := ⟨_, rfl⟩
  have hS8 : 0 < S ∧ S ≤ 8 := by rcases hk with rfl | rfl | rfl | rfl <;> simp at hS <;> omega
  have hSI : (S : Int) ≤ 8 := by omega
  have hSI0 : 0 < (S : Int) := by omega
  have hSb : ((S : Int) == 0) = false := by simp; omega
  rw [hX] at HP hor ⊢
  rw [hS] at HS HT ⊢
  have hKI : (K : Int) < 6 := by omega
  have hsh : IntKind.u8.wrap ((K : Int) * 32) = ((32 * K : Nat) : Int) := by rw [IntKind.wrap_u8]; omega
  clear hh hs hS hX
  go_enter Tryd.func17, Tryd.ntmps17
  go_wp2_with (first
    | (go_at_call 27; refine HF.mono ?_; rintro e w1 ⟨rfl, rfl⟩)
    | (go_at_call 28; refine HS.mono ?_; rintro e w1 ⟨rfl, rfl⟩)
    | (go_at_call 29; refine HT.mono ?_; rintro e w1 ⟨rfl, rfl⟩)
    | (go_at_call 19; refine HP.mono ?_; rintro e w2 ⟨rfl, hw1⟩))
  clear HP HF HT HS hor hsh hSb hkI
  have P0 : Hid (∃ fb' Y, WTo g fb w1 w2 fb' ∧ Wt w2 g fb' Y t o ∧ Y ++ beF S n = bs ++ UInt8.ofNat X :: beF S n) := by
    obtain ⟨fb', a, b⟩ := hw1
    exact ⟨fb', _, a, b, by simp⟩
  clear hw1
  go_loopw [7] (fun v7 wr => ∃ (j : Nat) (fb' : Option Nat) (Y : Bs), v7 = .int .i64 (j : Int) ∧ j ≤ 8 ∧ WTo g fb w1 wr fb' ∧ Wt wr g fb' Y t o ∧ Y ++ beF j n = bs ++ UInt8.ofNat X :: beF S n) (fun v7 _ => (intOf v7).toNat)
  case atStart =>
    obtain ⟨fb', Y, a, b, c⟩ := P0.out
    exact ⟨S, fb', Y, rfl, hS8.2, a, b, c⟩
  case round =>
    obtain ⟨j, fb', Y, rfl, hj, hto, hwt, heq⟩ := hrel
    cases j with
    | zero =>
      go_wp2
      go_end0
      have e0 : Y = bs ++ UInt8.ofNat X :: beF S n := by simpa [beF] using heq
      rw [← e0]
      exact ⟨rfl, fb', hto, hwt⟩
    | succ j =>
      have hjI : (j : Int) ≤ 7 := by omega
      have hb : (n : Int) / 2 ^ (8 * j) % 256 = ((n / 256 ^ j % 256 : Nat) : Int) := by
        have e2 : (256 : Nat) ^ j = 2 ^ (8 * j) := by rw [Nat.pow_mul]
        rw [e2]
        simp
      have HP := put_one g fb' Y t o (n / 256 ^ j % 256) (by omega) wr hwt
      rw [← hb] at HP
      clear hb
      go_wp2_with (go_at_call 19; refine HP.mono ?_; rintro e w2 ⟨rfl, hw1⟩)
      obtain ⟨fb2, h1, h2⟩ := hw1
      refine ⟨⟨j, fb2, _, rfl, by omega, hto.trans h1, h2, ?_⟩, by simp only [intOf]; omega⟩
      rw [← heq, beF]
      simp
/-- number. -/
theorem number_any (g : Nat) (fb : Option Nat) (bs : Bs) (t o K n : Nat) (hK : K < 6) (hn : n < 18446744073709551616) (w : World) (h : Wt w g fb bs t o) (hT : Tz w) :
    Calls Tryd.prog 17 #[.pointer (some ⟨g, 0, none⟩), .int .u8 ((K + 1 : Nat) : Int), .int .u64 (n : Int)] w fun e w' => e = .returned (.tuple #[]) ∧ ∃ fb', WTo g fb w w' fb' ∧ Wt w' g fb' (bs ++ headF K n) t o := by
  by_cases h0 : n < 24
  · exact num_low g fb bs t o K n hK h0 w h
  · exact num_high g fb bs t o K n hK (by omega) hn w h hT
end Go.Proofs.YtfmldcibhllpcabDoor
