/-
  utf8.word of bytes.
-/
import Derived.Test.YtfmldcibhllpcabDoorCT
import Derived.Lib.Endian
import Derived.Lib.EndianBits
import Derived.Deep.DeepBigQuietO
namespace Go.Proofs.YtfmldcibhllpcabDoor
open Go.Shelf Go.RowKit
set_option linter.unusedVariables false
set_option linter.unusedSimpArgs false
/-- The number that the first eight bytes spell, the least first. -/
def wordN (l : Bs) : Nat := Lib.leNat [l.getD 0 0, l.getD 1 0, l.getD 2 0, l.getD 3 0, l.getD 4 0, l.getD 5 0, l.getD 6 0, l.getD 7 0]
set_option maxRecDepth 100000 in
set_option maxHeartbeats 2000000 in
/-- utf8.word. -/
theorem word_any (b f n c : Nat) (l : Bs) (w : World) (h : BAt w (some ⟨b, f, none⟩) n l) (hn : l.length = n) (h8 : 8 ≤ n) (hb : n ≤ 1000000) :
    Calls Tryd.prog 30 #[.slice (some ⟨b, f, none⟩) n c] w fun e w' => e = .returned (.int .u64 (wordN l : Int)) ∧ ∃ q, w' = w.drewN q := by
  obtain ⟨b', f', e, hc⟩ := h (by omega)
  cases e
  have c0 := hc 0 (by omega); have c1 := hc 1 (by omega); have c2 := hc 2 (by omega); have c3 := hc 3 (by omega); have c4 := hc 4 (by omega); have c5 := hc 5 (by omega); have c6 := hc 6 (by omega); have c7 := hc 7 (by omega)
  unfold wordN
  obtain ⟨x0, e0⟩ : ∃ x, l.getD 0 0 = x := ⟨_, rfl⟩
  obtain ⟨x1, e1⟩ : ∃ x, l.getD 1 0 = x := ⟨_, rfl⟩
  obtain ⟨x2, e2⟩ : ∃ x, l.getD 2 0 = x := ⟨_, rfl⟩
  obtain ⟨x3, e3⟩ : ∃ x, l.getD 3 0 = x := ⟨_, rfl⟩
  obtain ⟨x4, e4⟩ : ∃ x, l.getD 4 0 = x := ⟨_, rfl⟩
  obtain ⟨x5, e5⟩ : ∃ x, l.getD 5 0 = x := ⟨_, rfl⟩
  obtain ⟨x6, e6⟩ : ∃ x, l.getD 6 0 = x := ⟨_, rfl⟩
  obtain ⟨x7, e7⟩ : ∃ x, l.getD 7 0 = x := ⟨_, rfl⟩
  rw [e0] at c0; rw [e1] at c1; rw [e2] at c2; rw [e3] at c3; rw [e4] at c4; rw [e5] at c5; rw [e6] at c6; rw [e7] at c7
  rw [e0, e1, e2, e3, e4, e5, e6, e7]
  rw [Nat.add_zero] at c0
  have h0 := x0.toNat_lt; have h1 := x1.toNat_lt; have h2 := x2.toNat_lt; have h3 := x3.toNat_lt; have h4 := x4.toNat_lt; have h5 := x5.toNat_lt; have h6 := x6.toNat_lt; have h7 := x7.toNat_lt
  have hnI : (n : Int) ≤ 1000000 := by omega
  have q0 : (0 : Int) < (n : Int) := by omega
  have q1 : (1 : Int) < (n : Int) := by omega
  have q2 : (2 : Int) < (n : Int) := by omega
  have q3 : (3 : Int) < (n : Int) := by omega
  have q4 : (4 : Int) < (n : Int) := by omega
  have q5 : (5 : Int) < (n : Int) := by omega
  have q6 : (6 : Int) < (n : Int) := by omega
  have q7 : (7 : Int) < (n : Int) := by omega
  have p0 : 0 < n := by omega
  have p1 : 1 < n := by omega
  have p2 : 2 < n := by omega
  have p3 : 3 < n := by omega
  have p4 : 4 < n := by omega
  have p5 : 5 < n := by omega
  have p6 : 6 < n := by omega
  have p7 : 7 < n := by omega
  clear hc h e0 e1 e2 e3 e4 e5 e6 e7
  go_enter Tryd.func30, Tryd.ntmps30
  go_wp2
  go_quiet (fail)
  go_wp2
  go_ret
  refine ⟨?_, _, rfl⟩
  have hv : ((Lib.leNat [x0, x1, x2, x3, x4, x5, x6, x7] : Nat) : Int) = (x0.toNat : Int) + (x1.toNat : Int) * 256 + (x2.toNat : Int) * 65536 + (x3.toNat : Int) * 16777216 + (x4.toNat : Int) * 4294967296 + (x5.toNat : Int) * 1099511627776 + (x6.toNat : Int) * 281474976710656 + (x7.toNat : Int) * 72057594037927936 := by
    simp only [Lib.leNat]
    push_cast
    omega
  simp (disch := omega) only [u64_wrap_id, u64_or8, u64_or16, u64_or24, u64_or32, u64_or40, u64_or48, u64_or56]
  rw [hv]
  rfl
end Go.Proofs.YtfmldcibhllpcabDoor
