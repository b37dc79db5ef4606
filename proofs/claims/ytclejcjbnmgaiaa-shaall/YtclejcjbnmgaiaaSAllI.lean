/-
  Two iterators over a slice of slices: slices.Values', and the law's own, which counts.
-/
import Derived.Test.YtclejcjbnmgaiaaSPuts
import Derived.RangeFuncNested
import Derived.RangeFuncBound
import Derived.RangeFuncCalls
import Derived.RangeFuncLeaves
import Derived.Shelf.Abstract
import Derived.Shelf.RegionOpen
import Derived.OwnWalkIn
import Derived.TacticsInMore
import Derived.LoopNIn
import Derived.LoopIn
namespace Go.Proofs.Ytclejcjbnmgaiaa
open Go.RowKit Go.Shelf
set_option linter.unusedVariables false
set_option linter.unusedSimpArgs false
attribute [local go_sem] Oper.semAt_some

/-- Where the pieces lie, and that a world still has them. -/
def PieceAt (a : Option Addr) (len cap : Nat) (A : Nat → Option Addr) (L C : Nat → Nat) (J : Nat → World → Prop) : Prop :=
  len ≤ maxLen ∧ (len = 0 ∨ ∃ b off, a = some ⟨b, off, none⟩ ∧ len ≤ cap ∧ ∀ k W, k < len → J k W → W.cell? ⟨b, off + k, none⟩ = some (.slice (A k) (L k) (C k)))

set_option maxRecDepth 100000 in
set_option maxHeartbeats 2000000 in
theorem vals_iter (n : Nat) (hn : 1 ≤ n) (l g1 : Nat) (a : Option Addr) (len cap : Nat) (A : Nat → Option Addr) (L C : Nat → Nat) (J : Nat → World → Prop) (W : World)
    (hbox : W.cell? ⟨g1, 0, none⟩ = some (.slice a len cap)) (hp : PieceAt a len cap A L C J)
    (hY : ∀ k W1, k < len → J k W1 → YieldAt Fence.wide (n - 1) Try.prog l #[.slice (A k) (L k) (C k)] W1 fun e W' => e = .returned (.bool true) ∧ J (k + 1) W') (h0 : J 0 W) :
    CallsIn Fence.wide n Try.prog 21 #[.func (.yield l) #[] #[], .pointer (some ⟨g1, 0, none⟩)] W fun e W' => (∃ v, e = .returned v) ∧ J len W' := by
  have hmx := hp.1
  unfold maxLen at hmx
  refine callsIn_of_wp Try.func21 rfl trivial ?_ rfl
  simp only [Try.ntmps21, List.size_toArray, List.length_cons, List.length_nil, Nat.reduceAdd, Nat.reduceSub, Array.replicate_succ, Array.replicate_zero, List.push_toArray, List.append_toArray, List.nil_append, List.cons_append]
  gi_wp2
  gi_loopw [7] (fun vi wr => ∃ k : Nat, k ≤ len ∧ vi = .int .i64 k ∧ J k wr) (fun vi _ => len - (intOf vi).toNat)
  case atStart => exact ⟨0, Nat.zero_le _, rfl, h0⟩
  case round =>
    obtain ⟨k, hk, rfl, hJ⟩ := hrel
    by_cases hlt : k < len
    · have hltI : (k : Int) < (len : Int) := by omega
      obtain ⟨b, off, rfl, hlc, hcells⟩ := hp.2.resolve_left (by omega)
      have hck := hcells k wr hlt hJ
      obtain ⟨fn, tmps, assign, body, hy, hR⟩ := hY k wr hlt hJ
      clear hY hp hcells h0 hbox
      generalize A k = ak at *
      generalize L k = lk at *
      generalize C k = ck at *
      gi_wp2
      refine hR.mono ?_
      rintro e W3 ⟨rfl, hJ3⟩
      clear hR hy hck hJ
      gi_wp2
      go_roundw
      case rel => exact ⟨k + 1, by omega, by go_num, hJ3⟩
      case measure => simp [intOf] <;> omega
    · obtain rfl : k = len := by omega
      clear hY hp hbox
      gi_wp2
      go_end0
      exact ⟨⟨_, rfl⟩, hJ⟩

set_option maxRecDepth 100000 in
set_option maxHeartbeats 2000000 in
/-- The law's own iterator: it counts first. -/
theorem seq_iter (n : Nat) (hn : 1 ≤ n) (l gc g1 : Nat) (c : Nat) (hc : c < 1000) (a : Option Addr) (len cap : Nat) (A : Nat → Option Addr) (L C : Nat → Nat) (J : Nat → World → Prop) (W : World)
    (hcnt : W.cell? ⟨gc, 0, none⟩ = some (.int .i64 c)) (hfz : W.frozen? ⟨gc, 0, none⟩ = false)
    (hbox : (W.setCell ⟨gc, 0, none⟩ (.int .i64 ((c : Int) + 1))).cell? ⟨g1, 0, none⟩ = some (.slice a len cap)) (hp : PieceAt a len cap A L C J)
    (hY : ∀ k W1, k < len → J k W1 → YieldAt Fence.wide (n - 1) Try.prog l #[.slice (A k) (L k) (C k)] W1 fun e W' => e = .returned (.bool true) ∧ J (k + 1) W') (h0 : J 0 (W.setCell ⟨gc, 0, none⟩ (.int .i64 ((c : Int) + 1)))) :
    CallsIn Fence.wide n Try.prog 12 #[.func (.yield l) #[] #[], .pointer (some ⟨gc, 0, none⟩), .pointer (some ⟨g1, 0, none⟩)] W fun e W' => (∃ v, e = .returned v) ∧ J len W' := by
  have hmx := hp.1
  unfold maxLen at hmx
  refine callsIn_of_wp Try.func12 rfl trivial ?_ rfl
  simp only [Try.ntmps12, List.size_toArray, List.length_cons, List.length_nil, Nat.reduceAdd, Nat.reduceSub, Array.replicate_succ, Array.replicate_zero, List.push_toArray, List.append_toArray, List.nil_append, List.cons_append]
  gi_wp2
  gi_loopw [10] (fun vi wr => ∃ k : Nat, k ≤ len ∧ vi = .int .i64 k ∧ J k wr) (fun vi _ => len - (intOf vi).toNat)
  case atStart => exact ⟨0, Nat.zero_le _, rfl, h0⟩
  case round =>
    obtain ⟨k, hk, rfl, hJ⟩ := hrel
    by_cases hlt : k < len
    · have hltI : (k : Int) < (len : Int) := by omega
      obtain ⟨b, off, rfl, hlc, hcells⟩ := hp.2.resolve_left (by omega)
      have hck := hcells k wr hlt hJ
      obtain ⟨fn, tmps, assign, body, hy, hR⟩ := hY k wr hlt hJ
      clear hY hp hcells h0 hbox hcnt hfz
      generalize A k = ak at *
      generalize L k = lk at *
      generalize C k = ck at *
      gi_wp2
      refine hR.mono ?_
      rintro e W3 ⟨rfl, hJ3⟩
      clear hR hy hck hJ
      gi_wp2
      go_roundw
      case rel => exact ⟨k + 1, by omega, by go_num, hJ3⟩
      case measure => simp [intOf] <;> omega
    · obtain rfl : k = len := by omega
      clear hY hp hbox hcnt hfz
      gi_wp2
      go_end0
      exact ⟨⟨_, rfl⟩, hJ⟩
end Go.Proofs.Ytclejcjbnmgaiaa
