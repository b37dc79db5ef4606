/-
  Contracts of sha's tables: primes, constants, beginning.
-/
import Derived.Test.YtclejcjbnmgaiaaShaP
import Derived.Deep.LoopGhost
namespace Go.Proofs.Ytclejcjbnmgaiaa
open Go.RowKit
set_option linter.unusedVariables false
set_option linter.unusedSimpArgs false

/-- The primes below a number. -/
def pl : Nat → List Nat
  | 0 => []
  | n + 1 => if 2 ≤ n ∧ (pl n).all (fun p => n % p != 0) then pl n ++ [n] else pl n
def plI (n : Nat) : List Int := (pl n).map (fun x : Nat => (x : Int))
theorem plI_length (n : Nat) : (plI n).length = (pl n).length := by simp [plI]
theorem pl_small : ∀ (n : Nat), ∀ x ∈ pl n, 2 ≤ x ∧ x < n
  | 0, x, h => by simp [pl] at h
  | n + 1, x, h => by
    rw [pl] at h
    split at h
    · rename_i hc
      rcases List.mem_append.1 h with h | h
      · have := pl_small n x h; omega
      · simp at h; omega
    · have := pl_small n x h; omega
theorem plI_get (n j : Nat) (h : j < (pl n).length) : (plI n).getD j 0 = (((pl n).getD j 0 : Nat) : Int) := by simp [plI, List.getD, h]
theorem pl_get (n j : Nat) (h : j < (pl n).length) : 2 ≤ (pl n).getD j 0 ∧ (pl n).getD j 0 < n := by
  have : (pl n).getD j 0 = (pl n)[j] := by simp [List.getD, h]
  rw [this]
  exact pl_small n _ (List.getElem_mem h)
/-- The next one is a prime: none ahead is in it. -/
theorem pl_yes (n : Nat) (h2 : 2 ≤ n) (h : ∀ j, j < (pl n).length → n % (pl n).getD j 0 ≠ 0) : pl (n + 1) = pl n ++ [n] := by
  rw [pl, if_pos]
  refine ⟨h2, ?_⟩
  rw [List.all_eq_true]
  intro x hx
  obtain ⟨j, hj, rfl⟩ := List.getElem_of_mem hx
  have := h j hj
  simpa [List.getD, hj] using this
theorem pl_no (n j : Nat) (hj : j < (pl n).length) (h : n % (pl n).getD j 0 = 0) : pl (n + 1) = pl n := by
  rw [pl, if_neg]
  rintro ⟨_, ha⟩
  rw [List.all_eq_true] at ha
  have := ha _ (List.getElem_mem hj)
  have e : (pl n).getD j 0 = (pl n)[j] := by simp [List.getD, hj]
  rw [e] at h
  simp [h] at this

theorem Try.infoU' : (Try.prog.info? 40).map (fun i => (i.zero, i.size, i.bytes)) = some (some (.int .u64 0), 1, 8) := by kernel_rfl
/-- make(.., 0, n). -/
theorem wpList_make_none {P : Program} (w : World) {ops : Array Oper} {rest : List Oper} {o : Oper} {a : Act} {Q : Exit → Act → World → Prop}
    (hg : o.guard = none) (l c : Operand) (t : TypeId) (hop : o.op = Op.makeSlice t l c) (e : TypeId) (k : IntKind) (bytes : Nat)
    (h1 : P.underlying t = some (.slice e)) (h2 : (P.info? e).map (fun i => (i.zero, i.size, i.bytes)) = some (some (.int k 0), 1, bytes))
    (kl kc : IntKind) (C : Int) (n : Nat) (hl : a.eval l = .int kl 0) (hc : a.eval c = .int kc C) (hC : C = (n : Int)) (b2 : bytes * n ≤ 281474976710656) (b3 : n ≤ maxLen)
    (hK : ∀ w', Own e k w' w.heap.size (.slice (some ⟨w.heap.size, 0, none⟩) 0 n) [] → Below w.heap.size w w' → w.heap.size ≤ w'.heap.size → wpList P ops Q rest (a.put o.dst (.slice (some ⟨w.heap.size, 0, none⟩) 0 n)) w') :
    wpList P ops Q (o :: rest) a w := by
  obtain ⟨i, hi, hz0, hz1, hz2⟩ := info_parts h2
  refine wpList_make_own w hg l c t hop w.heap.size e i (.int k 0) 1 h1 hi hz0 hz1 kl kc C n hl hc hC (by rw [hz2]; exact b2) b3 (Nat.le_refl _) ?_
  intro w' hown hgr
  exact hK w' hown ((Below.refl _ _).grown hgr (Nat.le_refl _) (fun k h => by cases h)) hgr.size

set_option maxHeartbeats 2000000 in
/-- sha.primes. -/
theorem sprimes_any (c N : Nat) (w : World) (hc : c ≤ 64) (hN1 : (pl N).length = c) (hN2 : ∀ n, 2 ≤ n → n < N → (pl n).length < c) (hN3 : 2 ≤ N) (hN4 : N ≤ 1000) :
    Calls Try.prog 31 #[.int .i64 c] w fun e w' => ∃ ao cap, e = .returned (.slice ao c cap) ∧ Lies .u64 w' ao c (plI N) ∧ Below w.heap.size w w' ∧ c ≤ cap := by
  have HN1 : Hid ((pl N).length = c) := hN1
  have HN2 : Hid (∀ n, 2 ≤ n → n < N → (pl n).length < c) := hN2
  clear hN1 hN2
  go_enter Try.func31, Try.ntmps31
  go_wp2
  go_step3
  go_wp2_with (at_make; refine wpList_make_none _ rfl _ _ 62 rfl 40 .u64 8 Try.underlying62 Try.infoU' _ _ _ c rfl rfl rfl (by omega) (by unfold maxLen; omega) ?_; intro w1 hown1 hb1 hsz1)
  go_step3
  have HO1 : Hid (Own 40 .u64 w1 w.heap.size (.slice (some ⟨w.heap.size, 0, none⟩) 0 c) [] ∧ Below w.heap.size w w1) := ⟨hown1, hb1⟩
  clear hown1 hb1 hsz1
  go_wp2
  go_loopg [3, 4] (N - 2) (fun g vf vn wr => ∃ (n : Nat), 2 ≤ n ∧ n + g = N ∧ vn = .int .u64 n ∧ Own 40 .u64 wr w.heap.size vf (plI n) ∧ Below w.heap.size w wr)
  case atStart => exact ⟨2, by omega, by omega, rfl, HO1.out⟩
  case round =>
    obtain ⟨n, h2n, hnN, rfl, hown, hb⟩ := hrel
    clear HO1
    have hlen : (pl n).length ≤ 64 := by
      by_cases h : n < N
      · have := HN2.out n h2n h; omega
      · have := HN1.out; rw [show n = N by omega]; omega
    obtain ⟨ao, cap, rfl, hnum⟩ := hown.num (B := 18446744073709551616) (fun x hx => by
      obtain ⟨y, hy, rfl⟩ := List.mem_map.1 hx
      have := pl_small n y hy
      omega) (by rw [plI_length]; omega)
    have HL : Hid (Lies .u64 wr ao (plI n).length (plI n)) := hnum.lies
    have hcp := hnum.lc
    obtain ⟨L, hL⟩ : ∃ L, (plI n).length = L := ⟨_, rfl⟩
    rw [hL] at hown HL hcp ⊢
    rw [plI_length] at hL
    have HLL : Hid ((pl n).length = L) := hL
    rw [hL] at hlen
    have HO : Hid (Own 40 .u64 wr w.heap.size (.slice ao L cap) (plI n) ∧ Below w.heap.size w wr) := ⟨hown, hb⟩
    clear hown hb hL hnum
    cases gk with
    | zero =>
      have hLc : L = c := by have := HN1.out; have := HLL.out; rw [show n = N by omega] at this; omega
      have HNN : Hid (n = N) := by unfold Hid; omega
      clear HN1 HN2
      have hlt : ¬ ((L : Int) < (c : Int)) := by omega
      go_wp2
      go_ret
      have e := HNN.out
      subst e
      subst hLc
      exact ⟨ao, cap, rfl, HL.out, HO.out.2, hcp⟩
    | succ g =>
      have hLc : L < c := by have := HN2.out n h2n (by omega); have := HLL.out; omega
      have hlt : ((L : Int) < (c : Int)) := by omega
      go_wp2
      go_loopg [17] L (fun h vk wx => ∃ (j : Nat), j + h = L ∧ vk = .int .i64 j ∧ (∀ i, i < j → n % (pl n).getD i 0 ≠ 0) ∧ wx = wr)
      case atStart => exact ⟨0, by omega, rfl, fun i h => by omega, rfl⟩
      case round =>
        obtain ⟨j, hjL, rfl, hpre, rfl⟩ := hrel
        have HP : Hid (∀ i, i < j → n % (pl n).getD i 0 ≠ 0) := hpre
        clear hpre
        cases gk with
        | zero =>
          have hjl : ¬ ((j : Int) < (L : Int)) := by omega
          have HY : Hid (plI (n + 1) = plI n ++ [(n : Int)] ∧ (plI n).length = L) := by
            refine ⟨?_, by rw [plI_length]; exact HLL.out⟩
            unfold plI
            rw [pl_yes n h2n (fun i hi => HP.out i (by have := HLL.out; omega))]
            simp
          have hL2 : (plI n).length < 1073741824 := by have := HY.out.2; omega
          go_wp2_with (at_builtin; refine wpList_append_one rfl _ _ 62 rfl 40 .u64 8 Try.underlying62 Try.infoU' w.heap.size (.slice ao L cap) (plI n) (n : Int) (by rfl) HO.out.1 (by rfl) hL2 (by decide) w HO.out.2 HO.out.2.size ?_; intro v' w' hown' hb')
          go_roundg g
          case measure => omega
          case rel => exact ⟨n + 1, by omega, by omega, by go_num, by rw [HY.out.1]; exact hown', hb'⟩
        | succ h =>
          have hjl : ((j : Int) < (L : Int)) := by omega
          obtain ⟨b, off, rfl, hblk, hcs⟩ := HL.out.at (by omega)
          have hc := hcs j (by omega)
          rw [plI_get n j (by have := HLL.out; omega)] at hc
          have hpb := pl_get n j (by have := HLL.out; omega)
          obtain ⟨q, hq⟩ : ∃ q, (pl n).getD j 0 = q := ⟨_, rfl⟩
          rw [hq] at hc hpb
          have HQ : Hid ((pl n).getD j 0 = q) := hq
          have hq0 : ¬ ((q : Int) = 0) := by omega
          clear hcs hq
          by_cases hz : n % q = 0
          · have HZ : Hid (n % q = 0) := hz
            have hzI : ((n : Int) % (q : Int)) = 0 := by omega
            clear hz
            have HY : Hid (plI (n + 1) = plI n) := by
              unfold Hid plI
              rw [pl_no n j (by have := HLL.out; omega) (by rw [HQ.out]; exact HZ.out)]
            go_wp2
            go_roundg g
            case measure => omega
            case rel => exact ⟨n + 1, by omega, by omega, by go_num, by rw [HY.out]; exact HO.out.1, HO.out.2⟩
          · have HZ : Hid (n % q ≠ 0) := hz
            have hzI : ¬ ((n : Int) % (q : Int)) = 0 := by omega
            clear hz
            go_wp2
            go_roundg h
            case measure => omega
            case rel =>
              refine ⟨j + 1, by omega, by go_num, fun i hi => ?_, rfl⟩
              by_cases e : i = j
              · rw [e, HQ.out]; exact HZ.out
              · exact HP.out i (by omega)
end Go.Proofs.Ytclejcjbnmgaiaa
