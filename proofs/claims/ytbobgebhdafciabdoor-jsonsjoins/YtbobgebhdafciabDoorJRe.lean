/-
  JSON's escapes: the table, and a sign as bytes.
-/
import Derived.Test.YtbobgebhdafciabDoorJS
namespace Go.Proofs.YtbobgebhdafciabDoor
open Go.RowKit
set_option linter.unusedVariables false
set_option linter.unusedSimpArgs false

def fromL : Bs := [34, 92, 47, 98, 102, 110, 114, 116]
def toL : Bs := [34, 92, 47, 8, 12, 10, 13, 9]
/-- What the first k signs of the table give. -/
def escK : Nat → UInt8 → Bs
  | 0, _ => []
  | k + 1, c => escK k c ++ if fromL.getD k 0 = c then [toL.getD k 0] else []
theorem escK_fin : ∀ c : Fin 256, escK 8 (UInt8.ofNat c.val) = (match escC (UInt8.ofNat c.val) with | some r => Lib.encodeRune (r : Int) | none => []) := by decide +kernel
theorem escK_full (c : UInt8) : escK 8 c = match escC c with | some r => Lib.encodeRune (r : Int) | none => [] := by
  have h := escK_fin ⟨c.toNat, c.toNat_lt⟩
  simpa using h
theorem escK_yes {k : Nat} {c : UInt8} (h : fromL.getD k 0 = c) : escK (k + 1) c = escK k c ++ [toL.getD k 0] := by rw [escK, if_pos h]
theorem escK_no {k : Nat} {c : UInt8} (h : ¬ fromL.getD k 0 = c) : escK (k + 1) c = escK k c := by rw [escK, if_neg h, List.append_nil]
theorem escK_len : ∀ (k : Nat) (c : UInt8), (escK k c).length ≤ k
  | 0, c => by simp [escK]
  | k + 1, c => by
    have := escK_len k c
    rw [escK, List.length_append]
    split <;> simp <;> omega
theorem encR_len (r : Int) : 1 ≤ (Lib.encodeRune r).length ∧ (Lib.encodeRune r).length ≤ 4 := by
  unfold Lib.encodeRune
  rw [List.length_map]
  exact Lib.encodeRuneZ_length r
theorem escK_some {c : UInt8} (h : (!(escK 8 c).isEmpty) = true) : ∃ r, escC c = some r ∧ escK 8 c = Lib.encodeRune (r : Int) ∧ c ≠ 117 := by
  have h1 := escK_full c
  cases hc : escC c with
  | none => rw [hc] at h1; rw [h1] at h; cases h
  | some r =>
    rw [hc] at h1
    exact ⟨r, rfl, h1, fun e => by subst e; rw [show escC 117 = none by decide] at hc; cases hc⟩
theorem escK_none {c : UInt8} (h : (!(escK 8 c).isEmpty) = false) : escC c = none := by
  have h1 := escK_full c
  cases hc : escC c with
  | none => rfl
  | some r =>
    rw [hc] at h1
    have := (encR_len (r : Int)).1
    simp at h
    rw [h] at h1
    simp only [] at h1
    rw [← h1] at this
    simp at this
theorem escK_nil {c : UInt8} (h : (!(escK 8 c).isEmpty) = false) : escK 8 c = [] := by simpa using h
theorem u8z (n : Nat) (z : Int) (h : z = n) : z.toNat.toUInt8 = UInt8.ofNat n := by subst h; rfl
theorem enc_utf8 (r : Nat) (h : r < 55296 ∨ (57344 ≤ r ∧ r ≤ 1114111)) : Utf8.encode (r : Int) = ⟨(Lib.encodeRune (r : Int)).toArray⟩ := by
  have v : Utf8.valid (r : Int) = true := by simp [Utf8.valid]; omega
  apply ByteArray.ext
  apply Array.toList_inj.1
  show _ = Lib.encodeRune (r : Int)
  unfold Lib.encodeRune
  by_cases c1 : r < 128
  · have e : (Utf8.encode (r : Int)).data.toList = [UInt8.ofNat r] := by simp [Utf8.encode, v, c1]
    rw [e, Lib.encodeRuneZ_one (r := (r : Int)) (by omega) (by omega)]
    simp only [List.map]
    rw [u8z r _ (by omega)]
  by_cases c2 : r < 2048
  · have e : (Utf8.encode (r : Int)).data.toList = [UInt8.ofNat (192 + r / 64), UInt8.ofNat (128 + r % 64)] := by simp [Utf8.encode, v, c1, c2]
    rw [e, Lib.encodeRuneZ_two (r := (r : Int)) (by omega) (by omega)]
    simp only [List.map]
    rw [u8z (192 + r / 64) _ (by omega), u8z (128 + r % 64) _ (by omega)]
  by_cases c3 : r < 65536
  · have e : (Utf8.encode (r : Int)).data.toList = [UInt8.ofNat (224 + r / 4096), UInt8.ofNat (128 + r / 64 % 64), UInt8.ofNat (128 + r % 64)] := by simp [Utf8.encode, v, c1, c2, c3]
    rw [e, Lib.encodeRuneZ_three (r := (r : Int)) (by omega)]
    simp only [List.map]
    rw [u8z (224 + r / 4096) _ (by omega), u8z (128 + r / 64 % 64) _ (by omega), u8z (128 + r % 64) _ (by omega)]
  · have e : (Utf8.encode (r : Int)).data.toList = [UInt8.ofNat (240 + r / 262144), UInt8.ofNat (128 + r / 4096 % 64), UInt8.ofNat (128 + r / 64 % 64), UInt8.ofNat (128 + r % 64)] := by simp [Utf8.encode, v, c1, c2, c3]
    rw [e, Lib.encodeRuneZ_four (r := (r : Int)) (by omega) (by omega)]
    simp only [List.map]
    rw [u8z (240 + r / 262144) _ (by omega), u8z (128 + r / 4096 % 64) _ (by omega), u8z (128 + r / 64 % 64) _ (by omega), u8z (128 + r % 64) _ (by omega)]
theorem unitS_lt : ∀ (k a : Nat) (xs : Bs) (x : Nat) (ys : Bs), unitS k a xs = some (x, ys) → x < (a + 1) * 16 ^ k ∧ ys.length + k = xs.length
  | 0, a, xs, x, ys, h => by simp only [unitS, Option.some.injEq, Prod.mk.injEq] at h; rw [← h.1, ← h.2]; simp
  | k + 1, a, [], x, ys, h => by simp [unitS] at h
  | k + 1, a, c :: xs, x, ys, h => by
    simp only [unitS] at h
    cases hd : hx c with
    | none => rw [hd] at h; cases h
    | some d =>
      rw [hd] at h
      have h1 := unitS_lt k (16 * a + d) xs x ys h
      have hd16 : d < 16 := by
        unfold hx at hd
        split at hd
        · cases hd; omega
        · split at hd
          · cases hd; omega
          · split at hd
            · cases hd; omega
            · cases hd
      refine ⟨Nat.lt_of_lt_of_le h1.1 ?_, by simp; omega⟩
      rw [Nat.pow_succ, Nat.mul_comm (16 ^ k) 16, ← Nat.mul_assoc]
      exact Nat.mul_le_mul_right _ (by omega)
theorem unit4_lt {xs ys : Bs} {x : Nat} (h : unitS 4 0 xs = some (x, ys)) : x < 65536 ∧ ys.length + 4 = xs.length := by
  have := unitS_lt 4 0 xs x ys h
  exact ⟨by simpa using this.1, this.2⟩
/-- A sign that may be. -/
def okR (x : Nat) : Prop := x < 55296 ∨ (57344 ≤ x ∧ x ≤ 1114111)
theorem okR.int {x : Nat} (h : okR x) : (x : Int) ≤ 1114111 := by unfold okR at h; omega
theorem okR.enc {x : Nat} (h : okR x) : Utf8.encode (x : Int) = ⟨(Lib.encodeRune (x : Int)).toArray⟩ := enc_utf8 x h
theorem units_none {ys : Bs} (u : unitS 4 0 ys = none) : unitsS ys = none := by unfold unitsS; rw [u]
theorem units_mid {ys us : Bs} {x : Nat} (u : unitS 4 0 ys = some (x, us)) (h : decide ((56320 : Int) ≤ (x : Int) ∧ (x : Int) ≤ 57343) = true) : unitsS ys = none := by
  have hz := of_decide_eq_true h
  unfold unitsS
  rw [u]
  simp only []
  rw [if_neg (by omega), if_pos (by omega)]
theorem units_self {ys us : Bs} {x : Nat} (u : unitS 4 0 ys = some (x, us)) (h1 : decide ((56320 : Int) ≤ (x : Int) ∧ (x : Int) ≤ 57343) = false) (h2 : decide ((55296 : Int) ≤ (x : Int) ∧ (x : Int) ≤ 56319) = false) : unitsS ys = some (x, us) ∧ okR x := by
  have h1 := of_decide_eq_false h1
  have h2 := of_decide_eq_false h2
  have h3 := (unit4_lt u).1
  refine ⟨?_, by unfold okR; omega⟩
  unfold unitsS
  rw [u]
  simp only []
  rw [if_pos (by omega)]
theorem units_low {ys us : Bs} {x : Nat} (u : unitS 4 0 ys = some (x, us)) (h2 : decide ((55296 : Int) ≤ (x : Int) ∧ (x : Int) ≤ 56319) = true) : unitsS ys = lowS x us := by
  have h2 := of_decide_eq_true h2
  unfold unitsS
  rw [u]
  simp only []
  rw [if_neg (by omega), if_neg (by omega)]
theorem low_no {ys : Bs} {x : Nat} (h : tk [92, 117] ys = none) : lowS x ys = none := by unfold lowS; rw [h]
theorem low_unit {ys zs : Bs} {x : Nat} (h : tk [92, 117] ys = some zs) (u : unitS 4 0 zs = none) : lowS x ys = none := by unfold lowS; rw [h]; simp only []; rw [u]
theorem low_bad {ys zs us : Bs} {x y : Nat} (h : tk [92, 117] ys = some zs) (u : unitS 4 0 zs = some (y, us)) (hy : decide ((y : Int) < 56320 ∨ 57343 < (y : Int)) = true) : lowS x ys = none := by
  have hy := of_decide_eq_true hy
  unfold lowS
  rw [h]
  simp only []
  rw [u]
  simp only []
  rw [if_pos (by omega)]
theorem low_good {ys zs us : Bs} {x y : Nat} (h : tk [92, 117] ys = some zs) (u : unitS 4 0 zs = some (y, us)) (hx : decide ((55296 : Int) ≤ (x : Int) ∧ (x : Int) ≤ 56319) = true) (hy : decide ((y : Int) < 56320 ∨ 57343 < (y : Int)) = false) :
    ∃ X : Nat, lowS x ys = some (X, us) ∧ okR X ∧ (65536 : Int) + ((x : Int) - 55296) * 1024 + (y : Int) - 56320 = (X : Int) := by
  have hy := of_decide_eq_false hy
  have hx := of_decide_eq_true hx
  refine ⟨65536 + (x - 55296) * 1024 + (y - 56320), ?_, by unfold okR; omega, by omega⟩
  unfold lowS
  rw [h]
  simp only []
  rw [u]
  simp only []
  rw [if_neg (by omega)]
end Go.Proofs.YtbobgebhdafciabDoor
