/-
  CBOR as the document says it, by plain functions on bytes. No program in sight.
-/
import Derived.WalkKit
import Derived.Lib.MapLaws
import Derived.Lib.ValidU
namespace Go.Proofs.YtfmldcibhllpcabDoor
open Go.RowKit
set_option linter.unusedVariables false

/-- Bytes. -/
abbrev Bs := List UInt8
/-- An item. -/
structure It where
  kind : Nat
  n : Nat
  b : Bs
  kids : List It
def It.no : It := ⟨0, 0, [], []⟩
/-- So many bytes as a number, the greatest first. -/
def beC : Nat → Nat → Bs → Option (Nat × Bs)
  | 0, a, xs => some (a, xs)
  | _ + 1, _, [] => none
  | k + 1, a, c :: xs => beC k (a * 256 + c.toNat) xs
/-- The least number of each size. -/
def leastC (k : Nat) : Nat := if k = 0 then 24 else if k = 1 then 256 else if k = 2 then 65536 else 4294967296
/-- The number that a head says: low, and what stands behind it; or the fault. -/
def numC (low : Nat) (xs : Bs) : Except Nat (Nat × Bs) :=
  if low < 24 then .ok (low, xs) else if 27 < low then .error 20 else match beC (2 ^ (low - 24)) 0 xs with
    | none => .error 20
    | some (n, ys) => if n < leastC (low - 24) then .error 22 else .ok (n, ys)
/-- May an item be a key? -/
def keyC (i : It) : Bool := decide (1 ≤ i.kind) && decide (i.kind ≤ 4)
/-- One list of bytes ahead of another of the same length. -/
def ltB : Bs → Bs → Bool
  | [], [] => false
  | [], _ :: _ => true
  | _ :: _, [] => false
  | a :: xs, c :: ys => if a = c then ltB xs ys else decide (a.toNat < c.toNat)
/-- Is a key ahead of another one? -/
def aheadC (a c : It) : Bool :=
  if a.kind ≠ c.kind then decide (a.kind < c.kind)
  else if a.kind = 1 ∨ a.kind = 2 then decide (a.n < c.n)
  else if a.b.length ≠ c.b.length then decide (a.b.length < c.b.length) else ltB a.b c.b
/-- Is a key not behind the one ahead of it? -/
def badOrd : Option It → It → Bool
  | some l, k => !aheadC l k
  | none, _ => false
/-- A group's items, one by one: m: so many are left, first: none has been read; t: items so far. -/
def pcsC (item : Nat → Nat → Bs → Except Nat (It × Nat × Bs)) (pairs : Bool) (within : Nat) : Nat → Option It → List It → Nat → Bs → Except Nat (List It × Nat × Bs)
  | 0, _, kids, t, xs => .ok (kids, t, xs)
  | m + 1, last, kids, t, xs => match item within t xs with
    | .error e => .error e
    | .ok (k, t1, ys) => if pairs then
        (if keyC k = false then .error 20 else if badOrd last k then .error 21 else match item within t1 ys with
          | .error e => .error e
          | .ok (v, t2, zs) => pcsC item pairs within m (some k) (kids ++ [k, v]) t2 zs)
      else pcsC item pairs within m none (kids ++ [k]) t1 ys
/-- An item within so many others; t: so many items there were ahead; d: so many more may be within one another. -/
def itemC : Nat → Nat → Nat → Bs → Except Nat (It × Nat × Bs)
  | d, within, t, xs => if 512 ≤ t then .error 14 else match xs with
    | [] => .error 20
    | c :: ys =>
      if c.toNat / 32 = 7 then (if c.toNat % 32 < 20 ∨ 22 < c.toNat % 32 then .error 20 else .ok (⟨c.toNat % 32 - 13, 0, [], []⟩, t + 1, ys))
      else match numC (c.toNat % 32) ys with
        | .error e => .error e
        | .ok (n, zs) =>
          if c.toNat / 32 = 0 then .ok (⟨1, n, [], []⟩, t + 1, zs)
          else if c.toNat / 32 = 1 then .ok (⟨2, n, [], []⟩, t + 1, zs)
          else if c.toNat / 32 = 2 then (if zs.length < n then .error 20 else .ok (⟨3, 0, zs.take n, []⟩, t + 1, zs.drop n))
          else if c.toNat / 32 = 3 then (if zs.length < n then .error 20 else if Lib.validD (zs.take n) then .ok (⟨4, 0, zs.take n, []⟩, t + 1, zs.drop n) else .error 23)
          else if c.toNat / 32 = 6 then .error 20
          else match d with
            | 0 => .error 13
            | d + 1 => match pcsC (itemC d) (decide (c.toNat / 32 = 5)) (within + 1) n none [] (t + 1) zs with
              | .error e => .error e
              | .ok (kids, t2, us) => .ok (⟨c.toNat / 32 + 1, 0, [], kids⟩, t2, us)
/-- Decode: an item, and what is left; or the fault's number. -/
def decC (xs : Bs) : Except Nat (It × Bs) := if 8192 < xs.length then .error 3 else match itemC 8 0 0 xs with
  | .error e => .error e
  | .ok (i, _, ys) => .ok (i, ys)
def wholeC (xs : Bs) : Except Nat It := match decC xs with
  | .error e => .error e
  | .ok (i, ys) => if ys = [] then .ok i else .error 20
theorem awake_c1 : (match wholeC [161, 1, 2] with | .ok i => decide (i.kind = 6) && decide (i.kids.length = 2) | .error _ => false) = true := by decide +kernel
theorem awake_c2 : (match wholeC [24, 23] with | .ok _ => 0 | .error e => e) = 22 := by decide +kernel
theorem awake_c3 : (match wholeC [162, 2, 0, 1, 0] with | .ok _ => 0 | .error e => e) = 21 := by decide +kernel
theorem awake_c4 : (match wholeC [247] with | .ok _ => 0 | .error e => e) = 20 := by decide +kernel
end Go.Proofs.YtfmldcibhllpcabDoor
