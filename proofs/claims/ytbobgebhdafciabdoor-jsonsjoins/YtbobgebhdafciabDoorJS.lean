/-
  JSON as the document says it, by plain functions on bytes. No program in sight.
-/
import Derived.WalkKit
import Derived.Shelf.Unicode.DecodeSlow
import Derived.Lib.RuneBytes
import Derived.Lib.SlTrimSet
namespace Go.Proofs.YtbobgebhdafciabDoor
open Go.RowKit
set_option linter.unusedVariables false

/-- Bytes. -/
abbrev Bs := List UInt8
/-- A node. -/
structure Nd where
  kind : Nat
  text : Bs
  names : List Bs
  kids : List Nat

/-- Blanks are passed. -/
def bl (xs : Bs) : Bs := Lib.trimLeftS xs [32, 9, 10, 13]
/-- Digits are passed. -/
def dg (xs : Bs) : Bs := Lib.trimLeftS xs [48, 49, 50, 51, 52, 53, 54, 55, 56, 57]
/-- Signs are taken, if they are next. -/
def tk (s xs : Bs) : Option Bs := if s.isPrefixOf xs then some (xs.drop s.length) else none
/-- A digit of base sixteen. -/
def hx (c : UInt8) : Option Nat :=
  if 48 ≤ c.toNat ∧ c.toNat ≤ 57 then some (c.toNat - 48) else if 97 ≤ c.toNat ∧ c.toNat ≤ 102 then some (c.toNat - 87) else if 65 ≤ c.toNat ∧ c.toNat ≤ 70 then some (c.toNat - 55) else none
/-- So many digits. -/
def unitS : Nat → Nat → Bs → Option (Nat × Bs)
  | 0, a, xs => some (a, xs)
  | _ + 1, _, [] => none
  | k + 1, a, c :: xs => match hx c with
    | some d => unitS k (16 * a + d) xs
    | none => none
/-- What stands behind a high half. -/
def lowS (u : Nat) (ys : Bs) : Option (Nat × Bs) := match tk [92, 117] ys with
  | none => none
  | some zs => match unitS 4 0 zs with
    | none => none
    | some (v, us) => if v < 56320 ∨ 57344 ≤ v then none else some (65536 + (u - 55296) * 1024 + (v - 56320), us)
/-- What stands behind \u. -/
def unitsS (xs : Bs) : Option (Nat × Bs) := match unitS 4 0 xs with
  | none => none
  | some (u, ys) => if u < 55296 ∨ 57344 ≤ u then some (u, ys) else if 56320 ≤ u then none else lowS u ys
/-- What a sign behind \ means. -/
def escC (c : UInt8) : Option Nat :=
  if c = 34 then some 34 else if c = 92 then some 92 else if c = 47 then some 47 else if c = 98 then some 8 else if c = 102 then some 12 else if c = 110 then some 10 else if c = 114 then some 13 else if c = 116 then some 9 else none
/-- What stands behind \. -/
def escS : Bs → Option (Nat × Bs)
  | [] => none
  | c :: xs => if c = 117 then unitsS xs else match escC c with
    | some r => some (r, xs)
    | none => none
/-- A sign that stands for itself. -/
def selfS (xs : Bs) : Option (Nat × Bs) :=
  if ((Lib.decodeGo ⟨xs.toArray⟩).1 ≠ 65533 ∨ 1 < (Lib.decodeGo ⟨xs.toArray⟩).2) ∧ 32 ≤ (Lib.decodeGo ⟨xs.toArray⟩).1 then some ((Lib.decodeGo ⟨xs.toArray⟩).1, xs.drop (Lib.decodeGo ⟨xs.toArray⟩).2) else none
/-- A text's next sign. -/
def signS (xs : Bs) : Option (Nat × Bs) := match tk [92] xs with
  | some ys => escS ys
  | none => selfS xs
/-- The rest of a text. -/
def txtS : Nat → Bs → Bs → Option (Bs × Bs)
  | 0, _, _ => none
  | f + 1, a, xs => match tk [34] xs with
    | some ys => some (a, ys)
    | none => match signS xs with
      | none => none
      | some (r, ys) => txtS f (a ++ Lib.encodeRune r) ys
/-- A text. -/
def textS (xs : Bs) : Option (Bs × Bs) := match tk [34] xs with
  | none => none
  | some ys => txtS (ys.length + 1) [] ys
/-- The sign ahead of a number. -/
def minus (xs : Bs) : Bs := (tk [45] xs).getD xs
/-- A part of a number behind its point. -/
def pointS (b : Bs) (r : Bool) : Bs × Bool := match tk [46] b with
  | some d => (dg d, decide (0 < d.length - (dg d).length) && r)
  | none => (b, r)
def plus (d : Bs) : Bs := match tk [43] d with
  | some e => e
  | none => minus d
/-- A part of a number behind its e. -/
def powS (b : Bs) (r : Bool) : Bs × Bool := match (tk [101] b).or (tk [69] b) with
  | some d => (dg (plus d), decide (0 < (plus d).length - (dg (plus d)).length) && r)
  | none => (b, r)
/-- Whether a number's digits ahead of the point are right. -/
def wholeS (a : Bs) : Bool := decide (a.length - (dg a).length = 1) || (decide (1 < a.length - (dg a).length) && !([48].isPrefixOf a))
def numR (xs : Bs) : Bs × Bool := let a := minus xs; let p := pointS (dg a) (wholeS a); powS p.1 p.2
/-- A number. -/
def numS (xs : Bs) : Option (Bs × Bs) := if (numR xs).2 then some (xs.take (xs.length - (numR xs).1.length), (numR xs).1) else none
/-- A value without others within. -/
def plainS (xs : Bs) : Option (Nd × Bs) := match tk [116, 114, 117, 101] xs with
  | some ys => some (⟨5, [], [], []⟩, ys)
  | none => match tk [102, 97, 108, 115, 101] xs with
    | some ys => some (⟨6, [], [], []⟩, ys)
    | none => match tk [110, 117, 108, 108] xs with
      | some ys => some (⟨7, [], [], []⟩, ys)
      | none => if [34].isPrefixOf xs then (textS xs).map fun p => (⟨3, p.1, [], []⟩, p.2) else (numS xs).map fun p => (⟨4, p.1, [], []⟩, p.2)

/-- A member's name and the sign behind it: the names then, and what is left; or the fault. -/
def nameS (names : List Bs) (xs : Bs) : Except Nat (List Bs × Bs) := match textS (bl xs) with
  | none => .error 11
  | some (s, ys) => if s ∈ names then .error 12 else match tk [58] (bl ys) with
    | none => .error 11
    | some zs => .ok (names ++ [s], zs)
/-- What stands ahead of a value. -/
def aheadS (kind : Nat) (names : List Bs) (xs : Bs) : Except Nat (List Bs × Bs) := if kind = 1 then nameS names xs else .ok (names, xs)

/-- A group's pieces, one by one; v: a value, p: the pieces behind. -/
def pcsW (v : Nat → Nat → Bs → Except Nat (List Nd × Bs)) (p : Nat → Nat → Nat → UInt8 → List Bs → List Nat → List Nd → Bs → Except Nat (List Nd × Bs)) (o c kind : Nat) (close : UInt8) (names : List Bs) (kids : List Nat) (news : List Nd) (xs : Bs) : Except Nat (List Nd × Bs) :=
  match aheadS kind names xs with
  | .error e => .error e
  | .ok (names', us) => match v o (c + 1 + news.length) us with
    | .error e => .error e
    | .ok (ns, zs) => match tk [44] (bl zs) with
      | some vs => p o c kind close names' (kids ++ [c + 1 + news.length]) (news ++ ns) vs
      | none => match tk [close] (bl zs) with
        | some vs => .ok (⟨kind, [], names', kids ++ [c + 1 + news.length]⟩ :: (news ++ ns), vs)
        | none => .error 11
/-- An object or an array behind its bracket; p: its pieces. -/
def grpW (p : Nat → Nat → Nat → UInt8 → List Bs → List Nat → List Nd → Bs → Except Nat (List Nd × Bs)) (o c kind : Nat) (close : UInt8) (xs : Bs) : Except Nat (List Nd × Bs) :=
  if o = 8 then .error 13 else match tk [close] (bl xs) with
    | some ys => .ok ([⟨kind, [], [], []⟩], ys)
    | none => p (o + 1) c kind close [] [] [] (bl xs)
/-- A value; p: a group's pieces. -/
def valW (p : Nat → Nat → Nat → UInt8 → List Bs → List Nat → List Nd → Bs → Except Nat (List Nd × Bs)) (o c : Nat) (xs : Bs) : Except Nat (List Nd × Bs) :=
  if c = 256 then .error 14 else match tk [123] (bl xs) with
    | some zs => grpW p o c 1 125 zs
    | none => match tk [91] (bl xs) with
      | some zs => grpW p o c 2 93 zs
      | none => match plainS (bl xs) with
        | none => .error 11
        | some (n, zs) => .ok ([n], zs)
/-- Both, by the number of steps that there may be. -/
def both : Nat → (Nat → Nat → Bs → Except Nat (List Nd × Bs)) × (Nat → Nat → Nat → UInt8 → List Bs → List Nat → List Nd → Bs → Except Nat (List Nd × Bs))
  | 0 => (fun _ _ _ => .error 11, fun _ _ _ _ _ _ _ _ => .error 11)
  | f + 1 => (valW (both f).2, pcsW (both f).1 (both f).2)
/-- A value: its nodes, and what is left; or the fault's number. f: so many steps at most; o: so many brackets are open; c: so many nodes there are. -/
def valS (f : Nat) := (both f).1
/-- A group's pieces: c: the group's own place; what there is already: names, kids, nodes within. -/
def pcsS (f : Nat) := (both f).2
/-- An object or an array behind its bracket. -/
def grpS (f : Nat) := grpW (pcsS f)
theorem valS_succ (f o c : Nat) (xs : Bs) : valS (f + 1) o c xs = if c = 256 then .error 14 else match tk [123] (bl xs) with
    | some zs => grpS f o c 1 125 zs
    | none => match tk [91] (bl xs) with
      | some zs => grpS f o c 2 93 zs
      | none => match plainS (bl xs) with
        | none => .error 11
        | some (n, zs) => .ok ([n], zs) := rfl
theorem pcsS_succ (f o c kind : Nat) (close : UInt8) (names : List Bs) (kids : List Nat) (news : List Nd) (xs : Bs) : pcsS (f + 1) o c kind close names kids news xs = match aheadS kind names xs with
  | .error e => .error e
  | .ok (names', us) => match valS f o (c + 1 + news.length) us with
    | .error e => .error e
    | .ok (ns, zs) => match tk [44] (bl zs) with
      | some vs => pcsS f o c kind close names' (kids ++ [c + 1 + news.length]) (news ++ ns) vs
      | none => match tk [close] (bl zs) with
        | some vs => .ok (⟨kind, [], names', kids ++ [c + 1 + news.length]⟩ :: (news ++ ns), vs)
        | none => .error 11 := rfl
theorem grpS_eq (f o c kind : Nat) (close : UInt8) (xs : Bs) : grpS f o c kind close xs = if o = 8 then .error 13 else match tk [close] (bl xs) with
    | some ys => .ok ([⟨kind, [], [], []⟩], ys)
    | none => pcsS f (o + 1) c kind close [] [] [] (bl xs) := rfl
/-- A text as nodes; or the fault's number. -/
def parseS (xs : Bs) : Except Nat (List Nd) := if 4096 < xs.length then .error 3 else match valS (2 * xs.length + 1) 0 0 xs with
  | .error e => .error e
  | .ok (ns, ys) => if (bl ys) = [] then .ok ns else .error 11

theorem tk_some {s xs ys : Bs} (h : tk s xs = some ys) : xs = s ++ ys := by
  unfold tk at h
  split at h
  · rename_i hp
    obtain ⟨t, rfl⟩ := List.isPrefixOf_iff_prefix.1 hp
    simp at h
    rw [h]
  · cases h
theorem tk_len {s xs ys : Bs} (h : tk s xs = some ys) : xs.length = s.length + ys.length := by rw [tk_some h]; simp
theorem bl_len (xs : Bs) : (bl xs).length ≤ xs.length := by
  unfold bl Lib.trimLeftS
  exact (List.dropWhile_suffix _).length_le
theorem dg_len (xs : Bs) : (dg xs).length ≤ xs.length := by
  unfold dg Lib.trimLeftS
  exact (List.dropWhile_suffix _).length_le
end Go.Proofs.YtbobgebhdafciabDoor
