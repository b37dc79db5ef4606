import Derived.Test.YtnacgkkklmlhaaaK07
import Derived.Test.YtnacgkkklmlhaaaK05
import Derived.Deep.LoopGhost
import Derived.WideShapes
import Derived.OpenShut
import Derived.ChangeSame
/-
  Contracts of sha's tables: squareBelow, cubeBelow, fraction, primes, constants, beginning.
-/
namespace Go.Proofs.Ytnacgkkklmlhaaa
open Go.RowKit
set_option linter.unusedVariables false
set_option linter.unusedSimpArgs false

theorem bits_u64_range (op : BinOp) (x y : Int) : 0 ≤ bits op .u64 x y ∧ bits op .u64 x y < 18446744073709551616 := by
  unfold bits
  simp only [IntKind.wrap_u64]
  omega

def sqB (r p : Int) : Bool := decide (r * r / 18446744073709551616 < p)
def cuB (r p : Int) : Bool := decide (IntKind.u64.wrap (IntKind.u64.wrap (r * r / 18446744073709551616 * r) + (r * r % 18446744073709551616) * r / 18446744073709551616) < IntKind.u64.wrap (p * 4294967296))

/-- The root, bit by bit. -/
def rootAt (f : Int → Int → Bool) (p : Int) : Nat → Int
  | 0 => 0
  | i + 1 => if f (bits .or .u64 (rootAt f p i) (2 ^ (34 - i))) p then bits .or .u64 (rootAt f p i) (2 ^ (34 - i)) else rootAt f p i

theorem int_eq' {k : IntKind} {x y : Int} (h : x = y) : Value.int k x = Value.int k y := by rw [h]
end Go.Proofs.Ytnacgkkklmlhaaa
/-
  Contracts of sha's tables: primes, constants, beginning.
-/
namespace Go.Proofs.Ytnacgkkklmlhaaa
open Go.RowKit
set_option linter.unusedVariables false
set_option linter.unusedSimpArgs false

/-- The primes below a number. -/
def pl : Nat → List Nat
  | 0 => []
  | n + 1 => if 2 ≤ n ∧ (pl n).all (fun p => n % p != 0) then pl n ++ [n] else pl n
def plI (n : Nat) : List Int := (pl n).map (fun x : Nat => (x : Int))
theorem plI_length (n : Nat) : (plI n).length = (pl n).length := by simp [plI]
theorem pl_small : ∀ (n : Nat), ∀ x ∈ pl n, 2 ≤ x ∧ x < n
  | 0, x, h => by simp [pl] at h
  | n + 1, x, h => by
    rw [pl] at h
    split at h
    · rename_i hc
      rcases List.mem_append.1 h with h | h
      · have := pl_small n x h; omega
      · simp at h; omega
    · have := pl_small n x h; omega
theorem plI_get (n j : Nat) (h : j < (pl n).length) : (plI n).getD j 0 = (((pl n).getD j 0 : Nat) : Int) := by simp [plI, List.getD, h]
theorem pl_get (n j : Nat) (h : j < (pl n).length) : 2 ≤ (pl n).getD j 0 ∧ (pl n).getD j 0 < n := by
  have : (pl n).getD j 0 = (pl n)[j] := by simp [List.getD, h]
  rw [this]
  exact pl_small n _ (List.getElem_mem h)
/-- The next one is a prime: none ahead is in it. -/
theorem pl_yes (n : Nat) (h2 : 2 ≤ n) (h : ∀ j, j < (pl n).length → n % (pl n).getD j 0 ≠ 0) : pl (n + 1) = pl n ++ [n] := by
  rw [pl, if_pos]
  refine ⟨h2, ?_⟩
  rw [List.all_eq_true]
  intro x hx
  obtain ⟨j, hj, rfl⟩ := List.getElem_of_mem hx
  have := h j hj
  simpa [List.getD, hj] using this
theorem pl_no (n j : Nat) (hj : j < (pl n).length) (h : n % (pl n).getD j 0 = 0) : pl (n + 1) = pl n := by
  rw [pl, if_neg]
  rintro ⟨_, ha⟩
  rw [List.all_eq_true] at ha
  have := ha _ (List.getElem_mem hj)
  have e : (pl n).getD j 0 = (pl n)[j] := by simp [List.getD, hj]
  rw [e] at h
  simp [h] at this

theorem Try.infoU' : (Try.prog.info? 36).map (fun i => (i.zero, i.size, i.bytes)) = some (some (.int .u64 0), 1, 8) := by kernel_rfl
/-- make(.., 0, n). -/
theorem wpList_make_none {P : Program} (w : World) {ops : Array Oper} {rest : List Oper} {o : Oper} {a : Act} {Q : Exit → Act → World → Prop}
    (hg : o.guard = none) (l c : Operand) (t : TypeId) (hop : o.op = Op.makeSlice t l c) (e : TypeId) (k : IntKind) (bytes : Nat)
    (h1 : P.underlying t = some (.slice e)) (h2 : (P.info? e).map (fun i => (i.zero, i.size, i.bytes)) = some (some (.int k 0), 1, bytes))
    (kl kc : IntKind) (C : Int) (n : Nat) (hl : a.eval l = .int kl 0) (hc : a.eval c = .int kc C) (hC : C = (n : Int)) (b2 : bytes * n ≤ 281474976710656) (b3 : n ≤ maxLen)
    (hK : ∀ w', Own e k w' w.heap.size (.slice (some ⟨w.heap.size, 0, none⟩) 0 n) [] → Below w.heap.size w w' → w.heap.size ≤ w'.heap.size → wpList P ops Q rest (a.put o.dst (.slice (some ⟨w.heap.size, 0, none⟩) 0 n)) w') :
    wpList P ops Q (o :: rest) a w := by
  obtain ⟨i, hi, hz0, hz1, hz2⟩ := info_parts h2
  refine wpList_make_own w hg l c t hop w.heap.size e i (.int k 0) 1 h1 hi hz0 hz1 kl kc C n hl hc hC (by rw [hz2]; exact b2) b3 (Nat.le_refl _) ?_
  intro w' hown hgr
  exact hK w' hown ((Below.refl _ _).grown hgr (Nat.le_refl _) (fun k h => by cases h)) hgr.size

end Go.Proofs.Ytnacgkkklmlhaaa
/-
  Contracts of sha.constants and sha.beginning.
-/
namespace Go.Proofs.Ytnacgkkklmlhaaa
open Go.RowKit
set_option linter.unusedVariables false
set_option linter.unusedSimpArgs false

theorem pl_mono1 (n : Nat) : (pl n).length ≤ (pl (n + 1)).length := by
  rw [pl]
  split
  · simp
  · exact Nat.le_refl _
theorem pl_mono {n m : Nat} (h : n ≤ m) : (pl n).length ≤ (pl m).length := by
  induction h with
  | refl => exact Nat.le_refl _
  | step _ ih => exact Nat.le_trans ih (pl_mono1 _)
def frac (f : Int → Int → Bool) (p : Int) : Int := rootAt f p 35 % 4294967296
theorem pl312 : (pl 312).length = 64 := by decide +kernel
theorem pl311 : (pl 311).length = 63 := by decide +kernel
theorem pl20 : (pl 20).length = 8 := by decide +kernel
theorem pl19 : (pl 19).length = 7 := by decide +kernel
theorem K_table : (plI 312).map (frac cuB) = KS := by decide +kernel
theorem H_table : (plI 20).map (frac sqB) = HS := by decide +kernel

/-- A table, i of its words found. -/
def Tab (g : Int → Int) (l : List Int) (n i : Nat) (cur : List Int) : Prop := cur.length = n ∧ ∀ j, j < i → cur.getD j 0 = g (l.getD j 0)
theorem Tab.zero (g : Int → Int) (l : List Int) (n : Nat) : Tab g l n 0 (List.replicate n 0) := ⟨by simp, fun j h => by omega⟩
theorem Tab.step {g : Int → Int} {l cur : List Int} {n i : Nat} (h : Tab g l n i cur) (hi : i < n) : Tab g l n (i + 1) (cur.set i (g (l.getD i 0))) := by
  refine ⟨by simpa using h.1, fun j hj => ?_⟩
  by_cases e : j = i
  · subst e; simp [List.getD, h.1, hi]
  · have : (cur.set i (g (l.getD i 0))).getD j 0 = cur.getD j 0 := by simp [List.getD, List.getElem?_set_ne (show i ≠ j by omega)]
    rw [this]; exact h.2 j (by omega)
theorem Tab.done {g : Int → Int} {l cur : List Int} {n : Nat} (h : Tab g l n n cur) (hl : l.length = n) : cur = l.map g := by
  apply List.ext_getElem
  · rw [h.1, List.length_map, hl]
  · intro j h1 h2
    have := h.2 j (by rw [h.1] at h1; exact h1)
    have e1 : cur.getD j 0 = cur[j] := by simp [List.getD, h1]
    have h3 : j < l.length := by simpa using h2
    have e2 : l.getD j 0 = l[j] := by simp [List.getD, h3]
    rw [e1, e2] at this
    rw [this]; simp
theorem Row.setOther' {e : TypeId} {k : IntKind} {w : World} {g : Nat} {xs : List Int} (h : Row e k w g xs) {p : Addr} (hp : g ≠ p.block) (v : Value) : Row e k (w.setCell p v) g xs := by
  unfold Row
  rw [heap_setCell_other w p g v hp]
  exact h

end Go.Proofs.Ytnacgkkklmlhaaa
/-
  Blocks of bytes put in: plain mathematics.
-/
namespace Go.Proofs.Ytnacgkkklmlhaaa
open Go.RowKit
set_option linter.unusedVariables false
set_option linter.unusedSimpArgs false

theorem hb_append (xs ys : List Int) : ∀ n, 64 * n ≤ xs.length → hb (xs ++ ys) n = hb xs n
  | 0, _ => rfl
  | n + 1, h => by
    rw [hb, hb, hb_append xs ys n (by omega)]
    congr 1
    rw [List.drop_append_of_le_length (by omega), List.take_append_of_le_length (by simp; omega)]
theorem hb_length (xs : List Int) : ∀ n, (hb xs n).length = 8
  | 0 => rfl
  | n + 1 => rfl
theorem hb_succ (xs : List Int) (n : Nat) : hb xs (n + 1) = mixS KS (hb xs n) ((xs.drop (64 * n)).take 64) := rfl

/-- What a hash holds of all the bytes. -/
structure Holds (all ws rs : List Int) : Prop where
  words : 64 ≤ all.length → ws = hb all (all.length / 64)
  rest : rs.take (all.length % 64) = all.drop (64 * (all.length / 64))
  bytes : Dg 256 rs
  good : Dg 256 all
  len : all.length ≤ 1000000000000000

/-- The bytes held, with those that fill the block. -/
theorem full_block {all ws rs bs : List Int} (h : Holds all ws rs) (hr : rs.length = 64) (r : Nat) (hrr : all.length % 64 = r) (m : Nat) (hm : r + m = 64) (hb : m ≤ bs.length) (h0 : 0 < r) :
    rs.take r ++ bs.take m ++ rs.drop (r + m) = ((all ++ bs).drop (64 * (all.length / 64))).take 64 := by
  have h1 := h.rest
  rw [hrr] at h1
  rw [h1, hm, List.drop_eq_nil_of_le (show rs.length ≤ 64 by omega), List.append_nil, List.drop_append_of_le_length (by omega)]
  have hl : (all.drop (64 * (all.length / 64))).length = r := by simp; omega
  rw [List.take_append, List.take_of_length_le (show (all.drop (64 * (all.length / 64))).length ≤ 64 by omega), hl, show 64 - r = m by omega]

theorem drop_after {all bs : List Int} (r : Nat) (hrr : all.length % 64 = r) (m : Nat) (hm : r + m = 64) : (all ++ bs).drop (64 * (all.length / 64 + 1)) = bs.drop m := by
  have e : 64 * (all.length / 64 + 1) = all.length + m := by omega
  rw [e, List.drop_length_add_append]
theorem drop_none {all bs : List Int} (hrr : all.length % 64 = 0) : (all ++ bs).drop (64 * (all.length / 64)) = bs := by
  have e : 64 * (all.length / 64) = all.length + 0 := by omega
  rw [e, List.drop_length_add_append, List.drop_zero]
/-- All blocks are through. -/
theorem holds_done {T ws rs1 : List Int} (D ln : Nat) (hw : ws = hb T D) (hl : (T.drop (64 * D)).length = ln) (hln : ln < 64) (hD : 64 * D ≤ T.length) (hd : Dg 256 T) (hr : Dg 256 rs1) (hT : T.length ≤ 1000000000000000) :
    Holds T ws (rs1.take 0 ++ (T.drop (64 * D)).take ln ++ rs1.drop (0 + ln)) := by
  have e1 : T.length / 64 = D := by simp at hl; omega
  have e2 : T.length % 64 = ln := by simp at hl; omega
  refine ⟨fun _ => by rw [e1]; exact hw, ?_, ?_, hd, hT⟩
  · rw [e1, e2, List.take_zero, List.nil_append, List.take_append_of_le_length (by simp at hl ⊢; omega), List.take_take, Nat.min_self, List.take_of_length_le (by omega)]
  · exact (((hr.take 0).append ((hd.drop _).take _)).append (hr.drop _))
/-- Few bytes more. -/
theorem holds_few {all ws rs bs : List Int} (h : Holds all ws rs) (hr : rs.length = 64) (r : Nat) (hrr : all.length % 64 = r) (hb : r + bs.length < 64) (hd : Dg 256 bs) (hT : all.length + bs.length ≤ 1000000000000000) :
    Holds (all ++ bs) ws (rs.take r ++ bs.take bs.length ++ rs.drop (r + bs.length)) := by
  have e1 : (all ++ bs).length / 64 = all.length / 64 := by simp; omega
  have e2 : (all ++ bs).length % 64 = r + bs.length := by simp; omega
  refine ⟨fun hh => ?_, ?_, ?_, h.good.append hd, by simpa using hT⟩
  · rw [e1, hb_append _ _ _ (by omega)]; exact h.words (by simp at hh; omega)
  · have h1 := h.rest
    rw [hrr] at h1
    rw [e1, e2, List.take_append_of_le_length (by simp; omega), List.take_of_length_le (by simp; omega), h1, List.drop_append_of_le_length (by omega), List.take_of_length_le (Nat.le_refl _)]
  · exact (((h.bytes.take _).append (hd.take _)).append (h.bytes.drop _))
end Go.Proofs.Ytnacgkkklmlhaaa
/-
  Slices of a hash's bytes.
-/
namespace Go.Proofs.Ytnacgkkklmlhaaa
open Go.RowKit
/-- A function without results. -/
theorem results_none {P : Program} {fn : Func} (h : fn.results = #[]) (tmps : Array Value) (w : World) : (results fn tmps).run P w = .ok (.tuple #[]) w := by
  simp [results, h]
/-- An array's load and store, kept whole from the walk. -/
def HLD (t : TypeId) (p : Value) : Sem Value := Instr.loadAt t p
def HST (t : TypeId) (p v : Value) : Sem Unit := Instr.storeAt t p v
theorem keep_l32 (p : Value) : Instr.loadAt 47 p = HLD 47 p := rfl
theorem keep_s32 (p v : Value) : Instr.storeAt 47 p v = HST 47 p v := rfl
end Go.Proofs.Ytnacgkkklmlhaaa
/-
  Layer 9's Awake; bytes that a region makes.
-/
namespace Go.Proofs.Ytnacgkkklmlhaaa
open Go.Shelf Go.RowKit
set_option linter.unusedVariables false
set_option linter.unusedSimpArgs false

/-- What a power must give, of any size. -/
def padA (n : Int) (hs : List Int) : List Int := if n < 62 ∨ 512 < n then [] else padL n.toNat hs
/-- A value that is bytes. -/
def By8 (W : World) (v : Value) (xs : List Int) : Prop := ∃ ao l c, v = .slice ao l c ∧ NumIn .u8 256 W ao l c xs
theorem By8.old {w w' : World} {v : Value} {xs : List Int} (h : By8 w v xs) (hb : Below w.heap.size w w') : By8 w' v xs := by
  obtain ⟨ao, l, c, e, h⟩ := h
  exact ⟨ao, l, c, e, h.old hb⟩
theorem Pad_any (n : Int) (hs : List Int) (w : World) (hl : hs.length = 32) (hd : Dg 256 hs) :
    Calls Try.prog 16 #[.int .i64 n, ag .u8 hs] w fun e w' => ∃ v, e = .returned v ∧ By8 w' v (padA n hs) ∧ Below w.heap.size w w' := by
  unfold padA
  by_cases h : n < 62 ∨ 512 < n
  · rw [if_pos h]
    refine (Pad_no n hs w h).mono ?_
    rintro e w' ⟨rfl, hb⟩
    exact ⟨_, rfl, ⟨none, 0, 0, rfl, NumIn.nil⟩, hb⟩
  · rw [if_neg h]
    obtain ⟨m, rfl⟩ : ∃ m : Nat, n = m := ⟨n.toNat, by omega⟩
    refine (Pad_yes m hs w (by omega) (by omega) hl).mono ?_
    rintro e w' ⟨g, rfl, hr, hg, hb⟩
    have hp := padL_len m hs hl (by omega)
    have h5 := hr.num (padL_dg m hs hd) (by omega)
    rw [hp] at h5
    exact ⟨_, rfl, ⟨_, m, m, rfl, h5⟩, hb⟩
theorem rPad_any (n : Int) (hs : List Int) (w : World) (hl : hs.length = 32) (hd : Dg 256 hs) :
    Calls Try.prog 17 #[.int .i64 n, ag .u8 hs] w fun e w' => ∃ v, e = .returned v ∧ By8 w' v (padA n hs) ∧ Below w.heap.size w w' := by
  unfold padA
  by_cases h : n < 62 ∨ 512 < n
  · rw [if_pos h]
    refine (rPad_no n hs w h).mono ?_
    rintro e w' ⟨rfl, hb⟩
    exact ⟨_, rfl, ⟨none, 0, 0, rfl, NumIn.nil⟩, hb⟩
  · rw [if_neg h]
    obtain ⟨m, rfl⟩ : ∃ m : Nat, n = m := ⟨n.toNat, by omega⟩
    refine (rPad_yes m hs w (by omega) (by omega) hl).mono ?_
    rintro e w' ⟨v, rfl, ho, hb⟩
    have hp := padL_len m hs hl (by omega)
    obtain ⟨ao, cap, hv, h5⟩ := ho.num (padL_dg m hs hd) (by omega)
    exact ⟨_, rfl, ⟨ao, _, cap, hv, h5⟩, hb⟩

/-- A fact that stands while memory is made. -/
def Fk.gen (S : List Value → World → Prop) (hk : ∀ vs w w', Below w.heap.size w w' → S vs w → S vs w') : Fk := ⟨S, hk, false, fun h => by cases h⟩
def Fk.by (xs : List Int) : Fk := Fk.gen (fun vs W => By8 W (vs.getD 0 undef) xs) fun vs w w' hb h => h.old hb
theorem row_ld32 {w : World} {g : Nat} {e : TypeId} {xs : List Int} (h : Row e .u8 w g xs) (hl : xs.length = 32) : (HLD 47 (.pointer (some ⟨g, 0, none⟩))).run Try.prog w = .ok (ag .u8 xs) w := by
  refine run_loadAt_mid w g 0 47 (xs.map (Value.int .u8)) (.array 32 5) (fun j v hv => ?_) Try.underlying47 rfl (by rw [Try.sizeB32, List.length_map, hl])
  have hj : j < xs.length := by have := (List.getElem?_eq_some_iff.1 hv).1; rw [List.length_map] at this; exact this
  rw [Nat.zero_add, h.cell j hj, ← hv]
  simp [List.getD, hj]

set_option maxRecDepth 100000 in
set_option maxHeartbeats 1000000 in
theorem RAwake_any (w : World) : Calls Try.prog 8 #[] w fun e w' => e = .returned (.bool true) ∧ Below w.heap.size w w' := by
  have HP := Pad_yes 62 (1 :: List.replicate 31 0) w (by decide) (by decide) rfl
  have HN := fun W => Pad_no 61 (List.replicate 32 0) W (by decide)
  go_enter Try.func8, Try.ntmps8
  go_wp2_with fail
  refine HP.mono ?_
  rintro e w1 ⟨g, rfl, hr, hg, hb⟩
  have c1 : w1.cell? ⟨g, 1, none⟩ = some (.int .u8 1) := hr.cell 1 (by decide)
  have c9 : w1.cell? ⟨g, 9, none⟩ = some (.int .u8 255) := hr.cell 9 (by decide)
  have c10 : w1.cell? ⟨g, 10, none⟩ = some (.int .u8 0) := hr.cell 10 (by decide)
  have c30 : w1.cell? ⟨g, 30, none⟩ = some (.int .u8 1) := hr.cell 30 (by decide)
  have HB : Hid (Below w.heap.size w w1) := hb
  clear HP hr hb
  go_wp2_with fail
  refine (HN _).mono ?_
  rintro e w2 ⟨rfl, hb2⟩
  go_wp2
  go_ret
  exact ⟨rfl, HB.out.trans (hb2.mono HB.out.size)⟩
end Go.Proofs.Ytnacgkkklmlhaaa
/-
  Arguments that came in, opened: an array of 32 bytes, a key of two numbers.
-/
namespace Go.Proofs.Ytnacgkkklmlhaaa
open Go.RowKit Go.ChangeShapes Go.WideShapes Go.ChangeShapes
set_option linter.unusedVariables false

theorem okWide_arr {P : Program} {w : World} {r : Reach} {base : Nat} {t : TypeId} {v : Value} {n : Nat} {e : TypeId} (ht : P.underlying t = some (.array n e)) (h : Value.okWide P w r base t v) : ∃ cs, v = .agg cs := by
  simp only [Value.okWide, ht] at h
  obtain ⟨cs, h1, _⟩ := h
  exact ⟨cs, h1⟩
theorem open_arr32 {H : Type} {enc : TypeId × Value → H} {w : World} {spare : Nat → Bool} {held : Bool} {fuel : Nat} {cs : Array Value} {x : DataW H × List MemPlace} (h : DataW.trod enc Try.prog w 0 spare held fuel 47 cs.toList = some x) :
    ∃ zs : List Int, cs = (zs.map (Value.int .u8)).toArray ∧ zs.length = 32 ∧ Dg 256 zs := by
  obtain ⟨xs, m, rfl, _, hl, hx, hf⟩ := DataW.trod_array Try.underlying47 h
  have hc : Try.prog.cellsOf 5 = 1 := by kernel_rfl
  have hc32 : Try.prog.cellsOf 47 = 32 := by kernel_rfl
  rw [hc32] at hl
  rw [hc] at hf
  have each : ∀ i, i < 32 → ∃ z : Int, cs.toList[i]? = some (.int .u8 z) ∧ 0 ≤ z ∧ z < 256 := fun i hi => by
    have h1 := hf i hi
    rw [List.getElem?_eq_getElem (by omega)] at h1
    obtain ⟨z, e0, _, hz⟩ := DataW.trod_int (k := .u8) Try.underlying5 h1
    rw [Nat.mul_one] at e0
    refine ⟨z, ?_, word_u8 hz⟩
    have h2 := congrArg (fun l => l[0]?) e0
    simpa [List.getElem?_take, List.getElem?_drop] using h2
  obtain ⟨G, hG⟩ : ∃ G : Nat → Int, ∀ i, i < 32 → cs.toList[i]? = some (.int .u8 (G i)) ∧ 0 ≤ G i ∧ G i < 256 :=
    ⟨fun i => if hi : i < 32 then (each i hi).choose else 0, fun i hi => by simp only [dif_pos hi]; exact (each i hi).choose_spec⟩
  refine ⟨(List.range 32).map G, ?_, by simp, fun y hy => ?_⟩
  · apply Array.ext'
    apply List.ext_getElem?
    intro i
    by_cases hi : i < 32
    · rw [(hG i hi).1]
      simp [List.getElem?_range hi]
    · rw [List.getElem?_eq_none (by omega), List.getElem?_eq_none (by simp; omega)]
  · obtain ⟨i, hi, rfl⟩ := List.mem_map.1 hy
    exact (hG i (List.mem_range.1 hi)).2
theorem keyFields : ∃ f0 f1 : Field, Try.prog.underlying 25 = some (.struct #[f0, f1]) ∧ f0.offset = 0 ∧ f1.offset = 1 ∧ f0.type = 23 ∧ f1.type = 23 := ⟨_, _, Try.underlying25, rfl, rfl, rfl, rfl⟩
theorem open_key {H : Type} {enc : TypeId × Value → H} {w : World} {held : Bool} {fuel : Nat} {cs : Array Value} {x : DataW H × List MemPlace} (h : DataW.trod enc Try.prog w 0 (fun _ => true) held fuel 25 cs.toList = some x) :
    ∃ (a1 : Option Addr) (l1 c1 : Nat) (z1 : List Int) (a2 : Option Addr) (l2 c2 : Nat) (z2 : List Int), cs = #[.slice a1 l1 c1, .slice a2 l2 c2] ∧ Came .u64 w a1 l1 c1 z1 ∧ Came .u64 w a2 l2 c2 z2 := by
  obtain ⟨f0, f1, hu, o0, o1, t0, t1⟩ := keyFields
  have hc : Try.prog.cellsOf 23 = 1 := by kernel_rfl
  have hc2 : Try.prog.cellsOf 25 = 2 := by kernel_rfl
  obtain ⟨y0, y1, n, _, hl, g0, g1⟩ := trod_struct2 hu h
  rw [hc2] at hl
  rw [o0, t0, hc] at g0
  rw [o1, t1, hc] at g1
  obtain ⟨v0, v1, hcs⟩ : ∃ v0 v1, cs.toList = [v0, v1] := by
    match hh : cs.toList, hl with
    | [v0, v1], _ => exact ⟨v0, v1, rfl⟩
  rw [hcs] at g0 g1
  simp only [List.drop_zero, List.drop_succ_cons, List.take_succ_cons, List.take_zero] at g0 g1
  have one : ∀ v (y : DataW H × List MemPlace), DataW.trod enc Try.prog w 0 (fun _ => true) held n 23 [v] = some y → ∃ a l c z, v = .slice a l c ∧ Came .u64 w a l c z := fun v y g => by
    rcases open_ints Try.underlying23 Try.underlying36 (by kernel_rfl) g with ⟨hcs, _⟩ | ⟨x, l, c, zs, hcs, _, hl, hm, hz, _, hcell, hwz⟩
    · cases hcs
      exact ⟨none, 0, 0, [], rfl, .inl ⟨rfl, rfl, rfl, rfl⟩⟩
    · cases hcs
      exact ⟨_, _, _, zs, rfl, .inr ⟨_, rfl, hl, hm, by simpa using hz, hcell, hwz⟩⟩
  obtain ⟨a1, l1, c1, z1, rfl, w1⟩ := one _ _ g0
  obtain ⟨a2, l2, c2, z2, rfl, w2⟩ := one _ _ g1
  exact ⟨a1, l1, c1, z1, a2, l2, c2, z2, Array.ext' hcs, w1, w2⟩
end Go.Proofs.Ytnacgkkklmlhaaa
/-
  The law RsaPads.
-/
namespace Go.Proofs.Ytnacgkkklmlhaaa
open Go.Shelf Go.RowKit
set_option linter.unusedVariables false
set_option linter.unusedSimpArgs false
attribute [local go_sem ↓] keep_l32

set_option maxRecDepth 100000 in
set_option maxHeartbeats 4000000 in
theorem RsaPads_walk (w : World) (n : Int) (hwf : (Lit.int .i64 n).wf = true) (hs : List Int) (hh : hs.length = 32 ∧ Dg 256 hs) :
    Calls Try.prog 4 #[.int .i64 n, ag .u8 hs] w fun e w' => e = .returned (.bool true) ∧ Below w.heap.size w w' := by
  obtain ⟨hl, hd⟩ := hh
  go_enter Try.func4, Try.ntmps4
  go_wp2_with (first
    | ((with_reducible show wpList _ _ _ (Oper.mk _ (Op.box _ _) _ _ _ _ :: _) _ _); refine wpList_box_row (w := w) (by with_reducible rfl) 47 _ (by with_reducible rfl) .u8 hs rfl ?_; intro w1 hr1 hb1 hs1)
    | (go_at_call 8; refine (RAwake_any w1).mono ?_; rintro e w2 ⟨rfl, hb2⟩))
  have HR : Hid (Row 47 .u8 w2 w.heap.size hs ∧ Below w.heap.size w w2) := ⟨hr1.below hb2 (by omega), hb1.trans (hb2.mono hb1.size)⟩
  clear hr1 hb1 hs1 hb2
--@region 1
  refine wp_region_frames 15 [[7], [8], [9], [10], [11], [12], [13], [14], [15], [4]] (([.eq (Value.int IntKind.i64 n), .eq (ag IntKind.u8 hs), .by (padA n hs), .eq (Value.string (strOfNums (padA n hs))), .eq (Value.int IntKind.i64 n), .eq (ag IntKind.u8 hs), .by (padA n hs), .eq (Value.string (strOfNums (padA n hs))), .eq (Value.bool true), .eq (Value.bool true)] : List Fk).map Fk.sem) [0, 1, 2, 3, 4, 5, 6, 7, 8, 9] (by kernel_rfl) (by kernel_rfl) (by kernel_rfl) ?step ?done
  case step =>
    intro i o ho listed a wx hI hli hne KK hK
    have hlt : i < 10 := (Array.getElem?_eq_some_iff.1 ho).1
    have hsz : Hid (a.tmps.size = 16) := hI.slots
    have hbw : Below w2.heap.size w2 wx := (Below.refl _ _).drew.trans hI.below
    obtain rfl | rfl | rfl | rfl | rfl | rfl | rfl | rfl | rfl | rfl : i = 0 ∨ i = 1 ∨ i = 2 ∨ i = 3 ∨ i = 4 ∨ i = 5 ∨ i = 6 ∨ i = 7 ∨ i = 8 ∨ i = 9 := by omega
    · simp only [List.getElem?_toArray, List.getElem?_cons_succ, List.getElem?_cons_zero, Option.some.injEq] at ho
      subst ho
      rw [if_pos (by rfl)]
      have eH0 : a.tmps.getD 0 undef = Value.int IntKind.i64 n := hI.stays hli 15 0 (by decide +kernel)
      go_simp
      exact hI.grow hK _ _ (Below.refl _ _) (put_self _ _ _ (by rw [hsz.out]; decide))
    · simp only [List.getElem?_toArray, List.getElem?_cons_succ, List.getElem?_cons_zero, Option.some.injEq] at ho
      subst ho
      rw [if_pos (by rfl)]
      have eH3 : a.tmps.getD 3 undef = Value.pointer (some { block := w.heap.size, off := 0 }) := hI.stays hli 15 3 (by decide +kernel)
      have hld := row_ld32 (HR.out.1.below hbw (World.block_lt_of_cell? _ ⟨_, 0, none⟩ (HR.out.1.cell 0 (by omega)))) hl
      go_simp
      exact hI.grow hK _ _ (Below.refl _ _) (put_self _ _ _ (by rw [hsz.out]; decide))
    · simp only [List.getElem?_toArray, List.getElem?_cons_succ, List.getElem?_cons_zero, Option.some.injEq] at ho
      subst ho
      rw [if_pos (by rfl)]
      have eH7 : a.tmps.getD 7 undef = (Value.int IntKind.i64 n) := hI.deep hne 0 0 (by decide +kernel)
      have eH8 : a.tmps.getD 8 undef = (ag IntKind.u8 hs) := hI.deep hne 0 1 (by decide +kernel)
      go_simp
      go_at_call 16
      refine (Pad_any n hs wx hl hd).mono ?_
      rintro e w5 ⟨v5, rfl, hv5, hb5⟩
      exact hI.grow hK _ _ hb5 (by have hp := put_self a 9 v5 (by rw [hsz.out]; decide); show By8 w5 ((a.put (some 9) v5).tmps.getD 9 undef) _; rw [hp]; exact hv5)
    · simp only [List.getElem?_toArray, List.getElem?_cons_succ, List.getElem?_cons_zero, Option.some.injEq] at ho
      subst ho
      rw [if_pos (by rfl)]
      have fA2 : Fk.sem (.by (padA n hs)) [a.tmps.getD 9 undef] wx := hI.deep hne 0 2 (by decide +kernel)
      obtain ⟨zX9, eH9⟩ : ∃ x, a.tmps.getD 9 undef = x := ⟨_, rfl⟩
      simp only [eH9] at fA2
      obtain ⟨ao, l, c, hv, hnum⟩ := fA2
      have hv' : zX9 = .slice ao l c := hv
      clear hv
      subst hv'
      have hcv := conv_bytes wx 48 9 5 Try.underlying48 Try.underlying5 Try.underlying9 ao l c _ hnum.lies
      have eK := eH9
      rw [Array.getD_eq_getD_getElem?] at eK
      go_simp
      exact hI.grow hK _ _ (Below.refl _ _) (put_self _ _ _ (by rw [hsz.out]; decide))
    · simp only [List.getElem?_toArray, List.getElem?_cons_succ, List.getElem?_cons_zero, Option.some.injEq] at ho
      subst ho
      rw [if_pos (by rfl)]
      have eH0 : a.tmps.getD 0 undef = Value.int IntKind.i64 n := hI.stays hli 15 0 (by decide +kernel)
      go_simp
      exact hI.grow hK _ _ (Below.refl _ _) (put_self _ _ _ (by rw [hsz.out]; decide))
    · simp only [List.getElem?_toArray, List.getElem?_cons_succ, List.getElem?_cons_zero, Option.some.injEq] at ho
      subst ho
      rw [if_pos (by rfl)]
      have eH3 : a.tmps.getD 3 undef = Value.pointer (some { block := w.heap.size, off := 0 }) := hI.stays hli 15 3 (by decide +kernel)
      have hld := row_ld32 (HR.out.1.below hbw (World.block_lt_of_cell? _ ⟨_, 0, none⟩ (HR.out.1.cell 0 (by omega)))) hl
      go_simp
      exact hI.grow hK _ _ (Below.refl _ _) (put_self _ _ _ (by rw [hsz.out]; decide))
    · simp only [List.getElem?_toArray, List.getElem?_cons_succ, List.getElem?_cons_zero, Option.some.injEq] at ho
      subst ho
      rw [if_pos (by rfl)]
      have eH11 : a.tmps.getD 11 undef = (Value.int IntKind.i64 n) := hI.deep hne 0 4 (by decide +kernel)
      have eH12 : a.tmps.getD 12 undef = (ag IntKind.u8 hs) := hI.deep hne 0 5 (by decide +kernel)
      go_simp
      go_at_call 17
      refine (rPad_any n hs wx hl hd).mono ?_
      rintro e w5 ⟨v5, rfl, hv5, hb5⟩
      exact hI.grow hK _ _ hb5 (by have hp := put_self a 13 v5 (by rw [hsz.out]; decide); show By8 w5 ((a.put (some 13) v5).tmps.getD 13 undef) _; rw [hp]; exact hv5)
    · simp only [List.getElem?_toArray, List.getElem?_cons_succ, List.getElem?_cons_zero, Option.some.injEq] at ho
      subst ho
      rw [if_pos (by rfl)]
      have fA6 : Fk.sem (.by (padA n hs)) [a.tmps.getD 13 undef] wx := hI.deep hne 0 6 (by decide +kernel)
      obtain ⟨zX13, eH13⟩ : ∃ x, a.tmps.getD 13 undef = x := ⟨_, rfl⟩
      simp only [eH13] at fA6
      obtain ⟨ao, l, c, hv, hnum⟩ := fA6
      have hv' : zX13 = .slice ao l c := hv
      clear hv
      subst hv'
      have hcv := conv_bytes wx 48 9 5 Try.underlying48 Try.underlying5 Try.underlying9 ao l c _ hnum.lies
      have eK := eH13
      rw [Array.getD_eq_getD_getElem?] at eK
      go_simp
      exact hI.grow hK _ _ (Below.refl _ _) (put_self _ _ _ (by rw [hsz.out]; decide))
    · simp only [List.getElem?_toArray, List.getElem?_cons_succ, List.getElem?_cons_zero, Option.some.injEq] at ho
      subst ho
      rw [if_pos (by rfl)]
      have eH10 : a.tmps.getD 10 undef = (Value.string (strOfNums (padA n hs))) := hI.deep hne 0 3 (by decide +kernel)
      have eH14 : a.tmps.getD 14 undef = (Value.string (strOfNums (padA n hs))) := hI.deep hne 0 7 (by decide +kernel)
      go_simp
      exact hI.grow hK _ _ (Below.refl _ _) (put_self _ _ _ (by rw [hsz.out]; decide))
    · simp only [List.getElem?_toArray, List.getElem?_cons_succ, List.getElem?_cons_zero, Option.some.injEq] at ho
      subst ho
      rw [if_pos (by rfl)]
      have eH15 : a.tmps.getD 15 undef = (Value.bool true) := hI.deep hne 0 8 (by decide +kernel)
      go_simp
      exact hI.grow hK _ _ (Below.refl _ _) (put_self _ _ _ (by rw [hsz.out]; decide))
  case done =>
    intro listed a W hI hall
    obtain ⟨tm, df⟩ := a
    have hdf : df = [] := hI.defers
    subst hdf
    have hTM : tm = #[tm.getD 0 undef, tm.getD 1 undef, tm.getD 2 undef, tm.getD 3 undef, tm.getD 4 undef, tm.getD 5 undef, tm.getD 6 undef, tm.getD 7 undef, tm.getD 8 undef, tm.getD 9 undef, tm.getD 10 undef, tm.getD 11 undef, tm.getD 12 undef, tm.getD 13 undef, tm.getD 14 undef, tm.getD 15 undef] := arr_of tm 16 hI.slots
    have oS0 : tm.getD 0 undef = Value.int IntKind.i64 n := hI.kept 0 (by decide +kernel)
    have oS1 : tm.getD 1 undef = ag IntKind.u8 hs := hI.kept 1 (by decide +kernel)
    have oS2 : tm.getD 2 undef = undef := hI.kept 2 (by decide +kernel)
    have oS3 : tm.getD 3 undef = Value.pointer (some { block := w.heap.size, off := 0 }) := hI.kept 3 (by decide +kernel)
    have oS5 : tm.getD 5 undef = Value.bool true := hI.kept 5 (by decide +kernel)
    have oS6 : tm.getD 6 undef = Value.bool false := hI.kept 6 (by decide +kernel)
    have fA0 : tm.getD 7 undef = (Value.int IntKind.i64 n) := hI.facts 0 (hall 0 (by decide))
    have fA1 : tm.getD 8 undef = (ag IntKind.u8 hs) := hI.facts 1 (hall 1 (by decide))
    have fA3 : tm.getD 10 undef = (Value.string (strOfNums (padA n hs))) := hI.facts 3 (hall 3 (by decide))
    have fA4 : tm.getD 11 undef = (Value.int IntKind.i64 n) := hI.facts 4 (hall 4 (by decide))
    have fA5 : tm.getD 12 undef = (ag IntKind.u8 hs) := hI.facts 5 (hall 5 (by decide))
    have fA7 : tm.getD 14 undef = (Value.string (strOfNums (padA n hs))) := hI.facts 7 (hall 7 (by decide))
    have fA8 : tm.getD 15 undef = (Value.bool true) := hI.facts 8 (hall 8 (by decide))
    have fA9 : tm.getD 4 undef = (Value.bool true) := hI.facts 9 (hall 9 (by decide))
    have hbw : Below w2.heap.size w2 W := (Below.refl _ _).drew.trans hI.below
    clear hI hall listed
    simp only [oS0, oS1, oS2, oS3, oS5, oS6, fA0, fA1, fA3, fA4, fA5, fA7, fA8, fA9] at hTM
    clear oS0 oS1 oS2 oS3 oS5 oS6 fA0 fA1 fA3 fA4 fA5 fA7 fA8 fA9
    generalize tm.getD 9 undef = zX9 at hTM 
    generalize tm.getD 13 undef = zX13 at hTM 
    subst hTM
    have HB : Hid (Below w.heap.size w W) := HR.out.2.trans (hbw.mono HR.out.2.size)
    clear hbw HR
    go_wp2
    go_ret
    exact ⟨rfl, HB.out⟩
end Go.Proofs.Ytnacgkkklmlhaaa
