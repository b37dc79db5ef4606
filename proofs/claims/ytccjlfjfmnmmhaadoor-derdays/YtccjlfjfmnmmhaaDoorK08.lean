import Derived.Test.YtccjlfjfmnmmhaaDoorK07
import Derived.Test.YtccjlfjfmnmmhaaDoorK02
import Derived.Test.YtccjlfjfmnmmhaaDoorK06
/-
  Regions that draw their order and only make memory: facts that growth keeps. No program in sight.
-/
namespace Go.Proofs.YtccjlfjfmnmmhaaDoor
open Go.Shelf Go.RowKit
set_option linter.unusedVariables false
set_option linter.unusedSimpArgs false

/-- A fact that stands while memory is made. -/
structure Fq where
  sem : List Value → World → Prop
  keep : ∀ vs w w', Below w.heap.size w w' → sem vs w → sem vs w'
def Fq.eq (e : Value) : Fq := ⟨fun vs _ => vs.getD 0 undef = e, fun _ _ _ _ h => h⟩
theorem fq_keep (fs : List Fq) (j : Nat) (vs : List Value) {w w' : World} (hb : Below w.heap.size w w') (h : (fs.map Fq.sem).getD j (fun _ _ => True) vs w) : (fs.map Fq.sem).getD j (fun _ _ => True) vs w' := by
  rw [List.getD_eq_getElem?_getD, List.getElem?_map] at h ⊢
  cases hf : fs[j]? with
  | none => trivial
  | some f => rw [hf] at h; exact f.keep vs w w' hb h
section
variable {P : Program} {ops : Array Oper} {Q : Exit → Act → World → Prop}
/-- An operation that only makes memory: what is asked of it. -/
theorem GInv.growQ {rd : List (List Nat)} {fs : List Fq} {a0 : Act} {w0 : World} {listed : Array Bool} {a : Act} {w : World} (h : GInv .any ops rd (fs.map Fq.sem) a0 w0 listed a w) {i : Nat} {dst : Option Tmp} {KK : Act → World → Prop}
    (hK : ∀ v w', Below w0.heap.size w0 w' → (∀ j vs, listed.getD j false = true → (fs.map Fq.sem).getD j (fun _ _ => True) vs w → (fs.map Fq.sem).getD j (fun _ _ => True) vs w') → (fs.map Fq.sem).getD i (fun _ _ => True) ((rd.getD i []).map fun s => (a.put dst v).tmps.getD s undef) w' → KK (a.put dst v) w') (v : Value) (w' : World) (hb : Below w.heap.size w w') (hf : (fs.map Fq.sem).getD i (fun _ _ => True) ((rd.getD i []).map fun s => (a.put dst v).tmps.getD s undef) w') : KK (a.put dst v) w' :=
  hK v w' (h.below.trans (hb.mono h.below.size)) (fun j vs _ hj => fq_keep fs j vs hb hj) hf
theorem GInv.keptQ {md : Region.Mode} {rd : List (List Nat)} {Fs : List (List Value → World → Prop)} {a0 : Act} {w0 : World} {listed : Array Bool} {a : Act} {w : World} (h : GInv md ops rd Fs a0 w0 listed a w) (s : Nat) (hs : (List.range ops.size).all (fun j => !dstIs ops j s) = true) : a.tmps.getD s undef = a0.tmps.getD s undef := by
  refine h.old s fun j _ => ?_
  rw [List.all_eq_true] at hs
  by_cases hjs : j < ops.size
  · simpa using hs j (List.mem_range.2 hjs)
  · unfold dstIs
    rw [Array.getElem?_eq_none (by omega)]
theorem wanted_q {ops : Array Oper} {a : Act} {j d : Nat} {b : Bool} {oj : Oper} (h1 : ops[j]? = some oj) (h2 : oj.dst = some d) (h : a.tmps.getD d undef = .bool b) : (yielded ops a.tmps j == some b) = true := by
  unfold yielded
  rw [h1]
  simp only [Option.bind_some, h2]
  rw [Array.getD_eq_getD_getElem?] at h
  cases he : a.tmps[d]? with
  | none => rw [he] at h; cases h
  | some v => rw [he] at h; simp only [Option.getD_some] at h; rw [h]; simp
end
end Go.Proofs.YtccjlfjfmnmmhaaDoor
/-
  The closures of the law DerDays: two.
-/
namespace Go.Proofs.YtccjlfjfmnmmhaaDoor
open Go.Shelf Go.RowKit
set_option linter.unusedVariables false
set_option linter.unusedSimpArgs false

/-- Bytes as a text's. -/
def tS (l : Bs) : ByteArray := ⟨l.toArray⟩
theorem tS_app (a b : Bs) : tS a ++ tS b = tS (a ++ b) := by
  apply ByteArray.ext
  simp [tS, ByteArray.data_append]
theorem tS_two (n : Nat) : strOfNums [48 + (n : Int) / 10 % 10, 48 + (n : Int) % 10] = tS (twoB n) := by
  have e1 : (48 + (n : Int) / 10 % 10).toNat = 48 + n / 10 % 10 := by omega
  have e2 : (48 + (n : Int) % 10).toNat = 48 + n % 10 := by omega
  simp only [strOfNums, tS, twoB, List.map_cons, List.map_nil, e1, e2]
set_option maxRecDepth 100000 in
set_option maxHeartbeats 1000000 in
/-- two: a number's two digits. -/
theorem two_any (n : Nat) (hn : n ≤ 99999) (w : World) : Calls Tryd.prog 14 #[.int .i64 (n : Int)] w fun e w' => e = .returned (.string (tS (twoB n))) ∧ Below w.heap.size w w' := by
  have hcv := run_convert_bytes_arg (P := Tryd.prog) (w.alloc (.cells #[.int .u8 (48 + (n : Int) / 10 % 10), .int .u8 (48 + (n : Int) % 10)] 5)) 22 5 Tryd.underlying22 Tryd.underlying5 w.heap.size 0 2 2 [48 + (n : Int) / 10 % 10, 48 + (n : Int) % 10] rfl (fun i hi => by
      rw [Nat.zero_add, cell_of_row _ _ _ _ _ _ (heap_alloc_new w _)]
      match i, hi with
      | 0, _ => rfl
      | 1, _ => rfl) 9 Tryd.underlying9
  rw [tS_two] at hcv
  go_enter Tryd.func14, Tryd.ntmps14
  go_wp2_with fail
  go_ret
  exact ⟨rfl, (Below.refl _ _).alloc (Nat.le_refl _) _⟩
end Go.Proofs.YtccjlfjfmnmmhaaDoor
