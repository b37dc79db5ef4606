/-
  Proved: for any slices of bytes, ShaAll answers true and never panics. No condition.
  The frame is the kit's skeleton, opened at a slice of slices; the walk lies in YtclejcjbnmgaiaaSAll.
-/
import Derived.Test.YtclejcjbnmgaiaaRows
import Derived.Test.YtclejcjbnmgaiaaSAll
import Derived.WalkKit
import Derived.ProofKit
import Derived.OpenShut
import Derived.ShutString
import Derived.ChangeOld
import Derived.Below
import Derived.SizedLaws
import Derived.Deep.Matrix
namespace Go.Proofs.Ytclejcjbnmgaiaa.shaAll
open Go.ChangeShapes Go.WideShapes Go.ChangeAt Go.RowKit
set_option linter.unusedVariables false

theorem own : ownKnob Try.prog.godebug = none := by kernel_rfl
theorem laidOut : laidOutB Try.prog = true := by kernel_rfl
theorem bytesQ : Try.prog.bytesOf 5 = 1 := by kernel_rfl
theorem weights_all {H : Type} {P : Program} {e : TypeId} {x : Nat} : ∀ {ds : List (DataW H)} {d : DataW H}, d ∈ ds → x ∈ d.weights P e → x ∈ DataW.weightsAll P e ds
  | d0 :: ds, d, hd, hx => by
    simp only [DataW.weightsAll, List.mem_append]
    rcases List.mem_cons.1 hd with rfl | h
    · exact Or.inl hx
    · exact Or.inr (weights_all h hx)
/-- A row of a slice of slices that came in is no longer than any slice may be. -/
theorem sized_row {H : Type} {P : Program} {ts : List TypeId} {ds : List (DataW H)} (h : (DataW.weightsEach P ts ds).all (· ≤ reachBytes) = true) {j : Nat} {t e q : TypeId} {elems spare es sp : List (DataW H)} (ht : ts[j]? = some t) (hd : ds[j]? = some (.slice elems spare)) (hu : P.underlying t = some (.slice e)) (he : P.underlying e = some (.slice q)) (hm : DataW.slice es sp ∈ elems) :
    (es.length + sp.length) * P.bytesOf q ≤ reachBytes := by
  have hin : (es.length + sp.length) * P.bytesOf q ∈ (DataW.slice es sp).weights P e := by simp [DataW.weights, he]
  have := List.all_eq_true.1 h _ (DataW.weights_mem_each ht hd ((es.length + sp.length) * P.bytesOf q) (by
    simp only [DataW.weights, hu, List.mem_cons, List.mem_append]
    exact Or.inr (Or.inl (weights_all hm hin))))
  simpa using this

theorem walk (a0 : Option Addr) (len0 cap0 : Nat) (A : Nat → Option Addr) (L C : Nat → Nat) (Z : Nat → List Int) (w : World) (w0 : CameRows w a0 len0 cap0 A L C Z) :
    Calls Try.prog 5 #[.slice a0 len0 cap0] w fun e w' => e = .returned (.bool true) ∧ Below w.heap.size w w' := by
  exact ShaAll_walk a0 len0 cap0 A L C Z w w0

set_option maxRecDepth 100000 in
theorem lifted (os : Os) (started : os.Started) (H : Type) (enc : TypeId × Value → H) :
    ReturnsInHanded {} Try.checked os 5 .any (Rows.shaAllSpec.pre6 enc Try.prog Try.f5 Rows.shaAllRow.domain false) (Rows.shaAllSpec.post enc Try.prog Try.f5 false true false false) := by
  refine returnsInHanded_of_change_sized (C := Try.checked) own started (by kernel_rfl) Try.func5
    (ChangeSpec.witness6 (enc := enc) (C := Try.checked) false ⟨#[], #[.slice none 0 0], []⟩ 8 (by kernel_rfl) (by kernel_rfl) (by kernel_rfl) (by kernel_rfl)) ?_
  intro W base args ds gs before hval0 hW hcnd hsz0 _
  have hval : ∀ (j : Nat) t v, Try.f5.params[j]? = some t → args[j]? = some v → Value.okWide Try.prog W .any base t v := hval0
  have hsz : (DataW.weightsEach Try.prog (Try.f5.params.toList ++ Rows.shaAllSpec.plain.varTypes Try.prog) (ds ++ gs)).all (· ≤ reachBytes) = true := hsz0
  have hW' := hW
  obtain ⟨p, q, hA0, hV, rfl, hfz, hnd⟩ := hW
  have hA : DataW.TrodAll enc Try.prog W 0 (fun _ => true) true Try.f5.params.toList args.toList ds p := hA0
  rw [Try.params5] at hA hval hsz
  obtain ⟨v0, vs0, d0, ds0, p0, q0, hargs, rfl, rfl, h0, r0⟩ := trodAll_cons hA
  obtain ⟨rfl, rfl, rfl⟩ := trodAll_nil r0
  obtain rfl : args = #[v0] := by cases args; simp_all
  obtain ⟨rfl, rfl⟩ := trodVars_none hV
  obtain ⟨a0, len0, cap0, rfl⟩ := okWide_slice Try.underlying27 (hval 0 27 v0 rfl rfl)
  have k0 := h0
  have lt0 : ∀ x ∈ p0, x.block < W.heap.size := by obtain ⟨m, hm⟩ := k0; exact DataW.trod_lt m _ _ _ hm
  obtain ⟨A, L, C, Z, w0⟩ : ∃ A L C Z, CameRows W a0 len0 cap0 A L C Z := by
    obtain ⟨fuel, hf⟩ := h0
    rcases Go.Deep.open_int_rows Try.underlying27 Try.underlying22 Try.underlying5 (by kernel_rfl) (by kernel_rfl) hf with ⟨hcs, _⟩ | ⟨x, l, c, A, L, C, Z, hcs, _, hl, hm, hdat, hrow⟩
    · simp [Value.cells] at hcs
      obtain ⟨rfl, rfl, rfl⟩ := hcs
      exact ⟨fun _ => none, fun _ => 0, fun _ => 0, fun _ => [], Nat.zero_le _, .inl rfl⟩
    · simp [Value.cells] at hcs
      obtain ⟨rfl, rfl, rfl⟩ := hcs
      simp only [Prod.mk.injEq] at hdat
      refine ⟨A, L, C, Z, by omega, ?_⟩
      by_cases hz0 : len0 = 0
      · exact .inl hz0
      right
      obtain ⟨bk, off, spot⟩ := x
      have hspot : spot = none := by simpa [Addr.add] using World.cell?_spot (hrow 0 (by omega)).1
      subst hspot
      refine ⟨bk, off, rfl, hl, hm, fun r hr => ?_⟩
      obtain ⟨c1, c2, c3, c4, c5, c6, c7⟩ := hrow r (by omega)
      have c1' : W.cell? ⟨bk, off + r, none⟩ = some (.slice (A r) (L r) (C r)) := by rw [← c1, add_none]
      refine ⟨World.block_lt_of_cell? W ⟨bk, off + r, none⟩ c1', c1', ?_, ?_⟩
      · cases hA' : A r with
        | none =>
          have hC := c6 hA'
          have hZ : Z r = [] := List.eq_nil_of_length_eq_zero (by omega)
          exact .inl ⟨rfl, by omega, hC, hZ⟩
        | some x' => exact .inr ⟨x', rfl, c2, c3, c4, fun i hi => (c7 x' hA').2 i (by omega), c5⟩
      · cases hA' : A r with
        | none => have hC := c6 hA'; omega
        | some x' =>
          have hs := sized_row hsz (j := 0) (t := 27) (e := 22) (q := 5) (elems := (List.range len0).map fun r => Go.Deep.intRow .u8 (A r) (L r) (Z r)) (spare := (List.range (cap0 - len0)).map fun j => Go.Deep.intRow .u8 (A (len0 + j)) (L (len0 + j)) (Z (len0 + j))) (es := lits .u8 ((Z r).take (L r))) (sp := lits .u8 ((Z r).drop (L r))) rfl (by simp only [List.cons_append, List.getElem?_cons_zero, hdat.1]) Try.underlying27 Try.underlying22 (by
            refine List.mem_map.2 ⟨r, List.mem_range.2 hr, ?_⟩
            simp only [Go.Deep.intRow, hA'])
          rw [bytesQ] at hs
          simp only [lits, List.length_map, List.length_take, List.length_drop, reachBytes] at hs
          omega
  clear hA0 hval0
  refine (walk a0 len0 cap0 A L C Z W w0).mono fun e W' ⟨he, bel⟩ => ?_
  subst he
  exact ⟨_, rfl, _, _, _, [], _, [], hW', trodAll_mk1 (shut_bool Try.underlying4 _), (trodAll_cons_mk (Below.trod laidOut (by kernel_rfl) (of_decide_eq_true (by kernel_rfl)) k0 bel lt0) trodAll_mk0), rfl, bel.frame _, fun h => by cases h⟩

theorem over : Rows.shaAllRow.holds Try.pinned (OpenSpec.ofChange Rows.shaAllSpec) :=
  OpenClaim.holds_of_wide 5 Try.f5 rfl rfl rfl rfl rfl rfl rfl ⟨rfl, rfl, rfl, rfl, rfl⟩ rfl rfl rfl rfl rfl (by kernel_rfl) Try.func5 (by kernel_rfl)
    (of_decide_eq_true (by kernel_rfl)) (by unfold Func.isWrapper; first | (rw [if_pos (by decide +kernel)]; kernel_rfl) | (rw [if_neg (by decide +kernel)]; exact ⟨rfl, rfl⟩))
    (fun os started H enc _ => lifted os started H enc)

theorem proved : Rows.ShaAllSaid := over
#print axioms proved
end Go.Proofs.Ytclejcjbnmgaiaa.shaAll
