/-
  Proved: SigsRaw holds: signatures of any bytes by any key, as it comes, with fewer curves, and a signer's own under any Kind, are judged as the document judges them. No condition.
  The frame is my own, after the kit's skeleton; the walk lies in YtkhnnhbmchnajaaGreatSR.
-/
import Derived.Test.YtkhnnhbmchnajaaGreatRows
import Derived.WalkKit
import Derived.ProofKit
import Derived.OpenShut
import Derived.ShutString
import Derived.ChangeOld
import Derived.Below
import Derived.SizedLaws
import Derived.Lib.SmallJoins
import Derived.Test.YtkhnnhbmchnajaaGreatK42
namespace Go.Proofs.YtkhnnhbmchnajaaGreat.sigsRaw
open Go.ChangeShapes Go.WideShapes Go.ChangeAt Go.RowKit
open Go.ChangeMaps (open_string shut_string)
set_option linter.unusedVariables false

theorem own : ownKnob Tryz.prog.godebug = none := by kernel_rfl
theorem laidOut : laidOutB Tryz.prog = true := by kernel_rfl

theorem walk (w : World) (kd0 cu0 : Int) (x0a : Option Addr) (x0l x0c : Nat) (x0z : List Int) (y0a : Option Addr) (y0l y0c : Nat) (y0z : List Int) (bi0 : Bool) (n0a : Option Addr) (n0l n0c : Nat) (n0z : List Int) (e0a : Option Addr) (e0l e0c : Nat) (e0z : List Int) (ukd0 : 0 ≤ kd0 ∧ kd0 < 256) (ucu0 : -9223372036854775808 ≤ cu0 ∧ cu0 ≤ 9223372036854775807) (wx0 : Came .u64 w x0a x0l x0c x0z) (wy0 : Came .u64 w y0a y0l y0c y0z) (wn0 : Came .u64 w n0a n0l n0c n0z) (we0 : Came .u64 w e0a e0l e0c e0z) (k1s s1s : Int) (uk1 : 0 ≤ k1s ∧ k1s < 256) (us1 : 0 ≤ s1s ∧ s1s < 256) (a2 : Option Addr) (len2 cap2 : Nat) (z2 : List Int) (w2 : Came .u8 w a2 len2 cap2 z2) (a3 : Option Addr) (len3 cap3 : Nat) (z3 : List Int) (w3 : Came .u8 w a3 len3 cap3 z3) (n4 : Int) (w4 : (Lit.int .u8 n4).wf = true) (n5 : Int) (w5 : (Lit.int .u8 n5).wf = true) :
    Calls Tryz.prog 3 #[.agg #[.int .u8 kd0, .int .i64 cu0, .slice x0a x0l x0c, .slice y0a y0l y0c, .bool bi0, .slice n0a n0l n0c, .slice e0a e0l e0c], .agg #[.int .u8 k1s, .int .u8 s1s], .slice a2 len2 cap2, .slice a3 len3 cap3, .int .u8 n4, .int .u8 n5] w fun e w' => e = .returned (.bool true) ∧ Below w.heap.size w w' := by
  exact SigsRaw_walk w kd0 cu0 x0a x0l x0c x0z y0a y0l y0c y0z bi0 n0a n0l n0c n0z e0a e0l e0c e0z ukd0 ucu0 wx0 wy0 wn0 we0 k1s s1s uk1 us1 a2 len2 cap2 z2 w2 a3 len3 cap3 z3 w3 n4 w4 n5 w5

set_option maxRecDepth 100000 in
set_option maxHeartbeats 1000000 in
theorem lifted (os : Os) (started : os.Started) (H : Type) (enc : TypeId × Value → H) :
    ReturnsInHanded {} Tryz.checked os 3 .any (Rows.sigsRawSpec.pre6 enc Tryz.prog Tryz.f3 Rows.sigsRawRow.domain false) (Rows.sigsRawSpec.post enc Tryz.prog Tryz.f3 false true false false) := by
  refine returnsInHanded_of_change_sized (C := Tryz.checked) own started (by kernel_rfl) Tryz.func3
    (ChangeSpec.witness6 (enc := enc) (C := Tryz.checked) false ⟨#[], #[.agg #[.int .u8 0, .int .i64 0, .slice none 0 0, .slice none 0 0, .bool false, .slice none 0 0, .slice none 0 0], .agg #[.int .u8 0, .int .u8 0], .slice none 0 0, .slice none 0 0, .int .u8 0, .int .u8 0], []⟩ 8 (by kernel_rfl) (by kernel_rfl) (by kernel_rfl) (by kernel_rfl)) ?_
  intro W base args ds gs before hval0 hW hcnd hsz0 _
  have hval : ∀ (j : Nat) t v, Tryz.f3.params[j]? = some t → args[j]? = some v → Value.okWide Tryz.prog W .any base t v := hval0
  have hsz : (DataW.weightsEach Tryz.prog (Tryz.f3.params.toList ++ Rows.sigsRawSpec.plain.varTypes Tryz.prog) (ds ++ gs)).all (· ≤ reachBytes) = true := hsz0
  have hW' := hW
  obtain ⟨p, q, hA0, hV, rfl, hfz, hnd⟩ := hW
  have hA : DataW.TrodAll enc Tryz.prog W 0 (fun _ => true) true Tryz.f3.params.toList args.toList ds p := hA0
  rw [Tryz.params3] at hA hval hsz
  obtain ⟨v0, vs0, d0, ds0, p0, q0, hargs0, rfl, rfl, h0, r0⟩ := trodAll_cons hA
  obtain ⟨v1, vs1, d1, ds1, p1, q1, hargs1, rfl, rfl, h1, r1⟩ := trodAll_cons r0
  obtain ⟨v2, vs2, d2, ds2, p2, q2, hargs2, rfl, rfl, h2, r2⟩ := trodAll_cons r1
  obtain ⟨v3, vs3, d3, ds3, p3, q3, hargs3, rfl, rfl, h3, r3⟩ := trodAll_cons r2
  obtain ⟨v4, vs4, d4, ds4, p4, q4, hargs4, rfl, rfl, h4, r4⟩ := trodAll_cons r3
  obtain ⟨v5, vs5, d5, ds5, p5, q5, hargs5, rfl, rfl, h5, r5⟩ := trodAll_cons r4
  obtain ⟨rfl, rfl, rfl⟩ := trodAll_nil r5
  obtain rfl : args = #[v0, v1, v2, v3, v4, v5] := by cases args; simp_all
  obtain ⟨rfl, rfl⟩ := trodVars_none hV
  have k0 := h0
  have lt0 : ∀ x ∈ p0, x.block < W.heap.size := by obtain ⟨m, hm⟩ := k0; exact DataW.trod_lt m _ _ _ hm
  have k1 := h1
  have lt1 : ∀ x ∈ p1, x.block < W.heap.size := by obtain ⟨m, hm⟩ := k1; exact DataW.trod_lt m _ _ _ hm
  have k2 := h2
  have lt2 : ∀ x ∈ p2, x.block < W.heap.size := by obtain ⟨m, hm⟩ := k2; exact DataW.trod_lt m _ _ _ hm
  have k3 := h3
  have lt3 : ∀ x ∈ p3, x.block < W.heap.size := by obtain ⟨m, hm⟩ := k3; exact DataW.trod_lt m _ _ _ hm
  have k4 := h4
  have lt4 : ∀ x ∈ p4, x.block < W.heap.size := by obtain ⟨m, hm⟩ := k4; exact DataW.trod_lt m _ _ _ hm
  have k5 := h5
  have lt5 : ∀ x ∈ p5, x.block < W.heap.size := by obtain ⟨m, hm⟩ := k5; exact DataW.trod_lt m _ _ _ hm
  obtain ⟨cs0, rfl, _⟩ := okWide_struct Tryz.underlying30 (hval 0 30 v0 rfl rfl)
  obtain ⟨kd0, cu0, x0a, x0l, x0c, x0z, y0a, y0l, y0c, y0z, bi0, n0a, n0l, n0c, n0z, e0a, e0l, e0c, e0z, rfl, ukd0, ucu0, wx0, wy0, wn0, we0⟩ : ∃ (kd cu : Int) (a1 : Option Addr) (l1 c1 : Nat) (z1 : List Int) (a2 : Option Addr) (l2 c2 : Nat) (z2 : List Int) (b : Bool) (a3 : Option Addr) (l3 c3 : Nat) (z3 : List Int) (a4 : Option Addr) (l4 c4 : Nat) (z4 : List Int), cs0 = #[.int .u8 kd, .int .i64 cu, .slice a1 l1 c1, .slice a2 l2 c2, .bool b, .slice a3 l3 c3, .slice a4 l4 c4] ∧ (0 ≤ kd ∧ kd < 256) ∧ (-9223372036854775808 ≤ cu ∧ cu ≤ 9223372036854775807) ∧ Came .u64 W a1 l1 c1 z1 ∧ Came .u64 W a2 l2 c2 z2 ∧ Came .u64 W a3 l3 c3 z3 ∧ Came .u64 W a4 l4 c4 z4 := by
    obtain ⟨fuel, hf⟩ := h0
    exact open_ky (by simpa [Value.cells] using hf)
  obtain ⟨cs1, rfl, _⟩ := okWide_struct Tryz.underlying32 (hval 1 32 v1 rfl rfl)
  obtain ⟨k1s, s1s, rfl, uk1, us1⟩ : ∃ (k s : Int), cs1 = #[.int .u8 k, .int .u8 s] ∧ (0 ≤ k ∧ k < 256) ∧ (0 ≤ s ∧ s < 256) := by
    obtain ⟨fuel, hf⟩ := h1
    exact open_sg (by simpa [Value.cells] using hf)
  obtain ⟨a2, len2, cap2, rfl⟩ := okWide_slice Tryz.underlying33 (hval 2 33 v2 rfl rfl)
  obtain ⟨z2, w2⟩ : ∃ zs, Came .u8 W a2 len2 cap2 zs := by
    obtain ⟨fuel, hf⟩ := h2
    rcases open_ints Tryz.underlying33 Tryz.underlying5 (by kernel_rfl) hf with ⟨hcs, _⟩ | ⟨x, l, c, zs, hcs, _, hl, hm, hz, _, hcell, hwz⟩
    · simp [Value.cells] at hcs
      obtain ⟨rfl, rfl, rfl⟩ := hcs
      exact ⟨[], .inl ⟨rfl, rfl, rfl, rfl⟩⟩
    · simp [Value.cells] at hcs
      obtain ⟨rfl, rfl, rfl⟩ := hcs
      exact ⟨zs, .inr ⟨_, rfl, hl, hm, by simpa using hz, hcell, hwz⟩⟩
  obtain ⟨a3, len3, cap3, rfl⟩ := okWide_slice Tryz.underlying33 (hval 3 33 v3 rfl rfl)
  obtain ⟨z3, w3⟩ : ∃ zs, Came .u8 W a3 len3 cap3 zs := by
    obtain ⟨fuel, hf⟩ := h3
    rcases open_ints Tryz.underlying33 Tryz.underlying5 (by kernel_rfl) hf with ⟨hcs, _⟩ | ⟨x, l, c, zs, hcs, _, hl, hm, hz, _, hcell, hwz⟩
    · simp [Value.cells] at hcs
      obtain ⟨rfl, rfl, rfl⟩ := hcs
      exact ⟨[], .inl ⟨rfl, rfl, rfl, rfl⟩⟩
    · simp [Value.cells] at hcs
      obtain ⟨rfl, rfl, rfl⟩ := hcs
      exact ⟨zs, .inr ⟨_, rfl, hl, hm, by simpa using hz, hcell, hwz⟩⟩
  obtain ⟨n4, rfl⟩ := okWide_int Tryz.underlying5 (hval 4 5 v4 rfl rfl)
  have w4 : (Lit.int .u8 n4).wf = true := by
    obtain ⟨fuel, hf⟩ := h4
    obtain ⟨z, e0, _, hz⟩ := DataW.trod_int (k := .u8) Tryz.underlying5 hf
    simp [Value.cells] at e0
    subst e0
    exact hz
  obtain ⟨n5, rfl⟩ := okWide_int Tryz.underlying5 (hval 5 5 v5 rfl rfl)
  have w5 : (Lit.int .u8 n5).wf = true := by
    obtain ⟨fuel, hf⟩ := h5
    obtain ⟨z, e0, _, hz⟩ := DataW.trod_int (k := .u8) Tryz.underlying5 hf
    simp [Value.cells] at e0
    subst e0
    exact hz
  clear hA0 hval0
  refine (walk W kd0 cu0 x0a x0l x0c x0z y0a y0l y0c y0z bi0 n0a n0l n0c n0z e0a e0l e0c e0z ukd0 ucu0 wx0 wy0 wn0 we0 k1s s1s uk1 us1 a2 len2 cap2 z2 w2 a3 len3 cap3 z3 w3 n4 w4 n5 w5).mono fun e W' ⟨he, bel⟩ => ?_
  subst he
  exact ⟨_, rfl, _, _, _, [], _, [], hW', trodAll_mk1 (shut_bool Tryz.underlying4 _), (trodAll_cons_mk (Below.trod laidOut (by kernel_rfl) (of_decide_eq_true (by kernel_rfl)) k0 bel lt0) (trodAll_cons_mk (Below.trod laidOut (by kernel_rfl) (of_decide_eq_true (by kernel_rfl)) k1 bel lt1) (trodAll_cons_mk (Below.trod laidOut (by kernel_rfl) (of_decide_eq_true (by kernel_rfl)) k2 bel lt2) (trodAll_cons_mk (Below.trod laidOut (by kernel_rfl) (of_decide_eq_true (by kernel_rfl)) k3 bel lt3) (trodAll_cons_mk (Below.trod laidOut (by kernel_rfl) (of_decide_eq_true (by kernel_rfl)) k4 bel lt4) (trodAll_cons_mk (Below.trod laidOut (by kernel_rfl) (of_decide_eq_true (by kernel_rfl)) k5 bel lt5) trodAll_mk0)))))), rfl, bel.frame _, fun h => by cases h⟩

theorem over : Rows.sigsRawRow.holds Tryz.pinned (OpenSpec.ofChange Rows.sigsRawSpec) :=
  OpenClaim.holds_of_wide 3 Tryz.f3 rfl rfl rfl rfl rfl rfl rfl ⟨rfl, rfl, rfl, rfl, rfl⟩ rfl rfl rfl rfl rfl (by kernel_rfl) Tryz.func3 (by kernel_rfl)
    (of_decide_eq_true (by kernel_rfl)) (by unfold Func.isWrapper; first | (rw [if_pos (by decide +kernel)]; kernel_rfl) | (rw [if_neg (by decide +kernel)]; exact ⟨rfl, rfl⟩))
    (fun os started H enc _ => lifted os started H enc)

theorem proved : Rows.SigsRawSaid := over
#print axioms proved
end Go.Proofs.YtkhnnhbmchnajaaGreat.sigsRaw
