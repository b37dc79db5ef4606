/-
  The walk of JsonsTurned.
-/
import Derived.Test.YtbobgebhdafciaaDoorJsN
import Derived.Test.YtbobgebhdafciaaDoorJVy
import Derived.ArgAppend
namespace Go.Proofs.YtbobgebhdafciaaDoor
open Go.Shelf Go.RowKit
set_option linter.unusedVariables false
set_option linter.unusedSimpArgs false

/-- Bytes that are the call's own: each may be written. -/
def ByO (W : World) (base : Nat) (v : Value) (l : Bs) : Prop :=
  ∃ p c, v = .slice p l.length c ∧ l.length ≤ c ∧ (p = none → c = 0) ∧ (0 < l.length → ∃ b o, p = some ⟨b, o, none⟩ ∧ base ≤ b ∧ b < W.heap.size ∧ ∀ i, i < l.length → W.cell? ⟨b, o + i, none⟩ = some (.int .u8 ((l.getD i 0).toNat : Int)) ∧ W.frozen? ⟨b, o + i, none⟩ = false)
theorem ByO.rest {W : World} {base n : Nat} {p : Option Addr} {c : Nat} {l : Bs} (h : ByO W base (.slice p n c) l) : l.length = n ∧ RestD W W.heap.size p c l ∧ (p = none → c = 0) := by
  obtain ⟨p', c', e, h1, h2, h3⟩ := h
  simp only [Value.slice.injEq] at e
  obtain ⟨rfl, rfl, rfl⟩ := e
  refine ⟨rfl, ⟨h1, fun h0 => ?_, fun a ha h0 => ?_⟩, h2⟩
  · obtain ⟨b, o, rfl, _, _, hc⟩ := h3 h0
    exact ⟨b, o, rfl, fun i hi => (hc i hi).1⟩
  · obtain ⟨b, o, rfl, _, hlt, hc⟩ := h3 h0
    cases ha
    exact ⟨hlt, rfl⟩
theorem ByO.of_own {W : World} {base : Nat} {v : Value} {l : Bs} (h : W.ownsRow base 5 1 v l.length (Lib.byteCells l)) : ByO W base v l := by
  rcases h.2 with ⟨rfl, h0⟩ | ⟨g, cap, cur, rfl, hg, hrow, h1, h2, h3, h4⟩
  · have : l = [] := List.eq_nil_of_length_eq_zero h0
    subst this
    exact ⟨none, 0, rfl, Nat.le_refl _, fun _ => rfl, fun h => absurd h (by simp)⟩
  · refine ⟨some ⟨g, 0, none⟩, cap, rfl, h1, (fun e => by cases e), fun h0 => ⟨g, 0, rfl, hg, (Array.getElem?_eq_some_iff.1 hrow).1, fun i hi => ⟨?_, ?_⟩⟩⟩
    · have hc := h.cells (g := g) rfl i (.int .u8 ((l.getD i 0).toNat : Int)) (by
        unfold Lib.byteCells
        rw [List.getElem?_map, List.getElem?_eq_getElem hi]
        simp [List.getD, hi])
      rw [Addr.add_mid] at hc
      exact hc
    · simp [World.frozen?, hrow]
theorem ByO.of_bw (W : World) (l : Bs) : ByO (Lib.bytesWorld W 5 ⟨l.toArray⟩) W.heap.size (.slice (some ⟨W.heap.size, 0, none⟩) l.length (grownCap W l.length 0 5)) l := by
  have hsz : (⟨l.toArray⟩ : ByteArray).size = l.length := rfl
  refine ⟨_, _, rfl, grownCap_ge _ _ _ _, (fun e => by cases e), fun h0 => ⟨W.heap.size, 0, rfl, Nat.le_refl _, by rw [Lib.bytesWorld_size]; omega, fun i hi => ⟨?_, ?_⟩⟩⟩
  · rw [Nat.zero_add, Lib.bytesWorld_cell _ _ _ i (by rw [hsz]; exact hi)]
  · have hg := grownCap_ge W l.length 0 5
    have hb : l.length ≤ (Lib.bytesCells W 5 ⟨l.toArray⟩).size := by
      unfold Lib.bytesCells
      simp [hsz]
    simp [World.frozen?, Lib.bytesWorld_at_new]
    omega
theorem ByO.set {W : World} {base : Nat} {b o n c : Nat} {l : Bs} {k : Nat} (x : UInt8) (h : ByO W base (.slice (some ⟨b, o, none⟩) n c) l) (hk : k < l.length) :
    ByO (W.setCell ⟨b, o + k, none⟩ (.int .u8 (x.toNat : Int))) base (.slice (some ⟨b, o, none⟩) n c) (l.set k x) := by
  obtain ⟨p', c', e, h1, h2, h3⟩ := h
  simp only [Value.slice.injEq] at e
  obtain ⟨rfl, rfl, rfl⟩ := e
  obtain ⟨b', o', e, hb, hlt, hc⟩ := h3 (by omega)
  simp only [Option.some.injEq, Addr.mk.injEq, and_true] at e
  obtain ⟨rfl, rfl⟩ := e
  refine ⟨some ⟨b, o, none⟩, c, by rw [List.length_set], by rw [List.length_set]; exact h1, h2, fun h0 => ⟨b, o, rfl, hb, by simpa [World.setCell] using hlt, fun i hi => ?_⟩⟩
  rw [List.length_set] at hi
  obtain ⟨hc1, hc2⟩ := hc i hi
  refine ⟨?_, by rw [World.frozen?_setCell]; exact hc2⟩
  by_cases e : i = k
  · subst e
    rw [World.cell?_setCell_same _ _ _ hc1]
    simp [List.getD, hk]
  · rw [World.cell?_setCell_other _ _ _ _ (by intro e'; injection e' with _ e'; omega), hc1]
    simp [List.getD, Ne.symm e]

/-- A number of a slice that came in. -/
theorem CameJ.at_ {k : IntKind} {w : World} {a : Option Addr} {len cap : Nat} {zs : List Int} (h : CameJ k w a len cap zs) {i : Nat} (hi : i < len) : ∃ b o z, a = some ⟨b, o, none⟩ ∧ b < w.heap.size ∧ w.cell? ⟨b, o + i, none⟩ = some (.int k z) ∧ (Lit.int k z).wf = true := by
  rcases h with ⟨_, h1, _⟩ | ⟨x, rfl, h1, h2, h3, h4, h5⟩
  · omega
  · obtain ⟨b, o, sp⟩ := x
    have hsp : sp = none := by
      have := h4 0 (by omega)
      simpa [Addr.add] using World.cell?_spot this
    subst hsp
    have hc := h4 i (by omega)
    rw [Addr.add_mid] at hc
    refine ⟨b, o, zs.getD i 0, rfl, World.block_lt_of_cell? w ⟨b, o + i, none⟩ hc, hc, ?_⟩
    have hiz : i < zs.length := by omega
    have e1 : zs.getD i 0 = zs[i] := by simp [List.getD, hiz]
    rw [e1]
    exact h5 _ (List.getElem_mem hiz)
theorem kmod (Z : Int) (n : Nat) (h0 : 0 < n) (hn : n ≤ 20000004) : ∃ k : Nat, k < n ∧ wrap64 ((IntKind.u64.wrap Z).tmod (n : Int)) = (k : Int) := by
  have hnn : 0 ≤ IntKind.u64.wrap Z := by
    have e : IntKind.u64.wrap Z = Z % 18446744073709551616 := by simp [IntKind.wrap, IntKind.signed, IntKind.bits]
    rw [e]
    omega
  obtain ⟨Y, hY⟩ : ∃ Y : Nat, IntKind.u64.wrap Z = (Y : Int) := ⟨(IntKind.u64.wrap Z).toNat, by omega⟩
  have hlt : Y % n < n := Nat.mod_lt _ h0
  refine ⟨Y % n, hlt, ?_⟩
  rw [hY, Int.tmod_eq_emod_of_nonneg (by omega), ← Int.natCast_emod]
  unfold wrap64
  omega
theorem below_grown {w w' : World} (h : w.grownBy w' none) : Below w.heap.size w w' := ⟨h.os, h.tape, h.output, h.size, fun k hk => h.block k hk (by simp)⟩
/-- Bytes appended behind bytes that have no room: nothing that was there is written. -/
theorem step_append_by {ops : Array Oper} {o : Oper} {a : Act} {w : World} {K : Act → World → Prop} {Q : Exit → Act → World → Prop} {E : Prop} (hg : o.guard = none) (s x : Operand)
    (hop : o.op = Op.call { callee := Callee.builtin Builtin.append, args := #[s, x], argTypes := #[22, 22] }) (base b f k : Nat) (l1 l2 : Bs) (hl1 : l1.length = k) (hs : a.eval s = .slice (some ⟨b, f, none⟩) k k)
    (hb : base ≤ b ∧ b < w.heap.size) (hold : ∀ i, i < k → w.cell? ⟨b, f + i, none⟩ = some (.int .u8 ((l1.getD i 0).toNat : Int)) ∧ w.frozen? ⟨b, f + i, none⟩ = false)
    (ad : Addr) (m c : Nat) (hl2 : l2.length = m) (hx : a.eval x = .slice (some ad) m c) (hnew : ∀ i, i < m → w.cell? (ad.add i) = some (.int .u8 ((l2.getD i 0).toNat : Int))) (hbd : k + m ≤ 100000000)
    (hK : ∀ v' w', ByO w' base v' (l1 ++ l2) → Below w.heap.size w w' → K (a.put o.dst v') w') : if Region.wanted o (yielded ops a.tmps) = true then Oper.wp Tryd.prog o a w K Q else E := by
  have hw : Region.wanted o (yielded ops a.tmps) = true := by simp [Region.wanted, hg]
  rw [if_pos hw]
  obtain ⟨i0, hi0, hz0, hz1, hz2⟩ := info_parts infoU8
  have hbc : ∀ (l : Bs) (j : Nat) (u : Value), (Lib.byteCells l)[j]? = some u → j < l.length ∧ u = .int .u8 ((l.getD j 0).toNat : Int) := fun l j u hu => by
    unfold Lib.byteCells at hu
    rw [List.getElem?_map] at hu
    cases hj : l[j]? with
    | none => simp [hj] at hu
    | some y =>
      have hlt := (List.getElem?_eq_some_iff.1 hj).1
      refine ⟨hlt, ?_⟩
      rw [hj] at hu
      simp [List.getD, hj] at hu ⊢
      exact hu.symm
  have hlb : ∀ l : Bs, (Lib.byteCells l).length = l.length := fun l => by unfold Lib.byteCells; simp
  by_cases hm : m = 0
  · subst hm
    have hnil : l2 = [] := List.eq_nil_of_length_eq_zero hl2
    subst hnil
    have hrun := run_append_room_cells (P := Tryd.prog) w 22 o.type 5 i0 Tryd.underlying22 hi0 b f k k ad 0 c [] (by simp) (by simp) (by simp) (by omega) (by simp) (by simp)
    unfold Oper.wp
    simp [execOp, hop, resolve, invoke, builtin, hs, hx, hrun, Result.andThen]
    have e0 : w.setCells b (f + k * i0.size) [] = w := rfl
    rw [e0]
    refine hK _ _ ?_ (Below.refl _ _)
    rw [List.append_nil]
    exact ⟨some ⟨b, f, none⟩, k, by rw [hl1], by omega, (fun e => by cases e), fun h0 => ⟨b, f, rfl, hb.1, hb.2, fun i hi => hold i (by omega)⟩⟩
  · obtain ⟨v', w', hrun, r1, r2⟩ := run_append_arg_grows (P := Tryd.prog) w 22 o.type 5 i0 (.int .u8 0) 1 1 Tryd.underlying22 hi0 hz0 hz1 hz2 rfl (by decide) ⟨b, f, none⟩ k k (Lib.byteCells l1) (by rw [hlb, hl1, Nat.mul_one])
      (fun j u hu => by obtain ⟨hj, rfl⟩ := hbc l1 j u hu; rw [Addr.add_mid]; exact (hold j (by omega)).1) ad m c (Lib.byteCells l2) (by rw [hlb, hl2, Nat.mul_one]) (fun j u hu => by obtain ⟨hj, rfl⟩ := hbc l2 j u hu; exact hnew j (by omega)) (by omega) (by unfold maxLen; omega) (by omega)
    unfold Oper.wp
    simp [execOp, hop, resolve, invoke, builtin, hs, hx, hrun, Result.andThen]
    have e1 : Lib.byteCells l1 ++ Lib.byteCells l2 = Lib.byteCells (l1 ++ l2) := by unfold Lib.byteCells; simp
    rw [e1] at r1
    have hlen : k + m = (l1 ++ l2).length := by simp [hl1, hl2]
    rw [hlen] at r1
    refine hK v' w' ?_ (below_grown r2)
    obtain ⟨p', c', e', q1, q2, q3⟩ := ByO.of_own r1
    exact ⟨p', c', e', q1, q2, fun h0 => by
      obtain ⟨b', o', z1, z2, z3⟩ := q3 h0
      exact ⟨b', o', z1, by omega, z3⟩⟩
/-- At its end, not otherwise. -/
def Nm : Exit → Prop → Prop
  | .normal, p => p
  | _, _ => False
theorem wp_nm {P : Program} {c : Code} {Q : Exit → Act → World → Prop} {a : Act} {w : World} (h : c.wp P (fun e a W => Nm e (Q Exit.normal a W)) a w) : c.wp P Q a w :=
  Code.wp_mono (fun e a W h => by
    cases e with
    | normal => exact h
    | _ => exact h.elim) h
/-- What follows a region, told once for all its orders. -/
theorem wp_frames {P : Program} {c : Code} {Q' : Exit → Act → World → Prop} {a : Act} {w : World} (R : World → Prop) (Wo : World → World) (Fr : World → Act)
    (reg : c.wp P (fun e a W => Nm e (∃ w2, R w2 ∧ W = Wo w2 ∧ a = Fr w2)) a w) (rest : ∀ w2, R w2 → Q' Exit.normal (Fr w2) (Wo w2)) : c.wp P Q' a w :=
  Code.wp_mono (fun e a W h => by
    cases e with
    | normal =>
      obtain ⟨w2, hR, rfl, rfl⟩ := h
      exact rest w2 hR
    | _ => exact h.elim) reg

end Go.Proofs.YtbobgebhdafciaaDoor
