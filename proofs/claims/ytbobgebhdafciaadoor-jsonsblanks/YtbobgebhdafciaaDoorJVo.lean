/-
  A value of the law (a tree) that came in, opened.
-/
import Derived.Test.YtbobgebhdafciaaDoorJB
import Derived.Deep.Strs
import Derived.Deep.Slices
import Derived.ChangeSlices
import Derived.Deep.MidRow
namespace Go.Proofs.YtbobgebhdafciaaDoor
open Go.Shelf Go.RowKit Go.ChangeShapes Go.WideShapes
set_option linter.unusedVariables false
set_option linter.unusedSimpArgs false

/-- A value: its kind, its text, its kids. -/
structure Vt where
  kind : Int
  text : Bs
  kids : List Vt
/-- A value as its three cells, and its kids in memory, so deep. -/
def VOk (w : World) : Nat → List Value → Vt → Prop
  | 0, cs, v => ∃ p c, cs = [.int .u8 v.kind, .string ⟨v.text.toArray⟩, .slice p v.kids.length c] ∧ 0 ≤ v.kind ∧ v.kind < 256 ∧ v.kids.length ≤ maxLen
  | d + 1, cs, v => ∃ p c, cs = [.int .u8 v.kind, .string ⟨v.text.toArray⟩, .slice p v.kids.length c] ∧ 0 ≤ v.kind ∧ v.kind < 256 ∧ v.kids.length ≤ maxLen ∧
      ∀ i k, v.kids[i]? = some k → ∃ b o, p = some ⟨b, o, none⟩ ∧ b < w.heap.size ∧ ∃ c0 c1 c2, w.cell? ⟨b, o + i * 3, none⟩ = some c0 ∧ w.cell? ⟨b, o + i * 3 + 1, none⟩ = some c1 ∧ w.cell? ⟨b, o + i * 3 + 2, none⟩ = some c2 ∧ VOk w d [c0, c1, c2] k
theorem VOk.keep {w w' : World} (hb : Below w.heap.size w w') : ∀ (d : Nat) (cs : List Value) (v : Vt), VOk w d cs v → VOk w' d cs v
  | 0, cs, v, h => h
  | d + 1, cs, v, h => by
    obtain ⟨p, c, h1, h2, h3, h4, h5⟩ := h
    refine ⟨p, c, h1, h2, h3, h4, fun i k hi => ?_⟩
    obtain ⟨b, o, e, hlt, c0, c1, c2, k0, k1, k2, hk⟩ := h5 i k hi
    exact ⟨b, o, e, Nat.lt_of_lt_of_le hlt hb.size, c0, c1, c2, (hb.cell (p := ⟨b, o + i * 3, none⟩) hlt).trans k0, (hb.cell (p := ⟨b, o + i * 3 + 1, none⟩) hlt).trans k1, (hb.cell (p := ⟨b, o + i * 3 + 2, none⟩) hlt).trans k2, VOk.keep hb d _ k hk⟩
theorem VOk.head {w : World} : ∀ {d : Nat} {cs : List Value} {v : Vt}, VOk w d cs v → ∃ p c, cs = [.int .u8 v.kind, .string ⟨v.text.toArray⟩, .slice p v.kids.length c] ∧ 0 ≤ v.kind ∧ v.kind < 256 ∧ v.kids.length ≤ maxLen
  | 0, _, _, h => h
  | d + 1, _, _, ⟨p, c, h1, h2, h3, h4, _⟩ => ⟨p, c, h1, h2, h3, h4⟩
theorem valueFields : ∃ f0 f1 f2 : Field, Tryd.prog.underlying 27 = some (.struct #[f0, f1, f2]) ∧ f0.offset = 0 ∧ f1.offset = 1 ∧ f2.offset = 2 ∧ f0.type = 5 ∧ f1.type = 9 ∧ f2.type = 25 :=
  ⟨_, _, _, Tryd.underlying27, rfl, rfl, rfl, rfl, rfl, rfl⟩
theorem cells3 : Tryd.prog.cellsOf 27 = 3 ∧ Tryd.prog.cellsOf 5 = 1 ∧ Tryd.prog.cellsOf 9 = 1 ∧ Tryd.prog.cellsOf 25 = 1 := ⟨by kernel_rfl, by kernel_rfl, by kernel_rfl, by kernel_rfl⟩
theorem list3 : ∀ l : List Value, l.length = 3 → ∃ a b c, l = [a, b, c]
  | [a, b, c], _ => ⟨a, b, c, rfl⟩
  | [], h => by simp at h
  | [_], h => by simp at h
  | [_, _], h => by simp at h
  | _ :: _ :: _ :: _ :: _, h => by simp at h
theorem cells_get3 {w : World} {base : Nat} {a : Addr} {cs : List Value} (h : w.cells? base a 3 = some cs) : ∃ c0 c1 c2, cs = [c0, c1, c2] ∧ w.cell? (a.add 0) = some c0 ∧ w.cell? (a.add 1) = some c1 ∧ w.cell? (a.add 2) = some c2 := by
  unfold World.cells? at h
  split at h
  · rw [show List.range 3 = [0, 1, 2] from rfl] at h
    simp only [List.mapM_cons, List.mapM_nil, Option.bind_eq_bind, Option.pure_def] at h
    cases e0 : w.cell? (a.add 0) with
    | none => simp [e0] at h
    | some x0 =>
      cases e1 : w.cell? (a.add 1) with
      | none => simp [e0, e1] at h
      | some x1 =>
        cases e2 : w.cell? (a.add 2) with
        | none => simp [e0, e1, e2] at h
        | some x2 =>
          simp [e0, e1, e2] at h
          exact ⟨x0, x1, x2, h.symm, rfl, rfl, rfl⟩
  · cases h
theorem lt_of_cellV {w : World} {b o : Nat} {v : Value} (h : w.cell? ⟨b, o, none⟩ = some v) : b < w.heap.size := by
  cases hh : w.heap[b]? with
  | none => simp [World.cell?, hh] at h
  | some x => exact (Array.getElem?_eq_some_iff.1 hh).1
theorem byte_wfV {x : Int} (h : (Lit.int .u8 x).wf = true) : 0 ≤ x ∧ x < 256 := by
  simp [Lit.wf, IntKind.min, IntKind.max, IntKind.signed, IntKind.bits] at h
  exact ⟨by omega, by omega⟩
/-- A value's three cells. -/
theorem open_value1 {H : Type} {enc : TypeId × Value → H} {w : World} {spare : Nat → Bool} {held : Bool} {fuel : Nat} {cs : List Value} {x : DataW H × List MemPlace} (h : DataW.trod enc Tryd.prog w 0 spare held fuel 27 cs = some x) :
    ∃ (k : Int) (s : Bs) (p : Option Addr) (len cap n : Nat) (y : DataW H × List MemPlace), cs = [.int .u8 k, .string ⟨s.toArray⟩, .slice p len cap] ∧ 0 ≤ k ∧ k < 256 ∧ DataW.trod enc Tryd.prog w 0 spare held n 25 [.slice p len cap] = some y := by
  obtain ⟨f0, f1, f2, hu, o0, o1, o2, t0, t1, t2⟩ := valueFields
  obtain ⟨k4, k0, k1, k2⟩ := cells3
  obtain ⟨xs, n, _, _, hl, hx, hf⟩ := DataW.trod_struct hu h
  rw [k4] at hl
  obtain ⟨v0, v1, v2, rfl⟩ := list3 cs hl
  have hx4 : xs.length = 3 := hx
  have get : ∀ i, i < 3 → ∃ y, xs[i]? = some y := fun i hi => ⟨_, List.getElem?_eq_getElem (by omega)⟩
  have g0 := hf 0 f0 rfl
  have g1 := hf 1 f1 rfl
  have g2 := hf 2 f2 rfl
  rw [o0, t0, k0] at g0
  rw [o1, t1, k1] at g1
  rw [o2, t2, k2] at g2
  obtain ⟨y0, hy0⟩ := get 0 (by decide)
  obtain ⟨y1, hy1⟩ := get 1 (by decide)
  obtain ⟨y2, hy2⟩ := get 2 (by decide)
  rw [hy0] at g0
  rw [hy1] at g1
  rw [hy2] at g2
  simp only [List.drop_zero, List.drop_succ_cons, List.take_succ_cons, List.take_zero] at g0 g1 g2
  obtain ⟨z, e0, _, hz⟩ := DataW.trod_int (k := .u8) Tryd.underlying5 g0
  obtain ⟨s, e1, _, _⟩ := DataW.trod_string Tryd.underlying9 g1
  cases e0
  cases e1
  obtain ⟨p, len, cap, e2⟩ : ∃ p len cap, v2 = .slice p len cap := by
    rcases Go.Deep.open_slice Tryd.underlying25 g2 with ⟨e, _⟩ | ⟨a, len, cap, m, n, D, Pl, e, _⟩
    · cases e
      exact ⟨_, _, _, rfl⟩
    · cases e
      exact ⟨_, _, _, rfl⟩
  subst e2
  exact ⟨z, s.data.toList, p, len, cap, n, y2, by simp, (byte_wfV hz).1, (byte_wfV hz).2, g2⟩
/-- A value that came in, opened so deep. -/
theorem open_value {H : Type} {enc : TypeId × Value → H} {w : World} {spare : Nat → Bool} {held : Bool} : ∀ (d : Nat) {fuel : Nat} {cs : List Value} {x : DataW H × List MemPlace}, DataW.trod enc Tryd.prog w 0 spare held fuel 27 cs = some x → ∃ v : Vt, VOk w d cs v := by
  intro d
  induction d with
  | zero =>
    intro fuel cs x h
    obtain ⟨k, s, p, len, cap, n, y, rfl, h0, h1, h2⟩ := open_value1 h
    have hm : len ≤ maxLen := by
      rcases Go.Deep.open_slice Tryd.underlying25 h2 with ⟨e, _⟩ | ⟨a, len, cap, m, n, D, Pl, e, _, hlc, hcm, _⟩
      · cases e
        exact Nat.zero_le _
      · cases e
        exact Nat.le_trans hlc hcm
    have hr : (List.replicate len (Vt.mk 0 [] [])).length = len := by simp
    exact ⟨.mk k s (List.replicate len (.mk 0 [] [])), p, cap, by simp only [Vt.kind, Vt.text, Vt.kids, hr], h0, h1, by simp only [Vt.kids, hr]; exact hm⟩
  | succ d ih =>
    intro fuel cs x h
    obtain ⟨k, s, p, len, cap, n, y, rfl, h0, h1, h2⟩ := open_value1 h
    rcases Go.Deep.open_slice Tryd.underlying25 h2 with ⟨e, _⟩ | ⟨a, len', cap', m, n', D, Pl, e, _, hlc, hcm, hm, _, hel⟩
    · cases e
      exact ⟨.mk k s [], none, 0, rfl, h0, h1, Nat.zero_le _, fun i k hi => by simp [Vt.kids] at hi⟩
    · cases e
      rw [cells3.1] at hel
      have hml : len ≤ m := by rw [hm]; split <;> omega
      have each : ∀ i, i < len → ∃ v : Vt, ∃ b o, a = ⟨b, o, none⟩ ∧ b < w.heap.size ∧ ∃ c0 c1 c2, w.cell? ⟨b, o + i * 3, none⟩ = some c0 ∧ w.cell? ⟨b, o + i * 3 + 1, none⟩ = some c1 ∧ w.cell? ⟨b, o + i * 3 + 2, none⟩ = some c2 ∧ VOk w d [c0, c1, c2] v := fun i hi => by
        obtain ⟨cs, hc, ht⟩ := hel i (by omega)
        obtain ⟨c0, c1, c2, rfl, q0, q1, q2⟩ := cells_get3 hc
        obtain ⟨v, hv⟩ := ih ht
        obtain ⟨b, o, sp⟩ := a
        have hsp : sp = none := by
          obtain ⟨cs', hc', ht'⟩ := hel 0 (by omega)
          obtain ⟨c0', c1', c2', _, q0', _⟩ := cells_get3 hc'
          have := World.cell?_spot q0'
          simpa [Addr.add] using this
        subst hsp
        rw [Addr.add_mid, Addr.add_mid] at q0 q1 q2
        rw [Nat.add_zero] at q0
        exact ⟨v, b, o, rfl, lt_of_cellV q0, c0, c1, c2, q0, q1, q2, hv⟩
      haveI : Inhabited Vt := ⟨.mk 0 [] []⟩
      obtain ⟨G, hG⟩ := Go.Deep.choose_lt each
      have hr : ((List.range len).map G).length = len := by simp
      refine ⟨.mk k s ((List.range len).map G), some a, cap, by simp only [Vt.kind, Vt.text, Vt.kids, hr], h0, h1, by simp only [Vt.kids, hr]; exact Nat.le_trans hlc hcm, fun i v hi => ?_⟩
      have hi' : ((List.range len).map G)[i]? = some v := hi
      have hi2 : i < len := by have := (List.getElem?_eq_some_iff.1 hi').1; simpa using this
      rw [List.getElem?_map, List.getElem?_range hi2] at hi'
      cases hi'
      obtain ⟨b, o, rfl, rest⟩ := hG i hi2
      exact ⟨b, o, rfl, rest⟩
end Go.Proofs.YtbobgebhdafciaaDoor
