/-
  Nodes that came in; nodeAt, Get, and the document's Get.
-/
import Derived.Test.YtbobgebhdafciaaDoorJAw
namespace Go.Proofs.YtbobgebhdafciaaDoor
open Go.Shelf Go.RowKit
set_option linter.unusedVariables false
set_option linter.unusedSimpArgs false

/-- A node that came in. -/
structure Gn where
  kind : Int
  text : Bs
  names : List Bs
  kids : List Int
/-- Where it lies. -/
def GAt (w : World) (b o : Nat) (n : Gn) : Prop :=
  ∃ pN cN pK cK, w.cell? ⟨b, o, none⟩ = some (.int .u8 n.kind) ∧ w.cell? ⟨b, o + 1, none⟩ = some (.string ⟨n.text.toArray⟩) ∧ w.cell? ⟨b, o + 2, none⟩ = some (.slice pN n.names.length cN) ∧ w.cell? ⟨b, o + 3, none⟩ = some (.slice pK n.kids.length cK) ∧
    RowAt w w.heap.size pN n.names.length (strs n.names) ∧ RowAt w w.heap.size pK n.kids.length (n.kids.map (Value.int .i64)) ∧ n.names.length ≤ cN ∧ n.kids.length ≤ cK
def GLies (w : World) (p : Option Addr) (gs : List Gn) : Prop := ∀ (i : Nat) (n : Gn), gs[i]? = some n → ∃ b o, p = some ⟨b, o, none⟩ ∧ b < w.heap.size ∧ GAt w b (o + i * 4) n
theorem RowAt.more {w w' : World} {p : Option Addr} {n : Nat} {xs : List Value} (h : RowAt w w.heap.size p n xs) (hb : Below w.heap.size w w') : RowAt w' w'.heap.size p n xs := by
  have h1 := h.keep hb (Nat.le_refl _)
  exact ⟨h1.len, fun h0 => by
    obtain ⟨b, o, e, hlt, hc⟩ := h1.cells h0
    exact ⟨b, o, e, Nat.lt_of_lt_of_le hlt hb.size, hc⟩⟩
theorem GAt.keep {w w' : World} {b o : Nat} {n : Gn} (h : GAt w b o n) (hlt : b < w.heap.size) (hb : Below w.heap.size w w') : GAt w' b o n := by
  obtain ⟨pN, cN, pK, cK, h1, h2, h3, h4, h5, h6, h7, h8⟩ := h
  exact ⟨pN, cN, pK, cK, (hb.cell (p := ⟨b, o, none⟩) hlt).trans h1, (hb.cell (p := ⟨b, o + 1, none⟩) hlt).trans h2, (hb.cell (p := ⟨b, o + 2, none⟩) hlt).trans h3, (hb.cell (p := ⟨b, o + 3, none⟩) hlt).trans h4, h5.more hb, h6.more hb, h7, h8⟩
theorem GLies.keep {w w' : World} {p : Option Addr} {gs : List Gn} (h : GLies w p gs) (hb : Below w.heap.size w w') : GLies w' p gs := fun i n hi => by
  obtain ⟨b, o, e, hlt, hg⟩ := h i n hi
  exact ⟨b, o, e, Nat.lt_of_lt_of_le hlt hb.size, hg.keep hlt hb⟩
theorem sizeNodeG : (Tryd.prog.info? 41).map (·.size) = some 4 := by kernel_rfl
/-- The node of a place. -/
def atG (gs : List Gn) (i : Int) : Option Gn := if 0 ≤ i then gs[i.toNat]? else none
def nmsOf (gs : List Gn) (i : Int) : List Bs := match atG gs i with
  | some n => n.names
  | none => []
def kdsOf (gs : List Gn) (i : Int) : List Int := match atG gs i with
  | some n => n.kids
  | none => []
theorem atG_none {gs : List Gn} {i : Int} (h : i < 0 ∨ (gs.length : Int) ≤ i) : atG gs i = none := by
  unfold atG
  split
  · rw [List.getElem?_eq_none]; omega
  · rfl
theorem atG_some {gs : List Gn} {i : Int} (h0 : 0 ≤ i) (h1 : i < (gs.length : Int)) : ∃ (k : Nat) (n : Gn), i = k ∧ k < gs.length ∧ gs[k]? = some n ∧ atG gs i = some n := by
  refine ⟨i.toNat, gs[i.toNat]'(by omega), by omega, by omega, List.getElem?_eq_getElem (by omega), ?_⟩
  unfold atG
  rw [if_pos h0, List.getElem?_eq_getElem (by omega)]

/-- What nodeAt answers. -/
def NodeOut (nms : List Bs) (kds : List Int) (w : World) (e : Ending) (w' : World) : Prop := Below w.heap.size w w' ∧ ∃ (kz : Int) (tb : ByteArray) (pN : Option Addr) (cN : Nat) (pK : Option Addr) (cK : Nat), e = .returned (.agg #[.int .u8 kz, .string tb, .slice pN nms.length cN, .slice pK kds.length cK]) ∧ RowAt w' w'.heap.size pN nms.length (strs nms) ∧ RowAt w' w'.heap.size pK kds.length (kds.map (Value.int .i64)) ∧ nms.length ≤ cN ∧ kds.length ≤ cK
set_option maxRecDepth 100000 in
set_option maxHeartbeats 4000000 in
/-- nodeAt. -/
theorem nodeAt_any (p : Option Addr) (c : Nat) (gs : List Gn) (i : Int) (w : World) (h : GLies w p gs) (hl : gs.length ≤ 1000) :
    Calls Tryd.prog 22 #[.slice p gs.length c, .int .i64 i] w (NodeOut (nmsOf gs i) (kdsOf gs i) w) := by
  obtain ⟨n, hn⟩ : ∃ n, gs.length = n := ⟨_, rfl⟩
  rw [hn]
  have hnb : (n : Int) ≤ 1000 := by omega
  have HN : Hid (gs.length = n) := hn
  clear hn hl
  by_cases q : i < 0 ∨ (n : Int) ≤ i
  · have ha : atG gs i = none := atG_none (by rw [HN.out]; exact q)
    have e1 : nmsOf gs i = [] := by unfold nmsOf; rw [ha]
    have e2 : kdsOf gs i = [] := by unfold kdsOf; rw [ha]
    rw [e1, e2]
    have HQ : Hid (i < 0 ∨ (n : Int) ≤ i) := q
    by_cases q1 : i < 0
    · have q1' : decide (i < 0) = true := by simpa using q1
      clear q h
      go_enter Tryd.func22, Tryd.ntmps22
      go_wp2_with fail
      (try simp only [Exit.inBlock, Exit.then])
      refine bodyPost_ret (v := .agg #[.int .u8 0, .string ⟨#[]⟩, .slice none 0 0, .slice none 0 0]) (results_cell_row rfl _ _ w.heap.size 41 _ (0, 0) _ rfl (alloc_new w _) Tryd.underlying41 rfl sizeNodeG) rfl ?_
      exact ⟨(Below.refl _ _).alloc (Nat.le_refl _) _, 0, ⟨#[]⟩, none, 0, none, 0, rfl, ⟨rfl, fun h => absurd h (by decide)⟩, ⟨rfl, fun h => absurd h (by decide)⟩, Nat.le_refl _, Nat.le_refl _⟩
    · have q1' : decide (i < 0) = false := by simpa using q1
      have q2 : (n : Int) ≤ i := by omega
      have q2' : decide ((n : Int) ≤ i) = true := by simpa using q2
      clear q h
      go_enter Tryd.func22, Tryd.ntmps22
      go_wp2_with fail
      (try simp only [Exit.inBlock, Exit.then])
      refine bodyPost_ret (v := .agg #[.int .u8 0, .string ⟨#[]⟩, .slice none 0 0, .slice none 0 0]) (results_cell_row rfl _ _ w.heap.size 41 _ (0, 0) _ rfl (alloc_new w _) Tryd.underlying41 rfl sizeNodeG) rfl ?_
      exact ⟨(Below.refl _ _).alloc (Nat.le_refl _) _, 0, ⟨#[]⟩, none, 0, none, 0, rfl, ⟨rfl, fun h => absurd h (by decide)⟩, ⟨rfl, fun h => absurd h (by decide)⟩, Nat.le_refl _, Nat.le_refl _⟩
  · obtain ⟨k, g, rfl, hk, hg, ha⟩ := atG_some (gs := gs) (i := i) (by omega) (by rw [HN.out]; omega)
    have e1 : nmsOf gs (k : Int) = g.names := by unfold nmsOf; rw [ha]
    have e2 : kdsOf gs (k : Int) = g.kids := by unfold kdsOf; rw [ha]
    rw [e1, e2]
    obtain ⟨b, o, rfl, hlt, pN, cN, pK, cK, c0, c1, c2, c3, r1, r2, r3, r4⟩ := h k g hg
    have q1' : decide ((k : Int) < 0) = false := by simp
    have q2' : decide ((n : Int) ≤ (k : Int)) = false := by have := HN.out; simp; omega
    have q2n : decide (n ≤ k) = false := by have := HN.out; simp; omega
    have hkn : (k : Int) < (n : Int) := by have := HN.out; omega
    have hk0 : (0 : Int) ≤ (k : Int) := by omega
    have HR : Hid (RowAt w w.heap.size pN g.names.length (strs g.names) ∧ RowAt w w.heap.size pK g.kids.length (g.kids.map (Value.int .i64)) ∧ g.names.length ≤ cN ∧ g.kids.length ≤ cK) := ⟨r1, r2, r3, r4⟩
    clear q h e1 e2 ha hg r1 r2 r3 r4
    go_enter Tryd.func22, Tryd.ntmps22
    go_wp2_with fail
    (try simp only [Exit.inBlock, Exit.then])
    refine bodyPost_ret (v := .agg #[.int .u8 g.kind, .string ⟨g.text.toArray⟩, .slice pN g.names.length cN, .slice pK g.kids.length cK]) (results_cell_row rfl _ _ w.heap.size 41 _ (0, 0) _ rfl (alloc_new w _) Tryd.underlying41 rfl sizeNodeG) rfl ?_
    have hb : Below w.heap.size w (w.alloc (.cells #[.int .u8 g.kind, .string ⟨g.text.toArray⟩, .slice pN g.names.length cN, .slice pK g.kids.length cK] 41)) := (Below.refl _ _).alloc (Nat.le_refl _) _
    exact ⟨hb, g.kind, ⟨g.text.toArray⟩, pN, cN, pK, cK, rfl, HR.out.1.more hb, HR.out.2.1.more hb, HR.out.2.2.1, HR.out.2.2.2⟩

/-- The answer of the document's Get. -/
def rgetZ (l : List (Bs × Int)) (s : Bs) : Int := match findL l s with
  | some k => k
  | none => -1
set_option maxRecDepth 100000 in
set_option maxHeartbeats 4000000 in
/-- Get. -/
theorem Get_any (p : Option Addr) (c : Nat) (gs : List Gn) (i : Int) (s : Bs) (w : World) (h : GLies w p gs) (hl : gs.length ≤ 1000) (hb : (nmsOf gs i).length ≤ 1000 ∧ (kdsOf gs i).length ≤ 1000) :
    Calls Tryd.prog 13 #[.slice p gs.length c, .int .i64 i, .string ⟨s.toArray⟩] w fun e w' => Below w.heap.size w w' ∧ e = .returned (findV (memL (nmsOf gs i) (kdsOf gs i)) s) := by
  have HA := nodeAt_any p c gs i w h hl
  obtain ⟨n, hn⟩ : ∃ n, gs.length = n := ⟨_, rfl⟩
  rw [hn] at HA ⊢
  clear hn h
  go_enter Tryd.func13, Tryd.ntmps13
  go_wp2_with fail
  go_at_call 22
  refine HA.mono ?_
  clear HA
  rintro e w1 ⟨b1, kz, tb, pN, cN, pK, cK, rfl, r1, r2, r3, r4⟩
  have HF := find_any (.int .u8 kz) (.string tb) pN pK cN cK (nmsOf gs i) (kdsOf gs i) s w1 rfl rfl r1 r2 (by omega) (by omega)
  go_wp2_with fail
  go_at_call 21
  refine HF.mono ?_
  clear HF
  rintro e w2 ⟨rfl, b2⟩
  have HB : Hid (Below w.heap.size w w2) := b1.trans (b2.mono b1.size)
  obtain ⟨a, b, hv⟩ : ∃ (a : Int) (b : Bool), findV (memL (nmsOf gs i) (kdsOf gs i)) s = .tuple #[.int .i64 a, .bool b] := by
    unfold findV
    split
    · exact ⟨_, _, rfl⟩
    · exact ⟨_, _, rfl⟩
  have HV : Hid (findV (memL (nmsOf gs i) (kdsOf gs i)) s = .tuple #[.int .i64 a, .bool b]) := hv
  rw [hv]
  clear hv
  go_wp2_with fail
  go_ret2
  exact ⟨HB.out, by rw [HV.out]; rfl⟩
end Go.Proofs.YtbobgebhdafciaaDoor
