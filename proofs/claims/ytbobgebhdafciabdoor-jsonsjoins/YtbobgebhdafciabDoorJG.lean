/-
  find: a name among a node's members.
-/
import Derived.Test.YtbobgebhdafciabDoorJF
namespace Go.Proofs.YtbobgebhdafciabDoor
open Go.Shelf Go.RowKit
set_option linter.unusedVariables false
set_option linter.unusedSimpArgs false
attribute [local go_sem] Oper.semAt_some

theorem new_cell (W : World) (v : Value) (t : TypeId) : (W.alloc (.cells #[v] t)).cell? ⟨W.heap.size, 0, none⟩ = some v ∧ (W.alloc (.cells #[v] t)).frozen? ⟨W.heap.size, 0, none⟩ = false := ⟨by simp, by simp⟩
theorem more_cell {W : World} {a : Addr} {v : Value} (o : Obj) (h : W.cell? a = some v) : (W.alloc o).cell? a = some v := cell_kept h (World.grownBy_alloc W o none) (fun r e => by cases e)
theorem more_frozen {W : World} {a : Addr} {v : Value} (o : Obj) (h : W.cell? a = some v) (hf : W.frozen? a = false) : (W.alloc o).frozen? a = false := (frozen_kept h (World.grownBy_alloc W o none) (fun r e => by cases e)).trans hf
/-- A cell of the call's own, with what it holds. -/
def Kc (W : World) (b : Nat) (v : Value) : Prop := W.cell? ⟨b, 0, none⟩ = some v ∧ W.frozen? ⟨b, 0, none⟩ = false
theorem Kc.kept {W W' : World} {b : Nat} {v : Value} {row : Option Nat} (h : Kc W b v) (hg : W.grownBy W' row) (hr : ∀ r, row = some r → ∃ o : Obj, W.heap[r]? = some o ∧ o.isCells = false) : Kc W' b v :=
  ⟨cell_kept h.1 hg hr, (frozen_kept h.1 hg hr).trans h.2⟩
theorem Kc.new (W : World) (v : Value) (t : TypeId) (b : Nat) (hb : b = W.heap.size) : Kc (W.alloc (.cells #[v] t)) b v := by subst hb; exact new_cell W v t
theorem Kc.alloc {W : World} {b : Nat} {v : Value} (h : Kc W b v) (o : Obj) : Kc (W.alloc o) b v := ⟨more_cell o h.1, more_frozen o h.1 h.2⟩
theorem Kc.set {W : World} {b : Nat} {v : Value} (h : Kc W b v) (u : Value) : Kc (W.setCell ⟨b, 0, none⟩ u) b u := ⟨World.cell?_setCell_same _ _ _ h.1, by rw [World.frozen?_setCell]; exact h.2⟩
theorem Kc.other {W : World} {b c : Nat} {v : Value} (h : Kc W b v) (hne : c ≠ b) (u : Value) : Kc (W.setCell ⟨c, 0, none⟩ u) b v := ⟨(World.cell?_setCell_other _ _ _ _ (by intro e; injection e with e; exact hne e)).trans h.1, by rw [World.frozen?_setCell]; exact h.2⟩

/-- The first member of that name. -/
def findL (l : List (Bs × Int)) (s : Bs) : Option Int := (l.find? (fun x => x.1 == s)).map (·.2)
def findV (l : List (Bs × Int)) (s : Bs) : Value := match findL l s with
  | some k => .tuple #[.int .i64 k, .bool true]
  | none => .tuple #[.int .i64 0, .bool false]
theorem findL_none {l : List (Bs × Int)} {s : Bs} (h : ∀ x ∈ l, x.1 ≠ s) : findV l s = .tuple #[.int .i64 0, .bool false] := by
  unfold findV findL
  rw [List.find?_eq_none.2 (fun x hx => by simpa using h x hx)]
  rfl
theorem findL_some {l q : List (Bs × Int)} {x : Bs × Int} {s : Bs} (hp : q ++ [x] <+: l) (hq : ∀ y ∈ q, y.1 ≠ s) (hx : x.1 = s) : findV l s = .tuple #[.int .i64 x.2, .bool true] := by
  obtain ⟨t, rfl⟩ := hp
  unfold findV findL
  rw [List.append_assoc, List.find?_append, List.find?_eq_none.2 (fun y hy => by simpa using hq y hy)]
  simp [hx]
/-- Between two rounds. -/
def FGo (w : World) (s : Bs) (pre : List (Bs × Int)) (W : World) : Prop :=
  (Kc W (w.heap.size + 1) (.string ⟨s.toArray⟩) ∧ Kc W (w.heap.size + 1 + 1) (.int .i64 0) ∧ Kc W (w.heap.size + 1 + 1 + 1) (.bool false) ∧ ∀ x ∈ pre, x.1 ≠ s) ∧ Below w.heap.size w W
/-- A round has left. -/
def FGone (w : World) (s : Bs) (c : Code) (pre : List (Bs × Int)) (W : World) : Prop :=
  (c = .ret ∧ ∃ q x, pre = q ++ [x] ∧ x.1 = s ∧ (∀ y ∈ q, y.1 ≠ s) ∧ Kc W (w.heap.size + 1 + 1) (.int .i64 x.2) ∧ Kc W (w.heap.size + 1 + 1 + 1) (.bool true)) ∧ Below w.heap.size w W

/-- members. -/
theorem members_any (pN pK : Option Addr) (a b cN cK : Nat) (w : World) : Calls Tryd.prog 43 #[.slice pN a cN, .slice pK b cK] w fun e w' => e = .returned (.func (.func 55) #[] #[.pointer (some ⟨w.heap.size, 0, none⟩), .pointer (some ⟨w.heap.size + 1, 0, none⟩)]) ∧ w' = (w.alloc (.cells #[.slice pN a cN] 35)).alloc (.cells #[.slice pK b cK] 36) := by
  have hmf : ∀ (fn : Fn) (first cap : Array Value) (w : World), (Instr.makeFunc fn first cap).run Tryd.prog w = .ok (.func fn first cap) w := fun _ _ _ _ => rfl
  go_enter Tryd.func43, Tryd.ntmps43
  go_wp2
  go_ret
  exact ⟨rfl, rfl⟩

set_option maxRecDepth 100000 in
set_option maxHeartbeats 4000000 in
/-- find. -/
theorem find_any (kv tv : Value) (pN pK : Option Addr) (cN cK : Nat) (ns : List Bs) (ks : List Int) (s : Bs) (w : World) (hkv : kv.oneCell' = true) (htv : tv.oneCell' = true)
    (rN : RowAt w w.heap.size pN ns.length (strs ns)) (rK : RowAt w w.heap.size pK ks.length (ks.map (Value.int .i64))) (hb1 : ns.length ≤ 4611686018427387904) (hb2 : ks.length ≤ 4611686018427387904) :
    Calls Tryd.prog 28 #[.agg #[kv, tv, .slice pN ns.length cN, .slice pK ks.length cK], .string ⟨s.toArray⟩] w fun e w' => e = .returned (findV (memL ns ks) s) ∧ Below w.heap.size w w' := by
  obtain ⟨a, ha⟩ : ∃ a, ns.length = a := ⟨_, rfl⟩
  obtain ⟨b, hb⟩ : ∃ b, ks.length = b := ⟨_, rfl⟩
  have HA : Hid (ns.length = a ∧ ks.length = b) := ⟨ha, hb⟩
  rw [ha, hb]
  rw [ha] at rN hb1
  rw [hb] at rK hb2
  clear ha hb
  refine (callsIn_wide (n := 4)).1 ?_
  refine callsIn_of_wp_marks Tryd.func28 rfl trivial ?_ rfl
  simp only [Tryd.ntmps28, List.size_toArray, List.length_cons, List.length_nil, Nat.reduceAdd, Nat.reduceSub, Array.replicate_succ, Array.replicate_zero, List.push_toArray, List.append_toArray, List.nil_append, List.cons_append]
  gi_wp2_with (refine ⟨trivial, ?_⟩; gi_at_call 43; refine (callsIn_wide.2 (members_any _ _ _ _ _ _ _)).mono ?_; rintro e w' ⟨rfl, rfl⟩)
  have hsz : ((((((w.alloc (.cells #[kv, tv, .slice pN a cN, .slice pK b cK] 38)).alloc (.cells #[.string ⟨s.toArray⟩] 9)).alloc (.cells #[.int .i64 0] 3)).alloc (.cells #[.bool false] 4)).alloc (.cells #[.slice pN a cN] 35)).alloc (.cells #[.slice pK b cK] 36)).heap.size = w.heap.size + 1 + 1 + 1 + 1 + 1 + 1 := by simp
  have hb6 : Below w.heap.size w ((((((w.alloc (.cells #[kv, tv, .slice pN a cN, .slice pK b cK] 38)).alloc (.cells #[.string ⟨s.toArray⟩] 9)).alloc (.cells #[.int .i64 0] 3)).alloc (.cells #[.bool false] 4)).alloc (.cells #[.slice pN a cN] 35)).alloc (.cells #[.slice pK b cK] 36)) :=
    ((((((Below.refl _ w).alloc (Nat.le_refl _) _).alloc (by simp) _).alloc (by simp; omega) _).alloc (by simp; omega) _).alloc (by simp; omega) _).alloc (by simp; omega) _
  have hk1 : Kc ((((((w.alloc (.cells #[kv, tv, .slice pN a cN, .slice pK b cK] 38)).alloc (.cells #[.string ⟨s.toArray⟩] 9)).alloc (.cells #[.int .i64 0] 3)).alloc (.cells #[.bool false] 4)).alloc (.cells #[.slice pN a cN] 35)).alloc (.cells #[.slice pK b cK] 36)) (w.heap.size + 1) (.string ⟨s.toArray⟩) := ((((Kc.new _ _ _ _ (by simp)).alloc _).alloc _).alloc _).alloc _
  have hk2 : Kc ((((((w.alloc (.cells #[kv, tv, .slice pN a cN, .slice pK b cK] 38)).alloc (.cells #[.string ⟨s.toArray⟩] 9)).alloc (.cells #[.int .i64 0] 3)).alloc (.cells #[.bool false] 4)).alloc (.cells #[.slice pN a cN] 35)).alloc (.cells #[.slice pK b cK] 36)) (w.heap.size + 1 + 1) (.int .i64 0) := (((Kc.new _ _ _ _ (by simp)).alloc _).alloc _).alloc _
  have hk3 : Kc ((((((w.alloc (.cells #[kv, tv, .slice pN a cN, .slice pK b cK] 38)).alloc (.cells #[.string ⟨s.toArray⟩] 9)).alloc (.cells #[.int .i64 0] 3)).alloc (.cells #[.bool false] 4)).alloc (.cells #[.slice pN a cN] 35)).alloc (.cells #[.slice pK b cK] 36)) (w.heap.size + 1 + 1 + 1) (.bool false) := ((Kc.new _ _ _ _ (by simp)).alloc _).alloc _
  have hk4 : Kc ((((((w.alloc (.cells #[kv, tv, .slice pN a cN, .slice pK b cK] 38)).alloc (.cells #[.string ⟨s.toArray⟩] 9)).alloc (.cells #[.int .i64 0] 3)).alloc (.cells #[.bool false] 4)).alloc (.cells #[.slice pN a cN] 35)).alloc (.cells #[.slice pK b cK] 36)) (w.heap.size + 1 + 1 + 1 + 1) (.slice pN a cN) := (Kc.new _ _ _ _ (by simp)).alloc _
  have hk5 : Kc ((((((w.alloc (.cells #[kv, tv, .slice pN a cN, .slice pK b cK] 38)).alloc (.cells #[.string ⟨s.toArray⟩] 9)).alloc (.cells #[.int .i64 0] 3)).alloc (.cells #[.bool false] 4)).alloc (.cells #[.slice pN a cN] 35)).alloc (.cells #[.slice pK b cK] 36)) (w.heap.size + 1 + 1 + 1 + 1 + 1) (.slice pK b cK) := Kc.new _ _ _ _ (by simp)
  generalize ((((((w.alloc (.cells #[kv, tv, .slice pN a cN, .slice pK b cK] 38)).alloc (.cells #[.string ⟨s.toArray⟩] 9)).alloc (.cells #[.int .i64 0] 3)).alloc (.cells #[.bool false] 4)).alloc (.cells #[.slice pN a cN] 35)).alloc (.cells #[.slice pK b cK] 36)) = w6 at *
  have HSEQ := members_stops (4 - 1) (by omega) w6 (w.heap.size + 1 + 1 + 1 + 1) (w.heap.size + 1 + 1 + 1 + 1 + 1) pN pK cN cK ns ks (by rw [HA.out.1]; exact hk4.1) (by rw [HA.out.2]; exact hk5.1) (by omega) (by omega)
    (by rw [HA.out.1]; exact ⟨rN.len, fun h => by obtain ⟨q, o, e, hl, hc⟩ := (rN.keep hb6 (Nat.le_refl _)).cells h; exact ⟨q, o, e, by omega, hc⟩⟩) (by rw [HA.out.2]; exact ⟨rK.len, fun h => by obtain ⟨q, o, e, hl, hc⟩ := (rK.keep hb6 (Nat.le_refl _)).cells h; exact ⟨q, o, e, by omega, hc⟩⟩) (by rw [HA.out.1]; exact hb1) (by rw [HA.out.2]; exact hb2)
  refine wpIn_rangeFunc_ownF rfl (by omega) (gf := 55) (lb := #[.pointer (some ⟨w.heap.size + 1 + 1 + 1 + 1, 0, none⟩), .pointer (some ⟨w.heap.size + 1 + 1 + 1 + 1 + 1, 0, none⟩)]) rfl trivial (enters_of Tryd.func55 (by kernel_rfl) rfl)
    HSEQ belowK_t (belowK_b (Nat.le_refl _)) (Below.refl _ _) (fun _ => rfl)
    (FGo w s) (FGone w s)
    (fun q A B row hs hg hr => ⟨⟨hs.1.1.kept hg (fun r e => (hr r e).2), hs.1.2.1.kept hg (fun r e => (hr r e).2), hs.1.2.2.1.kept hg (fun r e => (hr r e).2), hs.1.2.2.2⟩, ownFrom_below (β := Unit) (Nat.le_refl _) (by omega) () A B row hs.2 hg hr⟩)
    (fun c q A B row hs hg hr => ⟨⟨hs.1.1, by obtain ⟨q', x, h1, h2, h3, h4, h5⟩ := hs.1.2; exact ⟨q', x, h1, h2, h3, h4.kept hg (fun r e => (hr r e).2), h5.kept hg (fun r e => (hr r e).2)⟩⟩, ownFrom_below (β := Unit) (Nat.le_refl _) (by omega) () A B row hs.2 hg hr⟩)
    ⟨⟨hk1, hk2, hk3, fun x hx => (by simp at hx)⟩, hb6⟩
    (fun x => { tmps := #[.agg #[kv, tv, .slice pN a cN, .slice pK b cK], .string ⟨s.toArray⟩, .pointer (some ⟨w.heap.size, 0, none⟩), .pointer (some ⟨w.heap.size + 1, 0, none⟩), .pointer (some ⟨w.heap.size + 1 + 1, 0, none⟩), .pointer (some ⟨w.heap.size + 1 + 1 + 1, 0, none⟩), .string ⟨x.1.toArray⟩, .int .i64 x.2, .pointer (some ⟨w.heap.size, 2, none⟩), .slice pN a cN, .pointer (some ⟨w.heap.size, 3, none⟩), .slice pK b cK, .func (.func 55) #[] #[.pointer (some ⟨w.heap.size + 1 + 1 + 1 + 1, 0, none⟩), .pointer (some ⟨w.heap.size + 1 + 1 + 1 + 1 + 1, 0, none⟩)], .string ⟨x.1.toArray⟩, .int .i64 x.2, undef, undef, undef, undef], defers := [] }) ?assign ?body ?done ?stop
  case assign =>
    intro l x W K hK
    gi_wp2
    exact hK
  case body =>
    rintro l pre ⟨x1, x2⟩ W ⟨⟨h1, h2, h3, h4⟩, hbW⟩ hlen
    have ht : ∀ l : Bs, (⟨l.toArray⟩ : ByteArray).toList = l := fun l => by rw [Lib.toList_data]
    have k1 := h1.1
    have k2 := h2.1
    have f2 := h2.2
    have k3 := h3.1
    have f3 := h3.2
    have HB : Hid (Below w.heap.size w W ∧ Kc W (w.heap.size + 1) (.string ⟨s.toArray⟩) ∧ Kc W (w.heap.size + 1 + 1) (.int .i64 0) ∧ Kc W (w.heap.size + 1 + 1 + 1) (.bool false)) := ⟨hbW, h1, h2, h3⟩
    clear HSEQ hbW h1 h2 h3 hk1 hk2 hk3 hk4 hk5
    by_cases hx : x1 = s
    · have hxb : (x1 == s) = true := by simpa using hx
      gi_wp2
      exact ⟨(KeepsOthers.setCell _ _ _).trans (KeepsOthers.setCell _ _ _), ⟨rfl, pre, (x1, x2), rfl, hx, h4, (HB.out.2.2.1.set _).other (by omega) _, (HB.out.2.2.2.other (by omega) _).set _⟩, (HB.out.1.setCell (p := ⟨w.heap.size + 1 + 1, 0, none⟩) (by show w.heap.size ≤ w.heap.size + 1 + 1; omega) _).setCell (p := ⟨w.heap.size + 1 + 1 + 1, 0, none⟩) (by show w.heap.size ≤ w.heap.size + 1 + 1 + 1; omega) _⟩
    · have hxb : (x1 == s) = false := by simpa using hx
      gi_wp2
      exact ⟨KeepsOthers.refl _, Below.refl _ _, ⟨HB.out.2.1, HB.out.2.2.1, HB.out.2.2.2, fun y hy => by
        rcases List.mem_append.1 hy with hy | hy
        · exact h4 y hy
        · simp at hy; subst hy; exact hx⟩, HB.out.1⟩
  case done =>
    rintro D ys W hD hys ⟨⟨h1, h2, h3, h4⟩, hbW⟩ hK
    have k2 := h2.1
    have f2 := h2.2
    have k3 := h3.1
    have f3 := h3.2
    have HFV : Hid (findV (memL ns ks) s = .tuple #[.int .i64 0, .bool false]) := by rw [← hys]; exact findL_none h4
    have HR : Hid (Kc ((W.setCell ⟨w.heap.size + 1 + 1, 0, none⟩ (.int .i64 0)).setCell ⟨w.heap.size + 1 + 1 + 1, 0, none⟩ (.bool false)) (w.heap.size + 1 + 1) (.int .i64 0) ∧ Kc ((W.setCell ⟨w.heap.size + 1 + 1, 0, none⟩ (.int .i64 0)).setCell ⟨w.heap.size + 1 + 1 + 1, 0, none⟩ (.bool false)) (w.heap.size + 1 + 1 + 1) (.bool false)) :=
      ⟨(h2.set _).other (by omega) _, (h3.other (by omega) _).set _⟩
    have HB9 : Hid (Below w.heap.size w ((W.setCell ⟨w.heap.size + 1 + 1, 0, none⟩ (.int .i64 0)).setCell ⟨w.heap.size + 1 + 1 + 1, 0, none⟩ (.bool false))) := (hbW.setCell (p := ⟨w.heap.size + 1 + 1, 0, none⟩) (by show w.heap.size ≤ w.heap.size + 1 + 1; omega) _).setCell (p := ⟨w.heap.size + 1 + 1 + 1, 0, none⟩) (by show w.heap.size ≤ w.heap.size + 1 + 1 + 1; omega) _
    have hK' := ((KeepsOthers.setCell W ⟨w.heap.size + 1 + 1, 0, none⟩ (.int .i64 0)).trans (KeepsOthers.setCell _ ⟨w.heap.size + 1 + 1 + 1, 0, none⟩ (.bool false))).same D _ hK rfl
    have HK : Hid (((W.setCell ⟨w.heap.size + 1 + 1, 0, none⟩ (.int .i64 0)).setCell ⟨w.heap.size + 1 + 1 + 1, 0, none⟩ (.bool false)).heap[D]? = some (.deferred (some [])) ∧ w6.heap.size ≤ D) := ⟨hK', hD⟩
    clear hK' hK hD hys h4 hbW HSEQ hk1 hk2 hk3 hk4 hk5 h1 h2 h3
    gi_wp2
    refine ⟨by simp, .inl ⟨_, _, rfl, run_takeDeferred HK.out.1, ?_⟩⟩
    have hc5 := cell_kept HR.out.1.1 (grownBy_putObj' _ D (.deferred none)) (fun r e => by cases e; exact ⟨_, HK.out.1, rfl⟩)
    have hc6 := cell_kept HR.out.2.1 (grownBy_putObj' _ D (.deferred none)) (fun r e => by cases e; exact ⟨_, HK.out.1, rfl⟩)
    refine ⟨.tuple #[.int .i64 0, .bool false], ?_, by rw [HFV.out], HB9.out.trans (belowK_b (w := w) (Nat.le_refl _) _ D _ _ (by have := HK.out.2; omega) HK.out.1 rfl rfl)⟩
    simp [results, Tryd.f28, go_sem, hc5, hc6]
  case stop =>
    rintro D c pre W hD hpre ⟨⟨rfl, q, x, rfl, hx, hq, h2, h3⟩, hbW⟩ hK
    have HFV : Hid (findV (memL ns ks) s = .tuple #[.int .i64 x.2, .bool true]) := findL_some hpre hq hx
    clear HSEQ hk1 hk2 hk3 hk4 hk5
    gi_wp2
    refine ⟨by simp, .inl ⟨_, _, rfl, run_takeDeferred hK, ?_⟩⟩
    have hc5 := cell_kept h2.1 (grownBy_putObj' _ D (.deferred none)) (fun r e => by cases e; exact ⟨_, hK, rfl⟩)
    have hc6 := cell_kept h3.1 (grownBy_putObj' _ D (.deferred none)) (fun r e => by cases e; exact ⟨_, hK, rfl⟩)
    refine ⟨.tuple #[.int .i64 x.2, .bool true], ?_, by rw [HFV.out], hbW.trans (belowK_b (w := w) (Nat.le_refl _) _ D _ _ (by omega) hK rfl rfl)⟩
    simp [results, Tryd.f28, go_sem, hc5, hc6]
end Go.Proofs.YtbobgebhdafciabDoor
