import Derived.Test.YtiblpcfkecalcabDoorK07
import Derived.Maps.OwnIn
/-
  The code's All and List.
-/
namespace Go.Proofs.YtiblpcfkecalcabDoor
open Go.Shelf Go.RowKit
set_option linter.unusedVariables false
set_option linter.unusedSimpArgs false
attribute [local go_sem] Oper.semAt_some

/-- A cell of the call's own, with what it holds. -/
def Kx (W : World) (b : Nat) (v : Value) : Prop := W.cell? ⟨b, 0, none⟩ = some v ∧ W.frozen? ⟨b, 0, none⟩ = false
theorem kx_new (W : World) (v : Value) (t : TypeId) : Kx (W.alloc (.cells #[v] t)) W.heap.size v := ⟨by simp, by simp⟩
theorem kx_block {W W' : World} {b : Nat} {v : Value} (h : Kx W b v) (hb : W'.heap[b]? = W.heap[b]?) : Kx W' b v := ⟨(World.cell?_of_block (w := W) hb).trans h.1, (World.frozen?_of_block (w := W) hb).trans h.2⟩
theorem kx_lt {W : World} {b : Nat} {v : Value} (h : Kx W b v) : b < W.heap.size := World.block_lt_of_cell? W _ h.1
theorem kx_below {W W' : World} {b : Nat} {v : Value} (h : Kx W b v) (hb : Below W.heap.size W W') : Kx W' b v := kx_block h (hb.block b (kx_lt h))
theorem kx_put {W : World} {b : Nat} {v : Value} (h : Kx W b v) {r : Nat} {o : Obj} (o' : Obj) (hr : W.heap[r]? = some o) (ho : o.isCells = false) : Kx (W.putObj r o') b v :=
  ⟨cell_kept h.1 (grownBy_putObj' W r o') (fun k e => by cases e; exact ⟨o, hr, ho⟩), (frozen_kept h.1 (grownBy_putObj' W r o') (fun k e => by cases e; exact ⟨o, hr, ho⟩)).trans h.2⟩
theorem kx_set {W : World} {b : Nat} {v : Value} (h : Kx W b v) (u : Value) : Kx (W.setCell ⟨b, 0, none⟩ u) b u := ⟨World.cell?_setCell_same _ _ _ h.1, by rw [World.frozen?_setCell]; exact h.2⟩
theorem kx_other {W : World} {b c : Nat} {v : Value} (h : Kx W b v) (hne : c ≠ b) (u : Value) : Kx (W.setCell ⟨c, 0, none⟩ u) b v := kx_block h (Below.heap_setCell _ _ _ _ (fun e => hne e.symm))
theorem ByV.put {W : World} {P : Nat → Prop} {p : Option Addr} {c : Nat} {l : Bs} (h : ByV W P p c l) {r : Nat} {o : Obj} (o' : Obj) (hr : W.heap[r]? = some o) (ho : o.isCells = false) : ByV (W.putObj r o') P p c l :=
  ⟨h.cap, h.big, fun h0 => by
    obtain ⟨b, f, e, hc⟩ := h.lies h0
    exact ⟨b, f, e, fun i hi => cell_kept (hc i hi) (grownBy_putObj' W r o') (fun k e => by cases e; exact ⟨o, hr, ho⟩)⟩, h.ok⟩
theorem owns_put {W : World} {base : Nat} {e : TypeId} {s : Nat} {v : Value} {n : Nat} {xs : List Value} (h : W.ownsRow base e s v n xs) {r : Nat} {o : Obj} (o' : Obj) (hr : W.heap[r]? = some o) (ho : o.isCells = false) : (W.putObj r o').ownsRow base e s v n xs :=
  owns_keep h (fun g hg => by
    have hne : g ≠ r := by
      rintro rfl
      obtain ⟨_, _, cur, hc⟩ := owns_lt h hg
      rw [hc] at hr
      cases hr
      cases ho
    exact (grownBy_putObj' W r o').block g (owns_lt h hg).2.1 (fun e => hne (by injection e)))
theorem seqD_take (bs : Bs) : seqD (bs.take 4097) = seqD bs := by
  by_cases h : bs.length ≤ 4097
  · rw [List.take_of_length_le h]
  have h1 : readD bs = .error 3 := by unfold readD; rw [if_pos (by omega)]
  have h2 : readD (bs.take 4097) = .error 3 := by unfold readD; rw [if_pos (by rw [List.length_take]; omega)]
  rw [seqD_err (by intro e; rw [e] at h; simp at h) h1, seqD_err (by intro e; have := congrArg List.length e; rw [List.length_take] at this; simp at this; rw [this] at h; simp at h) h2]
set_option maxRecDepth 100000 in
set_option maxHeartbeats 2000000 in
/-- All. -/
theorem all_any (p : Option Addr) (n c : Nat) (bs : Bs) (P : Nat → Prop) (w : World) (hn : bs.length = n) (h : ByV w P p c bs) :
    Calls Tryd.prog 27 #[.slice p n c] w fun e w' => Below w.heap.size w w' ∧ ∃ g p' L c' bs', e = .returned (.func (.func 40) #[] #[.pointer (some ⟨g, 0, none⟩)]) ∧ w'.cell? ⟨g, 0, none⟩ = some (.slice p' L c') ∧ w.heap.size ≤ g ∧ bs'.length = L ∧ L ≤ 4097 ∧ ByV w' (fun b => w.heap.size ≤ b) p' c' bs' ∧ seqD bs' = seqD bs := by
  have hmf : ∀ (fn : Fn) (first cap : Array Value) (w : World), (Instr.makeFunc fn first cap).run Tryd.prog w = .ok (.func fn first cap) w := fun _ _ _ _ => rfl
  have hcap := h.cap
  have hbig := h.big
  rw [hn] at hcap
  obtain ⟨m, hm⟩ : ∃ m, min n 4097 = m := ⟨_, rfl⟩
  have hmI : min (n : Int) 4097 = (m : Int) := by omega
  have hm1 : m ≤ n := by omega
  have hm2 : m ≤ 4097 := by omega
  have hmc : (m : Int) ≤ (c : Int) := by omega
  have hnI : (n : Int) ≤ 9223372036854775807 := by omega
  have hcI : (c : Int) ≤ 9223372036854775807 := by omega
  have hlen : (bs.take 4097).length = m := by rw [List.length_take, hn]; omega
  have hv : BAt w p m (bs.take 4097) := by
    have h1 := (h.take m (by omega)).lies
    have h2 : bs.take m = bs.take 4097 := by
      rw [List.take_eq_take_iff]
      omega
    rw [h2, hlen] at h1
    exact h1
  have HC := clone_any p m c (bs.take 4097) w hlen hv (by omega)
  have HH : Hid ((bs.take 4097).length = m ∧ m ≤ 4097) := ⟨hlen, hm2⟩
  clear hm hlen hv h hn
  go_enter Tryd.func27, Tryd.ntmps27
  go_wp2_with (go_at_call 31; refine HC.mono ?_; rintro e w1 ⟨hb1, p', c', rfl, hv1⟩)
  go_ret
  refine ⟨hb1.alloc hb1.size _, _, p', m, c', bs.take 4097, rfl, (kx_new _ _ _).1, hb1.size, HH.out.1, HH.out.2, hv1.keep (fun k _ hk => ((Below.refl w1.heap.size w1).alloc (Nat.le_refl _) _).block k hk), seqD_take bs⟩
/-- A piece appended, within a fence. -/
theorem wpListIn_append_pc {F : Fence} {nF : Nat} {w : World} {ops : Array Oper} {rest : List Oper} {o : Oper} {a : Act} {Q : Exit → Act → World → Prop} (hgd : o.guard = none) (s x : Operand)
    (ho : o.op = .call { callee := .builtin .append, args := #[s, x], argTypes := #[26, 26] }) (base : Nat) (v : Value) (hs : a.eval s = v) (old : List Pc) (m : Nat) (hown : w.ownsRow base 24 2 v m (cellsP old)) (ad : Addr) (c : Nat) (y : Pc) (hx : a.eval x = .slice (some ad) 1 c) (h0 : w.cell? (ad.add 0) = some (.int .u8 (y.t.toNat : Int))) (h1 : w.cell? (ad.add 1) = some (.slice y.p y.b.length y.c)) (hlen : m + 1 ≤ 1000000) (hbase : base ≤ w.heap.size)
    (h : ∀ v' w', w'.ownsRow base 24 2 v' (m + 1) (cellsP (old ++ [y])) → w.grownBy w' v.ownBlock → (v'.ownBlock = v.ownBlock ∨ v'.ownBlock = some w.heap.size) → wpListIn F nF Tryd.prog ops Q rest (a.put o.dst v') w') : wpListIn F nF Tryd.prog ops Q (o :: rest) a w := by
  obtain ⟨z, hz, hzs⟩ := infoTlv
  obtain ⟨i0, hi0, hz0, hz1, hz2⟩ := info_parts hz
  refine wpListIn_append_own_at (w := w) hgd s x _ ho base 24 i0 z 2 32 Tryd.underlying26 hi0 hz0 hz1 hz2 hzs (by decide) v m (cellsP old) hs hown ad 1 c (cellsP [y]) hx rfl ?_ (by intro u hu; simp [cellsP, Pc.cells] at hu; rcases hu with rfl | rfl <;> rfl) (by unfold maxLen; omega) (by omega) hbase ?_
  · intro j u hj
    match j with
    | 0 => simp [cellsP, Pc.cells] at hj; subst hj; exact h0
    | 1 => simp [cellsP, Pc.cells] at hj; subst hj; exact h1
    | j + 2 => simp [cellsP, Pc.cells] at hj
  · intro v' w' hown' hgr _ hat
    rw [cellsP_app] at hown'
    exact h v' w' hown' hgr hat
/-- Between two rounds of List. -/
structure LIv (w w6 : World) (pre : List Ye) (v : Value) (W : World) : Prop where
  r0 : Kx W w.heap.size (.slice none 0 0)
  r1 : Kx W (w.heap.size + 1) (.int .i64 0)
  r2 : Kx W (w.heap.size + 1 + 1) v
  own : W.ownsRow w6.heap.size 24 2 v pre.length (cellsP (pre.map Ye.pc))
  at_ : ∀ y ∈ pre, y.k = 0 ∧ ByV W (fun b => w6.heap.size ≤ b ∧ v.ownBlock ≠ some b) y.pc.p y.pc.c y.pc.b
  low : Below w.heap.size w W
  sz : w6.heap.size ≤ W.heap.size
  mid : ∀ k, w.heap.size + 1 + 1 + 1 ≤ k → k < w6.heap.size → W.heap[k]? = w6.heap[k]?
theorem LIv.below {w w6 : World} {pre : List Ye} {v : Value} {W W' : World} (h : LIv w w6 pre v W) (hb : Below W.heap.size W W') : LIv w w6 pre v W' :=
  ⟨kx_below h.r0 hb, kx_below h.r1 hb, kx_below h.r2 hb, owns_keep h.own (fun g hg => hb.block g (owns_lt h.own hg).2.1), fun y hy => ⟨(h.at_ y hy).1, (h.at_ y hy).2.keep (fun g _ hlt => hb.block g hlt)⟩, h.low.trans (hb.mono h.low.size), Nat.le_trans h.sz hb.size, fun k h1 h2 => (hb.block k (Nat.lt_of_lt_of_le h2 h.sz)).trans (h.mid k h1 h2)⟩
theorem LIv.put {w w6 : World} {pre : List Ye} {v : Value} {W : World} (h : LIv w w6 pre v W) {r : Nat} {o : Obj} (o' : Obj) (h6 : w.heap.size ≤ w6.heap.size) (hr6 : w6.heap.size ≤ r) (hr : W.heap[r]? = some o) (ho : o.isCells = false) : LIv w w6 pre v (W.putObj r o') :=
  ⟨kx_put h.r0 o' hr ho, kx_put h.r1 o' hr ho, kx_put h.r2 o' hr ho, owns_put h.own o' hr ho, fun y hy => ⟨(h.at_ y hy).1, (h.at_ y hy).2.put o' hr ho⟩,
    h.low.trans ⟨rfl, rfl, rfl, (grownBy_putObj' W r o').size, fun k hk => (grownBy_putObj' W r o').block k (by have := h.low.size; omega) (fun e => by injection e with e; omega)⟩, Nat.le_trans h.sz (grownBy_putObj' W r o').size, fun k h1 h2 => ((grownBy_putObj' W r o').block k (by have := h.sz; omega) (fun e => by injection e with e; omega)).trans (h.mid k h1 h2)⟩
theorem LIv.app {w w6 : World} {pre : List Ye} {v : Value} {W2 W3 : World} (h : LIv w w6 pre v W2) (o : Obj) (gr : (W2.alloc o).grownBy W3 v.ownBlock) {v3 : Value} {y : Ye} (o3 : W3.ownsRow w6.heap.size 24 2 v3 (pre.length + 1) (cellsP (pre.map Ye.pc ++ [y.pc]))) (hk : y.k = 0) (hy : ByV W2 (fun b => w6.heap.size ≤ b ∧ v.ownBlock ≠ some b) y.pc.p y.pc.c y.pc.b) (hv3 : v3.ownBlock = v.ownBlock ∨ v3.ownBlock = some (W2.alloc o).heap.size) (h6 : w.heap.size + 1 + 1 + 1 ≤ w6.heap.size) : LIv w w6 (pre ++ [y]) v3 (W3.setCell ⟨w.heap.size + 1 + 1, 0, none⟩ v3) := by
  have hsz := h.sz
  have haz := alloc_sz W2 o
  have low : ∀ k, k < W2.heap.size → v.ownBlock ≠ some k → W3.heap[k]? = W2.heap[k]? := fun k hk hne => (gr.block k (by omega) (fun e => hne e.symm)).trans (Below.heap_alloc _ _ _ hk)
  have hob : ∀ k, k < w6.heap.size → v.ownBlock ≠ some k := fun k hk e => by have := (owns_lt h.own e).1; omega
  have hgz := gr.size
  have st : ∀ k, k ≠ w.heap.size + 1 + 1 → (W3.setCell ⟨w.heap.size + 1 + 1, 0, none⟩ v3).heap[k]? = W3.heap[k]? := fun k hk => Below.heap_setCell _ _ _ _ hk
  have kz : ∀ u : Ye, ByV W2 (fun b => w6.heap.size ≤ b ∧ v.ownBlock ≠ some b) u.pc.p u.pc.c u.pc.b → ByV (W3.setCell ⟨w.heap.size + 1 + 1, 0, none⟩ v3) (fun b => w6.heap.size ≤ b ∧ v3.ownBlock ≠ some b) u.pc.p u.pc.c u.pc.b := fun u hu => by
    have h1 : ByV W2 (fun b => (w6.heap.size ≤ b ∧ v.ownBlock ≠ some b) ∧ b < W2.heap.size) u.pc.p u.pc.c u.pc.b := hu.mono (fun g hg hlt => ⟨hg, hlt⟩)
    refine (h1.keep (fun g hg hlt => (st g (by omega)).trans (low g hlt hg.1.2))).mono (fun g hg _ => ⟨hg.1.1, fun e => ?_⟩)
    rcases hv3 with e3 | e3
    · exact hg.1.2 (e3 ▸ e)
    · rw [e3] at e
      injection e with e
      omega
  refine ⟨kx_other (kx_block h.r0 (low _ (kx_lt h.r0) (hob _ (by omega)))) (by omega) _, kx_other (kx_block h.r1 (low _ (kx_lt h.r1) (hob _ (by omega)))) (by omega) _, kx_set (kx_block h.r2 (low _ (kx_lt h.r2) (hob _ (by omega)))) _, ?_, ?_, ?_, ?_, ?_⟩
  · rw [List.length_append, List.map_append]
    exact owns_keep o3 (fun g hg => st g (by have := (owns_lt o3 hg).1; omega))
  · intro u hu
    rcases List.mem_append.1 hu with hu | hu
    · exact ⟨(h.at_ u hu).1, kz u (h.at_ u hu).2⟩
    · simp at hu
      subst hu
      exact ⟨hk, kz u hy⟩
  · have hl := h.low.size
    exact h.low.trans ⟨gr.os, gr.tape, gr.output, by show _ ≤ (W3.heap.modify _ _).size; rw [Array.size_modify]; omega, fun k hk => (st k (by omega)).trans (low k (by omega) (hob k (by omega)))⟩
  · show _ ≤ (W3.heap.modify _ _).size
    rw [Array.size_modify]
    omega
  · intro k h1 h2
    exact (st k (by omega)).trans ((low k (by omega) (hob k h2)).trans (h.mid k h1 h2))
end Go.Proofs.YtiblpcfkecalcabDoor
