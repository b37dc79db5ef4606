/-
  The document's reader of JSON: group.
-/
import Derived.Test.YtbobgebhdafciabDoorJR9
import Derived.Test.YtbobgebhdafciabDoorJK
import Derived.Deep.CutRange
import Derived.Deep.CutBlock
namespace Go.Proofs.YtbobgebhdafciabDoor
open Go.Shelf Go.RowKit
set_option linter.unusedVariables false
set_option linter.unusedSimpArgs false

/-- What value does. -/
def ValOut (f g o : Nat) (B ys : Bs) (nv : Value) (hs : List Hd) (ns : List Nd) (w : World) (e : Ending) (w' : World) : Prop :=
  ∃ (nv' : Value) (hs' : List Hd) (ns' : List Nd) (k : Nat), e = .returned (.int .i64 k) ∧ VK g w w' nv nv' hs hs' ns ns' ∧
    ((∃ new zs, valS f o ns.length ys = .ok (new, zs) ∧ k = ns.length ∧ ns' = ns ++ new ∧ Dr w' g B zs o nv' 0 ∧ zs.length ≤ ys.length ∧ ns'.length ≤ 256) ∨ (∃ c zs, valS f o ns.length ys = .error c ∧ 0 < c ∧ c < 100 ∧ Dr w' g B zs o nv' c))
def DVal (f : Nat) : Prop := ∀ (g : Nat) (B ys : Bs) (o : Nat) (nv : Value) (hs : List Hd) (ns : List Nd) (w : World), Dr w g B ys o nv 0 → Nodes w (g + 1) nv hs ns → Tabs w → Gl g → 2 * ys.length + 1 ≤ f → o ≤ 8 → ns.length ≤ 256 →
  Calls Tryd.prog 21 #[.pointer (some ⟨g, 0, none⟩)] w (ValOut f g o B ys nv hs ns w)
/-- What group does. -/
def GrpOut (f g o kind : Nat) (close : UInt8) (B ys : Bs) (nv : Value) (hs : List Hd) (ns : List Nd) (w : World) (e : Ending) (w' : World) : Prop :=
  ∃ (nv' : Value) (hs' : List Hd) (ns' : List Nd) (h : Hd) (n : Nd), e = .returned (.agg h.cells.toArray) ∧ VK g w w' nv nv' hs hs' ns ns' ∧ Rep w' (g + 1) h n ∧ Fresh w.heap.size h ∧ (∀ (i : Nat) (k : Hd), hs'[i]? = some k → Apart h k) ∧
    ((∃ news zs, grpS f o (ns.length - 1) kind close ys = .ok (n :: news, zs) ∧ ns' = ns ++ news ∧ Dr w' g B zs o nv' 0 ∧ zs.length ≤ ys.length ∧ ns'.length ≤ 256) ∨ (∃ c zs, grpS f o (ns.length - 1) kind close ys = .error c ∧ 0 < c ∧ c < 100 ∧ Dr w' g B zs o nv' c))

/-- Inside a group. -/
structure GI (g : Nat) (B : Bs) (w0 W : World) (nv : Value) (hs : List Hd) (ns : List Nd) (b : Nat) (nv' : Value) (hs' : List Hd) (ns' : List Nd) (h : Hd) (n : Nd) (zs : Bs) (o cd : Nat) : Prop where
  vk : VK g w0 W nv nv' hs hs' ns ns'
  nw : NW W g nv' hs' b h n
  fr : Fresh w0.heap.size h
  dr : Dr W g B zs o nv' cd
theorem GI.dn {g : Nat} {B : Bs} {w0 W W' : World} {nv : Value} {hs : List Hd} {ns : List Nd} {b : Nat} {nv' : Value} {hs' : List Hd} {ns' : List Nd} {h : Hd} {n : Nd} {zs ys : Bs} {o o' cd cd' : Nat} (r : GI g B w0 W nv hs ns b nv' hs' ns' h n zs o cd) (S : DN W W' g B ys o' nv' cd') : GI g B w0 W' nv hs ns b nv' hs' ns' h n ys o' cd' :=
  ⟨r.vk.trans (VK.but r.vk.nodes S.but), r.nw.but S.but, r.fr, S.dr⟩
theorem Dr.setDeep {w : World} {g : Nat} {B ys : Bs} {d : Nat} {nv : Value} {c : Nat} (h : Dr w g B ys d nv c) (d' : Nat) : Dr (w.setCell ⟨g, 2, none⟩ (.int .i64 d')) g B ys d' nv c := by
  obtain ⟨pre, p, k, h0, h1, h2, h3⟩ := h
  exact ⟨pre, p, k, h0, h1.setDeep d', h2.keep (fun j hj => Below.heap_setCell _ _ _ _ (by show j ≠ g; omega)), h3⟩
theorem DN.setDeep {w W : World} {g : Nat} {B ys : Bs} {d : Nat} {nv : Value} {c : Nat} (h : DN w W g B ys d nv c) (d' : Nat) : DN w (W.setCell ⟨g, 2, none⟩ (.int .i64 d')) g B ys d' nv c := ⟨h.but.trans (But.setCell g W 2 _), h.dr.setDeep d'⟩
theorem Dr.deepc {w : World} {g : Nat} {B ys : Bs} {d : Nat} {nv : Value} {c : Nat} (h : Dr w g B ys d nv c) : w.cell? ⟨g, 2, none⟩ = some (.int .i64 d) ∧ w.frozen? ⟨g, 2, none⟩ = false := by
  obtain ⟨pre, p, k, h0, h1, h2, h3⟩ := h
  exact ⟨h1.deep, h1.frozen 2⟩
theorem Dr.codec {w : World} {g : Nat} {B ys : Bs} {d : Nat} {nv : Value} {c : Nat} (h : Dr w g B ys d nv c) : w.cell? ⟨g, 4, none⟩ = some (.int .i64 c) := by
  obtain ⟨pre, p, k, h0, h1, h2, h3⟩ := h
  exact h1.code
/-- One byte on. -/
theorem Dr.one {w : World} {g : Nat} {B ys : Bs} {cc : UInt8} {d : Nat} {nv : Value} {c : Nat} (h : Dr w g B (cc :: ys) d nv c) : ∃ a : Nat, w.cell? ⟨g, 1, none⟩ = some (.int .i64 a) ∧ w.frozen? ⟨g, 1, none⟩ = false ∧ (a : Int) ≤ 4096 ∧ Dr (w.setCell ⟨g, 1, none⟩ (.int .i64 ((a : Int) + 1))) g B ys d nv c := by
  obtain ⟨pre, p, k, h0, h1, h2, h3⟩ := h
  refine ⟨pre.length, h1.pos, h1.frozen 1, ?_, Dr.step (mid := [cc]) h0 rfl h1 h2 h3 _ (by simp)⟩
  rw [h0, List.length_append] at h3
  omega
theorem zeroRep (w : World) (base kind : Nat) : Rep w base ⟨kind, [], .slice none 0 0, .slice none 0 0⟩ ⟨kind, [], [], []⟩ := ⟨rfl, rfl, World.ownsRow_nil w base _ 1, World.ownsRow_nil w base _ 1⟩
theorem zeroFresh (m kind : Nat) (t : Bs) : Fresh m ⟨kind, t, .slice none 0 0, .slice none 0 0⟩ := ⟨fun q e => (by cases e), fun q e => (by cases e)⟩
theorem zeroApart (kind : Nat) (t : Bs) (k : Hd) : Apart ⟨kind, t, .slice none 0 0, .slice none 0 0⟩ k := ⟨fun q e => (by cases e), fun q e => (by cases e)⟩
/-- A new node beside the list. -/
theorem NW.new {w : World} {g : Nat} {nv : Value} {hs : List Hd} {ns : List Nd} (hN : Nodes w (g + 1) nv hs ns) (hg : g < w.heap.size) (kind : Nat) (W : World) (hW : W.heap[w.heap.size]? = some (.cells #[.int .u8 kind, .string ⟨#[]⟩, .slice none 0 0, .slice none 0 0] 38 (0, 0))) : NW W g nv hs w.heap.size ⟨kind, [], .slice none 0 0, .slice none 0 0⟩ ⟨kind, [], [], []⟩ :=
  ⟨hW, hg, fun e => by have := (owns_lt hN.row e.symm).2.1; omega, zeroRep _ _ _, fun i k _ => zeroApart _ _ k⟩

theorem sizeNode : (Tryd.prog.info? 38).map (·.size) = some 4 := by kernel_rfl
/-- The node's kind is set. -/
theorem GI.setKind {g : Nat} {B : Bs} {w0 W : World} {nv : Value} {hs : List Hd} {ns : List Nd} {b : Nat} {nv' : Value} {hs' : List Hd} {ns' : List Nd} {k : Nat} {zs : Bs} {o cd : Nat} (r : GI g B w0 W nv hs ns b nv' hs' ns' ⟨k, [], .slice none 0 0, .slice none 0 0⟩ ⟨k, [], [], []⟩ zs o cd) (hb : w0.heap.size ≤ b) (k' : Nat) : GI g B w0 (W.setCell ⟨b, 0, none⟩ (.int .u8 (k' : Int))) nv hs ns b nv' hs' ns' ⟨k', [], .slice none 0 0, .slice none 0 0⟩ ⟨k', [], [], []⟩ zs o cd := by
  have hbg := r.nw.bg
  have ok : OK1 b (.slice none 0 0) W (W.setCell ⟨b, 0, none⟩ (.int .u8 (k' : Int))) := ⟨rfl, rfl, rfl, by simp [World.setCell], fun q _ hq _ => Below.heap_setCell W ⟨b, 0, none⟩ _ q hq⟩
  refine ⟨r.vk.own r.nw hb (.inl rfl) (fun q e => by cases e) ok, ⟨?_, hbg, r.nw.bn, zeroRep _ _ _, fun i k _ => zeroApart _ _ k⟩, zeroFresh _ _ _, r.dr.keep ⟨rfl, rfl, rfl, by simp [World.setCell], fun q hq => Below.heap_setCell W ⟨b, 0, none⟩ _ q (by show q ≠ b; omega)⟩⟩
  rw [heap_set_at W b 0 _ _ _ _ r.nw.at_]
  rfl
theorem put4_at {w : World} {q : Nat} {h : Hd} {a b c d : Value} (hq : w.heap[q]? = some (.cells #[a, b, c, d] 38 (0, 0))) : (put4 w q 0 h).heap[q]? = some (.cells h.cells.toArray 38 (0, 0)) := by
  unfold put4
  have h1 := heap_set_at w q (0 * 4) (.int .u8 h.kind) _ _ _ hq
  have h2 := heap_set_at _ q (0 * 4 + 1) (.string ⟨h.text.toArray⟩) _ _ _ h1
  have h3 := heap_set_at _ q (0 * 4 + 2) h.nm _ _ _ h2
  have h4 := heap_set_at _ q (0 * 4 + 3) h.ks _ _ _ h3
  rw [h4]
  rfl
/-- The answer's place, as it was at the start. -/
theorem GI.place {g : Nat} {B : Bs} {w w0 W : World} {nv : Value} {hs : List Hd} {ns : List Nd} {b r0 : Nat} {nv' : Value} {hs' : List Hd} {ns' : List Nd} {h : Hd} {n : Nd} {zs : Bs} {o cd : Nat} (r : GI g B w0 W nv hs ns b nv' hs' ns' h n zs o cd) (hN : Nodes w (g + 1) nv hs ns) (hg : g < w.heap.size) (hr : w.heap.size = r0) (hb : w0.heap.size = r0 + 1) (h0 : w0.heap[r0]? = some (.cells #[.int .u8 0, .string ⟨#[]⟩, .slice none 0 0, .slice none 0 0] 38 (0, 0))) :
    NW W g nv' hs' r0 ⟨0, [], .slice none 0 0, .slice none 0 0⟩ ⟨0, [], [], []⟩ := by
  have hne : some r0 ≠ nv.ownBlock := fun e => by have := (owns_lt hN.row e.symm).2.1; omega
  refine ⟨(r.vk.block r0 (by omega) (by omega) hne).trans h0, by omega, fun e => ?_, zeroRep _ _ _, fun i k _ => zeroApart _ _ k⟩
  rcases r.vk.at_ with e1 | ⟨q, e1, hq⟩
  · exact hne (e.trans e1)
  · rw [e1] at e; cases e; omega
/-- The answer is laid. -/
theorem GI.done {g : Nat} {B : Bs} {w w0 W : World} {nv : Value} {hs : List Hd} {ns : List Nd} {b r0 : Nat} {nv' : Value} {hs' : List Hd} {ns' : List Nd} {h : Hd} {n : Nd} {zs : Bs} {o cd : Nat} (r : GI g B w0 W nv hs ns b nv' hs' ns' h n zs o cd) (hN : Nodes w (g + 1) nv hs ns) (hv : VK g w w0 nv nv hs hs ns ns) (hg : g < w.heap.size) (hr : w.heap.size = r0) (hb : w0.heap.size = r0 + 1) (h0 : w0.heap[r0]? = some (.cells #[.int .u8 0, .string ⟨#[]⟩, .slice none 0 0, .slice none 0 0] 38 (0, 0))) :
    VK g w (put4 W r0 0 h) nv nv' hs hs' ns ns' ∧ Rep (put4 W r0 0 h) (g + 1) h n ∧ Fresh w.heap.size h ∧ (∀ (i : Nat) (k : Hd), hs'[i]? = some k → Apart h k) ∧ Dr (put4 W r0 0 h) g B zs o nv' cd ∧ (put4 W r0 0 h).heap[r0]? = some (.cells h.cells.toArray 38 (0, 0)) := by
  have p := r.place hN hg hr hb h0
  have ok : OK1 r0 (.slice none 0 0) W (put4 W r0 0 h) := ⟨rfl, rfl, rfl, by rw [put4_size]; exact Nat.le_refl _, fun q _ hq _ => put4_other W r0 0 h q hq⟩
  have keep : ∀ {e : TypeId} {v : Value} {m : Nat} {xs : List Value}, e ≠ 38 → W.ownsRow (g + 1) e 1 v m xs → (put4 W r0 0 h).ownsRow (g + 1) e 1 v m xs := fun he ho => owns_keep ho (fun q hq => put4_other W r0 0 h q (fun e => by
    obtain ⟨_, _, c, hc⟩ := owns_lt ho hq
    rw [e, p.at_] at hc
    injection hc with h1
    injection h1 with _ h2
    exact he h2.symm))
  refine ⟨(hv.trans r.vk).own p (by omega) (.inl rfl) (fun q e => by cases e) ok, ⟨r.nw.rep.kind, r.nw.rep.text, keep (by decide) r.nw.rep.names, keep (by decide) r.nw.rep.kids⟩, r.fr.mono (by omega), r.nw.apart, r.dr.keep ⟨rfl, rfl, rfl, by rw [put4_size]; exact Nat.le_refl _, fun q hq => put4_other W r0 0 h q (by omega)⟩, put4_at p.at_⟩

/-- How many bytes are left while there is no fault. -/
def lvl (g n : Nat) (w : World) : Nat := match w.cell? ⟨g, 4, none⟩ with
  | some (.int _ 0) => leftN g n w + 1
  | _ => 0
theorem lvl_ok {w : World} {g : Nat} {B ys : Bs} {d : Nat} {nv : Value} (h : Dr w g B ys d nv 0) : lvl g B.length w = ys.length + 1 := by
  unfold lvl
  rw [h.codec]
  show leftN g B.length w + 1 = _
  rw [leftN_eq h]
theorem lvl_bad {w : World} {g : Nat} {B ys : Bs} {d : Nat} {nv : Value} {c : Nat} (h : Dr w g B ys d nv c) (hc : 0 < c) : lvl g B.length w = 0 := by
  unfold lvl
  rw [h.codec]
  split
  next h1 => injection h1 with h2; injection h2 with _ h3; omega
  next => rfl

theorem nameS_one {names N' : List Bs} {xs zs : Bs} (h : nameS names xs = .ok (N', zs)) : N'.length = names.length + 1 := by
  unfold nameS at h
  split at h
  · cases h
  · split at h
    · cases h
    · split at h
      · cases h
      · cases h; simp
theorem tk_close {close : UInt8} {xs vs : Bs} (hc : close ≠ 44) (h : tk [close] xs = some vs) : tk [44] xs = none := by
  have := tk_some h
  subst this
  unfold tk
  rw [if_neg]
  intro e
  simp at e
  exact hc e.symm
theorem GI.kid {g : Nat} {B : Bs} {w0 W W1 w1 : World} {nv : Value} {hs : List Hd} {ns : List Nd} {b : Nat} {nv' : Value} {hs' : List Hd} {ns' : List Nd} {h : Hd} {n : Nd} {zs : Bs} {o cd : Nat} (r : GI g B w0 W nv hs ns b nv' hs' ns' h n zs o cd) (hb0 : w0.heap.size ≤ b) (hb : Below W.heap.size W W1) (k : Nat) (v' : Value)
    (hown : w1.ownsRow (g + 1) 3 1 v' (n.kids.length + 1) (ints n.kids ++ [.int .i64 (k : Int)])) (hgrow : W1.grownBy w1 h.ks.ownBlock) (hat : v'.ownBlock = h.ks.ownBlock ∨ v'.ownBlock = some W1.heap.size) :
    GI g B w0 (w1.setCell ⟨b, 3, none⟩ v') nv hs ns b nv' hs' ns' { h with ks := v' } { n with kids := n.kids ++ [k] } zs o cd := by
  have V1 : VK g w0 W1 nv nv' hs hs' ns ns' := r.vk.trans (VK.but r.vk.nodes (But.ofBelow hb))
  have N1 := r.nw.but (But.ofBelow (g := g) hb)
  have ok := OK1.of (b := b) (j := 3) (v' := v') hgrow
  have hbg := r.nw.bg
  have hgl := r.dr.lt
  refine ⟨V1.own N1 hb0 (.inr rfl) r.fr.2 ok, N1.kid V1.nodes k v' hown hgrow hat, ⟨r.fr.1, fun q hq => ?_⟩, ?_⟩
  · rcases hat with e | e
    · exact r.fr.2 q (e.symm.trans hq)
    · have := e.symm.trans hq; cases this; exact V1.size
  · refine r.dr.keep ⟨ok.os.trans hb.os, ok.tape.trans hb.tape, ok.output.trans hb.output, Nat.le_trans hb.size ok.size, fun q hq => (ok.block q (Nat.lt_of_lt_of_le (by omega) hb.size) (by omega) (fun e => ?_)).trans (hb.block q (by omega))⟩
    have := (owns_lt N1.rep.kids e.symm).1
    omega

set_option maxRecDepth 100000 in
set_option maxHeartbeats 8000000 in
/-- group. -/
theorem dGroup (f : Nat) (IH : ∀ f', f' < f → DVal f') (kind : Nat) (cc close : UInt8) (hk : (kind = 1 ∧ cc = 123 ∧ close = 125) ∨ (kind = 2 ∧ cc = 91 ∧ close = 93)) (g : Nat) (B ys : Bs) (o : Nat) (nv : Value) (hs : List Hd) (ns : List Nd) (w : World)
    (hD : Dr w g B (cc :: ys) o nv 0) (hN : Nodes w (g + 1) nv hs ns) (hT : Tabs w) (hG : Gl g) (hf : 2 * ys.length + 2 ≤ f) (ho : o ≤ 8) (hn : ns.length ≤ 256) (hn1 : 1 ≤ ns.length) :
    Calls Tryd.prog 36 #[.pointer (some ⟨g, 0, none⟩)] w (GrpOut f g o kind close B ys nv hs ns w) := by
  have hgl := hD.lt
  obtain ⟨w0, hw0⟩ : ∃ w0, w.alloc (.cells #[.int .u8 0, .string ⟨#[]⟩, .slice none 0 0, .slice none 0 0] 38) = w0 := ⟨_, rfl⟩
  obtain ⟨w1, hw1⟩ : ∃ w1, w0.alloc (.cells #[.int .u8 2, .string ⟨#[]⟩, .slice none 0 0, .slice none 0 0] 38) = w1 := ⟨_, rfl⟩
  obtain ⟨r0, hr0⟩ : ∃ r0, w.heap.size = r0 := ⟨_, rfl⟩
  obtain ⟨b, hb⟩ : ∃ b, w0.heap.size = b := ⟨_, rfl⟩
  have hbr : b = r0 + 1 := by rw [← hb, ← hr0, ← hw0]; simp
  have b01 : Below w.heap.size w w0 := by rw [← hw0]; exact below_one w _
  have b12 : Below w0.heap.size w0 w1 := by rw [← hw1]; exact below_one w0 _
  have b02 : Below w.heap.size w w1 := b01.trans (b12.mono b01.size)
  have N0 := hN.but' (But.ofBelow (g := g) b01)
  have D1 := hD.below b02
  have HR0 : Hid (w0.heap[r0]? = some (.cells #[.int .u8 0, .string ⟨#[]⟩, .slice none 0 0, .slice none 0 0] 38 (0, 0))) := by show _ = _; rw [← hw0, ← hr0]; exact alloc_new _ _
  have NW1 : NW w1 g nv hs b ⟨2, [], .slice none 0 0, .slice none 0 0⟩ ⟨2, [], [], []⟩ := by
    rw [← hb]
    exact NW.new N0 (by have := b01.size; omega) 2 w1 (by rw [← hw1]; exact alloc_new _ _)
  have V1 : VK g w0 w1 nv nv hs hs ns ns := VK.but N0 (But.ofBelow b12)
  have G1 : GI g B w0 w1 nv hs ns b nv hs ns ⟨2, [], .slice none 0 0, .slice none 0 0⟩ ⟨2, [], [], []⟩ (cc :: ys) o 0 := ⟨V1, NW1, zeroFresh _ _ _, D1⟩
  have HV0 : Hid (VK g w w0 nv nv hs hs ns ns ∧ Nodes w (g + 1) nv hs ns ∧ Tabs w ∧ Gl g ∧ w.heap.size = r0 ∧ w0.heap.size = b ∧ Nodes w0 (g + 1) nv hs ns) := ⟨VK.but hN (But.ofBelow b01), hN, hT, hG, hr0, hb, N0⟩
  have HW : Hid (w.alloc (.cells #[.int .u8 0, .string ⟨#[]⟩, .slice none 0 0, .slice none 0 0] 38) = w0 ∧ w0.alloc (.cells #[.int .u8 2, .string ⟨#[]⟩, .slice none 0 0, .slice none 0 0] 38) = w1 ∧ w.heap.size = r0 ∧ b = r0 + 1) := ⟨hw0, hw1, hr0, hbr⟩
  clear N0 D1 NW1 V1 b01 b12 b02 hD hN hT hG hw0 hw1 hr0 hb hbr
  go_enter Tryd.func36, Tryd.ntmps36
  go_wp2_with fail
  rw [HW.out.1, HW.out.2.1, HW.out.2.2.1, ← HW.out.2.2.2]
  refine ((DN.start G1.dr).is 123).mono ?_
  rintro e w2 ⟨rfl, S2⟩
  have G2 := G1.dn S2
  have HBB : Hid (w0.heap.size ≤ b) := by show _ ≤ _; rw [HV0.out.2.2.2.2.2.1]; exact Nat.le_refl _
  have cb0 : w2.cell? ⟨b, 0, none⟩ = some (.int .u8 (2 : Nat)) := G2.nw.cell 0
  have fb0 := G2.nw.frozen 0
  clear G1 S2
  go_upto_if 8 with fail
  go_cut [4] from 6 (fun s4 wc => s4 = .int .u8 close.toNat ∧ GI g B w0 wc nv hs ns b nv hs ns ⟨kind, [], .slice none 0 0, .slice none 0 0⟩ ⟨kind, [], [], []⟩ (cc :: ys) o 0)
  case first =>
    rcases hk with ⟨rfl, rfl, rfl⟩ | ⟨rfl, rfl, rfl⟩
    · have hq : [(123 : UInt8)].isPrefixOf (123 :: ys) = true := by simp
      rw [hq]
      go_wp2_with fail
      go_meet
      case rel => exact ⟨rfl, G2.setKind HBB.out 1⟩
    · have hq : [(123 : UInt8)].isPrefixOf (91 :: ys) = false := rfl
      rw [hq]
      go_wp2_with fail
      go_meet
      case rel => exact ⟨rfl, G2⟩
  case rest =>
  obtain ⟨rfl, G3⟩ := hcut
  clear G2 cb0 fb0
  have HDONE : Hid (∀ (W : World) (nv' : Value) (hs' : List Hd) (ns' : List Nd) (h : Hd) (n : Nd) (zs : Bs) (o cd : Nat), GI g B w0 W nv hs ns b nv' hs' ns' h n zs o cd → VK g w (put4 W r0 0 h) nv nv' hs hs' ns ns' ∧ Rep (put4 W r0 0 h) (g + 1) h n ∧ Fresh w.heap.size h ∧ (∀ (i : Nat) (k : Hd), hs'[i]? = some k → Apart h k) ∧ Dr (put4 W r0 0 h) g B zs o nv' cd ∧ (put4 W r0 0 h).heap[r0]? = some (.cells h.cells.toArray 38 (0, 0))) :=
    fun W nv' hs' ns' h n zs o cd r => r.done HV0.out.2.1 HV0.out.1 hgl HV0.out.2.2.2.2.1 (by rw [HV0.out.2.2.2.2.2.1]; exact HW.out.2.2.2) HR0.out
  have HPL : Hid (∀ (W : World) (nv' : Value) (hs' : List Hd) (ns' : List Nd) (h : Hd) (n : Nd) (zs : Bs) (o cd : Nat), GI g B w0 W nv hs ns b nv' hs' ns' h n zs o cd → NW W g nv' hs' r0 ⟨0, [], .slice none 0 0, .slice none 0 0⟩ ⟨0, [], [], []⟩) :=
    fun W nv' hs' ns' h n zs o cd r => r.place HV0.out.2.1 hgl HV0.out.2.2.2.2.1 (by rw [HV0.out.2.2.2.2.2.1]; exact HW.out.2.2.2) HR0.out
  have e2 := G3.dr.deepc.1
  have f2 := G3.dr.deepc.2
  have hob : (o : Int) ≤ 8 := by omega
  by_cases q8 : o = 8
  · have q8' : ((o : Int) == 8) = true := by simp; omega
    have HQ8 : Hid (o = 8) := q8
    clear q8
    --<done
    go_wp2_with fail
    go_at_call 23
    refine ((DN.start G3.dr).bad 13).mono ?_
    rintro e w4 ⟨rfl, S4⟩
    have G4 := G3.dn S4
    have P4 := HPL.out _ _ _ _ _ _ _ _ _ G4
    have c0 := G4.nw.cell 0
    have c1 := G4.nw.cell 1
    have c2 := G4.nw.cell 2
    have c3 := G4.nw.cell 3
    have d0 := P4.cell 0
    have d1 := P4.cell 1
    have d2 := P4.cell 2
    have d3 := P4.cell 3
    have x0 := P4.frozen 0
    have x1 := P4.frozen 1
    have x2 := P4.frozen 2
    have x3 := P4.frozen 3
    simp only [Hd.cells, List.getElem?_cons_zero, List.getElem?_cons_succ] at c0 c1 c2 c3 d0 d1 d2 d3
    clear P4 S4 G3 e2 f2
    go_wp2_with fail
    have h9 := HDONE.out _ _ _ _ _ _ _ _ _ G4
    (try simp only [Exit.inBlock, Exit.then])
    refine bodyPost_ret (v := .agg (Hd.cells ⟨kind, [], .slice none 0 0, .slice none 0 0⟩).toArray) (results_cell_row rfl _ _ r0 38 _ (0, 0) _ rfl h9.2.2.2.2.2 Tryd.underlying38 rfl sizeNode) rfl ?_
    refine ⟨nv, hs, ns, _, _, rfl, h9.1, h9.2.1, h9.2.2.1, h9.2.2.2.1, .inr ⟨13, _, ?_, by decide, by decide, h9.2.2.2.2.1⟩⟩
    rw [grpS_eq, if_pos HQ8.out]
    --done>
  · have q8' : ((o : Int) == 8) = false := by simp; omega
    have hob7 : (o : Int) ≤ 7 := by omega
    clear q8 hob
    have HQ8 : Hid (¬ o = 8) := by show ¬ _; omega
    go_upto_region 9 with fail
    go_cut [] from 6 (fun wc => GI g B w0 wc nv hs ns b nv hs ns ⟨kind, [], .slice none 0 0, .slice none 0 0⟩ ⟨kind, [], [], []⟩ (cc :: ys) (o + 1) 0)
    case first =>
      --<done
      go_wp2_with fail
      go_meet
      case rel => exact G3.dn ((DN.start G3.dr).setDeep (o + 1))
      --done>
    case rest =>
    clear G3 e2 f2
    obtain ⟨a, ea, fa, hab, D5⟩ := hcut.dr.one
    have G4 := hcut
    clear hcut
    go_upto_region 10 with fail
    go_cut [] from 6 (fun wc => GI g B w0 wc nv hs ns b nv hs ns ⟨kind, [], .slice none 0 0, .slice none 0 0⟩ ⟨kind, [], [], []⟩ ys (o + 1) 0)
    case first =>
      --<done
      go_wp2_with fail
      go_meet
      case rel => exact G4.dn ⟨But.setCell g _ 1 _, D5⟩
      --done>
    case rest =>
    have G5 := hcut
    clear hcut G4 D5 ea fa hab
    go_wp2_with fail
    go_at_call 22
    refine (DN.start G5.dr).blank.mono ?_
    rintro e w6 ⟨rfl, S6⟩
    have G6 := G5.dn S6
    clear G5 S6
    go_wp2_with fail
    go_at_call 35
    refine ((DN.start G6.dr).is close).mono ?_
    rintro e w7 ⟨rfl, S7⟩
    have G7 := G6.dn S7
    clear G6 S7
    have HGR : Hid (grpS f o (ns.length - 1) kind close ys = match tk [close] (bl ys) with | some ys => .ok ([⟨kind, [], [], []⟩], ys) | none => pcsS f (o + 1) (ns.length - 1) kind close [] [] [] (bl ys)) := by
      show _ = _
      rw [grpS_eq, if_neg HQ8.out]
      rfl
    cases hq : [close].isPrefixOf (bl ys)
    case true =>
      obtain ⟨zs, hzs⟩ := pre1 hq
      rw [hzs] at G7
      have HZ : Hid (bl ys = close :: zs) := hzs
      clear hq hzs
      obtain ⟨a, ea, fa, hab, D8⟩ := G7.dr.one
      go_upto_region 13 with fail
      go_cut [] from 6 (fun wc => GI g B w0 wc nv hs ns b nv hs ns ⟨kind, [], .slice none 0 0, .slice none 0 0⟩ ⟨kind, [], [], []⟩ zs (o + 1) 0)
      case first =>
        --<done
        go_wp2_with fail
        go_meet
        case rel => exact G7.dn ⟨But.setCell g _ 1 _, D8⟩
        --done>
      case rest =>
      have G8 := hcut
      clear hcut G7 D8 ea fa hab
      have e2 : wc.cell? ⟨g, 2, none⟩ = some (.int .i64 ((o : Int) + 1)) := G8.dr.deepc.1
      have f2 := G8.dr.deepc.2
      have hoo : (o : Int) + 1 - 1 = (o : Int) := by omega
      go_upto_region 14 with fail
      go_cut [] from 6 (fun wc => GI g B w0 wc nv hs ns b nv hs ns ⟨kind, [], .slice none 0 0, .slice none 0 0⟩ ⟨kind, [], [], []⟩ zs o 0)
      case first =>
        --<done
        go_wp2_with fail
        go_meet
        case rel => exact G8.dn ((DN.start G8.dr).setDeep o)
        --done>
      case rest =>
      have G9 := hcut
      clear hcut G8 e2 f2 hoo
      --<done
      have P4 := HPL.out _ _ _ _ _ _ _ _ _ G9
      have c0 := G9.nw.cell 0
      have c1 := G9.nw.cell 1
      have c2 := G9.nw.cell 2
      have c3 := G9.nw.cell 3
      have d0 := P4.cell 0
      have d1 := P4.cell 1
      have d2 := P4.cell 2
      have d3 := P4.cell 3
      have x0 := P4.frozen 0
      have x1 := P4.frozen 1
      have x2 := P4.frozen 2
      have x3 := P4.frozen 3
      simp only [Hd.cells, List.getElem?_cons_zero, List.getElem?_cons_succ] at c0 c1 c2 c3 d0 d1 d2 d3
      clear P4
      go_wp2_with fail
      have h9 := HDONE.out _ _ _ _ _ _ _ _ _ G9
      (try simp only [Exit.inBlock, Exit.then])
      refine bodyPost_ret (v := .agg (Hd.cells ⟨kind, [], .slice none 0 0, .slice none 0 0⟩).toArray) (results_cell_row rfl _ _ r0 38 _ (0, 0) _ rfl h9.2.2.2.2.2 Tryd.underlying38 rfl sizeNode) rfl ?_
      have htk : tk [close] (bl ys) = some zs := by rw [HZ.out]; unfold tk; simp
      refine ⟨nv, hs, ns, _, _, rfl, h9.1, h9.2.1, h9.2.2.1, h9.2.2.2.1, .inl ⟨[], zs, ?_, by simp, h9.2.2.2.2.1, ?_, hn⟩⟩
      · rw [HGR.out, htk]
      · have h1 := tk_len htk
        have h2 := bl_len ys
        simp at h1
        omega
      --done>
    case false =>
    have htk : tk [close] (bl ys) = none := by unfold tk; rw [if_neg (by rw [hq]; decide)]
    have HG2 : Hid (grpS f o (ns.length - 1) kind close ys = pcsS f (o + 1) (ns.length - 1) kind close [] [] [] (bl ys)) := by show _ = _; rw [HGR.out, htk]
    clear HGR htk hq
    obtain ⟨c0, hc0⟩ : ∃ c0, ns.length - 1 = c0 := ⟨_, rfl⟩
    have HC0 : Hid (ns.length = c0 + 1 ∧ ns.length - 1 = c0) := ⟨by omega, hc0⟩
    rw [hc0] at HG2
    obtain ⟨P0, hP0⟩ : ∃ P, pcsS f (o + 1) c0 kind close [] [] [] (bl ys) = P := ⟨_, rfl⟩
    rw [hP0] at HG2
    have HP0 : Hid (pcsS f (o + 1) c0 kind close [] [] [] (bl ys) = P0) := hP0
    have HBY : Hid ((bl ys).length ≤ ys.length) := bl_len ys
    clear hc0 hP0
    go_upto_block 0 with fail
    go_cut [5] from 6 (fun _ wc => ∃ (nv' : Value) (hs' : List Hd) (ns' : List Nd) (h : Hd) (n : Nd) (zs : Bs) (cd : Nat), GI g B w0 wc nv hs ns b nv' hs' ns' h n zs (o + 1) cd ∧ Hid ((cd = 0 ∧ ∃ news, P0 = .ok (n :: news, zs) ∧ ns' = ns ++ news ∧ zs.length ≤ ys.length ∧ ns'.length ≤ 256) ∨ (0 < cd ∧ cd < 100 ∧ P0 = .error cd)))
    case first =>
      go_wp2_with fail
      go_loopw [5] (fun _ wr => ∃ (nv' : Value) (hs' : List Hd) (ns' : List Nd) (h : Hd) (names : List Bs) (kids : List Nat) (news : List Nd) (zs : Bs) (f' cd : Nat), GI g B w0 wr nv hs ns b nv' hs' ns' h ⟨kind, [], names, kids⟩ zs (o + 1) cd ∧ Hid ((cd = 0 ∧ P0 = pcsS f' (o + 1) c0 kind close names kids news zs ∧ 2 * zs.length + 2 ≤ f' ∧ f' ≤ f ∧ ns' = ns ++ news ∧ zs.length ≤ ys.length ∧ ns'.length ≤ 256 ∧ kids.length ≤ news.length ∧ names.length ≤ kids.length) ∨ (0 < cd ∧ cd < 100 ∧ P0 = .error cd))) (fun _ wr => lvl g B.length wr)
      case atStart =>
        refine ⟨nv, hs, ns, _, [], [], [], bl ys, f, 0, G7, .inl ⟨rfl, HP0.out.symm, ?_, Nat.le_refl _, by simp, HBY.out, hn, by simp, by simp⟩⟩
        have := HBY.out
        omega
      case round =>
        obtain ⟨nv', hs', ns', h, names, kids, news, zs, f', cd, GR, HI⟩ := hrel
        clear G7
        have e4 := GR.dr.codec
        by_cases hcd : cd = 0
        case neg =>
          have hcd' : ((cd : Int) == 0) = false := by simp; omega
          have HCD : Hid (0 < cd ∧ cd < 100 ∧ P0 = .error cd) := by
            rcases HI.out with ⟨h1, _⟩ | h1
            · exact absurd h1 hcd
            · exact h1
          clear hcd
          --<done
          go_wp2_with fail
          go_meet
          case rel => exact ⟨nv', hs', ns', h, _, zs, cd, GR, .inr HCD.out⟩
          --done>
        case pos =>
        subst hcd
        have HCI : Hid (P0 = pcsS f' (o + 1) c0 kind close names kids news zs ∧ 2 * zs.length + 2 ≤ f' ∧ f' ≤ f ∧ ns' = ns ++ news ∧ zs.length ≤ ys.length ∧ ns'.length ≤ 256 ∧ kids.length ≤ news.length ∧ names.length ≤ kids.length) := by
          rcases HI.out with ⟨_, h1⟩ | ⟨h1, _⟩
          · exact h1
          · omega
        have HLV : Hid (lvl g B.length wr = zs.length + 1) := lvl_ok GR.dr
        have e4' : wr.cell? ⟨g, 4, none⟩ = some (.int .i64 0) := e4
        have cb0 : wr.cell? ⟨b, 0, none⟩ = some (.int .u8 kind) := by rw [GR.nw.cell 0]; show some (Value.int .u8 (h.kind : Int)) = _; rw [GR.nw.rep.kind]
        clear HI e4
        obtain ⟨f'', rfl⟩ : ∃ f'', f' = f'' + 1 := ⟨f' - 1, by have := HCI.out.2.1; omega⟩
        have HTB : Hid (∀ (W : World) (nv' : Value) (hs' : List Hd) (ns' : List Nd) (h : Hd) (n : Nd) (zs : Bs) (o cd : Nat), GI g B w0 W nv hs ns b nv' hs' ns' h n zs o cd → Tabs W) :=
          fun W nv' hs' ns' h n zs o cd r => HV0.out.2.2.1.low HV0.out.2.2.2.1 ((HV0.out.1.trans r.vk).below HV0.out.2.1 hgl)
        go_upto_if 63 with fail
        go_cut [] from 56 to 101 (fun wc => ∃ (h1 : Hd) (names1 : List Bs) (us : Bs) (cd : Nat), GI g B w0 wc nv hs ns b nv' hs' ns' h1 ⟨kind, [], names1, kids⟩ us (o + 1) cd ∧ Hid ((cd = 0 ∧ aheadS kind names zs = .ok (names1, us) ∧ us.length ≤ zs.length ∧ names1.length ≤ kids.length + 1) ∨ (0 < cd ∧ cd < 100 ∧ aheadS kind names zs = .error cd)))
        case first =>
          --<done
          rcases hk with ⟨rfl, rfl, rfl⟩ | ⟨rfl, rfl, rfl⟩
          · go_wp2_with fail
            go_at_call 49
            refine (dName g b B zs (o + 1) nv' hs' ns' h ⟨1, [], names, kids⟩ wr GR.dr GR.vk GR.nw HBB.out GR.fr (HTB.out _ _ _ _ _ _ _ _ _ GR) HV0.out.2.2.2.1 (by have h1 := HCI.out; have h2 := h1.2.2.2.2.2.1; rw [h1.2.2.2.1, List.length_append] at h2; show names.length ≤ 256; omega)).mono ?_
            rintro e w4 ⟨rfl, h1, N1, V4, N4, F4, (⟨us, m1, D4, hl4⟩ | ⟨c, us, m1, c1, c2, D4⟩)⟩
            · go_wp2_with fail
              go_meet
              case rel =>
                refine ⟨h1, N1, us, 0, ⟨V4, N4, F4, D4⟩, .inl ⟨rfl, by unfold aheadS; rw [if_pos rfl]; exact m1, by omega, ?_⟩⟩
                rw [nameS_one m1]
                have := HCI.out.2.2.2.2.2.2.2
                show names.length + 1 ≤ _
                omega
            · go_wp2_with fail
              go_meet
              case rel => exact ⟨h1, N1, us, c, ⟨V4, N4, F4, D4⟩, .inr ⟨c1, c2, by unfold aheadS; rw [if_pos rfl]; exact m1⟩⟩
          · go_wp2_with fail
            go_meet
            case rel => exact ⟨h, names, zs, 0, GR, .inl ⟨rfl, rfl, Nat.le_refl _, by have := HCI.out.2.2.2.2.2.2.2; omega⟩⟩
          --done>
        case rest =>
        obtain ⟨h1, names1, us, cd, G1, HA⟩ := hcut
        clear GR cb0 e4'
        have e4 := G1.dr.codec
        by_cases hcd : cd = 0
        case neg =>
          have hcd' : ((cd : Int) == 0) = false := by simp; omega
          have HCD : Hid (0 < cd ∧ cd < 100 ∧ P0 = .error cd) := by
            rcases HA.out with ⟨h1, _⟩ | h1
            · exact absurd h1 hcd
            · refine ⟨h1.1, h1.2.1, ?_⟩
              rw [HCI.out.1, pcsS_succ, h1.2.2]
          clear hcd
          --<done
          go_wp2_with fail
          go_meet
          case rel => exact ⟨nv', hs', ns', h1, _, us, cd, G1, .inr HCD.out⟩
          --done>
        case pos =>
        subst hcd
        have HA2 : Hid (aheadS kind names zs = .ok (names1, us) ∧ us.length ≤ zs.length ∧ names1.length ≤ kids.length + 1) := by
          rcases HA.out with ⟨_, h1⟩ | ⟨h1, _⟩
          · exact h1
          · omega
        have e4' : wc.cell? ⟨g, 4, none⟩ = some (.int .i64 0) := e4
        clear HA e4
        have HV := IH f'' (by have := HCI.out.2.2.1; omega) g B us (o + 1) nv' hs' ns' wc G1.dr G1.vk.nodes (HTB.out _ _ _ _ _ _ _ _ _ G1) HV0.out.2.2.2.1 (by have h1 := HCI.out.2.1; have h2 := HA2.out.2.1; omega) (by omega) HCI.out.2.2.2.2.2.1
        go_wp2_with fail
        go_at_call 21
        refine HV.mono ?_
        clear HV
        rintro e w8 ⟨nv2, hs2, ns2, k, rfl, V8, hO⟩
        obtain ⟨zs2, cd2, D8, HO⟩ : ∃ (zs2 : Bs) (cd2 : Nat), Dr w8 g B zs2 (o + 1) nv2 cd2 ∧ Hid ((cd2 = 0 ∧ ∃ new, valS f'' (o + 1) ns'.length us = .ok (new, zs2) ∧ k = ns'.length ∧ ns2 = ns' ++ new ∧ zs2.length ≤ us.length ∧ ns2.length ≤ 256) ∨ (0 < cd2 ∧ cd2 < 100 ∧ valS f'' (o + 1) ns'.length us = .error cd2)) := by
          rcases hO with ⟨new, z, h1, h2, h3, h4, h5, h6⟩ | ⟨c, z, h1, h2, h3, h4⟩
          · exact ⟨z, 0, h4, .inl ⟨rfl, new, h1, h2, h3, h5, h6⟩⟩
          · exact ⟨z, c, h4, .inr ⟨h2, h3, h1⟩⟩
        have G8 : GI g B w0 w8 nv hs ns b nv2 hs2 ns2 h1 ⟨kind, [], names1, kids⟩ zs2 (o + 1) cd2 := ⟨G1.vk.trans V8, G1.nw.vk G1.vk.nodes V8, G1.fr, D8⟩
        clear G1 V8 hO D8 e4'
        obtain ⟨kk, hkk⟩ : ∃ kk, kids.length = kk := ⟨_, rfl⟩
        obtain ⟨p, cK, hks⟩ : ∃ p c, h1.ks = .slice p kk c := by
          rw [← hkk]
          rcases G8.nw.rep.kids.2 with ⟨e, h0⟩ | ⟨q, cap, cur, e, _⟩
          · exact ⟨none, 0, by rw [e, show kids.length = 0 from h0]⟩
          · exact ⟨_, _, e⟩
        have c3 : w8.cell? ⟨b, 3, none⟩ = some (.slice p kk cK) := by rw [G8.nw.cell 3, ← hks]; rfl
        have f3 := G8.nw.frozen 3
        have hbl := G8.nw.lt
        have hg8 := G8.dr.lt
        have hr := G8.nw.rep.kids
        rw [hks, show (Nd.kids ⟨kind, [], names1, kids⟩).length = kk from hkk] at hr
        have hneB : some b ≠ (Value.slice p kk cK).ownBlock := by rw [← hks]; exact G8.nw.bks
        have hkb : kk ≤ 256 := by have h1 := HCI.out; have h2 := h1.2.2.2.2.2.1; rw [h1.2.2.2.1, List.length_append] at h2; omega
        have HD : Hid (∀ (w1 : World) (g' cap' : Nat), w1.ownsRow (g + 1) 3 1 (.slice (some ⟨g', 0, none⟩) (kk + 1) cap') (kk + 1) (ints kids ++ [.int .i64 (k : Int)]) → (w8.alloc (.cells #[.int .i64 (k : Int)] 3)).grownBy w1 (Value.slice p kk cK).ownBlock → ((Value.slice p kk cK).ownBlock = some g' ∨ g' = w8.heap.size + 1) →
            GI g B w0 (w1.setCell ⟨b, 3, none⟩ (.slice (some ⟨g', 0, none⟩) (kk + 1) cap')) nv hs ns b nv2 hs2 ns2 { h1 with ks := .slice (some ⟨g', 0, none⟩) (kk + 1) cap' } ⟨kind, [], names1, kids ++ [k]⟩ zs2 (o + 1) cd2) := by
          intro w1 g' cap' o1 gr at1
          refine G8.kid HBB.out (below_one w8 (.cells #[.int .i64 (k : Int)] 3)) k _ (by rw [show (Nd.kids ⟨kind, [], names1, kids⟩).length = kk from hkk]; exact o1) (by rw [hks]; exact gr) ?_
          rw [hks]
          rcases at1 with e | e
          · exact .inl e.symm
          · right; rw [e]; simp [Value.ownBlock]
        obtain ⟨i0, hi0, hz0, hz1, hz2⟩ := info_parts infoInt
        have HPP : Hid (kk + 1 ≤ maxLen ∧ (kk + 1) * 8 ≤ 140737488355328 ∧ g + 1 ≤ (w8.alloc (.cells #[.int .i64 (k : Int)] 3)).heap.size ∧ (w8.alloc (.cells #[.int .i64 (k : Int)] 3)).heap.size = w8.heap.size + 1 ∧ b < (w8.alloc (.cells #[.int .i64 (k : Int)] 3)).heap.size ∧ (w8.alloc (.cells #[.int .i64 (k : Int)] 3)).cell? ⟨b, 3, none⟩ = some (.slice p kk cK) ∧ (w8.alloc (.cells #[.int .i64 (k : Int)] 3)).frozen? ⟨b, 3, none⟩ = false) :=
          ⟨by unfold maxLen; omega, by omega, by simp; omega, by simp, by simp; omega, more_cell _ c3, more_frozen _ c3 f3⟩
        have HOO : Hid ((w8.alloc (.cells #[.int .i64 (k : Int)] 3)).ownsRow (g + 1) 3 1 (.slice p kk cK) kk (ints kids) ∧ (∀ u ∈ [Value.int .i64 (k : Int)], u.oneCell' = true) ∧ some b ≠ (Value.slice p kk cK).ownBlock) := ⟨hr.alloc _, by simp [Value.oneCell'], hneB⟩
        have HKK : Hid (kids.length = kk) := hkk
        clear G8 hks hkk hr hneB hkb hbl hg8
        go_upto_region 21 with fail
        go_cut [] from 56 to 101 (fun wc => ∃ h2 : Hd, GI g B w0 wc nv hs ns b nv2 hs2 ns2 h2 ⟨kind, [], names1, kids ++ [k]⟩ zs2 (o + 1) cd2)
        case first =>
          --<done
          go_wp2_with (at_builtin; refine wpList_append_lies _ rfl (.tmp 74) (.tmp 76) 36 rfl (g + 1) 3 i0 (.int .i64 0) 1 8 Tryd.underlying36 hi0 hz0 hz1 hz2 rfl (by decide) (.slice p kk cK) kk (ints kids) rfl HOO.out.1 ⟨w8.heap.size, 0, none⟩ 1 1 [.int .i64 (k : Int)] rfl rfl (cell_one_new _ _ _) HOO.out.2.1 (by decide) HPP.out.1 HPP.out.2.1 HPP.out.2.2.1 (w8.heap.size + 1) HPP.out.2.2.2.1 ?_; intro g' cap' w5 o1 gr1 at1 lt1; have HGG : Hid (_ ∧ _ ∧ _) := ⟨o1, gr1, at1⟩; have c3'' := (gr1.cell_far ⟨b, 3, none⟩ HPP.out.2.2.2.2.1 HOO.out.2.2).trans HPP.out.2.2.2.2.2.1; have f3'' := (gr1.frozen_far ⟨b, 3, none⟩ HPP.out.2.2.2.2.1 HOO.out.2.2).trans HPP.out.2.2.2.2.2.2; clear o1 gr1 at1 lt1)
          go_meet
          case rel => exact ⟨_, HD.out _ _ _ HGG.out.1 HGG.out.2.1 HGG.out.2.2⟩
          --done>
        case rest =>
        obtain ⟨h2, G9⟩ := hcut
        clear HD HPP HOO c3 f3
        have e4 := G9.dr.codec
        have HNL : Hid (ns'.length = c0 + 1 + news.length) := by show _ = _; rw [HCI.out.2.2.2.1, List.length_append, HC0.out.1]
        by_cases hcd : cd2 = 0
        case neg =>
          have hcd' : ((cd2 : Int) == 0) = false := by simp; omega
          have HCD : Hid (0 < cd2 ∧ cd2 < 100 ∧ P0 = .error cd2) := by
            rcases HO.out with ⟨h1, _⟩ | h1
            · exact absurd h1 hcd
            · refine ⟨h1.1, h1.2.1, ?_⟩
              rw [HCI.out.1, pcsS_succ, HA2.out.1]
              simp only []
              rw [← HNL.out, h1.2.2]
          clear hcd
          --<done
          go_wp2_with fail
          go_meet
          case rel => exact ⟨nv2, hs2, ns2, h2, _, zs2, cd2, G9, .inr HCD.out⟩
          --done>
        case pos =>
        subst hcd
        obtain ⟨new, HV2⟩ : ∃ new, Hid (valS f'' (o + 1) ns'.length us = .ok (new, zs2) ∧ k = ns'.length ∧ ns2 = ns' ++ new ∧ zs2.length ≤ us.length ∧ ns2.length ≤ 256) := by
          rcases HO.out with ⟨_, new, h1⟩ | ⟨h1, _⟩
          · exact ⟨new, h1⟩
          · omega
        have e4' : wc.cell? ⟨g, 4, none⟩ = some (.int .i64 0) := e4
        clear HO e4
        have HPV : Hid (P0 = match tk [44] (bl zs2) with | some vs => pcsS f'' (o + 1) c0 kind close names1 (kids ++ [k]) (news ++ new) vs | none => match tk [close] (bl zs2) with | some vs => .ok (⟨kind, [], names1, kids ++ [k]⟩ :: (news ++ new), vs) | none => .error 11) := by
          show _ = _
          rw [HCI.out.1, pcsS_succ, HA2.out.1]
          simp only []
          rw [← HNL.out, HV2.out.1, HV2.out.2.1]
          rfl
        have HCL : Hid (close ≠ 44) := by
          rcases hk with ⟨_, _, rfl⟩ | ⟨_, _, rfl⟩
          · exact (by decide : (125 : UInt8) ≠ 44)
          · exact (by decide : (93 : UInt8) ≠ 44)
        go_wp2_with fail
        go_at_call 22
        refine (DN.start G9.dr).blank.mono ?_
        rintro e w10 ⟨rfl, S10⟩
        have G10 := G9.dn S10
        clear G9 S10 e4'
        go_wp2_with fail
        go_at_call 35
        refine ((DN.start G10.dr).is close).mono ?_
        rintro e w11 ⟨rfl, S11⟩
        have G11 := G10.dn S11
        clear G10 S11
        cases hq : [close].isPrefixOf (bl zs2)
        case true =>
          --<done
          obtain ⟨vs, hvs⟩ := pre1 hq
          rw [hvs] at G11
          obtain ⟨a, ea, fa, hab, D12⟩ := G11.dr.one
          have G12 := G11.dn ⟨But.setCell g _ 1 _, D12⟩
          have htk : tk [close] (bl zs2) = some vs := by rw [hvs]; unfold tk; simp
          have HEND : Hid (P0 = .ok (⟨kind, [], names1, kids ++ [k]⟩ :: (news ++ new), vs) ∧ ns2 = ns ++ (news ++ new) ∧ vs.length ≤ ys.length ∧ ns2.length ≤ 256) := by
            refine ⟨?_, ?_, ?_, HV2.out.2.2.2.2⟩
            · rw [HPV.out, tk_close HCL.out htk]
              simp only []
              rw [htk]
            · rw [HV2.out.2.2.1, HCI.out.2.2.2.1, List.append_assoc]
            · have t1 := tk_len htk
              have t2 := bl_len zs2
              have t3 := HV2.out.2.2.2.1
              have t4 := HA2.out.2.1
              have t5 := HCI.out.2.2.2.2.1
              simp at t1
              omega
          clear htk hq hvs G11 D12
          go_wp2_with fail
          go_meet
          case rel => exact ⟨nv2, hs2, ns2, h2, _, vs, 0, G12, .inl ⟨rfl, _, HEND.out⟩⟩
          --done>
        case false =>
        have htc : tk [close] (bl zs2) = none := by unfold tk; rw [if_neg (by rw [hq]; decide)]
        have HTC : Hid (tk [close] (bl zs2) = none) := htc
        clear htc hq
        go_wp2_with fail
        go_at_call 38
        refine ((DN.start G11.dr).word [44] (by decide) (by decide)).mono ?_
        rintro e w12 ⟨t12, y12, rfl, m12, S12⟩
        have G12 := G11.dn S12
        clear G11 S12
        cases t12
        · have htk : tk [44] (bl zs2) = none := by
            rcases m12 with ⟨e, _⟩ | ⟨_, e, _⟩
            · cases e
            · exact e
          have HER : Hid (P0 = .error 11) := by show _ = _; rw [HPV.out, htk]; simp only []; rw [HTC.out]
          clear htk m12
          go_wp2_with fail
          go_at_call 23
          refine ((DN.start G12.dr).bad 11).mono ?_
          rintro e w13 ⟨rfl, S13⟩
          have G13 := G12.dn S13
          clear G12 S13
          go_wp2_with fail
          refine ⟨⟨nv2, hs2, ns2, h2, names1, kids ++ [k], news ++ new, y12, f'', 11, G13, .inr ⟨by decide, by decide, HER.out⟩⟩, ?_⟩
          rw [lvl_bad G13.dr (by decide), HLV.out]
          omega
        · have htk : tk [44] (bl zs2) = some y12 := by
            rcases m12 with ⟨_, e⟩ | ⟨e, _⟩
            · exact e
            · cases e
          have HER : Hid (P0 = pcsS f'' (o + 1) c0 kind close names1 (kids ++ [k]) (news ++ new) y12) := by show _ = _; rw [HPV.out, htk]
          have HLN : Hid (y12.length < zs.length) := by
            have t1 := tk_len htk
            have t2 := bl_len zs2
            have t3 := HV2.out.2.2.2.1
            have t4 := HA2.out.2.1
            simp at t1
            show _ < _
            omega
          clear htk m12
          go_wp2_with fail
          refine ⟨⟨nv2, hs2, ns2, h2, names1, kids ++ [k], news ++ new, y12, f'', 0, G12, .inl ⟨rfl, HER.out, ?_, ?_, ?_, ?_, HV2.out.2.2.2.2, ?_, ?_⟩⟩, ?_⟩
          · have t1 := HCI.out.2.1
            have t2 := HLN.out
            omega
          · have t1 := HCI.out.2.2.1
            omega
          · rw [HV2.out.2.2.1, HCI.out.2.2.2.1, List.append_assoc]
          · have t1 := HCI.out.2.2.2.2.1
            have t2 := HLN.out
            omega
          · have t1 := valS_ne HV2.out.1
            have t2 := HCI.out.2.2.2.2.2.2.1
            simp
            omega
          · have t1 := HA2.out.2.2
            simp
            omega
          · rw [lvl_ok G12.dr, HLV.out]
            have t2 := HLN.out
            omega
    case rest =>
    clear G7
    obtain ⟨nv', hs', ns', ⟨kd, tx, vn, vk⟩, n, zs, cd, G8, HE⟩ := hcut
    obtain ⟨pN, lN, cN, rfl⟩ : ∃ p l c, vn = .slice p l c := by
      rcases G8.nw.rep.names.2 with ⟨e, _⟩ | ⟨q, cap, cur, e, _⟩
      · exact ⟨_, _, _, e⟩
      · exact ⟨_, _, _, e⟩
    obtain ⟨pK, lK, cK, rfl⟩ : ∃ p l c, vk = .slice p l c := by
      rcases G8.nw.rep.kids.2 with ⟨e, _⟩ | ⟨q, cap, cur, e, _⟩
      · exact ⟨_, _, _, e⟩
      · exact ⟨_, _, _, e⟩
    have e2 : wc.cell? ⟨g, 2, none⟩ = some (.int .i64 ((o : Int) + 1)) := G8.dr.deepc.1
    have f2 := G8.dr.deepc.2
    have hoo : (o : Int) + 1 - 1 = (o : Int) := by omega
    go_upto_region 28 with fail
    go_cut [] from 6 (fun wc => GI g B w0 wc nv hs ns b nv' hs' ns' ⟨kd, tx, .slice pN lN cN, .slice pK lK cK⟩ n zs o cd)
    case first =>
      --<done
      go_wp2_with fail
      go_meet
      case rel => exact G8.dn ((DN.start G8.dr).setDeep o)
      --done>
    case rest =>
    have G9 := hcut
    clear hcut G8 e2 f2 hoo
    have P4 := HPL.out _ _ _ _ _ _ _ _ _ G9
    have c0' := G9.nw.cell 0
    have c1 := G9.nw.cell 1
    have c2 := G9.nw.cell 2
    have c3 := G9.nw.cell 3
    have d0 := P4.cell 0
    have d1 := P4.cell 1
    have d2 := P4.cell 2
    have d3 := P4.cell 3
    have x0 := P4.frozen 0
    have x1 := P4.frozen 1
    have x2 := P4.frozen 2
    have x3 := P4.frozen 3
    simp only [Hd.cells, List.getElem?_cons_zero, List.getElem?_cons_succ] at c0' c1 c2 c3 d0 d1 d2 d3
    clear P4
    go_wp2_with fail
    have h9 := HDONE.out _ _ _ _ _ _ _ _ _ G9
    (try simp only [Exit.inBlock, Exit.then])
    refine bodyPost_ret (v := .agg (Hd.cells ⟨kd, tx, .slice pN lN cN, .slice pK lK cK⟩).toArray) (results_cell_row rfl _ _ r0 38 _ (0, 0) _ rfl h9.2.2.2.2.2 Tryd.underlying38 rfl sizeNode) rfl ?_
    refine ⟨nv', hs', ns', _, n, rfl, h9.1, h9.2.1, h9.2.2.1, h9.2.2.2.1, ?_⟩
    rcases HE.out with ⟨rfl, news, m1, m2, m3, m4⟩ | ⟨m1, m2, m3⟩
    · exact .inl ⟨news, zs, by rw [HC0.out.2, HG2.out, m1], m2, h9.2.2.2.2.1, m3, m4⟩
    · exact .inr ⟨cd, zs, by rw [HC0.out.2, HG2.out, m3], m1, m2, h9.2.2.2.2.1⟩
end Go.Proofs.YtbobgebhdafciabDoor
