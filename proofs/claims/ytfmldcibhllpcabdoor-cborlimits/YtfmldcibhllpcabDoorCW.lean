/-
  The code's reader: kids.
-/
import Derived.Test.YtfmldcibhllpcabDoorCQ
import Derived.Defers
import Derived.Deep.Cut
import Derived.Deep.CutBlock
namespace Go.Proofs.YtfmldcibhllpcabDoor
open Go.Shelf Go.RowKit
set_option linter.unusedVariables false
set_option linter.unusedSimpArgs false

/-- A box of the call's own. -/
def CBx (w : World) (b : Nat) (t : TypeId) (v : Value) : Prop := w.heap[b]? = some (.cells #[v] t (0, 0))
theorem CBx.cell {w : World} {b : Nat} {t : TypeId} {v : Value} (h : CBx w b t v) : w.cell? ⟨b, 0, none⟩ = some v := by rw [cell_of_row w b 0 _ _ _ h]; rfl
theorem CBx.lt {w : World} {b : Nat} {t : TypeId} {v : Value} (h : CBx w b t v) : b < w.heap.size := (Array.getElem?_eq_some_iff.1 h).1
theorem CBx.same {w w' : World} {b : Nat} {t : TypeId} {v : Value} (h : CBx w b t v) (hb : w'.heap[b]? = w.heap[b]?) : CBx w' b t v := by unfold CBx; rw [hb]; exact h
/-- What kids answers. -/
def KidsPost (d g o : Nat) (w : World) (R : Except Nat (List It × Nat × Bs)) (e : Ending) (w' : World) : Prop :=
  But g w w' ∧ ((∃ (kids : List It) (t' : Nat) (ys : Bs) (q : Option Addr) (c' : Nat), R = .ok (kids, t', ys) ∧ e = .returned (.tuple #[.slice q kids.length c', .int .i64 0]) ∧ kids.length ≤ c' ∧ c' ≤ 9223372036854775807 ∧ KidsAt (ItOk w' (fun b => b < 0 ∨ w.heap.size ≤ b) d) w' (fun b => b < 0 ∨ w.heap.size ≤ b) q kids ∧ Cr w' g ys t' o)
    ∨ (∃ (k : Nat) (zs : Bs) (t' : Nat), R = .error k ∧ 0 < k ∧ k < 100 ∧ e = .returned (.tuple #[.slice none 0 0, .int .i64 (k : Int)]) ∧ Cr w' g zs t' o))

theorem KidsPost.okx {d g o : Nat} {w : World} {kids : List It} {t' : Nat} {ys : Bs} {e : Ending} {w' : World} (h : KidsPost d g o w (.ok (kids, t', ys)) e w') : But g w w' ∧ ∃ (q : Option Addr) (c' : Nat), e = .returned (.tuple #[.slice q kids.length c', .int .i64 0]) ∧ kids.length ≤ c' ∧ c' ≤ 9223372036854775807 ∧ KidsAt (ItOk w' (fun b => b < 0 ∨ w.heap.size ≤ b) d) w' (fun b => b < 0 ∨ w.heap.size ≤ b) q kids ∧ Cr w' g ys t' o := by
  obtain ⟨h1, (⟨kids', t1, ys', q, c', hR, e1, h2⟩ | ⟨k, zs, t1, hR, _⟩)⟩ := h
  · cases hR
    exact ⟨h1, q, c', e1, h2⟩
  · cases hR
theorem KidsPost.errx {d g o : Nat} {w : World} {k : Nat} {e : Ending} {w' : World} (h : KidsPost d g o w (.error k) e w') : But g w w' ∧ 0 < k ∧ k < 100 ∧ ∃ (zs : Bs) (t' : Nat), e = .returned (.tuple #[.slice none 0 0, .int .i64 (k : Int)]) ∧ Cr w' g zs t' o := by
  obtain ⟨h1, (⟨kids', t1, ys', q, c', hR, e1, h2⟩ | ⟨k', zs, t1, hR, h2, h3, h4, h5⟩)⟩ := h
  · cases hR
  · cases hR
    exact ⟨h1, h2, h3, zs, t1, h4, h5⟩
set_option maxHeartbeats 1000000 in
/-- The deferred function: an array or a map less is open. -/
theorem cshut_any (rb g : Nat) (bs : Bs) (t o : Nat) (u : FrameMode) (w : World) (hb : CBx w rb 59 (.pointer (some ⟨g, 0, none⟩))) (hr : Cr w g bs t (o + 1)) (ho : o ≤ 100) :
    CallsD Tryd.prog 39 #[.pointer (some ⟨rb, 0, none⟩)] u w fun e u' w' => u' = u ∧ (e = .returned (.tuple #[]) ∧ w' = w.setCell ⟨g, 2, none⟩ (.int .i64 (o : Int))) := by
  have c1 := hb.cell
  have c2 := hr.opn
  have f2 := hr.frz 2
  have e1 : ((o + 1 : Nat) : Int) = (o : Int) + 1 := by omega
  rw [e1] at c2
  have e2 : (o : Int) + 1 - 1 = (o : Int) := by omega
  have ho' : (o : Int) ≤ 100 := by omega
  go_enter_d Tryd.func39, Tryd.ntmps39
  go_wp2
  go_end0
  exact ⟨rfl, rfl⟩
/-- The state of the loop over kids. -/
structure KSt (pairs : Bool) (d g o n rb t : Nat) (bs : Bs) (w : World) (s0 : Nat) (j : Nat) (nv : Value) (wr : World) (css : List (List Value)) (kids : List It) (t' : Nat) (ys : Bs) : Prop where
  eq : pcsC (itemC d) pairs (o + 1) n none [] t bs = pcsC (itemC d) pairs (o + 1) (n - j) (if pairs then lastK kids else none) kids t' ys
  kl : Kl wr s0 g 0 d nv css kids
  len : kids.length = if pairs then 2 * j else j
  cr : Cr wr g ys t' (o + 1)
  but : But g w wr
  box : CBx wr rb 59 (.pointer (some ⟨g, 0, none⟩))
  cnt : kids.length + t ≤ t'
  top : t' ≤ 512
  less : ys.length ≤ 8192
  size : s0 ≤ wr.heap.size
theorem pcsC_one (item : Nat → Nat → Bs → Except Nat (It × Nat × Bs)) (within m : Nat) (last : Option It) (kids : List It) (t : Nat) (xs : Bs) : pcsC item false within (m + 1) last kids t xs = match item within t xs with
    | .error e => .error e
    | .ok (k, t1, ys) => pcsC item false within m none (kids ++ [k]) t1 ys := by
  rw [pcsC]
  cases item within t xs <;> rfl
theorem infoItem : (Tryd.prog.info? 29).map (fun i => (i.zero, i.size, i.bytes)) = some (some (.agg #[.int .u8 0, .int .u64 0, .slice none 0 0, .slice none 0 0]), 4, 64) := by kernel_rfl
theorem Cr.low {w w' : World} {g s0 : Nat} {bs : Bs} {t o : Nat} (h : Cr w g bs t o) (hb : ∀ k, k < s0 → w'.heap[k]? = w.heap[k]?) (hg : g < s0) : Cr w' g bs t o := by
  obtain ⟨p, c, h1, h2⟩ := h
  exact ⟨p, c, h1.same (hb g hg), h2.keep (fun k hk _ => hb k (by omega))⟩
theorem kidsAt_end {w w' : World} {g s0 s1 d : Nat} {q : Option Addr} {kids : List It} (h : KidsAt (ItOk w (fun b => b < 0 ∨ s0 ≤ b) d) w (fun b => b < 0 ∨ s0 ≤ b) q kids) (hb : But g w w') (hg : g < s0) (hs : s1 ≤ s0) : KidsAt (ItOk w' (fun b => b < 0 ∨ s1 ≤ b) d) w' (fun b => b < 0 ∨ s1 ≤ b) q kids := fun j k hj => by
  obtain ⟨b, o, e, hP, c0, c1, c2, c3, k0, k1, k2, k3, hr⟩ := h j k hj
  have hlt := World.block_lt_of_cell? w ⟨b, o + j * 4, none⟩ k0
  have hc : ∀ x v, w.cell? ⟨b, x, none⟩ = some v → w'.cell? ⟨b, x, none⟩ = some v := fun x v hv => by rw [← hv]; exact hb.cell (p := ⟨b, x, none⟩) hlt (by show b ≠ g; omega)
  exact ⟨b, o, e, by omega, c0, c1, c2, c3, hc _ _ k0, hc _ _ k1, hc _ _ k2, hc _ _ k3, (hr.keep (fun k hk hlt => hb.block k hlt (by omega))).mono (fun k hk _ => by omega)⟩
/-- A list's row, behind the reading of one more, with two blocks more; and what it is with that one put behind it. -/
theorem kids_push {w wr w4 : World} {s0 s1 g d : Nat} {nv : Value} {css : List (List Value)} {kids : List It} {c0 c1 c2 c3 : Value} {i : It} (hK : Kl wr s0 g 0 d nv css kids) (hb4 : But g wr w4) (hs : s0 = w.heap.size + 1) (hg : g < w.heap.size) (hsz : s0 ≤ wr.heap.size) (hi : ItOk w4 (fun b => b < 0 ∨ wr.heap.size ≤ b) d [c0, c1, c2, c3] i) :
    ∀ X Y : Obj, ((w4.alloc X).alloc Y).ownsRow s0 29 4 nv css.length css.flatten ∧ s0 ≤ ((w4.alloc X).alloc Y).heap.size ∧
      (∀ (gk ck : Nat) (w6 : World), w6.ownsRow s0 29 4 (.slice (some ⟨gk, 0, none⟩) (css.length + 1) ck) (css.length + 1) (css.flatten ++ [c0, c1, c2, c3]) → ((w4.alloc X).alloc Y).grownBy w6 nv.ownBlock → (nv.ownBlock = some gk ∨ gk = ((w4.alloc X).alloc Y).heap.size) →
        Kl w6 s0 g 0 d (.slice (some ⟨gk, 0, none⟩) (css.length + 1) ck) (css ++ [[c0, c1, c2, c3]]) (kids ++ [i]) ∧ (∀ k, k < wr.heap.size → k < s0 → k ≠ g → w6.heap[k]? = wr.heap[k]?) ∧ (But g w wr → But g w w6) ∧ (∀ k, k < s0 → w6.heap[k]? = w4.heap[k]?) ∧ s0 ≤ w6.heap.size) := by
  intro X Y
  have hbw : Below w4.heap.size w4 ((w4.alloc X).alloc Y) := ((Below.refl _ _).alloc (Nat.le_refl _) _).alloc (by rw [alloc_sz]; omega) _
  have hK4 : Kl w4 s0 g 0 d nv css kids := hK.keep (fun b hne hlt => hb4.block b hlt hne) (by omega)
  have hK5 : Kl ((w4.alloc X).alloc Y) s0 g 0 d nv css kids := hK4.keep (fun b hne hlt => hbw.block b hlt) (by omega)
  have hsz4 := hb4.size
  have hsz5 := hbw.size
  refine ⟨hK5.row, by omega, fun gk ck w6 own6 gr6 at6 => ?_⟩
  have hold : ∀ b, nv.ownBlock = some b → b < wr.heap.size := fun b hb => (owns_lt hK.row hb).2.1
  have hlow : ∀ k, k < s0 → w6.heap[k]? = w4.heap[k]? := fun k hk => (gr6.block k (by omega) (fun e => by have := (owns_lt hK.row e.symm).1; omega)).trans (hbw.block k (by omega))
  have h6 := gr6.size
  refine ⟨?_, fun k h1 h2 h3 => (hlow k h2).trans (hb4.block k h1 h3), fun hw => ⟨(gr6.os.trans (hbw.os.trans hb4.os)).trans hw.os, (gr6.tape.trans (hbw.tape.trans hb4.tape)).trans hw.tape, (gr6.output.trans (hbw.output.trans hb4.output)).trans hw.output, by have := hw.size; omega, fun k hk hne => ((hlow k (by omega)).trans (hb4.block k (by have := hw.size; omega) hne)).trans (hw.block k hk hne)⟩, hlow, by omega⟩
  exact hK5.push (s1 := wr.heap.size) [c0, c1, c2, c3] i (by omega) hsz hold (hi.below hbw) own6 gr6 (at6.elim (fun e => .inl e.symm) (fun e => .inr (by rw [e]; rfl)))
set_option maxRecDepth 100000 in
set_option maxHeartbeats 4000000 in
/-- kids, of an array. -/
theorem kids_arr (d : Nat) (HI : ItemOK d) (n g : Nat) (bs : Bs) (t o : Nat) (w : World) (h : Cr w g bs t o) (hG : Gl g) (hT : Tabs w) (hd : d + 1 + o = 8) (ht : t ≤ 512) (hl : bs.length ≤ 8192) (hn : n < 18446744073709551616) :
    Calls Tryd.prog 34 #[.pointer (some ⟨g, 0, none⟩), .int .u8 5, .int .u64 (n : Int)] w (KidsPost d g o w (pcsC (itemC d) false (o + 1) n none [] t bs)) := by
  have hmf : ∀ (fn : Fn) (first cap : Array Value) (w : World), (Instr.makeFunc fn first cap).run Tryd.prog w = .ok (.func fn first cap) w := fun _ _ _ _ => rfl
  have hg := h.lt
  obtain ⟨rb, hrb⟩ : ∃ rb, w.heap.size = rb := ⟨_, rfl⟩
  obtain ⟨W0, hW0⟩ : ∃ W0, w.alloc (.cells #[.pointer (some ⟨g, 0, none⟩)] 59) = W0 := ⟨_, rfl⟩
  have hb0 : Below w.heap.size w W0 := by rw [← hW0]; exact (Below.refl _ _).alloc (Nat.le_refl _) _
  have z0 : W0.heap.size = w.heap.size + 1 := by rw [← hW0]; exact alloc_sz w _
  have x0 : CBx W0 rb 59 (.pointer (some ⟨g, 0, none⟩)) := by unfold CBx; rw [← hW0, ← hrb]; exact heap_alloc_new _ _
  have r0 := h.below hb0
  have er := x0.cell
  have co := r0.opn
  have fo := r0.frz 2
  have hob : ((o : Int) == 8) = false := by simp; omega
  have hoI : (o : Int) ≤ 7 := by omega
  obtain ⟨W1, hW1⟩ : ∃ W1, W0.setCell ⟨g, 2, none⟩ (.int .i64 ((o + 1 : Nat) : Int)) = W1 := ⟨_, rfl⟩
  have eo : ((o + 1 : Nat) : Int) = (o : Int) + 1 := by omega
  have r1 : Cr W1 g bs t (o + 1) := by rw [← hW1]; exact r0.setOpen (o + 1)
  have b1 : But g W0 W1 := by rw [← hW1]; exact But.setCell g W0 2 _
  have x1 : CBx W1 rb 59 (.pointer (some ⟨g, 0, none⟩)) := x0.same (b1.block rb x0.lt (by omega))
  rw [eo] at hW1
  have e1 := x1.cell
  obtain ⟨s0, hs0⟩ : ∃ s0, W1.heap.size = s0 := ⟨_, rfl⟩
  have hsz : w.heap.size + 1 = s0 := by rw [← hs0, ← hW1]; simp [World.setCell]; omega
  have P0 : Hid <| KSt false d g o n rb t bs w s0 0 (.slice none 0 0) W1 [] [] t bs := ⟨rfl, Kl.nil _ _ _ _ _, rfl, r1, (But.ofBelow hb0).trans b1, x1, by simp, ht, hl, by omega⟩
  have hnI : (n : Int) < 18446744073709551616 := by omega
  have HW : Hid (s0 = w.heap.size + 1 ∧ w.heap.size = rb ∧ g < w.heap.size ∧ Tabs w) := ⟨hsz.symm, hrb, hg, hT⟩
  have F0 : Hid <| (CBx W1 rb 59 (.pointer (some ⟨g, 0, none⟩))) := x1
  clear x0 r0 r1 b1 x1 hb0 z0 h hT hg hsz hs0
  go_enter_defers Tryd.func34, Tryd.ntmps34
  go_wp2_with fail
  clear hW0 hW1 er co fo e1 hrb
  go_loopw [8, 27] (fun v8 v27 wr => ∃ (j : Nat) (css : List (List Value)) (kids : List It) (t' : Nat) (ys : Bs), v27 = .int .u64 (j : Int) ∧ j ≤ n ∧ KSt false d g o n rb t bs w s0 j v8 wr css kids t' ys) (fun _ v27 _ => n - (intOf v27).toNat)
  case atStart => exact ⟨0, [], [], t, bs, rfl, Nat.zero_le _, P0.out⟩
  case round =>
    obtain ⟨j, css, kids, t', ys, rfl, hj, P⟩ := hrel
    have x4 := P.box
    have e4 := x4.cell
    rcases Nat.lt_or_eq_of_le hj with hj | rfl
    · have hjI : (j : Int) < (n : Int) := by omega
      have hTr : Tabs wr := HW.out.2.2.2.cbut hG P.but HW.out.2.2.1
      have HH := HI g ys t' (o + 1) wr P.cr hG hTr (by omega) P.top P.less
      have heq := P.eq
      rw [show n - j = (n - (j + 1)) + 1 by omega, pcsC_one] at heq
      cases hR : itemC d (o + 1) t' ys with
      | error k =>
        obtain ⟨hk0, hk1⟩ := item_err d _ _ _ _ hR
        rw [hR] at HH heq
        simp only [] at heq
        have k0 : ((k : Int) != 0) = true := by simp; omega
        have HQ : Hid (pcsC (itemC d) false (o + 1) n none [] t bs = .error k ∧ But g w wr) := ⟨heq, P.but⟩
        clear heq P hR hTr
        go_wp2_with fail
        go_at_call 15
        refine HH.mono ?_
        intro e w4 hp
        obtain ⟨hb4, _, _, zs, t4, v0, v1, p1, n1, d1, p2, n2, d2, rfl, hr4⟩ := hp.errx
        have x5 := x4.same (hb4.block rb x4.lt (by have := HW.out; omega))
        clear hp HH
        go_wp2_with fail
        have b5 : Below w4.heap.size w4 (w4.alloc (.cells #[.int .u8 v0, .int .u64 v1, .slice p1 n1 d1, .slice p2 n2 d2] 29)) := (Below.refl _ _).alloc (Nat.le_refl _) _
        refine leaves_cons (f := 39) (args := #[.pointer (some ⟨rb, 0, none⟩)]) (by simp) (by simp [go_sem]) ?_
        refine (cshut_any rb g zs t4 o .returning _ (x5.same (b5.block rb x5.lt)) (hr4.below b5) (by omega)).mono ?_
        rintro e u' w'' ⟨rfl, rfl, rfl⟩
        exact ⟨_, results_tmp2 rfl _ _ _, ((HQ.out.2.trans hb4).trans (But.ofBelow b5)).trans (But.setCell g _ 2 _), .inr ⟨k, zs, t4, HQ.out.1, hk0, hk1, rfl, (hr4.below b5).setOpen o⟩⟩
      | ok r =>
        obtain ⟨i, t1, us⟩ := r
        obtain ⟨ct1, ct2, ct3⟩ := item_cnt d _ _ _ _ _ _ P.top hR
        rw [hR] at HH heq
        simp only [] at heq
        have HQ : Hid (pcsC (itemC d) false (o + 1) n none [] t bs = pcsC (itemC d) false (o + 1) (n - (j + 1)) none (kids ++ [i]) t1 us) := heq
        have HP : Hid (KSt false d g o n rb t bs w s0 j u8 wr css kids t' ys ∧ us.length < ys.length ∧ t' < t1 ∧ t1 ≤ 512) := ⟨P, ct3, ct1, ct2⟩
        clear heq P hR hTr ct1 ct2 ct3
        go_wp2_with fail
        go_at_call 15
        refine HH.mono ?_
        intro e w4 hp
        obtain ⟨hb4, p, c, q, c', rfl, hi, hr4⟩ := hp.okx
        have x5 := x4.same (hb4.block rb x4.lt (by have := HW.out; omega))
        clear hp HH
        obtain ⟨K0, hK0⟩ : ∃ K0 : Nat, i.kind = K0 := ⟨_, rfl⟩
        obtain ⟨N0, hN0⟩ : ∃ K0 : Nat, i.n = K0 := ⟨_, rfl⟩
        obtain ⟨L0, hL0⟩ : ∃ K0 : Nat, i.b.length = K0 := ⟨_, rfl⟩
        obtain ⟨M0, hM0⟩ : ∃ K0 : Nat, i.kids.length = K0 := ⟨_, rfl⟩
        rw [hK0, hN0, hL0, hM0] at hi ⊢
        have A := kids_push (s1 := wr.heap.size) HP.out.1.kl hb4 HW.out.1 HW.out.2.2.1 HP.out.1.size hi
        obtain ⟨i0, hi0, hz0, hz1, hz2⟩ := info_parts infoItem
        have hcl : css.length ≤ 512 := by have h1 := HP.out.1.kl.len; have h2 := HP.out.1.cnt; have h3 := HP.out.1.top; omega
        have HX : Hid (css.length + 1 ≤ maxLen ∧ (css.length + 1) * 64 ≤ 140737488355328) := ⟨by unfold maxLen; omega, by omega⟩
        obtain ⟨N, hN⟩ : ∃ N, css.length = N := ⟨_, rfl⟩
        rw [hN] at A HX
        clear hK0 hN0 hL0 hM0 hcl
        go_wp2_with (at_builtin; go_loud (refine wpList_append_lies _ rfl (.tmp 52) (.tmp 54) 27 rfl s0 29 i0 (.agg #[.int .u8 0, .int .u64 0, .slice none 0 0, .slice none 0 0]) 4 64 Tryd.underlying27 hi0 hz0 hz1 hz2 rfl (by decide) u8 N css.flatten rfl (A _ _).1 ⟨w4.heap.size + 1, 0, none⟩ 1 1 [.int .u8 (K0 : Int), .int .u64 (N0 : Int), .slice p L0 c, .slice q M0 c'] rfl rfl (World.news_of_block (heap_alloc2_new w4 _ _)) (by simp [Value.oneCell']) (by decide) HX.out.1 HX.out.2 (A _ _).2.1 _ rfl ?_); intro gk ck w6 own6 gr6 at6 lt6)
        obtain ⟨kl6, _, but6, low6, sz6⟩ := (A _ _).2.2 gk ck w6 own6 gr6 at6
        have hW := HW.out
        have hP := HP.out
        have hlen := hP.1.len
        simp only [Bool.false_eq_true, if_false] at hlen
        refine ⟨⟨j + 1, css ++ [_], kids ++ [i], t1, us, by go_num, by omega, ⟨HQ.out, kl6, by simp [hlen], hr4.low low6 (by omega), but6 hP.1.but, x5.same (low6 rb (by omega)), by have := hP.1.cnt; simp; omega, hP.2.2.2, by have := hP.1.less; omega, sz6⟩⟩, by simp only [intOf]; omega⟩
    · have hkk := P.kl.kids (by have := HW.out; omega)
      obtain ⟨q, c', hq, hq1, hq2, hq3⟩ := hkk
      have heq := P.eq
      rw [Nat.sub_self, pcsC] at heq
      have HQ : Hid (pcsC (itemC d) false (o + 1) j none [] t bs = .ok (kids, t', ys)) := heq
      have HP : Hid (KSt false d g o j rb t bs w s0 j u8 wr css kids t' ys) := P
      subst hq
      clear heq P P0
      go_wp2_with fail
      refine leaves_cons (f := 39) (args := #[.pointer (some ⟨rb, 0, none⟩)]) (by simp) (by simp [go_sem]) ?_
      refine (cshut_any rb g ys t' o .returning _ HP.out.box HP.out.cr (by omega)).mono ?_
      rintro e u' w'' ⟨rfl, rfl, rfl⟩
      have hW := HW.out
      have hbs := But.setCell g wr 2 (.int .i64 (o : Int))
      refine ⟨_, results_tmp2 rfl _ _ _, HP.out.but.trans hbs, .inl ⟨kids, t', ys, q, c', HQ.out, rfl, hq1, hq2, ?_, HP.out.cr.setOpen o⟩⟩
      exact kidsAt_end (g := g) hq3 hbs (by omega) (by omega)
end Go.Proofs.YtfmldcibhllpcabDoor
