import Derived.Test.YtnacgkkklmlhaaaK08
import Derived.Test.YtnacgkkklmlhaaaK07
/-
  The law RsaVerifies.
-/
namespace Go.Proofs.Ytnacgkkklmlhaaa
open Go.Shelf Go.RowKit
set_option linter.unusedVariables false
set_option linter.unusedSimpArgs false
attribute [local go_sem ↓] keep_l32

theorem rlen_rv (v : Value) (n : Int) (L : Nat) (w : World) (h : Rv w v n L) (hL : L ≤ 1000000) :
    Calls Try.prog 10 #[v] w fun e w' => e = .returned (.int .i64 (blen n.toNat)) ∧ w' = w := by
  obtain ⟨a1, a2, a3, a4, rfl, a5, a6, a7, a8⟩ := h
  have := rLen_any a1 a2 a3 a4 w a5 a6 (by omega)
  rwa [a7] at this
theorem verB_zero (n e : Int) (hs : List Int) (m : Nat) (bs : List Int) (h : n = 0 ∨ e = 0) : verB n e hs m bs = false := by
  cases hv : verB n e hs m bs with
  | false => rfl
  | true =>
    exfalso
    unfold verB at hv
    rw [Bool.and_eq_true] at hv
    have := keyB_facts hv.1
    rcases h with rfl | rfl
    · omega
    · omega
theorem fld_key (w : World) (n1 : Option Addr) (n2 n3 : Nat) (m1 : Option Addr) (m2 m3 : Nat) : (Instr.field 32 (.agg #[.int .u8 2, .int .i64 0, .slice none 0 0, .slice none 0 0, .bool false, .slice n1 n2 n3, .slice m1 m2 m3]) 3).run Try.prog w = .ok (.agg #[.slice n1 n2 n3, .slice m1 m2 m3]) w := by kernel_rfl
theorem num_kept8 {w w' : World} {k : IntKind} {B : Int} {ao : Option Addr} {l c : Nat} {xs : List Int} {g : Nat} {p1 p2 : Option Addr} {m1 d1 m2 d2 : Nat} {t : TypeId} (h : NumIn k B w ao l c xs) (hg : w.heap[g]? = some (.cells #[.slice p1 m1 d1, .slice p2 m2 d2] t (0, 0))) (hk : ∀ j, j ≠ g → w'.heap[j]? = w.heap[j]?) (hs : w.heap.size ≤ w'.heap.size) : NumIn k B w' ao l c xs := by
  refine ⟨⟨h.lies.1, ?_⟩, h.lc, h.cm, h.nn, h.dg, h.sm⟩
  rcases h.lies.2 with h0 | ⟨b, off, e, hb, hc⟩
  · exact .inl h0
  · rcases Nat.eq_zero_or_pos l with h0 | h0
    · exact .inl h0
    · have hbg : b ≠ g := by
        rintro rfl
        have := hc 0 h0
        rw [cell_of_row _ _ _ _ _ _ hg, Nat.add_zero] at this
        match off, this with
        | 0, this => simp at this
        | 1, this => simp at this
        | n + 2, this => simp at this
      refine .inr ⟨b, off, e, Nat.lt_of_lt_of_le hb hs, fun i hi => ?_⟩
      rw [← hc i hi]
      unfold World.cell?
      simp only [hk b hbg]
set_option maxRecDepth 100000 in
set_option maxHeartbeats 8000000 in
theorem RsaVerifies_walk (w : World) (a1 : Option Addr) (a2 a3 : Nat) (za : List Int) (e1 : Option Addr) (e2 e3 : Nat) (ze : List Int) (ca : Came .u64 w a1 a2 a3 za) (ce : Came .u64 w e1 e2 e3 ze) (which : Int) (wwf : (Lit.int .u8 which).wf = true) (right : Bool) (hs : List Int) (hh : hs.length = 32 ∧ Dg 256 hs) (ao : Option Addr) (m c : Nat) (zs : List Int) (cs : Came .u8 w ao m c zs) :
    Calls Try.prog 6 #[.agg #[.slice a1 a2 a3, .slice e1 e2 e3], .int .u8 which, .bool right, ag .u8 hs, .slice ao m c] w fun r w' => r = .returned (.bool true) ∧ Below w.heap.size w w' := by
  obtain ⟨hs32, hsd⟩ := hh
  have hwb := word_u8 wwf
  have l1 := ca.le
  have l2 := ce.le
  have l3 := cs.le
  unfold maxLen at l1 l2 l3
  have HCA : Hid (Came .u64 w a1 a2 a3 za ∧ Came .u64 w e1 e2 e3 ze ∧ Came .u8 w ao m c zs) := ⟨ca, ce, cs⟩
  clear ca ce cs wwf
  go_enter Try.func6, Try.ntmps6
  go_wp2_with (first
    | ((with_reducible show wpList _ _ _ (Oper.mk _ (Op.box 47 _) _ _ _ _ :: _) _ _); refine wpList_box_row (w := w.alloc (.cells #[.slice a1 a2 a3, .slice e1 e2 e3] 25)) (by with_reducible rfl) 47 _ (by with_reducible rfl) .u8 hs rfl ?_; intro w1 hr1 hb1 hs1; obtain ⟨u0, u1⟩ := cells2 (W := w1) (t := 25) ((hb1.block w.heap.size (by rw [alloc_sz7]; omega)).trans (heap_alloc_new w _))))
  have b0 := (Below.refl w.heap.size w).alloc (Nat.le_refl _) (.cells #[.slice a1 a2 a3, .slice e1 e2 e3] 25)
  have z0 := alloc_sz7 w (.cells #[.slice a1 a2 a3, .slice e1 e2 e3] 25)
  have hblk : (w.alloc (.cells #[.slice a1 a2 a3, .slice e1 e2 e3] 25)).heap[w.heap.size]? = some (.cells #[.slice a1 a2 a3, .slice e1 e2 e3] 25 (0, 0)) := heap_alloc_new w _
  generalize w.alloc (.cells #[.slice a1 a2 a3, .slice e1 e2 e3] 25) = wz at *
  rw [z0] at hr1 hs1
  refine (RAwake_any w1).mono ?_
  rintro r W ⟨rfl, dA⟩
  have B1 := b0.trans (hb1.mono b0.size)
  have HBW : Hid (Below w.heap.size w W) := B1.trans (dA.mono B1.size)
  have HK : Hid (W.heap[w.heap.size]? = some (.cells #[.slice a1 a2 a3, .slice e1 e2 e3] 25 (0, 0)) ∧ Row 47 .u8 W (w.heap.size + 1) hs) := ⟨by rw [dA.block _ (by omega), hb1.block _ (by omega)]; exact hblk, hr1.below dA (by omega)⟩
  clear b0 z0 hblk hr1 hb1 hs1 u0 u1 dA B1
  obtain ⟨x0, x1⟩ := cells2 HK.out.1
  by_cases c1 : 10 < a2
  · have c1' : (10 : Int) < (a2 : Int) := by omega
    go_wp2
    go_ret
    exact ⟨rfl, HBW.out⟩
  by_cases c2 : 1 < e2
  · have c1' : ¬ (10 : Int) < (a2 : Int) := by omega
    have c2' : (1 : Int) < (e2 : Int) := by omega
    go_wp2
    go_ret
    exact ⟨rfl, HBW.out⟩
  by_cases c3 : 300 < m
  · have c1' : ¬ (10 : Int) < (a2 : Int) := by omega
    have c2' : ¬ (1 : Int) < (e2 : Int) := by omega
    have c3' : (300 : Int) < (m : Int) := by omega
    go_wp2
    go_ret
    exact ⟨rfl, HBW.out⟩
  have c1' : ¬ (10 : Int) < (a2 : Int) := by omega
  have c2' : ¬ (1 : Int) < (e2 : Int) := by omega
  have c3' : ¬ (300 : Int) < (m : Int) := by omega
  have HNA : Hid (Nv w (.slice a1 a2 a3) (val B64 (za.take a2)) 64 ∧ Nv w (.slice e1 e2 e3) (val B64 (ze.take e2)) 64 ∧ NumIn .u8 256 w ao m c (zs.take m)) := ⟨⟨_, _, _, _, rfl, HCA.out.1.nat (by omega), rfl, by omega⟩, ⟨_, _, _, _, rfl, HCA.out.2.1.nat (by omega), rfl, by omega⟩, HCA.out.2.2.bytes (by omega)⟩
  clear HCA
  generalize val B64 (za.take a2) = n at *
  generalize val B64 (ze.take e2) = e at *
  generalize zs.take m = bs at *
  cases right with
  | false =>
    have HQ : Hid ((W.heap[w.heap.size]? = some (.cells #[.slice a1 a2 a3, .slice e1 e2 e3] 25 (0, 0)) ∧ Row 47 .u8 W (w.heap.size + 1) hs) ∧ Nv W (.slice a1 a2 a3) n 64 ∧ Nv W (.slice e1 e2 e3) e 64 ∧ NumIn .u8 256 W ao m c bs ∧ Below w.heap.size w W) := ⟨HK.out, HNA.out.1.old HBW.out, HNA.out.2.1.old HBW.out, HNA.out.2.2.old HBW.out, HBW.out⟩
    clear HK HNA HBW
    by_cases c4 : 64 < m
    · have c4' : (64 : Int) < (m : Int) := by omega
      obtain ⟨x0, x1⟩ := cells2 HQ.out.1.1
      have hnn := HQ.out.2.1.nonneg
      have hee := HQ.out.2.2.1.nonneg
      have HB : Hid (Below w.heap.size w W) := HQ.out.2.2.2.2
      have HQS : Hid (∀ W', Below W.heap.size W W' → Kv W' (.agg #[.slice a1 a2 a3, .slice e1 e2 e3]) n e 64 ∧ Row 47 .u8 W' (w.heap.size + 1) hs ∧ W'.cell? ⟨w.heap.size, 0, none⟩ = some (.slice a1 a2 a3) ∧ W'.cell? ⟨w.heap.size, 1, none⟩ = some (.slice e1 e2 e3) ∧ NumIn .u8 256 W' ao m c (bs)) := fun W' hb => by
        obtain ⟨k0, k1⟩ := cells2 (t := 25) (by rw [hb.block _ (Array.getElem?_eq_some_iff.1 HQ.out.1.1).1]; exact HQ.out.1.1 : W'.heap[w.heap.size]? = _)
        exact ⟨⟨_, _, rfl, HQ.out.2.1.old hb, HQ.out.2.2.1.old hb⟩, HQ.out.1.2.below hb HQ.out.1.2.lt, k0, k1, HQ.out.2.2.2.1.old hb⟩
      have HO := rOf_rv (.slice a1 a2 a3) n 64 W HQ.out.2.1 (by decide)
      have HVF := fun W' (hb : Below W.heap.size W W') => verify_any (.agg #[.slice a1 a2 a3, .slice e1 e2 e3]) n e 64 hs ao m c (bs) W' (HQS.out W' hb).1 (by decide) hs32 hsd (HQS.out W' hb).2.2.2.2
      have HPF := fun W' (hb : Below W.heap.size W W') (hn : 0 < n) (he : 0 < e) => power_any (.agg #[.slice a1 a2 a3, .slice e1 e2 e3]) n e 64 hs ao m c (bs) W' (HQS.out W' hb).1 (by decide) hs32 hsd (HQS.out W' hb).2.2.2.2 hn he
      have hO2 := fun W' (hb : Below W.heap.size W W') => rOf_rv (.slice e1 e2 e3) e 64 W' (HQ.out.2.2.1.old hb) (by decide)
      have hz1 := verB_zero n e hs m ((bs))
      obtain ⟨BB, hBB⟩ : ∃ BB, verB (n) (e) hs m ((bs)) = BB := ⟨_, rfl⟩
      rw [hBB] at hz1
      simp only [hBB] at HVF HPF
      clear hBB HQ
      go_wp2_with fail
      refine HO.mono ?_
      rintro r y1 ⟨v1, rfl, hv1, d1⟩
      have HL := rlen_rv v1 n (4 * 64) y1 hv1 (by decide)
      obtain ⟨o1, o2, o3, o4, rfl, -⟩ := hv1
      have D1 : Hid (Below W.heap.size W y1) := d1
      clear HO x0 x1 d1
      go_wp2_with fail
      refine HL.mono ?_
      rintro r y2 ⟨rfl, rfl⟩
      clear HL
      obtain ⟨-, -, x0, x1, -⟩ := HQS.out y2 D1.out
      rcases Int.lt_or_eq_of_le hnn with hpos | hzero
      rotate_left
      · have hbz : blen (n).toNat = 0 := by rw [← hzero]; rfl
        have hB' : BB = false := hz1 (.inl hzero.symm)
        rw [hbz]
        subst hB'
        clear hz1 hbz hzero hnn hee HPF hO2
        have HROW : Hid (Row 47 .u8 y2 (w.heap.size + 1) hs) := (HQS.out y2 D1.out).2.1
        have HVF' := HVF y2 D1.out
        have hld := row_ld32 HROW.out hs32
        go_wp2_with fail
        refine HVF'.mono ?_
        rintro r y3 ⟨rfl, d3⟩
        have hE := D1.out.trans (d3.mono D1.out.size)
        have hE2 := HB.out.trans (hE.mono HB.out.size)
        go_wp2
        go_ret
        exact ⟨rfl, hE2⟩
      have hb1 : (0 : Int) < ((blen (n).toNat : Nat) : Int) := by have := blen_pos (n).toNat (by omega); omega
      generalize blen (n).toNat = bl1 at *
      have hO2' := hO2 y2 D1.out
      go_wp2_with fail
      refine hO2'.mono ?_
      rintro r y3 ⟨v3, rfl, hv3, d3⟩
      have HL := rlen_rv v3 e (4 * 64) y3 hv3 (by decide)
      obtain ⟨s1, s2, s3, s4, rfl, -⟩ := hv3
      have D3 : Hid (Below W.heap.size W y3) := D1.out.trans (d3.mono D1.out.size)
      clear hO2 hO2' x0 x1 d3
      go_wp2_with fail
      refine HL.mono ?_
      rintro r y4 ⟨rfl, rfl⟩
      clear HL
      obtain ⟨-, -, x0, x1, -⟩ := HQS.out y4 D3.out
      have HROW : Hid (Row 47 .u8 y4 (w.heap.size + 1) hs) := (HQS.out y4 D3.out).2.1
      rcases Int.lt_or_eq_of_le hee with hpos2 | hzero
      rotate_left
      · have hbz : blen (e).toNat = 0 := by rw [← hzero]; rfl
        have hB' : BB = false := hz1 (.inr hzero.symm)
        rw [hbz]
        subst hB'
        clear hz1 hbz hzero hnn hee HPF
        have HVF' := HVF y4 D3.out
        have hld := row_ld32 HROW.out hs32
        go_wp2_with fail
        refine HVF'.mono ?_
        rintro r y5 ⟨rfl, d5⟩
        have hE := D3.out.trans (d5.mono D3.out.size)
        have hE2 := HB.out.trans (hE.mono HB.out.size)
        go_wp2
        go_ret
        exact ⟨rfl, hE2⟩
      have hb2 : (0 : Int) < ((blen (e).toNat : Nat) : Int) := by have := blen_pos (e).toNat (by omega); omega
      generalize blen (e).toNat = bl2 at *
      have HPF' := HPF y4 D3.out hpos hpos2
      clear hz1 hnn hee hpos hpos2
      have hld := row_ld32 HROW.out hs32
      go_wp2_with fail
      refine HPF'.mono ?_
      rintro r y5 ⟨rfl, d5⟩
      have D5 : Hid (Below W.heap.size W y5) := D3.out.trans (d5.mono D3.out.size)
      have HVF' := HVF y5 D5.out
      clear x0 x1 d5 HPF HPF' HROW
      obtain ⟨-, -, x0, x1, -⟩ := HQS.out y5 D5.out
      have HROW : Hid (Row 47 .u8 y5 (w.heap.size + 1) hs) := (HQS.out y5 D5.out).2.1
      cases BB
      · have hld := row_ld32 HROW.out hs32
        go_wp2_with fail
        refine HVF'.mono ?_
        rintro r y6 ⟨rfl, d6⟩
        have hE := D5.out.trans (d6.mono D5.out.size)
        have hE2 := HB.out.trans (hE.mono HB.out.size)
        go_wp2
        go_ret
        exact ⟨rfl, hE2⟩
      · have hld := row_ld32 HROW.out hs32
        go_wp2_with fail
        refine HVF'.mono ?_
        rintro r y6 ⟨rfl, d6⟩
        have hE := D5.out.trans (d6.mono D5.out.size)
        have hE2 := HB.out.trans (hE.mono HB.out.size)
        go_wp2
        go_ret
        exact ⟨rfl, hE2⟩
    · have c4' : ¬ (64 : Int) < (m : Int) := by omega
      obtain ⟨x0, x1⟩ := cells2 HQ.out.1.1
      have hnn := HQ.out.2.1.nonneg
      have hee := HQ.out.2.2.1.nonneg
      have HB : Hid (Below w.heap.size w W) := HQ.out.2.2.2.2
      have HQS : Hid (∀ W', Below W.heap.size W W' → Kv W' (.agg #[.slice a1 a2 a3, .slice e1 e2 e3]) n e 64 ∧ Row 47 .u8 W' (w.heap.size + 1) hs ∧ W'.cell? ⟨w.heap.size, 0, none⟩ = some (.slice a1 a2 a3) ∧ W'.cell? ⟨w.heap.size, 1, none⟩ = some (.slice e1 e2 e3) ∧ NumIn .u8 256 W' ao m c (bs)) := fun W' hb => by
        obtain ⟨k0, k1⟩ := cells2 (t := 25) (by rw [hb.block _ (Array.getElem?_eq_some_iff.1 HQ.out.1.1).1]; exact HQ.out.1.1 : W'.heap[w.heap.size]? = _)
        exact ⟨⟨_, _, rfl, HQ.out.2.1.old hb, HQ.out.2.2.1.old hb⟩, HQ.out.1.2.below hb HQ.out.1.2.lt, k0, k1, HQ.out.2.2.2.1.old hb⟩
      have HO := rOf_rv (.slice a1 a2 a3) n 64 W HQ.out.2.1 (by decide)
      have HVF := fun W' (hb : Below W.heap.size W W') => verify_any (.agg #[.slice a1 a2 a3, .slice e1 e2 e3]) n e 64 hs ao m c (bs) W' (HQS.out W' hb).1 (by decide) hs32 hsd (HQS.out W' hb).2.2.2.2
      have HPF := fun W' (hb : Below W.heap.size W W') (hn : 0 < n) (he : 0 < e) => power_any (.agg #[.slice a1 a2 a3, .slice e1 e2 e3]) n e 64 hs ao m c (bs) W' (HQS.out W' hb).1 (by decide) hs32 hsd (HQS.out W' hb).2.2.2.2 hn he
      have hO2 := fun W' (hb : Below W.heap.size W W') => rOf_rv (.slice e1 e2 e3) e 64 W' (HQ.out.2.2.1.old hb) (by decide)
      have hz1 := verB_zero n e hs m ((bs))
      obtain ⟨BB, hBB⟩ : ∃ BB, verB (n) (e) hs m ((bs)) = BB := ⟨_, rfl⟩
      rw [hBB] at hz1
      simp only [hBB] at HVF HPF
      clear hBB HQ
      go_wp2_with fail
      refine HO.mono ?_
      rintro r y1 ⟨v1, rfl, hv1, d1⟩
      have HL := rlen_rv v1 n (4 * 64) y1 hv1 (by decide)
      obtain ⟨o1, o2, o3, o4, rfl, -⟩ := hv1
      have D1 : Hid (Below W.heap.size W y1) := d1
      clear HO x0 x1 d1
      go_wp2_with fail
      refine HL.mono ?_
      rintro r y2 ⟨rfl, rfl⟩
      clear HL
      obtain ⟨-, -, x0, x1, -⟩ := HQS.out y2 D1.out
      rcases Int.lt_or_eq_of_le hnn with hpos | hzero
      rotate_left
      · have hbz : blen (n).toNat = 0 := by rw [← hzero]; rfl
        have hB' : BB = false := hz1 (.inl hzero.symm)
        rw [hbz]
        subst hB'
        clear hz1 hbz hzero hnn hee HPF hO2
        have HROW : Hid (Row 47 .u8 y2 (w.heap.size + 1) hs) := (HQS.out y2 D1.out).2.1
        have HVF' := HVF y2 D1.out
        have hld := row_ld32 HROW.out hs32
        go_wp2_with fail
        refine HVF'.mono ?_
        rintro r y3 ⟨rfl, d3⟩
        have hE := D1.out.trans (d3.mono D1.out.size)
        have hE2 := HB.out.trans (hE.mono HB.out.size)
        go_wp2
        go_ret
        exact ⟨rfl, hE2⟩
      have hb1 : (0 : Int) < ((blen (n).toNat : Nat) : Int) := by have := blen_pos (n).toNat (by omega); omega
      generalize blen (n).toNat = bl1 at *
      have hO2' := hO2 y2 D1.out
      go_wp2_with fail
      refine hO2'.mono ?_
      rintro r y3 ⟨v3, rfl, hv3, d3⟩
      have HL := rlen_rv v3 e (4 * 64) y3 hv3 (by decide)
      obtain ⟨s1, s2, s3, s4, rfl, -⟩ := hv3
      have D3 : Hid (Below W.heap.size W y3) := D1.out.trans (d3.mono D1.out.size)
      clear hO2 hO2' x0 x1 d3
      go_wp2_with fail
      refine HL.mono ?_
      rintro r y4 ⟨rfl, rfl⟩
      clear HL
      obtain ⟨-, -, x0, x1, -⟩ := HQS.out y4 D3.out
      have HROW : Hid (Row 47 .u8 y4 (w.heap.size + 1) hs) := (HQS.out y4 D3.out).2.1
      rcases Int.lt_or_eq_of_le hee with hpos2 | hzero
      rotate_left
      · have hbz : blen (e).toNat = 0 := by rw [← hzero]; rfl
        have hB' : BB = false := hz1 (.inr hzero.symm)
        rw [hbz]
        subst hB'
        clear hz1 hbz hzero hnn hee HPF
        have HVF' := HVF y4 D3.out
        have hld := row_ld32 HROW.out hs32
        go_wp2_with fail
        refine HVF'.mono ?_
        rintro r y5 ⟨rfl, d5⟩
        have hE := D3.out.trans (d5.mono D3.out.size)
        have hE2 := HB.out.trans (hE.mono HB.out.size)
        go_wp2
        go_ret
        exact ⟨rfl, hE2⟩
      have hb2 : (0 : Int) < ((blen (e).toNat : Nat) : Int) := by have := blen_pos (e).toNat (by omega); omega
      generalize blen (e).toNat = bl2 at *
      have HPF' := HPF y4 D3.out hpos hpos2
      clear hz1 hnn hee hpos hpos2
      have hld := row_ld32 HROW.out hs32
      go_wp2_with fail
      refine HPF'.mono ?_
      rintro r y5 ⟨rfl, d5⟩
      have D5 : Hid (Below W.heap.size W y5) := D3.out.trans (d5.mono D3.out.size)
      have HVF' := HVF y5 D5.out
      clear x0 x1 d5 HPF HPF' HROW
      obtain ⟨-, -, x0, x1, -⟩ := HQS.out y5 D5.out
      have HROW : Hid (Row 47 .u8 y5 (w.heap.size + 1) hs) := (HQS.out y5 D5.out).2.1
      cases BB
      · have hld := row_ld32 HROW.out hs32
        go_wp2_with fail
        refine HVF'.mono ?_
        rintro r y6 ⟨rfl, d6⟩
        have hE := D5.out.trans (d6.mono D5.out.size)
        have hE2 := HB.out.trans (hE.mono HB.out.size)
        go_wp2
        go_ret
        exact ⟨rfl, hE2⟩
      · have hld := row_ld32 HROW.out hs32
        go_wp2_with fail
        refine HVF'.mono ?_
        rintro r y6 ⟨rfl, d6⟩
        have hE := D5.out.trans (d6.mono D5.out.size)
        have hE2 := HB.out.trans (hE.mono HB.out.size)
        go_wp2
        go_ret
        exact ⟨rfl, hE2⟩
  | true =>
    go_wp2_with fail
    refine (skey_any which W hwb.1 hwb.2).mono ?_
    rintro r wK ⟨vn, ve, rfl, hvn, hve, dK⟩
    have hsz0 : w.heap.size < W.heap.size := (Array.getElem?_eq_some_iff.1 HK.out.1).1
    have y0 : wK.heap[w.heap.size]? = some (.cells #[.slice a1 a2 a3, .slice e1 e2 e3] 25 (0, 0)) := by rw [dK.block _ hsz0]; exact HK.out.1
    obtain ⟨n1, n2, n3, n4, rfl, n5, n6, n7⟩ := hvn
    obtain ⟨m1, m2, m3, m4, rfl, m5, m6, m7⟩ := hve
    have HFL := fld_key wK n1 n2 n3 m1 m2 m3
    have p0 : wK.cell? ⟨w.heap.size, 0, none⟩ = some (.slice a1 a2 a3) := (cells2 y0).1
    have q0 : wK.frozen? ⟨w.heap.size, 0, none⟩ = false := frozen_of_row _ _ _ _ _ y0
    have y1 : (wK.setCell ⟨w.heap.size, 0, none⟩ (.slice n1 n2 n3)).heap[w.heap.size]? = some (.cells #[.slice n1 n2 n3, .slice e1 e2 e3] 25 (0, 0)) := heap_setCell_same _ _ 0 _ _ _ y0
    have p1 : (wK.setCell ⟨w.heap.size, 0, none⟩ (.slice n1 n2 n3)).cell? ⟨w.heap.size, 1, none⟩ = some (.slice e1 e2 e3) := (cells2 y1).2
    have q1 : (wK.setCell ⟨w.heap.size, 0, none⟩ (.slice n1 n2 n3)).frozen? ⟨w.heap.size, 1, none⟩ = false := frozen_of_row _ _ _ _ _ y1
    have y2 : ((wK.setCell ⟨w.heap.size, 0, none⟩ (.slice n1 n2 n3)).setCell ⟨w.heap.size, 1, none⟩ (.slice m1 m2 m3)).heap[w.heap.size]? = some (.cells #[.slice n1 n2 n3, .slice m1 m2 m3] 25 (0, 0)) := heap_setCell_same _ _ 1 _ _ _ y1
    obtain ⟨W2, hW2⟩ : ∃ W2, (wK.setCell ⟨w.heap.size, 0, none⟩ (.slice n1 n2 n3)).setCell ⟨w.heap.size, 1, none⟩ (.slice m1 m2 m3) = W2 := ⟨_, rfl⟩
    have hother : ∀ j, j ≠ w.heap.size → W2.heap[j]? = wK.heap[j]? := fun j hj => by
      rw [← hW2, heap_setCell_other _ _ _ _ (by simpa using hj), heap_setCell_other _ _ _ _ (by simpa using hj)]
    have hsz2 : wK.heap.size ≤ W2.heap.size := by rw [← hW2]; simp
    have BK := HBW.out.trans (dK.mono HBW.out.size)
    have B2 : Below w.heap.size w W2 := by rw [← hW2]; exact (BK.setCell (by simp) _).setCell (by simp) _
    have hrow2 : Row 47 .u8 W2 (w.heap.size + 1) hs := by
      unfold Row
      rw [hother _ (by omega), dK.block _ HK.out.2.lt]
      exact HK.out.2
    have HP : Hid ((W2.heap[w.heap.size]? = some (.cells #[.slice n1 n2 n3, .slice m1 m2 m3] 25 (0, 0)) ∧ Row 47 .u8 W2 (w.heap.size + 1) hs) ∧ Nv W2 (.slice n1 n2 n3) (rsaN which) 64 ∧ Nv W2 (.slice m1 m2 m3) (rsaE which) 64 ∧ NumIn .u8 256 W2 ao m c bs ∧ Below w.heap.size w W2) := ⟨⟨by rw [← hW2]; exact y2, hrow2⟩, ⟨_, _, _, _, rfl, num_kept8 n5 y0 hother hsz2, n6, by omega⟩, ⟨_, _, _, _, rfl, num_kept8 m5 y0 hother hsz2, m6, by omega⟩, HNA.out.2.2.old B2, B2⟩
    have HW2 : Hid ((wK.setCell ⟨w.heap.size, 0, none⟩ (.slice n1 n2 n3)).setCell ⟨w.heap.size, 1, none⟩ (.slice m1 m2 m3) = W2) := hW2
    have hsg := HNA.out.2.2.lc
    have hsm := HNA.out.2.2.cm
    have hat := HNA.out.2.2.lies
    unfold maxLen at hsm
    obtain ⟨s1, s2⟩ := cells2 HP.out.1.1
    clear hW2 hother hsz2 BK B2 hrow2 HNA HK HBW dK n5 n6 n7 m5 m6 m7 x0 x1 y0 y1 y2 n e
    generalize rsaN which = n at *
    generalize rsaE which = e at *
    rw [← HW2.out] at s1 s2
    by_cases c4 : 64 < m
    · have c4' : (64 : Int) < (m : Int) := by omega
      obtain ⟨gb, go, rfl, -, -⟩ := hat.at (by omega)
      have HQ : Hid ((W2.heap[w.heap.size]? = some (.cells #[.slice n1 n2 n3, .slice m1 m2 m3] 25 (0, 0)) ∧ Row 47 .u8 W2 (w.heap.size + 1) hs) ∧ Nv W2 (.slice n1 n2 n3) n 64 ∧ Nv W2 (.slice m1 m2 m3) e 64 ∧ NumIn .u8 256 W2 (some ⟨gb, go, none⟩) 64 c (bs.take 64) ∧ Below w.heap.size w W2) := ⟨HP.out.1, HP.out.2.1, HP.out.2.2.1, HP.out.2.2.2.1.take 64 (by omega), HP.out.2.2.2.2⟩
      clear HP hat
      have T0 : True := trivial
      have hnn := HQ.out.2.1.nonneg
      have hee := HQ.out.2.2.1.nonneg
      have HB : Hid (Below w.heap.size w W2) := HQ.out.2.2.2.2
      have HQS : Hid (∀ W', Below W2.heap.size W2 W' → Kv W' (.agg #[.slice n1 n2 n3, .slice m1 m2 m3]) n e 64 ∧ Row 47 .u8 W' (w.heap.size + 1) hs ∧ W'.cell? ⟨w.heap.size, 0, none⟩ = some (.slice n1 n2 n3) ∧ W'.cell? ⟨w.heap.size, 1, none⟩ = some (.slice m1 m2 m3) ∧ NumIn .u8 256 W' (some ⟨gb, go, none⟩) 64 c (bs.take 64)) := fun W' hb => by
        obtain ⟨k0, k1⟩ := cells2 (t := 25) (by rw [hb.block _ (Array.getElem?_eq_some_iff.1 HQ.out.1.1).1]; exact HQ.out.1.1 : W'.heap[w.heap.size]? = _)
        exact ⟨⟨_, _, rfl, HQ.out.2.1.old hb, HQ.out.2.2.1.old hb⟩, HQ.out.1.2.below hb HQ.out.1.2.lt, k0, k1, HQ.out.2.2.2.1.old hb⟩
      have HO := rOf_rv (.slice n1 n2 n3) n 64 W2 HQ.out.2.1 (by decide)
      have HVF := fun W' (hb : Below W2.heap.size W2 W') => verify_any (.agg #[.slice n1 n2 n3, .slice m1 m2 m3]) n e 64 hs (some ⟨gb, go, none⟩) 64 c (bs.take 64) W' (HQS.out W' hb).1 (by decide) hs32 hsd (HQS.out W' hb).2.2.2.2
      have HPF := fun W' (hb : Below W2.heap.size W2 W') (hn : 0 < n) (he : 0 < e) => power_any (.agg #[.slice n1 n2 n3, .slice m1 m2 m3]) n e 64 hs (some ⟨gb, go, none⟩) 64 c (bs.take 64) W' (HQS.out W' hb).1 (by decide) hs32 hsd (HQS.out W' hb).2.2.2.2 hn he
      have hO2 := fun W' (hb : Below W2.heap.size W2 W') => rOf_rv (.slice m1 m2 m3) e 64 W' (HQ.out.2.2.1.old hb) (by decide)
      have hz1 := verB_zero n e hs 64 ((bs.take 64))
      obtain ⟨BB, hBB⟩ : ∃ BB, verB (n) (e) hs 64 ((bs.take 64)) = BB := ⟨_, rfl⟩
      rw [hBB] at hz1
      simp only [hBB] at HVF HPF
      clear hBB HQ
      go_wp2_with fail
      rw [HW2.out]
      refine HO.mono ?_
      rintro r y1 ⟨v1, rfl, hv1, d1⟩
      have HL := rlen_rv v1 n (4 * 64) y1 hv1 (by decide)
      obtain ⟨o1, o2, o3, o4, rfl, -⟩ := hv1
      have D1 : Hid (Below W2.heap.size W2 y1) := d1
      clear HO s1 s2 p0 p1 q0 q1 d1
      go_wp2_with fail
      refine HL.mono ?_
      rintro r y2 ⟨rfl, rfl⟩
      clear HL
      obtain ⟨-, -, x0, x1, -⟩ := HQS.out y2 D1.out
      rcases Int.lt_or_eq_of_le hnn with hpos | hzero
      rotate_left
      · have hbz : blen (n).toNat = 0 := by rw [← hzero]; rfl
        have hB' : BB = false := hz1 (.inl hzero.symm)
        rw [hbz]
        subst hB'
        clear hz1 hbz hzero hnn hee HPF hO2
        have HROW : Hid (Row 47 .u8 y2 (w.heap.size + 1) hs) := (HQS.out y2 D1.out).2.1
        have HVF' := HVF y2 D1.out
        have hld := row_ld32 HROW.out hs32
        go_wp2_with fail
        refine HVF'.mono ?_
        rintro r y3 ⟨rfl, d3⟩
        have hE := D1.out.trans (d3.mono D1.out.size)
        have hE2 := HB.out.trans (hE.mono HB.out.size)
        go_wp2
        go_ret
        exact ⟨rfl, hE2⟩
      have hb1 : (0 : Int) < ((blen (n).toNat : Nat) : Int) := by have := blen_pos (n).toNat (by omega); omega
      generalize blen (n).toNat = bl1 at *
      have hO2' := hO2 y2 D1.out
      go_wp2_with fail
      refine hO2'.mono ?_
      rintro r y3 ⟨v3, rfl, hv3, d3⟩
      have HL := rlen_rv v3 e (4 * 64) y3 hv3 (by decide)
      obtain ⟨s1, s2, s3, s4, rfl, -⟩ := hv3
      have D3 : Hid (Below W2.heap.size W2 y3) := D1.out.trans (d3.mono D1.out.size)
      clear hO2 hO2' x0 x1 d3
      go_wp2_with fail
      refine HL.mono ?_
      rintro r y4 ⟨rfl, rfl⟩
      clear HL
      obtain ⟨-, -, x0, x1, -⟩ := HQS.out y4 D3.out
      have HROW : Hid (Row 47 .u8 y4 (w.heap.size + 1) hs) := (HQS.out y4 D3.out).2.1
      rcases Int.lt_or_eq_of_le hee with hpos2 | hzero
      rotate_left
      · have hbz : blen (e).toNat = 0 := by rw [← hzero]; rfl
        have hB' : BB = false := hz1 (.inr hzero.symm)
        rw [hbz]
        subst hB'
        clear hz1 hbz hzero hnn hee HPF
        have HVF' := HVF y4 D3.out
        have hld := row_ld32 HROW.out hs32
        go_wp2_with fail
        refine HVF'.mono ?_
        rintro r y5 ⟨rfl, d5⟩
        have hE := D3.out.trans (d5.mono D3.out.size)
        have hE2 := HB.out.trans (hE.mono HB.out.size)
        go_wp2
        go_ret
        exact ⟨rfl, hE2⟩
      have hb2 : (0 : Int) < ((blen (e).toNat : Nat) : Int) := by have := blen_pos (e).toNat (by omega); omega
      generalize blen (e).toNat = bl2 at *
      have HPF' := HPF y4 D3.out hpos hpos2
      clear hz1 hnn hee hpos hpos2
      have hld := row_ld32 HROW.out hs32
      go_wp2_with fail
      refine HPF'.mono ?_
      rintro r y5 ⟨rfl, d5⟩
      have D5 : Hid (Below W2.heap.size W2 y5) := D3.out.trans (d5.mono D3.out.size)
      have HVF' := HVF y5 D5.out
      clear x0 x1 d5 HPF HPF' HROW
      obtain ⟨-, -, x0, x1, -⟩ := HQS.out y5 D5.out
      have HROW : Hid (Row 47 .u8 y5 (w.heap.size + 1) hs) := (HQS.out y5 D5.out).2.1
      cases BB
      · have hld := row_ld32 HROW.out hs32
        go_wp2_with fail
        refine HVF'.mono ?_
        rintro r y6 ⟨rfl, d6⟩
        have hE := D5.out.trans (d6.mono D5.out.size)
        have hE2 := HB.out.trans (hE.mono HB.out.size)
        go_wp2
        go_ret
        exact ⟨rfl, hE2⟩
      · have hld := row_ld32 HROW.out hs32
        go_wp2_with fail
        refine HVF'.mono ?_
        rintro r y6 ⟨rfl, d6⟩
        have hE := D5.out.trans (d6.mono D5.out.size)
        have hE2 := HB.out.trans (hE.mono HB.out.size)
        go_wp2
        go_ret
        exact ⟨rfl, hE2⟩
    · have c4' : ¬ (64 : Int) < (m : Int) := by omega
      have HQ : Hid ((W2.heap[w.heap.size]? = some (.cells #[.slice n1 n2 n3, .slice m1 m2 m3] 25 (0, 0)) ∧ Row 47 .u8 W2 (w.heap.size + 1) hs) ∧ Nv W2 (.slice n1 n2 n3) n 64 ∧ Nv W2 (.slice m1 m2 m3) e 64 ∧ NumIn .u8 256 W2 ao m c bs ∧ Below w.heap.size w W2) := HP.out
      clear HP hat
      have T0 : True := trivial
      have hnn := HQ.out.2.1.nonneg
      have hee := HQ.out.2.2.1.nonneg
      have HB : Hid (Below w.heap.size w W2) := HQ.out.2.2.2.2
      have HQS : Hid (∀ W', Below W2.heap.size W2 W' → Kv W' (.agg #[.slice n1 n2 n3, .slice m1 m2 m3]) n e 64 ∧ Row 47 .u8 W' (w.heap.size + 1) hs ∧ W'.cell? ⟨w.heap.size, 0, none⟩ = some (.slice n1 n2 n3) ∧ W'.cell? ⟨w.heap.size, 1, none⟩ = some (.slice m1 m2 m3) ∧ NumIn .u8 256 W' ao m c (bs)) := fun W' hb => by
        obtain ⟨k0, k1⟩ := cells2 (t := 25) (by rw [hb.block _ (Array.getElem?_eq_some_iff.1 HQ.out.1.1).1]; exact HQ.out.1.1 : W'.heap[w.heap.size]? = _)
        exact ⟨⟨_, _, rfl, HQ.out.2.1.old hb, HQ.out.2.2.1.old hb⟩, HQ.out.1.2.below hb HQ.out.1.2.lt, k0, k1, HQ.out.2.2.2.1.old hb⟩
      have HO := rOf_rv (.slice n1 n2 n3) n 64 W2 HQ.out.2.1 (by decide)
      have HVF := fun W' (hb : Below W2.heap.size W2 W') => verify_any (.agg #[.slice n1 n2 n3, .slice m1 m2 m3]) n e 64 hs ao m c (bs) W' (HQS.out W' hb).1 (by decide) hs32 hsd (HQS.out W' hb).2.2.2.2
      have HPF := fun W' (hb : Below W2.heap.size W2 W') (hn : 0 < n) (he : 0 < e) => power_any (.agg #[.slice n1 n2 n3, .slice m1 m2 m3]) n e 64 hs ao m c (bs) W' (HQS.out W' hb).1 (by decide) hs32 hsd (HQS.out W' hb).2.2.2.2 hn he
      have hO2 := fun W' (hb : Below W2.heap.size W2 W') => rOf_rv (.slice m1 m2 m3) e 64 W' (HQ.out.2.2.1.old hb) (by decide)
      have hz1 := verB_zero n e hs m ((bs))
      obtain ⟨BB, hBB⟩ : ∃ BB, verB (n) (e) hs m ((bs)) = BB := ⟨_, rfl⟩
      rw [hBB] at hz1
      simp only [hBB] at HVF HPF
      clear hBB HQ
      go_wp2_with fail
      rw [HW2.out]
      refine HO.mono ?_
      rintro r y1 ⟨v1, rfl, hv1, d1⟩
      have HL := rlen_rv v1 n (4 * 64) y1 hv1 (by decide)
      obtain ⟨o1, o2, o3, o4, rfl, -⟩ := hv1
      have D1 : Hid (Below W2.heap.size W2 y1) := d1
      clear HO s1 s2 p0 p1 q0 q1 d1
      go_wp2_with fail
      refine HL.mono ?_
      rintro r y2 ⟨rfl, rfl⟩
      clear HL
      obtain ⟨-, -, x0, x1, -⟩ := HQS.out y2 D1.out
      rcases Int.lt_or_eq_of_le hnn with hpos | hzero
      rotate_left
      · have hbz : blen (n).toNat = 0 := by rw [← hzero]; rfl
        have hB' : BB = false := hz1 (.inl hzero.symm)
        rw [hbz]
        subst hB'
        clear hz1 hbz hzero hnn hee HPF hO2
        have HROW : Hid (Row 47 .u8 y2 (w.heap.size + 1) hs) := (HQS.out y2 D1.out).2.1
        have HVF' := HVF y2 D1.out
        have hld := row_ld32 HROW.out hs32
        go_wp2_with fail
        refine HVF'.mono ?_
        rintro r y3 ⟨rfl, d3⟩
        have hE := D1.out.trans (d3.mono D1.out.size)
        have hE2 := HB.out.trans (hE.mono HB.out.size)
        go_wp2
        go_ret
        exact ⟨rfl, hE2⟩
      have hb1 : (0 : Int) < ((blen (n).toNat : Nat) : Int) := by have := blen_pos (n).toNat (by omega); omega
      generalize blen (n).toNat = bl1 at *
      have hO2' := hO2 y2 D1.out
      go_wp2_with fail
      refine hO2'.mono ?_
      rintro r y3 ⟨v3, rfl, hv3, d3⟩
      have HL := rlen_rv v3 e (4 * 64) y3 hv3 (by decide)
      obtain ⟨s1, s2, s3, s4, rfl, -⟩ := hv3
      have D3 : Hid (Below W2.heap.size W2 y3) := D1.out.trans (d3.mono D1.out.size)
      clear hO2 hO2' x0 x1 d3
      go_wp2_with fail
      refine HL.mono ?_
      rintro r y4 ⟨rfl, rfl⟩
      clear HL
      obtain ⟨-, -, x0, x1, -⟩ := HQS.out y4 D3.out
      have HROW : Hid (Row 47 .u8 y4 (w.heap.size + 1) hs) := (HQS.out y4 D3.out).2.1
      rcases Int.lt_or_eq_of_le hee with hpos2 | hzero
      rotate_left
      · have hbz : blen (e).toNat = 0 := by rw [← hzero]; rfl
        have hB' : BB = false := hz1 (.inr hzero.symm)
        rw [hbz]
        subst hB'
        clear hz1 hbz hzero hnn hee HPF
        have HVF' := HVF y4 D3.out
        have hld := row_ld32 HROW.out hs32
        go_wp2_with fail
        refine HVF'.mono ?_
        rintro r y5 ⟨rfl, d5⟩
        have hE := D3.out.trans (d5.mono D3.out.size)
        have hE2 := HB.out.trans (hE.mono HB.out.size)
        go_wp2
        go_ret
        exact ⟨rfl, hE2⟩
      have hb2 : (0 : Int) < ((blen (e).toNat : Nat) : Int) := by have := blen_pos (e).toNat (by omega); omega
      generalize blen (e).toNat = bl2 at *
      have HPF' := HPF y4 D3.out hpos hpos2
      clear hz1 hnn hee hpos hpos2
      have hld := row_ld32 HROW.out hs32
      go_wp2_with fail
      refine HPF'.mono ?_
      rintro r y5 ⟨rfl, d5⟩
      have D5 : Hid (Below W2.heap.size W2 y5) := D3.out.trans (d5.mono D3.out.size)
      have HVF' := HVF y5 D5.out
      clear x0 x1 d5 HPF HPF' HROW
      obtain ⟨-, -, x0, x1, -⟩ := HQS.out y5 D5.out
      have HROW : Hid (Row 47 .u8 y5 (w.heap.size + 1) hs) := (HQS.out y5 D5.out).2.1
      cases BB
      · have hld := row_ld32 HROW.out hs32
        go_wp2_with fail
        refine HVF'.mono ?_
        rintro r y6 ⟨rfl, d6⟩
        have hE := D5.out.trans (d6.mono D5.out.size)
        have hE2 := HB.out.trans (hE.mono HB.out.size)
        go_wp2
        go_ret
        exact ⟨rfl, hE2⟩
      · have hld := row_ld32 HROW.out hs32
        go_wp2_with fail
        refine HVF'.mono ?_
        rintro r y6 ⟨rfl, d6⟩
        have hE := D5.out.trans (d6.mono D5.out.size)
        have hE2 := HB.out.trans (hE.mono HB.out.size)
        go_wp2
        go_ret
        exact ⟨rfl, hE2⟩
end Go.Proofs.Ytnacgkkklmlhaaa
