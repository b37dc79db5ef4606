/-
  sha.All.
-/
import Derived.Test.YtclejcjbnmgaiaaSAllA
namespace Go.Proofs.Ytclejcjbnmgaiaa
open Go.RowKit Go.Shelf
set_option linter.unusedVariables false
set_option linter.unusedSimpArgs false
attribute [local go_sem] Oper.semAt_some
attribute [local go_sem ↓] keep_l8 keep_l64 keep_s8 keep_l32 keep_s32

set_option maxRecDepth 100000 in
set_option maxHeartbeats 4000000 in
/-- sha.All. -/
theorem All_any (gf : Nat) (lb : Array Value) (eg : ∀ args w, (callFunc gf args).run Try.prog w = .ok (.enter gf args) w) (tw : World → World) (w : World) (a : Option Addr) (len cap : Nat) (A : Nat → Option Addr) (L C : Nat → Nat) (Z : Nat → List Int)
    (hrows : CameRows (tw w) a len cap A L C Z) (htot : (catP L Z len).length ≤ 100000)
    (hit : ∀ (l : Nat) (J : Nat → World → Prop) (W : World), Below w.heap.size w W → PieceAt a len cap A L C J →
      (∀ k W1, k < len → J k W1 → YieldAt Fence.wide (4 - 1 - 1) Try.prog l #[.slice (A k) (L k) (C k)] W1 fun e W' => e = .returned (.bool true) ∧ J (k + 1) W') → J 0 (tw W) →
      CallsIn Fence.wide (4 - 1) Try.prog gf (#[.func (.yield l) #[] #[]] ++ lb) W fun e W' => (∃ v, e = .returned v) ∧ J len W')
    (htw1 : ∀ W, Below w.heap.size w W → Below w.heap.size (tw w) (tw W)) (htw2 : ∀ (W : World) k, w.heap.size ≤ k → (tw W).heap[k]? = W.heap[k]?) (htw3 : (tw w).heap.size = w.heap.size) :
    Calls Try.prog 13 #[.func (.func gf) #[] lb] w fun e w' => e = .returned (ag .u8 (shaS (catP L Z len))) ∧ Below w.heap.size (tw w) w' := by
  have hmf : ∀ (fn : Fn) (first cap : Array Value) (w : World), (Instr.makeFunc fn first cap).run Try.prog w = .ok (.func fn first cap) w := fun _ _ _ _ => rfl
  have HR : Hid (CameRows (tw w) a len cap A L C Z ∧ (catP L Z len).length ≤ 100000) := ⟨hrows, htot⟩
  clear hrows htot
  refine (callsIn_wide (n := 4)).1 ?_
  refine callsIn_of_wp_marks Try.func13 rfl trivial ?_ rfl
  simp only [Try.ntmps13, List.size_toArray, List.length_cons, List.length_nil, Nat.reduceAdd, Nat.reduceSub, Array.replicate_succ, Array.replicate_zero, List.push_toArray, List.append_toArray, List.nil_append, List.cons_append]
  gi_wp2
  refine ⟨trivial, ?_⟩
  have hrw1 : Row 24 .u8 (w.alloc (.cells (((List.replicate 32 (0 : Int)).map (Value.int .u8)).toArray) 24)) w.heap.size (List.replicate 32 0) := Row.alloc _ _ w _
  have hbl1 : Below w.heap.size w (w.alloc (.cells (((List.replicate 32 (0 : Int)).map (Value.int .u8)).toArray) 24)) := below_alloc w _
  have hsz1 : (w.alloc (.cells (((List.replicate 32 (0 : Int)).map (Value.int .u8)).toArray) 24)).heap.size = w.heap.size + 1 := by simp
  obtain ⟨w1, hw1⟩ : ∃ w1, w.alloc (.cells (((List.replicate 32 (0 : Int)).map (Value.int .u8)).toArray) 24) = w1 := ⟨_, rfl⟩
  rw [hw1] at hrw1 hbl1 hsz1
  change CallsIn Fence.wide 3 Try.prog 9 #[] (w.alloc (.cells (((List.replicate 32 (0 : Int)).map (Value.int .u8)).toArray) 24)) _
  rw [hw1]
  clear hw1
  refine (callsIn_wide.2 (New_any w1)).mono ?_
  rintro e w2 ⟨rfl, hh2, hb2⟩
  obtain ⟨gs, hgs⟩ : ∃ gs, w.heap.size = gs := ⟨_, rfl⟩
  rw [hsz1, hgs] at hh2 ⊢
  have HW2 : Hid (HashAt w2 (gs + 1) [] ∧ Row 24 .u8 w2 gs (List.replicate 32 0) ∧ Below gs w w2 ∧ w.heap.size = gs ∧ gs + 1 < w2.heap.size) := by
    have h1 := hh2.lt
    exact ⟨hh2, by rw [hgs] at hrw1; exact hrw1.below hb2 (by omega), by rw [hgs] at hbl1; exact hbl1.trans (hb2.mono (by omega)), hgs, h1⟩
  clear hh2 hb2 hrw1 hbl1 hsz1
  have hnil := fn_not_nil (.func gf) #[] lb
  gi_wp2
  have HW3 : Hid (HashAt (w2.alloc (.cells #[.pointer (some ⟨gs + 1, 0, none⟩)] 28)) (gs + 1) [] ∧ Row 24 .u8 (w2.alloc (.cells #[.pointer (some ⟨gs + 1, 0, none⟩)] 28)) gs (List.replicate 32 0) ∧ Below gs w (w2.alloc (.cells #[.pointer (some ⟨gs + 1, 0, none⟩)] 28)) ∧ (w2.alloc (.cells #[.pointer (some ⟨gs + 1, 0, none⟩)] 28)).heap[w2.heap.size]? = some (.cells #[.pointer (some ⟨gs + 1, 0, none⟩)] 28) ∧ gs + 1 < w2.heap.size) := by
    obtain ⟨a1, a2, a3, a4, a5⟩ := HW2.out
    exact ⟨a1.old (below_alloc w2 _) a5, a2.below (below_alloc w2 _) a2.lt, a3.alloc (by omega) _, World.alloc_heap_new _ _, a5⟩
  obtain ⟨w3, hw3⟩ : ∃ w3, w2.alloc (.cells #[.pointer (some ⟨gs + 1, 0, none⟩)] 28) = w3 := ⟨_, rfl⟩
  obtain ⟨gp, hgp⟩ : ∃ gp, w2.heap.size = gp := ⟨_, rfl⟩
  rw [hw3, hgp] at HW3
  rw [hw3, hgp]
  clear hw3 HW2 hnil
  have HTW : Hid ((∀ W, Below gs w W → Below gs (tw w) (tw W)) ∧ (∀ (W : World) k, gs ≤ k → (tw W).heap[k]? = W.heap[k]?) ∧ (tw w).heap.size = gs) := by
    rw [hgs] at htw1 htw2 htw3
    exact ⟨htw1, htw2, htw3⟩
  rw [hgs] at hit
  have hb3s := HW3.out.2.2.1.size
  have hlt3 : gp < w3.heap.size := (Array.getElem?_eq_some_iff.1 HW3.out.2.2.2.1).1
  have hgp2 := HW3.out.2.2.2.2
  refine range_once (n := 4) (gf := gf) (lb := lb) (by decide) rfl eg len (fun k => .slice (A k) (L k) (C k)) rfl
    (fun k W => HashAt W (gs + 1) (catP L Z k) ∧ Row 24 .u8 W gs (List.replicate 32 0) ∧ W.heap[gp]? = some (.cells #[.pointer (some ⟨gs + 1, 0, none⟩)] 28) ∧ Below gs (tw w) W) tw
    (fun k => { tmps := #[.func (.func gf) #[] lb, undef, .pointer (some ⟨gs, 0, none⟩), .pointer (some ⟨gp, 0, none⟩), .slice (A k) (L k) (C k), .func (.func 20) #[] #[.pointer (some ⟨gs, 0, none⟩)], .pointer (some ⟨gs + 1, 0, none⟩), .func (.func gf) #[] lb, .bool false, undef, undef, .func (.func gf) #[] lb, .slice (A k) (L k) (C k), undef, undef, undef, undef, undef], defers := [] })
    ?hit ?htw ?hI ?h0 ?hassign ?hbody ?hdone
  case hit =>
    intro l r J hJI hY hJ0
    refine hit l J _ ((HW3.out.2.2.1.alloc (by omega) _).alloc (by simp; omega) _) ?_ hY hJ0
    refine ⟨HR.out.1.1, ?_⟩
    rcases HR.out.1.2 with h0 | ⟨b, off, rfl, h1, h2, h3⟩
    · exact .inl h0
    · refine .inr ⟨b, off, rfl, h1, fun k W hk hJ => ?_⟩
      obtain ⟨c1, c2, _⟩ := h3 k hk
      have hB := (hJI k W hJ).2.2.2
      exact (hB.cell (p := ⟨b, off + k, none⟩) (by rw [HTW.out.2.2] at c1; exact c1)).trans c2
  case htw =>
    intro W k o h hk
    rw [HTW.out.2.1 W k (by omega)]
    exact h
  case hI =>
    rintro k W r o o' ⟨a1, a2, a3, a4⟩ hr ho hc
    exact ⟨a1.kept (World.putObj_heap_other (by omega)), a2.samed (World.putObj_heap_other (by omega)), (World.putObj_heap_other (by omega)).trans a3, below_putObj a4 (by omega) _⟩
  case h0 =>
    intro r
    have hold : ∀ k, k < w3.heap.size → ((w3.alloc (.deferred (some []))).alloc (.loop r)).heap[k]? = w3.heap[k]? := fun k hk => (Below.heap_alloc _ _ _ (by simp; omega)).trans (Below.heap_alloc _ _ _ hk)
    obtain ⟨a1, a2, a3, a4, a5⟩ := HW3.out
    refine ⟨a1.kept ((HTW.out.2.1 _ _ (by omega)).trans (hold _ (by omega))), a2.samed ((HTW.out.2.1 _ _ (by omega)).trans (hold _ (by omega))), ((HTW.out.2.1 _ _ (by omega)).trans (hold _ (by omega))).trans a4, HTW.out.1 _ ((a3.alloc (by omega) _).alloc (by simp; omega) _)⟩
  case hassign =>
    intro l k W K hK
    gi_wp2
    exact hK
  case hbody =>
    rintro l k W hk ⟨a1, a2, a3, a4⟩
    have hcp : W.cell? ⟨gp, 0, none⟩ = some (.pointer (some ⟨gs + 1, 0, none⟩)) := by rw [cell_of_row W gp 0 _ _ _ a3]; rfl
    obtain ⟨b, off, _, _, _, hrr⟩ := HR.out.1.2.resolve_left (by omega)
    obtain ⟨_, _, hcame, hreach⟩ := hrr k hk
    have hlk : (catP L Z k).length + L k ≤ 100000 := by
      have h1 := catP_mono L Z (show k + 1 ≤ len from hk)
      rw [catP_succ, List.length_append, hcame.tlen] at h1
      have := HR.out.2
      omega
    have hnum := hcame.num (B := 256) (fun _ => word_u8) (by omega)
    have hlies : Lies .u8 W (A k) (L k) ((Z k).take (L k)) := hnum.lies.old (by rw [HTW.out.2.2]; exact a4)
    have HP : Calls Try.prog 10 #[.pointer (some ⟨gs + 1, 0, none⟩), .slice (A k) (L k) (C k)] W fun e w' => (∃ v, e = .returned v) ∧ HashAt w' (gs + 1) (catP L Z k ++ (Z k).take (L k)) ∧ But (gs + 1) W w' := by
      by_cases h0 : L k = 0
      · exact Put_few (gs + 1) _ _ _ _ _ W a1 hnum.dg hlies (by rw [h0]; exact Nat.zero_le _) (by omega) (by omega)
      · refine Put_any (gs + 1) _ _ _ _ _ W a1 hnum.dg hlies (fun bb oo ss e => ?_) hnum.lc hnum.cm hnum.nn (by omega)
        obtain ⟨b2, off2, e2, hlt2, _⟩ := hnum.lies.at (by omega)
        rw [e] at e2
        cases e2
        rw [HTW.out.2.2] at hlt2
        omega
    rw [← catP_succ] at HP
    have HI : Hid (HashAt W (gs + 1) (catP L Z k) ∧ Row 24 .u8 W gs (List.replicate 32 0) ∧ W.heap[gp]? = some (.cells #[.pointer (some ⟨gs + 1, 0, none⟩)] 28) ∧ Below gs (tw w) W) := ⟨a1, a2, a3, a4⟩
    clear a1 a2 a3 a4 hlies hnum hcame hrr hit
    generalize A k = ak at *
    generalize C k = ck at *
    gi_wp2_with (refine ⟨trivial, ?_⟩; gi_at_call 10; refine (CallsIn.inRound l (callsIn_wide.2 HP)).mono ?_; rintro e w' ⟨⟨v, rfl⟩, hh', hbut'⟩)
    obtain ⟨b1, b2, b3, b4⟩ := HI.out
    obtain ⟨ws, rs, hq1, _⟩ := b1
    have hz := b4.size
    have hgl := hq1.lt
    have hpl := (Array.getElem?_eq_some_iff.1 b3).1
    refine ⟨keeps_but hbut' ⟨_, _, _, hq1.blk⟩, b2.samed (hbut'.block gs (by omega) (by omega)), (hbut'.block gp hpl (by omega)).trans b3, b4.trans (hbut'.below (by omega) (by omega))⟩
  case hdone =>
    rintro D W hD ⟨a1, a2, a3, a4⟩ hK
    have hcp : W.cell? ⟨gp, 0, none⟩ = some (.pointer (some ⟨gs + 1, 0, none⟩)) := by rw [cell_of_row W gp 0 _ _ _ a3]; rfl
    have HS := Sum_any (gs + 1) _ W a1 (by have := HR.out.2; omega)
    have hl32 := shaS_length (catP L Z len)
    have HI : Hid (Row 24 .u8 W gs (List.replicate 32 0) ∧ Below gs (tw w) W ∧ W.heap[D]? = some (.deferred (some [])) ∧ w3.heap.size ≤ D) := ⟨a2, a4, hK, hD⟩
    obtain ⟨hv, hhv⟩ : ∃ hv, shaS (catP L Z len) = hv := ⟨_, rfl⟩
    have HHV : Hid (shaS (catP L Z len) = hv) := hhv
    rw [hhv] at HS hl32
    clear a1 a2 a3 a4 hit hK hhv
    gi_wp2
    refine ⟨trivial, ?_⟩
    refine (callsIn_wide.2 HS).mono ?_
    rintro e w5 ⟨rfl, hb5⟩
    have hD5 : w5.heap[D]? = some (.deferred (some [])) := by rw [hb5.block D (Array.getElem?_eq_some_iff.1 HI.out.2.2.1).1]; exact HI.out.2.2.1
    have hr5 : Row 24 .u8 w5 gs (List.replicate 32 0) := HI.out.1.below hb5 HI.out.1.lt
    have hst := hr5.sta32 (by simp) hv hl32
    have HI5 : Hid (Row 24 .u8 (w5.setRow gs ((hv.map (Value.int .u8)).toArray)) gs hv ∧ Below gs (tw w) (w5.setRow gs ((hv.map (Value.int .u8)).toArray)) ∧ (w5.setRow gs ((hv.map (Value.int .u8)).toArray)).heap[D]? = some (.deferred (some []))) := by
      refine ⟨setRow_heap w5 gs _ _ _ (0, 0) hr5, below_setRow' (HI.out.2.1.trans (hb5.mono (by have := HI.out.2.1.size; have := HTW.out.2.2; omega))) (Nat.le_refl _) _, ?_⟩
      rw [setRow_other w5 gs D _ (by have := HI.out.2.2.2; omega)]
      exact hD5
    have HGD : Hid (gs + 1 < D) := by have := HI.out.2.2.2; unfold Hid; omega
    clear hD5 hr5 hb5 HS HI
    generalize w5.setRow gs ((hv.map (Value.int .u8)).toArray) = w6 at *
    gi_wp2
    have hDg : gs ≠ D := by have := HGD.out; omega
    refine ⟨by simp, .inl ⟨D, _, rfl, run_takeDeferred HI5.out.2.2, ?_⟩⟩
    refine ⟨by simp, .inr ⟨fun _ => by decide, _, _, 20, #[.pointer (some ⟨gs, 0, none⟩)], rfl, by simp [go_sem], fun _ _ => trivial, ?_⟩⟩
    refine (all_door _ ⟨gs, 0, none⟩ _).mono ?_
    rintro e u' w' ⟨rfl, rfl, rfl⟩
    refine ⟨ag .u8 hv, results_nums rfl _ _ gs 24 5 .u8 32 _ rfl (HI5.out.1.samed (World.putObj_heap_other hDg)) Try.underlying24 Try.sizeB32 hl32, by rw [HHV.out], ?_⟩
    rw [hgs]
    exact below_putObj HI5.out.2.1 (by have := HGD.out; omega) _
end Go.Proofs.Ytclejcjbnmgaiaa
