/-
  The law's walk over members.
-/
import Derived.Test.YtbobgebhdafciaaDoorJQr
import Derived.Sort.QuietTacIn
namespace Go.Proofs.YtbobgebhdafciaaDoor
open Go.Shelf Go.RowKit
set_option linter.unusedVariables false
set_option linter.unusedSimpArgs false
attribute [local go_sem] Oper.semAt_some

set_option maxRecDepth 100000 in
set_option maxHeartbeats 4000000 in
theorem walk_any (p : Option Addr) (c : Nat) (gs : List Gn) (i stop : Int) (pM : Option Addr) (m cM : Nat) (w : World) (h : GLies w p gs) (hl : gs.length ≤ 1000) (hb : (nmsOf gs i).length ≤ 1000 ∧ (kdsOf gs i).length ≤ 1000) (hm : min (nmsOf gs i).length (kdsOf gs i).length = m) (rM : RowAt w w.heap.size pM m (strs ((nmsOf gs i).take m))) :
    Calls Tryd.prog 15 #[.slice p gs.length c, .int .i64 i, .slice pM m cM, .int .i64 stop] w fun e w' => e = .returned (.tuple #[.int .i64 (cntOf m stop), .bool true]) ∧ Below w.heap.size w w' := by
  obtain ⟨n, hn⟩ : ∃ n, gs.length = n := ⟨_, rfl⟩
  have HMEM := fun (w7 : World) (hb7 : Below w.heap.size w w7) => Members_any p c gs i w7 (h.keep hb7) hl hb
  rw [hn] at HMEM ⊢
  have HN : Hid (gs.length = n ∧ GLies w p gs ∧ gs.length ≤ 1000) := ⟨hn, h, hl⟩
  clear hn h hl
  refine (callsIn_wide (n := 4)).1 ?_
  refine callsIn_of_wp_marks Tryd.func15 rfl trivial ?_ rfl
  simp only [Tryd.ntmps15, List.size_toArray, List.length_cons, List.length_nil, Nat.reduceAdd, Nat.reduceSub, Array.replicate_succ, Array.replicate_zero, List.push_toArray, List.append_toArray, List.nil_append, List.cons_append]
  gi_wp2_with fail
  refine ⟨trivial, ?_⟩
  have hsz : (((((((w.alloc (.cells #[.slice p n c] 33)).alloc (.cells #[.int .i64 i] 3)).alloc (.cells #[.slice pM m cM] 30)).alloc (.cells #[.int .i64 stop] 3)).alloc (.cells #[.int .i64 0] 3)).alloc (.cells #[.bool false] 4)).alloc (.cells #[.int .i64 0] 3)).heap.size = w.heap.size + 1 + 1 + 1 + 1 + 1 + 1 + 1 := by simp
  have hb7 : Below w.heap.size w (((((((w.alloc (.cells #[.slice p n c] 33)).alloc (.cells #[.int .i64 i] 3)).alloc (.cells #[.slice pM m cM] 30)).alloc (.cells #[.int .i64 stop] 3)).alloc (.cells #[.int .i64 0] 3)).alloc (.cells #[.bool false] 4)).alloc (.cells #[.int .i64 0] 3)) :=
    (((((((Below.refl _ w).alloc (Nat.le_refl _) _).alloc (by simp) _).alloc (by simp; omega) _).alloc (by simp; omega) _).alloc (by simp; omega) _).alloc (by simp; omega) _).alloc (by simp; omega) _
  have hsev : Sev (((((((w.alloc (.cells #[.slice p n c] 33)).alloc (.cells #[.int .i64 i] 3)).alloc (.cells #[.slice pM m cM] 30)).alloc (.cells #[.int .i64 stop] 3)).alloc (.cells #[.int .i64 0] 3)).alloc (.cells #[.bool false] 4)).alloc (.cells #[.int .i64 0] 3)) w.heap.size (.slice p n c) (.slice pM m cM) i stop 0 :=
    ⟨((((((Kc.new _ _ _ _ rfl).alloc _).alloc _).alloc _).alloc _).alloc _).alloc _, (((((Kc.new _ _ _ _ (by simp)).alloc _).alloc _).alloc _).alloc _).alloc _, ((((Kc.new _ _ _ _ (by simp)).alloc _).alloc _).alloc _).alloc _, (((Kc.new _ _ _ _ (by simp)).alloc _).alloc _).alloc _, ((Kc.new _ _ _ _ (by simp)).alloc _).alloc _, (Kc.new _ _ _ _ (by simp)).alloc _, Kc.new _ _ _ _ (by simp)⟩
  generalize (((((((w.alloc (.cells #[.slice p n c] 33)).alloc (.cells #[.int .i64 i] 3)).alloc (.cells #[.slice pM m cM] 30)).alloc (.cells #[.int .i64 stop] 3)).alloc (.cells #[.int .i64 0] 3)).alloc (.cells #[.bool false] 4)).alloc (.cells #[.int .i64 0] 3)) = w7 at *
  refine (callsIn_wide.2 (HMEM w7 hb7)).mono ?_
  clear HMEM
  rintro e w8 ⟨b, pN, cN, pK, cK, rfl, b8, hbge, cl1, cl2, hblt, rN, rK, gN, gK⟩
  rw [hm] at cl1 cl2 rN rK
  have sev8 := hsev.below b8 (by omega)
  have hb8 : Below w.heap.size w w8 := hb7.trans (b8.mono (by omega))
  obtain ⟨nms, hnms⟩ : ∃ x, (nmsOf gs i).take m = x := ⟨_, rfl⟩
  obtain ⟨kds, hkds⟩ : ∃ x, (kdsOf gs i).take m = x := ⟨_, rfl⟩
  have hln : nms.length = m := by rw [← hnms, List.length_take]; omega
  have hlk : kds.length = m := by rw [← hkds, List.length_take]; omega
  rw [hnms] at rN rM
  rw [hkds] at rK
  have hsz8 : w.heap.size + 7 ≤ w8.heap.size := by have := b8.size; omega
  have hmb : m ≤ 1000 := by omega
  have HSEQ := members_stopsX (w.heap.size + 1 + 1 + 1 + 1 + 1 + 1) (4 - 1) (by omega) w8 b (b + 1) pN pK cN cK nms kds (by rw [hln]; exact cl1) (by rw [hlk]; exact cl2) (by omega) hblt (by rw [hln]; exact rN) (by rw [hlk]; exact rK) (by omega) (by omega) (by omega) (by omega) (fun a e => by have := gN a e; omega) (fun a e => by have := gK a e; omega)
  clear cl1 cl2 rN rK gN gK hsev b8
  gi_wp2_with fail
  refine wpIn_rangeFunc_ownF rfl (by omega) (gf := 51) (lb := #[.pointer (some ⟨b, 0, none⟩), .pointer (some ⟨b + 1, 0, none⟩)]) rfl trivial (enters_of Tryd.func51 (by kernel_rfl) rfl)
    HSEQ (fun h k => h.trans k) (fun W l o o' h1 h2 h3 h4 => BelowX.of (belowK_b (Nat.le_refl _) W l o o' h1 h2 h3 h4)) (Below.refl _ _) (fun _ => rfl)
    (WGo w (.slice p n c) (.slice pM m cM) i stop (memL nms kds)) (WGone w (.slice p n c) (.slice pM m cM) i stop (memL nms kds))
    (fun s A B row hs hg hr => ⟨⟨hs.1.1.kept hg (fun r e => (hr r e).2), hs.1.2⟩, ownFrom_below (β := Unit) (Nat.le_refl _) (by omega) () A B row hs.2 hg hr⟩)
    (fun c s A B row hs hg hr => ⟨hs.1.imp id (fun h => ⟨h.1, h.2.1, h.2.2.1, h.2.2.2.kept hg (fun r e => (hr r e).2)⟩), ownFrom_below (β := Unit) (Nat.le_refl _) (by omega) () A B row hs.2 hg hr⟩)
    ⟨⟨sev8, List.nil_prefix, fun t h1 h2 => by simp at h2; omega⟩, hb8⟩
    (fun x => { tmps := #[.slice p n c, .int .i64 i, .slice pM m cM, .int .i64 stop, .pointer (some ⟨w.heap.size, 0, none⟩), .pointer (some ⟨w.heap.size + 1, 0, none⟩), .pointer (some ⟨w.heap.size + 1 + 1, 0, none⟩), .pointer (some ⟨w.heap.size + 1 + 1 + 1, 0, none⟩), .pointer (some ⟨w.heap.size + 1 + 1 + 1 + 1, 0, none⟩), .pointer (some ⟨w.heap.size + 1 + 1 + 1 + 1 + 1, 0, none⟩), .pointer (some ⟨w.heap.size + 1 + 1 + 1 + 1 + 1 + 1, 0, none⟩), .string ⟨x.1.toArray⟩, .int .i64 x.2, .slice p n c, .int .i64 i, .func (.func 51) #[] #[.pointer (some ⟨b, 0, none⟩), .pointer (some ⟨b + 1, 0, none⟩)], .string ⟨x.1.toArray⟩, .int .i64 x.2, undef, undef, undef, undef, undef, undef, undef, undef, undef, undef, undef, undef, undef, undef, undef, undef, undef, undef, undef, undef, undef, undef, undef, undef, undef, undef, undef, undef, undef, undef, undef], defers := [] }) ?assign ?body ?done ?stop
  case assign =>
    intro l x W K hK
    clear HSEQ hm hb rM sev8 hb8 hnms hkds hln hlk hsz hsz8 hb7 hbge hblt HN hmb
    gi_wp2
    exact hK
  case body =>
    rintro l pre ⟨x1, x2⟩ W ⟨⟨hsev, hpre, hne⟩, hbW⟩ hlen
    obtain ⟨nn, hnn⟩ : ∃ nn, pre.length = nn := ⟨_, rfl⟩
    have hnm : nn < m := by rw [hln, hlk] at hlen; omega
    have h1n : nn < nms.length := by omega
    have h1k : nn < kds.length := by omega
    have hget := memL_get nms kds nn h1n h1k
    obtain ⟨y1, hy1⟩ : ∃ y, nms[nn] = y := ⟨_, rfl⟩
    obtain ⟨y2, hy2⟩ : ∃ y, kds[nn] = y := ⟨_, rfl⟩
    rw [hy1, hy2] at hget
    have HMIS : Hid ((x1, x2) ≠ (y1, y2) → ¬ pre ++ [(x1, x2)] <+: memL nms kds) := fun h1 h2 => h1 (by have := pre_get h2; rw [hnn, hget] at this; exact (Option.some.inj this).symm)
    have HGO : Hid ((x1, x2) = (y1, y2) → pre ++ [(x1, x2)] <+: memL nms kds) := fun h1 => pre_more hpre (by rw [hnn, hget, h1])
    -- the node
    have hin : 0 ≤ i ∧ i < (gs.length : Int) := by
      by_cases q : i < 0 ∨ (gs.length : Int) ≤ i
      · have ha : atG gs i = none := atG_none q
        have e1 : nmsOf gs i = [] := by unfold nmsOf; rw [ha]
        rw [e1] at hm
        simp at hm
        omega
      · omega
    obtain ⟨k, g, rfl, hk, hg, ha⟩ := atG_some hin.1 hin.2
    have e2 : kdsOf gs (k : Int) = g.kids := by unfold kdsOf; rw [ha]
    obtain ⟨bb, oo, rfl, hlt, pN', cN', pK', cK', _, _, _, c3, _, r2, _, _⟩ := (HN.out.2.1.keep hbW) k g hg
    have hgk : nn < g.kids.length := by rw [← e2]; have := hm; omega
    have hgy : g.kids[nn] = y2 := by
      rw [← hy2]
      have : kds[nn]? = some g.kids[nn] := by rw [← hkds, e2, List.getElem?_take, if_pos hnm, List.getElem?_eq_getElem hgk]
      rw [List.getElem?_eq_getElem h1k] at this
      exact (Option.some.inj this).symm
    obtain ⟨qk, fk, rfl, _, ck⟩ := r2.cells (by omega)
    have cck : W.cell? ⟨qk, fk + nn, none⟩ = some (.int .i64 y2) := by rw [ck nn hgk, List.getElem?_map, List.getElem?_eq_getElem hgk, hgy]; rfl
    obtain ⟨qm, fm, rfl, _, cm⟩ := (rM.more hbW).cells (by omega)
    have ccm : W.cell? ⟨qm, fm + nn, none⟩ = some (.string ⟨y1.toArray⟩) := by rw [cm nn hnm]; unfold strs; rw [List.getElem?_map, List.getElem?_eq_getElem h1n, hy1]; rfl
    obtain ⟨lk', hlk'⟩ : ∃ lk', g.kids.length = lk' := ⟨_, rfl⟩
    rw [hlk'] at c3 hgk
    have k0 := hsev.1.1
    have k1 := hsev.2.1.1
    have k2 := hsev.2.2.1.1
    have k3 := hsev.2.2.2.1.1
    have k4 := hsev.2.2.2.2.1.1
    have f4 := hsev.2.2.2.2.1.2
    have k5 := hsev.2.2.2.2.2.1.1
    have f5 := hsev.2.2.2.2.2.1.2
    have k6 := hsev.2.2.2.2.2.2.1
    have f6 := hsev.2.2.2.2.2.2.2
    rw [hnn] at k6
    have hkn : (k : Int) < (n : Int) := by have := HN.out.1; omega
    have hk0 : (0 : Int) ≤ (k : Int) := by omega
    have hn0 : (0 : Int) ≤ (nn : Int) := by omega
    have hnmI : (nn : Int) < (m : Int) := by omega
    have hnkI : (nn : Int) < (lk' : Int) := by omega
    have hnb : (nn : Int) ≤ 1000 := by omega
    have hdm : decide (m ≤ nn) = false := by simp; omega
    have ht : ∀ l : Bs, (⟨l.toArray⟩ : ByteArray).toList = l := fun l => by rw [Lib.toList_data]
    have HSEV : Hid (Sev W w.heap.size (.slice (some ⟨bb, oo, none⟩) n c) (.slice (some ⟨qm, fm, none⟩) m cM) k stop nn) := by rw [← hnn]; exact hsev
    have HBW : Hid (Below w.heap.size w W) := hbW
    have HNE : Hid (∀ t : Nat, 1 ≤ t → t ≤ nn → (t : Int) ≠ stop) := by rw [← hnn]; exact hne
    have HLN : Hid ((pre ++ [(x1, x2)]).length = nn + 1) := by show _ = _; rw [List.length_append, hnn]; rfl
    clear hsev hbW hne hnn hpre hget hy1 hy2 hgy r2 ck cm rM HSEQ sev8 hb8 hnms hkds hln hlk hm hb hlen h1n h1k hin hk hg ha e2 hlt hlk' hgk hb7 hbge hblt hsz hsz8
    have HD : Hid (∀ nq, Sev ((W.drewN nq).setCell ⟨w.heap.size + 1 + 1 + 1 + 1 + 1 + 1, 0, none⟩ (.int .i64 ((nn : Int) + 1))) w.heap.size (.slice (some ⟨bb, oo, none⟩) n c) (.slice (some ⟨qm, fm, none⟩) m cM) k stop ((nn : Int) + 1)) := fun nq => (HSEV.out.kept (W' := W.drewN nq) (row := none) ⟨rfl, rfl, rfl, Nat.le_refl _, fun _ _ _ => rfl⟩ (fun r e => by cases e)).more _
    have HDB : Hid (∀ nq, Below w.heap.size w (W.drewN nq)) := fun nq => HBW.out.trans ⟨rfl, rfl, rfl, Nat.le_refl _, fun _ _ => rfl⟩
    have HKO : Hid (∀ nq, KeepsOthers W (W.drewN nq)) := fun nq => ⟨Nat.le_refl _, fun _ _ h _ => h⟩
    by_cases hx1 : x1 = y1
    · by_cases hx2 : x2 = y2
      · subst hx1 hx2
        have HPRE : Hid (pre ++ [(x1, x2)] <+: memL nms kds) := HGO.out rfl
        have hxb : (x1 == x1) = true := by simp
        clear HMIS HGO
        by_cases hst : (nn : Int) + 1 = stop
        · have hstb : (((nn : Int) + 1) == stop) = true := by simp [hst]
          have HST : Hid ((nn : Int) + 1 = stop) := hst
          clear hst
          gi_wp2
          refine region_quiet_round l rfl (by kernel_rfl) (by kernel_rfl) (by kernel_rfl) ?_
          repeat (quiet_step_in (fail))
          refine wpQuietIn_nil ?_
          intro _ hw'
          obtain ⟨nq, hw''⟩ := hw'
          subst hw''
          gi_wp2
          exact ⟨(HKO.out nq).trans (KeepsOthers.setCell _ _ _), .inr ⟨rfl, by rw [HLN.out]; exact HST.out, by rw [HLN.out]; omega, by rw [HLN.out]; exact HD.out nq⟩, (HDB.out nq).setCell (p := ⟨w.heap.size + 1 + 1 + 1 + 1 + 1 + 1, 0, none⟩) (by show w.heap.size ≤ w.heap.size + 1 + 1 + 1 + 1 + 1 + 1; omega) _⟩
        · have hstb : (((nn : Int) + 1) == stop) = false := by simp [hst]
          gi_wp2
          refine region_quiet_round l rfl (by kernel_rfl) (by kernel_rfl) (by kernel_rfl) ?_
          repeat (quiet_step_in (fail))
          refine wpQuietIn_nil ?_
          intro _ hw'
          obtain ⟨nq, hw''⟩ := hw'
          subst hw''
          gi_wp2
          exact ⟨(HKO.out nq).trans (KeepsOthers.setCell _ _ _), ⟨rfl, rfl, rfl, by simp [World.setCell, World.drewN], fun j hj hq => Below.heap_setCell (W.drewN nq) ⟨w.heap.size + 1 + 1 + 1 + 1 + 1 + 1, 0, none⟩ _ j hq⟩, ⟨by rw [HLN.out]; exact HD.out nq, HPRE.out, fun t h1 h2 => by
            rw [HLN.out] at h2
            by_cases e : t = nn + 1
            · rw [e]; simpa using hst
            · exact HNE.out t h1 (by omega)⟩, (HDB.out nq).setCell (p := ⟨w.heap.size + 1 + 1 + 1 + 1 + 1 + 1, 0, none⟩) (by show w.heap.size ≤ w.heap.size + 1 + 1 + 1 + 1 + 1 + 1; omega) _⟩
      · have hxb : (x1 == y1) = true := by simpa using hx1
        have hx2b : (x2 == y2) = false := by simpa using hx2
        have HM : Hid (¬ pre ++ [(x1, x2)] <+: memL nms kds) := HMIS.out (fun e => hx2 (Prod.mk.inj e).2)
        clear HMIS HGO hx1 hx2
        gi_wp2
        refine region_quiet_round l rfl (by kernel_rfl) (by kernel_rfl) (by kernel_rfl) ?_
        repeat (quiet_step_in (fail))
        refine wpQuietIn_nil ?_
        intro _ hw'
        obtain ⟨nq, hw''⟩ := hw'
        subst hw''
        gi_wp2
        exact ⟨((HKO.out nq).trans (KeepsOthers.setCell _ _ _)).trans (KeepsOthers.setCell _ _ _), .inl ⟨rfl, HM.out⟩, ((HDB.out nq).setCell (p := ⟨w.heap.size + 1 + 1 + 1 + 1, 0, none⟩) (by show w.heap.size ≤ w.heap.size + 1 + 1 + 1 + 1; omega) _).setCell (p := ⟨w.heap.size + 1 + 1 + 1 + 1 + 1, 0, none⟩) (by show w.heap.size ≤ w.heap.size + 1 + 1 + 1 + 1 + 1; omega) _⟩
    · have hxb : (x1 == y1) = false := by simpa using hx1
      have HM : Hid (¬ pre ++ [(x1, x2)] <+: memL nms kds) := HMIS.out (fun e => hx1 (Prod.mk.inj e).1)
      clear HMIS HGO hx1
      gi_wp2
      refine region_quiet_round l rfl (by kernel_rfl) (by kernel_rfl) (by kernel_rfl) ?_
      repeat (quiet_step_in (fail))
      refine wpQuietIn_nil ?_
      intro _ hw'
      obtain ⟨nq, hw''⟩ := hw'
      subst hw''
      gi_wp2
      exact ⟨((HKO.out nq).trans (KeepsOthers.setCell _ _ _)).trans (KeepsOthers.setCell _ _ _), .inl ⟨rfl, HM.out⟩, ((HDB.out nq).setCell (p := ⟨w.heap.size + 1 + 1 + 1 + 1, 0, none⟩) (by show w.heap.size ≤ w.heap.size + 1 + 1 + 1 + 1; omega) _).setCell (p := ⟨w.heap.size + 1 + 1 + 1 + 1 + 1, 0, none⟩) (by show w.heap.size ≤ w.heap.size + 1 + 1 + 1 + 1 + 1; omega) _⟩
  case done =>
    rintro D ys W hD hys ⟨⟨hsev, hpre, hne⟩, hbW⟩ hK
    have hlen : ys.length = m := by rw [hys, memL_len, hln, hlk]; omega
    have k4 := hsev.2.2.2.2.1.1
    have f4 := hsev.2.2.2.2.1.2
    have k5 := hsev.2.2.2.2.2.1.1
    have f5 := hsev.2.2.2.2.2.1.2
    have k6 := hsev.2.2.2.2.2.2.1
    rw [hlen] at k6
    have HCN : Hid (cntOf m stop = (m : Int)) := by
      show _ = _
      unfold cntOf
      rw [if_neg]
      rintro ⟨h1, h2⟩
      exact hne stop.toNat (by omega) (by omega) (by omega)
    have HR : Hid (Kc ((W.setCell ⟨w.heap.size + 1 + 1 + 1 + 1, 0, none⟩ (.int .i64 m)).setCell ⟨w.heap.size + 1 + 1 + 1 + 1 + 1, 0, none⟩ (.bool true)) (w.heap.size + 1 + 1 + 1 + 1) (.int .i64 m) ∧ Kc ((W.setCell ⟨w.heap.size + 1 + 1 + 1 + 1, 0, none⟩ (.int .i64 m)).setCell ⟨w.heap.size + 1 + 1 + 1 + 1 + 1, 0, none⟩ (.bool true)) (w.heap.size + 1 + 1 + 1 + 1 + 1) (.bool true)) :=
      ⟨(hsev.2.2.2.2.1.set _).other (by omega) _, (hsev.2.2.2.2.2.1.other (by omega) _).set _⟩
    have HB9 : Hid (Below w.heap.size w ((W.setCell ⟨w.heap.size + 1 + 1 + 1 + 1, 0, none⟩ (.int .i64 m)).setCell ⟨w.heap.size + 1 + 1 + 1 + 1 + 1, 0, none⟩ (.bool true))) := (hbW.setCell (p := ⟨w.heap.size + 1 + 1 + 1 + 1, 0, none⟩) (by show w.heap.size ≤ w.heap.size + 1 + 1 + 1 + 1; omega) _).setCell (p := ⟨w.heap.size + 1 + 1 + 1 + 1 + 1, 0, none⟩) (by show w.heap.size ≤ w.heap.size + 1 + 1 + 1 + 1 + 1; omega) _
    have hK' := ((KeepsOthers.setCell W ⟨w.heap.size + 1 + 1 + 1 + 1, 0, none⟩ (.int .i64 m)).trans (KeepsOthers.setCell _ ⟨w.heap.size + 1 + 1 + 1 + 1 + 1, 0, none⟩ (.bool true))).same D _ hK rfl
    have HK : Hid (((W.setCell ⟨w.heap.size + 1 + 1 + 1 + 1, 0, none⟩ (.int .i64 m)).setCell ⟨w.heap.size + 1 + 1 + 1 + 1 + 1, 0, none⟩ (.bool true)).heap[D]? = some (.deferred (some [])) ∧ w8.heap.size ≤ D) := ⟨hK', hD⟩
    clear hK' hK hD hys hpre hne hbW HSEQ sev8 hb8 hsev hlen
    gi_wp2
    refine ⟨by simp, .inl ⟨_, _, rfl, run_takeDeferred HK.out.1, ?_⟩⟩
    have hc5 := cell_kept HR.out.1.1 (grownBy_putObj' _ D (.deferred none)) (fun r e => by cases e; exact ⟨_, HK.out.1, rfl⟩)
    have hc6 := cell_kept HR.out.2.1 (grownBy_putObj' _ D (.deferred none)) (fun r e => by cases e; exact ⟨_, HK.out.1, rfl⟩)
    refine ⟨.tuple #[.int .i64 m, .bool true], ?_, by rw [HCN.out], HB9.out.trans (belowK_b (w := w) (Nat.le_refl _) _ D _ _ (by have := HK.out.2; omega) HK.out.1 rfl rfl)⟩
    simp [results, Tryd.f15, go_sem, hc5, hc6]
  case stop =>
    rintro D c' pre W hD hpre ⟨hcase, hbW⟩ hK
    rcases hcase with ⟨_, hno⟩ | ⟨rfl, hst, hp1, hsev⟩
    · exact absurd hpre hno
    have hpl : pre.length ≤ m := by have := hpre.length_le; rw [memL_len, hln, hlk] at this; omega
    have k4 := hsev.2.2.2.2.1.1
    have f4 := hsev.2.2.2.2.1.2
    have k5 := hsev.2.2.2.2.2.1.1
    have f5 := hsev.2.2.2.2.2.1.2
    have k6 := hsev.2.2.2.2.2.2.1
    rw [hst] at k6
    have HCN : Hid (cntOf m stop = stop) := by show _ = _; unfold cntOf; rw [if_pos (by omega)]
    have HR : Hid (Kc ((W.setCell ⟨w.heap.size + 1 + 1 + 1 + 1, 0, none⟩ (.int .i64 stop)).setCell ⟨w.heap.size + 1 + 1 + 1 + 1 + 1, 0, none⟩ (.bool true)) (w.heap.size + 1 + 1 + 1 + 1) (.int .i64 stop) ∧ Kc ((W.setCell ⟨w.heap.size + 1 + 1 + 1 + 1, 0, none⟩ (.int .i64 stop)).setCell ⟨w.heap.size + 1 + 1 + 1 + 1 + 1, 0, none⟩ (.bool true)) (w.heap.size + 1 + 1 + 1 + 1 + 1) (.bool true)) :=
      ⟨(hsev.2.2.2.2.1.set _).other (by omega) _, (hsev.2.2.2.2.2.1.other (by omega) _).set _⟩
    have HB9 : Hid (Below w.heap.size w ((W.setCell ⟨w.heap.size + 1 + 1 + 1 + 1, 0, none⟩ (.int .i64 stop)).setCell ⟨w.heap.size + 1 + 1 + 1 + 1 + 1, 0, none⟩ (.bool true))) := (hbW.setCell (p := ⟨w.heap.size + 1 + 1 + 1 + 1, 0, none⟩) (by show w.heap.size ≤ w.heap.size + 1 + 1 + 1 + 1; omega) _).setCell (p := ⟨w.heap.size + 1 + 1 + 1 + 1 + 1, 0, none⟩) (by show w.heap.size ≤ w.heap.size + 1 + 1 + 1 + 1 + 1; omega) _
    have hK' := ((KeepsOthers.setCell W ⟨w.heap.size + 1 + 1 + 1 + 1, 0, none⟩ (.int .i64 stop)).trans (KeepsOthers.setCell _ ⟨w.heap.size + 1 + 1 + 1 + 1 + 1, 0, none⟩ (.bool true))).same D _ hK rfl
    have HK : Hid (((W.setCell ⟨w.heap.size + 1 + 1 + 1 + 1, 0, none⟩ (.int .i64 stop)).setCell ⟨w.heap.size + 1 + 1 + 1 + 1 + 1, 0, none⟩ (.bool true)).heap[D]? = some (.deferred (some [])) ∧ w8.heap.size ≤ D) := ⟨hK', hD⟩
    clear hK' hK hD hpre hbW HSEQ sev8 hb8 hsev hst hp1 hpl
    gi_wp2
    refine ⟨by simp, .inl ⟨_, _, rfl, run_takeDeferred HK.out.1, ?_⟩⟩
    have hc5 := cell_kept HR.out.1.1 (grownBy_putObj' _ D (.deferred none)) (fun r e => by cases e; exact ⟨_, HK.out.1, rfl⟩)
    have hc6 := cell_kept HR.out.2.1 (grownBy_putObj' _ D (.deferred none)) (fun r e => by cases e; exact ⟨_, HK.out.1, rfl⟩)
    refine ⟨.tuple #[.int .i64 stop, .bool true], ?_, by rw [HCN.out], HB9.out.trans (belowK_b (w := w) (Nat.le_refl _) _ D _ _ (by have := HK.out.2; omega) HK.out.1 rfl rfl)⟩
    simp [results, Tryd.f15, go_sem, hc5, hc6]
end Go.Proofs.YtbobgebhdafciaaDoor
