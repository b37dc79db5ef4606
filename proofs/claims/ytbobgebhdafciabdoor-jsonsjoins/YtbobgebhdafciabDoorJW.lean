/-
  The reader's members.
-/
import Derived.Test.YtbobgebhdafciabDoorJV0
import Derived.Deep.RegionLaw
namespace Go.Proofs.YtbobgebhdafciabDoor
open Go.Shelf Go.RowKit
set_option linter.unusedVariables false
set_option linter.unusedSimpArgs false

theorem rowAt_of_owns {w : World} {base : Nat} {e : TypeId} {v : Value} {n : Nat} {xs : List Value} (h : w.ownsRow base e 1 v n xs) : ∃ p c, v = .slice p n c ∧ RowAt w w.heap.size p n xs := by
  have hl := h.1
  rcases h.2 with ⟨rfl, rfl⟩ | ⟨b, cap, cur, rfl, hb, hrow, h1, h2, h3, h4⟩
  · exact ⟨none, 0, rfl, by omega, fun h0 => by omega⟩
  · refine ⟨_, cap, rfl, by omega, fun h0 => ⟨b, 0, rfl, (Array.getElem?_eq_some_iff.1 hrow).1, fun i hi => ?_⟩⟩
    rw [Nat.zero_add, cell_of_row w b i cur e (0, 0) hrow, ← h4, List.getElem?_take, if_pos (by omega)]
    simp
theorem findV_in (names : List Bs) (kids : List Nat) (s : Bs) (h : names.length = kids.length) : ∃ k : Int, findV (memL names (kids.map fun (x : Nat) => (x : Int))) s = .tuple #[.int .i64 k, .bool (decide (s ∈ names))] := by
  unfold findV findL
  by_cases hm : s ∈ names
  · obtain ⟨i, hi, e⟩ := List.getElem_of_mem hm
    cases hf : (memL names (kids.map fun (x : Nat) => (x : Int))).find? (fun x => x.1 == s) with
    | none =>
      exfalso
      have := List.find?_eq_none.1 hf (s, ((kids[i]'(by omega) : Nat) : Int)) (by
        unfold memL
        refine List.mem_iff_getElem?.2 ⟨i, List.getElem?_zip_eq_some.2 ⟨?_, ?_⟩⟩
        · rw [List.getElem?_eq_getElem hi, e]
        · simp [show i < kids.length by omega])
      simp at this
    | some x => exact ⟨x.2, by simp [hm]⟩
  · have : (memL names (kids.map fun (x : Nat) => (x : Int))).find? (fun x => x.1 == s) = none := by
      apply List.find?_eq_none.2
      intro x hx
      have := (List.of_mem_zip hx).1
      simp
      intro e
      exact hm (e ▸ this)
    rw [this]
    exact ⟨0, by simp [hm]⟩
theorem ints_map (l : List Nat) : ints l = (l.map fun (x : Nat) => (x : Int)).map (Value.int .i64) := by simp [ints, Function.comp_def]

theorem St.but {w w' : World} {g : Nat} {nv : Value} {hs : List Hd} {ns : List Nd} {ys : Bs} {o : Nat} (hN : Nodes w (g + 1) nv hs ns) (hT : Tabs w) {bs : Bs} (hR : Rd w g bs nv o) (hb : But g w w') (hr : Rd w' g ys nv o) : Rd w' g ys nv o ∧ Nodes w' (g + 1) nv hs ns ∧ Tabs w' := ⟨hr, hN.but hb, hT.but hR hb⟩

/-- What member does behind its name. -/
def MemPost (f g o i : Nat) (bs : Bs) (ns : List Nd) (nd : Nd) (w : World) (e : Ending) (w' : World) : Prop :=
  Fr g w w' ∧ ((∃ k : Nat, nameS nd.names bs = .error k ∧ 0 < k ∧ k < 100 ∧ e = .returned (.int .i64 k) ∧ Fl w' g o) ∨ (∃ names us, nameS nd.names bs = .ok (names, us) ∧ us.length < bs.length ∧ names.length = nd.names.length + 1 ∧
    ((∃ new ys, valS f o ns.length us = .ok (new, ys) ∧ e = .returned (.int .i64 0) ∧ St w' g ys (ns.set i ⟨nd.kind, nd.text, names, nd.kids ++ [ns.length]⟩ ++ new) o ∧ ys.length ≤ us.length ∧ (ns.set i ⟨nd.kind, nd.text, names, nd.kids ++ [ns.length]⟩ ++ new).length ≤ 256) ∨ (∃ k : Nat, valS f o ns.length us = .error k ∧ 0 < k ∧ k < 100 ∧ e = .returned (.int .i64 k) ∧ Fl w' g o))))

theorem textS_len {xs ys s : Bs} (h : textS xs = some (s, ys)) : ys.length < xs.length := by
  have ht : ∀ (f : Nat) (a xs : Bs) (s ys : Bs), txtS f a xs = some (s, ys) → ys.length < xs.length := by
    intro f
    induction f with
    | zero => intro a xs s ys h; cases h
    | succ f ih =>
      intro a xs s ys h
      rw [txtS] at h
      split at h
      · rename_i us hu
        cases h
        have := tk_len hu
        simp at this; omega
      · split at h
        · cases h
        · rename_i r us hr
          have h1 := signS_len hr
          have h2 := ih _ _ _ _ h
          omega
  unfold textS at h
  split at h
  · cases h
  · rename_i us hu
    have h1 := tk_len hu
    have h2 := ht _ _ _ _ _ h
    simp at h1; omega

set_option maxRecDepth 100000 in
set_option maxHeartbeats 8000000 in
/-- member. -/
theorem member_any (f : Nat) (HE : ElemOK f) (g i : Nat) (bs : Bs) (ns : List Nd) (nd : Nd) (o : Nat) (w : World) (h : St w g bs ns o) (hG : Gl g) (hf : 2 * bs.length + 1 ≤ f) (hl : bs.length ≤ 4096) (ho : o ≤ 8) (hn : ns.length ≤ 256) (hi : ns[i]? = some nd) (hk : nd.kids.length ≤ 256) (hnk : nd.names.length = nd.kids.length) :
    Calls Tryd.prog 17 #[.pointer (some ⟨g, 0, none⟩), .int .i64 i] w (MemPost f g o i bs ns nd w) := by
  obtain ⟨nv, hs, hR, hN, hT⟩ := h
  have hil : i < ns.length := (List.getElem?_eq_some_iff.1 hi).1
  have hg := hR.lt
  have hbl := bl_len bs
  have HBl := blanks_any g bs nv o w hR
  have hRw := hR
  go_enter Tryd.func17, Tryd.ntmps17
  go_wp2_with fail
  go_at_call 12
  refine HBl.mono ?_
  rintro e w1 ⟨rfl, r1, b1⟩
  have n1 := hN.but b1
  have t1 := hT.but hR b1
  go_wp2_with fail
  go_at_call 27
  refine (text_any g (bl bs) nv o w1 r1 t1 (by omega)).mono ?_
  rintro e w2 ⟨b2, (⟨s, ys, d1, rfl, r2⟩ | ⟨d1, rfl, ys, r2⟩)⟩
  · have n2 := n1.but b2
    have t2 := t1.but r1 b2
    have hys := textS_len d1
    have bb : But g w w2 := b1.trans b2
    -- the node, as it lies
    obtain ⟨gn, cap, rfl, hgn, hgl⟩ := n2.form (by omega)
    have hl' := n2.len
    have hx : hs[i]? = some hs[i] := List.getElem?_eq_getElem (by omega)
    obtain ⟨x, hx0⟩ : ∃ x, hs[i] = x := ⟨_, rfl⟩
    rw [hx0] at hx
    have hrep := n2.rep i x nd hx hi
    have hrow := n2.row
    rw [hl'] at hrow
    have cc : ∀ j, j < 4 → w2.cell? ⟨gn, i * 4 + j, none⟩ = x.cells[j]? := fun j hj => by rw [owns_cell hrow (i * 4 + j) (by omega), flat_get hs i j x hx hj]
    obtain ⟨pN, cN, eN, aN⟩ := rowAt_of_owns hrep.names
    obtain ⟨pK, cK, eK, aK⟩ := rowAt_of_owns hrep.kids
    have k0 : w2.cell? ⟨gn, i * 4, none⟩ = some (.int .u8 x.kind) := cc 0 (by decide)
    have k1 : w2.cell? ⟨gn, i * 4 + 1, none⟩ = some (.string ⟨x.text.toArray⟩) := cc 1 (by decide)
    have k2 : w2.cell? ⟨gn, i * 4 + 2, none⟩ = some x.nm := cc 2 (by decide)
    have k3 : w2.cell? ⟨gn, i * 4 + 3, none⟩ = some x.ks := cc 3 (by decide)
    rw [eN] at k2
    rw [eK] at k3
    have c1 := r2.nodes
    obtain ⟨kq, hkq⟩ := findV_in nd.names nd.kids s hnk
    have HF := find_any (.int .u8 x.kind) (.string ⟨x.text.toArray⟩) pN pK cN cK nd.names (nd.kids.map fun (x : Nat) => (x : Int)) s w2 rfl rfl aN (by rw [← ints_map, List.length_map]; exact aK) (by omega) (by rw [List.length_map]; omega)
    rw [hkq, List.length_map] at HF
    obtain ⟨n, hnn⟩ : ∃ n, ns.length = n := ⟨_, rfl⟩
    rw [hnn] at c1
    have hiI : (i : Int) < (n : Int) := by omega
    have hi0' : (0 : Int) ≤ (i : Int) := by omega
    obtain ⟨tw, htw⟩ : ∃ tw, decide (s ∈ nd.names) = tw := ⟨_, rfl⟩
    rw [htw] at HF
    obtain ⟨la, hla⟩ : ∃ la, nd.names.length = la := ⟨_, rfl⟩
    obtain ⟨lb, hlb⟩ : ∃ lb, nd.kids.length = lb := ⟨_, rfl⟩
    rw [hla] at HF k2 eN
    rw [hlb] at HF k3
    have HL : Hid (nd.names.length = la ∧ nd.kids.length = lb ∧ nd.names.length = nd.kids.length) := ⟨hla, hlb, hnk⟩
    have HS : Hid (nameS nd.names bs = if s ∈ nd.names then .error 12 else match tk [58] (bl ys) with | none => .error 11 | some zs => .ok (nd.names ++ [s], zs)) := by show nameS nd.names bs = _; unfold nameS; rw [d1]; rfl
    have HX : Hid (Nodes w2 (g + 1) (.slice (some ⟨gn, 0, none⟩) ns.length cap) hs ns ∧ Tabs w2 ∧ Rd w2 g ys (.slice (some ⟨gn, 0, none⟩) ns.length cap) o ∧ But g w w2 ∧ hs[i]? = some x ∧ ns[i]? = some nd ∧ decide (s ∈ nd.names) = tw ∧ ns.length = n ∧ ys.length < (bl bs).length ∧ g + 1 ≤ gn ∧ gn < w2.heap.size ∧ x.nm = .slice pN la cN) := ⟨n2, t2, r2, bb, hx, hi, htw, hnn, hys, hgn, hgl, eN⟩
    clear hN hT hR n1 t1 r1 n2 t2 r2 bb hrep hrow cc eN eK aN aK hkq htw hx hx0 hi HBl b1 b2 d1 hnn hl' hgn hgl hnk hla hlb hbl hys
    cases tw
    all_goals go_wp2_with (go_at_call 28; refine HF.mono ?_; clear HF; rintro e w3 ⟨rfl, b3⟩)
    · -- the name is new
      have r3 := HX.out.2.2.1.below b3
      have n3 := HX.out.1.keep (fun k _ hk => b3.block k hk)
      have t3 := HX.out.2.1.below b3
      have hfr3 : Fr g w w3 := (Fr.ofBut HX.out.2.2.2.1 hRw).trans (Fr.ofBelow b3 (Nat.le_of_lt HX.out.2.2.1.lt))
      go_at_call 26
      refine (tbb_any ⟨#[58]⟩ g ys _ o w3 r3).mono ?_
      rintro e w4 ⟨b4, (⟨zs, d1, rfl, r4⟩ | ⟨d1, rfl, r4⟩)⟩
      · have n4 := n3.but b4
        have t4 := t3.but r3 b4
        have hfr4 : Fr g w w4 := hfr3.trans (Fr.ofBut b4 r3)
        have hrep := n4.rep i x nd HX.out.2.2.2.2.1 HX.out.2.2.2.2.2.1
        have hown := hrep.names
        have hl' := n4.len
        have hgn := HX.out.2.2.2.2.2.2.2.2.2.1
        have hgl : gn < w4.heap.size := Nat.lt_of_lt_of_le (Nat.lt_of_lt_of_le HX.out.2.2.2.2.2.2.2.2.2.2.1 b3.size) b4.size
        have hg4 := r4.lt
        have hrow := n4.row
        rw [hl'] at hrow
        have hxnm := HX.out.2.2.2.2.2.2.2.2.2.2.2
        have c2 : w4.cell? ⟨gn, i * 4 + 2, none⟩ = some (.slice pN la cN) := by
          rw [owns_cell hrow (i * 4 + 2) (by omega), flat_get hs i 2 x HX.out.2.2.2.2.1 (by decide), ← hxnm]
          rfl
        have f2 : w4.frozen? ⟨gn, i * 4 + 2, none⟩ = false := owns_frozen hrow _
        have c1' := r4.nodes
        rw [HX.out.2.2.2.2.2.2.2.1] at c1'
        rw [hxnm, HL.out.1] at hown
        have hneN : some gn ≠ (Value.slice pN la cN).ownBlock := fun e => owns_apart hown n4.row (by decide) e.symm rfl
        have hneG : some g ≠ (Value.slice pN la cN).ownBlock := fun e => by have := (owns_lt hown e.symm).1; omega
        have hzl := tk_len d1
        have hbly := bl_len ys
        have HD : Hid (∀ (W w1 : World) (g' cap' : Nat), W.heap = (w4.alloc (.cells #[.string ⟨s.toArray⟩] 9)).heap → W.os = w4.os → W.tape = w4.tape → W.output = w4.output → w1.ownsRow (g + 1) 9 1 (.slice (some ⟨g', 0, none⟩) (la + 1) cap') (la + 1) (strs nd.names ++ [.string ⟨s.toArray⟩]) → W.grownBy w1 (Value.slice pN la cN).ownBlock → ((Value.slice pN la cN).ownBlock = some g' ∨ g' = w4.heap.size + 1) →
            St (w1.setCell ⟨gn, i * 4 + 2, none⟩ (.slice (some ⟨g', 0, none⟩) (la + 1) cap')) g zs (ns.set i { nd with names := nd.names ++ [s] }) o ∧ Fr g w (w1.setCell ⟨gn, i * 4 + 2, none⟩ (.slice (some ⟨g', 0, none⟩) (la + 1) cap'))) := by
          intro W w1 g' cap' hW h1 h2 h3 o1 gr at1
          have hb : Below w4.heap.size w4 W := by
            have := (Below.refl w4.heap.size w4).alloc (Nat.le_refl _) (.cells #[.string ⟨s.toArray⟩] 9)
            exact ⟨h1, h2, h3, by rw [hW]; exact this.size, fun k hk => by rw [hW]; exact this.block k hk⟩
          have hws : W.heap.size = w4.heap.size + 1 := by rw [hW]; simp
          have hNW : Nodes W (g + 1) (.slice (some ⟨gn, 0, none⟩) ns.length cap) hs ns := n4.keep (fun k _ hk => hb.block k hk)
          have hk3 := hNW.name i x nd HX.out.2.2.2.2.1 HX.out.2.2.2.2.2.1 s (.slice (some ⟨g', 0, none⟩) (la + 1) cap') (by rw [HL.out.1]; exact o1) (by rw [hxnm]; exact gr) (by
            rw [hxnm, hws]
            rcases at1 with e | e
            · exact .inl e.symm
            · right; rw [e]; rfl)
          have hb2 : Below (g + 1) w4 w1 := ⟨gr.os.trans h1, gr.tape.trans h2, gr.output.trans h3, Nat.le_trans hb.size gr.size, fun k hk => (gr.block k (by omega) (fun e => by have := (owns_lt hown e.symm).1; omega)).trans (hb.block k (by omega))⟩
          have hb3 : Below (g + 1) w4 (w1.setCell ⟨gn, i * 4 + 2, none⟩ (.slice (some ⟨g', 0, none⟩) (la + 1) cap')) := hb2.setCell (p := ⟨gn, i * 4 + 2, none⟩) hgn _
          refine ⟨⟨_, _, r4.keep hb3, hk3, t4.low hG (hb3.mono (by omega))⟩, hfr4.trans ⟨hb3.mono (by omega), fun k cs fr hk => ?_⟩⟩
          have hkl := (Array.getElem?_eq_some_iff.1 hk).1
          have hkn : k ≠ gn := fun e => by
            obtain ⟨_, _, c, hc⟩ := owns_lt n4.row (g := gn) rfl
            rw [e, hc] at hk
            cases hk
          have hkv : some k ≠ (Value.slice pN la cN).ownBlock := fun e => by
            obtain ⟨_, _, c, hc⟩ := owns_lt hown e.symm
            rw [hc] at hk
            cases hk
          rw [Below.heap_setCell _ _ _ _ hkn, gr.block k (by omega) hkv]
          exact hb.block k hkl
        have HN : Hid (nameS nd.names bs = .ok (nd.names ++ [s], zs) ∧ zs.length < bs.length) := by
          refine ⟨?_, ?_⟩
          · rw [HS.out, if_neg (by have := HX.out.2.2.2.2.2.2.1; simpa using this)]
            rw [show tk [58] (bl ys) = some zs from d1]
          · have h1 := HX.out.2.2.2.2.2.2.2.2.1
            have h2 := bl_len bs
            simp at hzl
            omega
        have HEL : Hid (∀ W, St W g zs (ns.set i { nd with names := nd.names ++ [s] }) o → Calls Tryd.prog 18 #[.pointer (some ⟨g, 0, none⟩), .int .i64 i] W (ValPost f g o zs (ns.set i { nd with names := nd.names ++ [s] }) ((ns.set i { nd with names := nd.names ++ [s] }).set i { nd with names := nd.names ++ [s], kids := nd.kids ++ [(ns.set i { nd with names := nd.names ++ [s] }).length] }) W)) := by
          intro W hW
          exact HE g i zs (ns.set i { nd with names := nd.names ++ [s] }) { nd with names := nd.names ++ [s] } o W hW hG (by have := HN.out.2; omega) (by have := HN.out.2; omega) ho (by rw [List.length_set]; exact hn) (by rw [List.getElem?_set, if_pos rfl, if_pos hil]) hk
        obtain ⟨i0, hi0, hz0, hz1, hz2⟩ := info_parts infoStr
        have q1 : (w4.alloc (.cells #[.string ⟨s.toArray⟩] 9)).cell? ⟨g, 1, none⟩ = some (.slice (some ⟨gn, 0, none⟩) n cap) := more_cell _ c1'
        have q2 : (w4.alloc (.cells #[.string ⟨s.toArray⟩] 9)).cell? ⟨gn, i * 4 + 2, none⟩ = some (.slice pN la cN) := more_cell _ c2
        have HP : Hid (la + 1 ≤ maxLen ∧ (la + 1) * 16 ≤ 140737488355328 ∧ g + 1 ≤ (w4.alloc (.cells #[.string ⟨s.toArray⟩] 9)).heap.size ∧ (w4.alloc (.cells #[.string ⟨s.toArray⟩] 9)).heap.size = w4.heap.size + 1 ∧ g < (w4.alloc (.cells #[.string ⟨s.toArray⟩] 9)).heap.size ∧ gn < (w4.alloc (.cells #[.string ⟨s.toArray⟩] 9)).heap.size ∧ (w4.alloc (.cells #[.string ⟨s.toArray⟩] 9)).cell? ⟨g, 1, none⟩ = some (.slice (some ⟨gn, 0, none⟩) n cap) ∧ (w4.alloc (.cells #[.string ⟨s.toArray⟩] 9)).cell? ⟨gn, i * 4 + 2, none⟩ = some (.slice pN la cN) ∧ (w4.alloc (.cells #[.string ⟨s.toArray⟩] 9)).frozen? ⟨gn, i * 4 + 2, none⟩ = false) := by
          have := HL.out
          exact ⟨by unfold maxLen; omega, by omega, by simp; omega, by simp, by simp; omega, by simp; omega, q1, q2, more_frozen _ c2 f2⟩
        have HO : Hid ((w4.alloc (.cells #[.string ⟨s.toArray⟩] 9)).ownsRow (g + 1) 9 1 (.slice pN la cN) la (strs nd.names) ∧ (∀ u ∈ [Value.string ⟨s.toArray⟩], u.oneCell' = true) ∧ some gn ≠ (Value.slice pN la cN).ownBlock ∧ some g ≠ (Value.slice pN la cN).ownBlock) := ⟨hown.alloc _, by simp [Value.oneCell'], hneN, hneG⟩
        clear HE HX HS r3 n3 t3 hfr3 b4 r4 n4 t4 hfr4 hrep hown hl' hgn hgl hg4 hrow hxnm hneN hneG hzl hbly d1 b3 k0 k1 k2 k3 c1
        go_upto_region 10 with fail
        go_cut [] from 9 (fun wc => St wc g zs (ns.set i { nd with names := nd.names ++ [s] }) o ∧ Fr g w wc)
        case first =>
          go_region_law (refine step_append_lies _ rfl (.tmp 46) (.tmp 48) 35 rfl (g + 1) 9 i0 (.string ⟨#[]⟩) 1 16 Tryd.underlying35 hi0 hz0 hz1 hz2 rfl (by decide) (.slice pN la cN) la (strs nd.names) rfl HO.out.1 ⟨w4.heap.size, 0, none⟩ 1 1 [.string ⟨s.toArray⟩] rfl rfl (cell_one_new _ _ _) HO.out.2.1 (by decide) HP.out.1 HP.out.2.1 HP.out.2.2.1 (w4.heap.size + 1) HP.out.2.2.2.1 ?_; intro g' cap' w5 o1 gr1 at1 lt1; have HGG : Hid (_ ∧ _ ∧ _) := ⟨o1, gr1, at1⟩; have c1'' := (gr1.cell_far ⟨g, 1, none⟩ HP.out.2.2.2.2.1 HO.out.2.2.2).trans HP.out.2.2.2.2.2.2.1; have c2'' := (gr1.cell_far ⟨gn, i * 4 + 2, none⟩ HP.out.2.2.2.2.2.1 HO.out.2.2.1).trans HP.out.2.2.2.2.2.2.2.1; have f2'' := (gr1.frozen_far ⟨gn, i * 4 + 2, none⟩ HP.out.2.2.2.2.2.1 HO.out.2.2.1).trans HP.out.2.2.2.2.2.2.2.2; clear o1 gr1 at1 lt1)
          all_goals (go_wp2_with fail; go_meet; exact HD.out (w4.alloc (.cells #[.string ⟨s.toArray⟩] 9)).drew _ _ _ rfl rfl rfl rfl HGG.out.1 HGG.out.2.1 HGG.out.2.2)
        case rest =>
        obtain ⟨hS, hB⟩ := hcut
        have HSET : Hid ((ns.set i { nd with names := nd.names ++ [s] }).set i { nd with names := nd.names ++ [s], kids := nd.kids ++ [(ns.set i { nd with names := nd.names ++ [s] }).length] } = ns.set i ⟨nd.kind, nd.text, nd.names ++ [s], nd.kids ++ [ns.length]⟩) := by show _ = _; rw [List.set_set, List.length_set]
        go_wp2_with (go_at_call 18; refine (HEL.out _ hS).mono ?_; rintro e w6 ⟨b6, (⟨new, us, v1, rfl, v3⟩ | ⟨k, v1, v2, v3, rfl, v4⟩)⟩)
        · go_ret
          rw [List.length_set] at v1
          rw [HSET.out] at v3
          exact ⟨hB.trans b6, .inr ⟨_, _, HN.out.1, HN.out.2, by simp, .inl ⟨new, us, v1, rfl, v3⟩⟩⟩
        · go_ret
          rw [List.length_set] at v1
          exact ⟨hB.trans b6, .inr ⟨_, _, HN.out.1, HN.out.2, by simp, .inr ⟨k, v1, v2, v3, rfl, v4⟩⟩⟩
      · go_wp2_with fail
        go_ret
        refine ⟨hfr3.trans (Fr.ofBut b4 r3), .inl ⟨11, ?_, by decide, by decide, rfl, _, _, r4⟩⟩
        rw [HS.out, if_neg (by have := HX.out.2.2.2.2.2.2.1; simpa using this)]
        rw [show tk [58] (bl ys) = none from d1]
    · go_ret
      refine ⟨(Fr.ofBut HX.out.2.2.2.1 hRw).trans (Fr.ofBelow b3 (Nat.le_of_lt HX.out.2.2.1.lt)), .inl ⟨12, ?_, by decide, by decide, rfl, _, _, HX.out.2.2.1.below b3⟩⟩
      rw [HS.out, if_pos (by have := HX.out.2.2.2.2.2.2.1; simpa using this)]
  · go_wp2_with fail
    go_ret
    exact ⟨Fr.ofBut (b1.trans b2) hR, .inl ⟨11, by unfold nameS; rw [d1], by decide, by decide, rfl, ys, _, r2⟩⟩
end Go.Proofs.YtbobgebhdafciabDoor
