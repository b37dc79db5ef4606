/-
  The reader's values.
-/
import Derived.Test.YtbobgebhdafciabDoorJV0
import Derived.Deep.RegionLaw
namespace Go.Proofs.YtbobgebhdafciabDoor
open Go.Shelf Go.RowKit
set_option linter.unusedVariables false
set_option linter.unusedSimpArgs false

/-- What brackets does. -/
def GrpPost (f g o kind : Nat) (close : UInt8) (bs : Bs) (ns : List Nd) (w : World) (e : Ending) (w' : World) : Prop :=
  Fr g w w' ∧ ((∃ new ys, grpS f o ns.length kind close bs = .ok (new, ys) ∧ e = .returned (.int .i64 0) ∧ St w' g ys (ns ++ new) o ∧ ys.length ≤ bs.length ∧ (ns ++ new).length ≤ 256) ∨ (∃ k : Nat, grpS f o ns.length kind close bs = .error k ∧ 0 < k ∧ k < 100 ∧ e = .returned (.int .i64 k) ∧ Fl w' g o))
def GrpOK (f kind : Nat) (close : UInt8) (F : Nat) : Prop := ∀ (g : Nat) (bs : Bs) (ns : List Nd) (o : Nat) (w : World), St w g bs ns o → Gl g → 2 * bs.length + 2 ≤ f → bs.length ≤ 4096 → o ≤ 8 → ns.length < 256 →
  Calls Tryd.prog 16 #[.pointer (some ⟨g, 0, none⟩), .int .u8 kind, .string ⟨#[close]⟩, .func (.func F) #[.pointer (some ⟨g, 0, none⟩)] #[]] w (GrpPost f g o kind close bs ns w)
theorem Nodes.slice {w : World} {base : Nat} {nv : Value} {hs : List Hd} {ns : List Nd} (h : Nodes w base nv hs ns) : ∃ p c, nv = .slice p ns.length c := by
  rw [← h.len]
  rcases h.row.2 with ⟨rfl, h0⟩ | ⟨g, cap, cur, rfl, _⟩
  · exact ⟨none, 0, by rw [h0]⟩
  · exact ⟨_, cap, rfl⟩
theorem textS_ln {xs ys s : Bs} (h : textS xs = some (s, ys)) : ys.length < xs.length := by
  have ht : ∀ (f : Nat) (a xs : Bs) (s ys : Bs), txtS f a xs = some (s, ys) → ys.length < xs.length := by
    intro f
    induction f with
    | zero => intro a xs s ys h; cases h
    | succ f ih =>
      intro a xs s ys h
      rw [txtS] at h
      split at h
      · rename_i us hu
        cases h
        have := tk_len hu
        simp at this; omega
      · split at h
        · cases h
        · rename_i r us hr
          have h1 := signS_len hr
          have h2 := ih _ _ _ _ h
          omega
  unfold textS at h
  split at h
  · cases h
  · rename_i us hu
    have h1 := tk_len hu
    have h2 := ht _ _ _ _ _ h
    simp at h1; omega

theorem plainS_len {xs ys : Bs} {n : Nd} (h : plainS xs = some (n, ys)) : ys.length ≤ xs.length := by
  have hm : ∀ xs : Bs, (minus xs).length ≤ xs.length := fun xs => by
    unfold minus
    cases h : tk [45] xs with
    | none => exact Nat.le_refl _
    | some ys => have := tk_len h; simp at this ⊢; omega
  have hp : ∀ (b : Bs) (r : Bool), (pointS b r).1.length ≤ b.length := fun b r => by
    unfold pointS
    split
    · rename_i d hd
      have := tk_len hd
      have := dg_len d
      simp at *; omega
    · exact Nat.le_refl _
  have hpl : ∀ d : Bs, (plus d).length ≤ d.length := fun d => by
    unfold plus
    split
    · rename_i e he
      have := tk_len he
      simp at this; omega
    · exact hm d
  have hw : ∀ (b : Bs) (r : Bool), (powS b r).1.length ≤ b.length := fun b r => by
    unfold powS
    split
    · rename_i d hd
      have h1 : d.length ≤ b.length := by
        cases h1 : tk [101] b with
        | some y => rw [h1] at hd; simp at hd; subst hd; have := tk_len h1; simp at this; omega
        | none => rw [h1] at hd; simp at hd; have := tk_len hd; simp at this; omega
      have h2 := hpl d
      have h3 := dg_len (plus d)
      simp only
      omega
    · exact Nat.le_refl _
  have hn : ∀ (xs ys s : Bs), numS xs = some (s, ys) → ys.length ≤ xs.length := by
    intro xs ys s h
    unfold numS at h
    split at h
    · simp only [Option.some.injEq, Prod.mk.injEq] at h
      rw [← h.2]
      unfold numR
      simp only
      have h1 := hm xs
      have h2 := dg_len (minus xs)
      have h3 := hp (dg (minus xs)) (wholeS (minus xs))
      have h4 := hw (pointS (dg (minus xs)) (wholeS (minus xs))).1 (pointS (dg (minus xs)) (wholeS (minus xs))).2
      omega
    · cases h
  unfold plainS at h
  split at h
  · rename_i u hu; cases h; have := tk_len hu; simp at this; omega
  · split at h
    · rename_i u hu; cases h; have := tk_len hu; simp at this; omega
    · split at h
      · rename_i u hu; cases h; have := tk_len hu; simp at this; omega
      · split at h
        · cases ht : textS xs with
          | none => rw [ht] at h; cases h
          | some p =>
            rw [ht] at h
            simp at h
            have : textS xs = some (p.1, p.2) := ht
            have := textS_ln this
            rw [← h.2]; omega
        · cases ht : numS xs with
          | none => rw [ht] at h; cases h
          | some p =>
            rw [ht] at h
            simp at h
            have := hn xs p.2 p.1 ht
            rw [← h.2]; omega

set_option maxRecDepth 100000 in
set_option maxHeartbeats 8000000 in
/-- value, by brackets. -/
theorem value_any (f : Nat) (G1 : GrpOK f 1 125 17) (G2 : GrpOK f 2 93 18) : ValOK (f + 1) := by
  intro g bs ns o w h hG hf hl ho hn
  obtain ⟨nv, hs, hR, hN, hT⟩ := h
  have hmf : ∀ (fn : Fn) (first cap : Array Value) (w : World), (Instr.makeFunc fn first cap).run Tryd.prog w = .ok (.func fn first cap) w := fun _ _ _ _ => rfl
  have hg := hR.lt
  have hRw := hR
  obtain ⟨pn, cn, rfl⟩ := hN.slice
  have c1 := hR.nodes
  have hbl := bl_len bs
  obtain ⟨n, hnn⟩ : ∃ n, ns.length = n := ⟨_, rfl⟩
  rw [hnn] at c1
  by_cases h256 : n = 256
  · subst h256
    go_enter Tryd.func11, Tryd.ntmps11
    go_wp2_with fail
    go_ret
    exact ⟨Fr.refl _ _, .inr ⟨14, by rw [valS_succ, if_pos hnn], by decide, by decide, rfl, bs, _, hR⟩⟩
  have h256b : ((n : Int) == 256) = false := by simp; omega
  have hv : valS (f + 1) o ns.length bs = match tk [123] (bl bs) with
    | some zs => grpS f o ns.length 1 125 zs
    | none => match tk [91] (bl bs) with
      | some zs => grpS f o ns.length 2 93 zs
      | none => match plainS (bl bs) with
        | none => .error 11
        | some (n, zs) => .ok ([n], zs) := by rw [valS_succ, if_neg (by omega)]; rfl
  have HV : Hid (valS (f + 1) o ns.length bs = match tk [123] (bl bs) with
    | some zs => grpS f o ns.length 1 125 zs
    | none => match tk [91] (bl bs) with
      | some zs => grpS f o ns.length 2 93 zs
      | none => match plainS (bl bs) with
        | none => .error 11
        | some (n, zs) => .ok ([n], zs)) := hv
  clear hv
  have HB := blanks_any g bs _ o w hR
  go_enter Tryd.func11, Tryd.ntmps11
  go_wp2_with fail
  go_at_call 12
  refine HB.mono ?_
  clear HB
  rintro e w1 ⟨rfl, r1, b1⟩
  have n1 := hN.but b1
  have t1 := hT.but hR b1
  have fr1 : Fr g w w1 := Fr.ofBut b1 hR
  go_wp2_with fail
  go_at_call 15
  refine (take_any ⟨#[123]⟩ g (bl bs) _ o w1 r1).mono ?_
  rintro e w2 ⟨b2, (⟨zs, d1, rfl, r2⟩ | ⟨d1, rfl, r2⟩)⟩
  · have n2 := n1.but b2
    have t2 := t1.but r1 b2
    have hz := tk_len d1
    simp at hz
    go_wp2_with (go_at_call 16; refine (G1 g zs ns o w2 ⟨_, hs, r2, n2, t2⟩ hG (by omega) (by omega) ho (by omega)).mono ?_; rintro e w3 ⟨b3, (⟨new, us, v1, rfl, v3, v4, v5⟩ | ⟨k, v1, v2, v3, rfl, v4⟩)⟩)
    · go_ret
      exact ⟨fr1.trans ((Fr.ofBut b2 r1).trans b3), .inl ⟨new, us, by rw [HV.out, show tk [123] (bl bs) = some zs from d1]; exact v1, rfl, v3, by omega, v5⟩⟩
    · go_ret
      exact ⟨fr1.trans ((Fr.ofBut b2 r1).trans b3), .inr ⟨k, by rw [HV.out, show tk [123] (bl bs) = some zs from d1]; exact v1, v2, v3, rfl, v4⟩⟩
  have n2 := n1.but b2
  have t2 := t1.but r1 b2
  have fr2 : Fr g w w2 := fr1.trans (Fr.ofBut b2 r1)
  have HV2 : Hid (valS (f + 1) o ns.length bs = match tk [91] (bl bs) with
      | some zs => grpS f o ns.length 2 93 zs
      | none => match plainS (bl bs) with
        | none => .error 11
        | some (n, zs) => .ok ([n], zs)) := by show _ = _; rw [HV.out, show tk [123] (bl bs) = none from d1]
  clear HV d1 r1 n1 t1 fr1 b1 b2
  go_wp2_with fail
  go_at_call 15
  refine (take_any ⟨#[91]⟩ g (bl bs) _ o w2 r2).mono ?_
  rintro e w3 ⟨b3, (⟨zs, d1, rfl, r3⟩ | ⟨d1, rfl, r3⟩)⟩
  · have n3 := n2.but b3
    have t3 := t2.but r2 b3
    have hz := tk_len d1
    simp at hz
    go_wp2_with (go_at_call 16; refine (G2 g zs ns o w3 ⟨_, hs, r3, n3, t3⟩ hG (by omega) (by omega) ho (by omega)).mono ?_; rintro e w4 ⟨b4, (⟨new, us, v1, rfl, v3, v4, v5⟩ | ⟨k, v1, v2, v3, rfl, v4⟩)⟩)
    · go_ret
      exact ⟨fr2.trans ((Fr.ofBut b3 r2).trans b4), .inl ⟨new, us, by rw [HV2.out, show tk [91] (bl bs) = some zs from d1]; exact v1, rfl, v3, by omega, v5⟩⟩
    · go_ret
      exact ⟨fr2.trans ((Fr.ofBut b3 r2).trans b4), .inr ⟨k, by rw [HV2.out, show tk [91] (bl bs) = some zs from d1]; exact v1, v2, v3, rfl, v4⟩⟩
  have n3 := n2.but b3
  have t3 := t2.but r2 b3
  have fr3 : Fr g w w3 := fr2.trans (Fr.ofBut b3 r2)
  have HV3 : Hid (valS (f + 1) o ns.length bs = match plainS (bl bs) with
        | none => .error 11
        | some (n, zs) => .ok ([n], zs)) := by show _ = _; rw [HV2.out, show tk [91] (bl bs) = none from d1]
  clear HV2 d1 r2 n2 t2 fr2 b3
  go_wp2_with fail
  go_at_call 19
  refine (plain_any g (bl bs) _ o w3 r3 t3 (by omega)).mono ?_
  rintro e w4 ⟨b4, (⟨kd, s, zs, d1, rfl, r4⟩ | ⟨d1, ⟨kd, s, rfl⟩, zs, r4⟩)⟩
  · unfold ndV
    have n4 := n3.but b4
    have t4 := t3.but r3 b4
    have fr4 : Fr g w w4 := fr3.trans (Fr.ofBut b4 r3)
    have hg4 := r4.lt
    have hl4 := n4.len
    have hzl := plainS_len d1
    have c4 := r4.nodes
    have f4 := r4.frz 1
    rw [hnn] at c4
    have hown := n4.row
    rw [hl4, hnn] at hown
    have hneG : some g ≠ (Value.slice pn n cn).ownBlock := fun e => by have := (owns_lt hown e.symm).1; omega
    have HD : Hid (∀ (W w1 : World) (g' cap' : Nat), W.heap = ((w4.alloc (.cells #[.int .u8 (kd : Int), .string ⟨s.toArray⟩, .slice none 0 0, .slice none 0 0] 38)).alloc (.cells #[.int .u8 (kd : Int), .string ⟨s.toArray⟩, .slice none 0 0, .slice none 0 0] 38)).heap → W.os = w4.os → W.tape = w4.tape → W.output = w4.output → w1.ownsRow (g + 1) 38 4 (.slice (some ⟨g', 0, none⟩) (n + 1) cap') (n + 1) (flat hs ++ Hd.cells ⟨kd, s, .slice none 0 0, .slice none 0 0⟩) → W.grownBy w1 (Value.slice pn n cn).ownBlock →
        St (w1.setCell ⟨g, 1, none⟩ (.slice (some ⟨g', 0, none⟩) (n + 1) cap')) g zs (ns ++ [⟨kd, s, [], []⟩]) o ∧ Fr g w (w1.setCell ⟨g, 1, none⟩ (.slice (some ⟨g', 0, none⟩) (n + 1) cap'))) := by
      intro W w1 g' cap' hW h1 h2 h3 o1 gr
      have hb : Below w4.heap.size w4 W := by
        have := ((Below.refl w4.heap.size w4).alloc (Nat.le_refl _) (.cells #[.int .u8 (kd : Int), .string ⟨s.toArray⟩, .slice none 0 0, .slice none 0 0] 38)).alloc (by simp) (.cells #[.int .u8 (kd : Int), .string ⟨s.toArray⟩, .slice none 0 0, .slice none 0 0] 38)
        exact ⟨h1, h2, h3, by rw [hW]; exact this.size, fun k hk => by rw [hW]; exact this.block k hk⟩
      have hNW : Nodes W (g + 1) (.slice pn n cn) hs ns := by rw [hnn] at n4; exact n4.keep (fun k _ hk => hb.block k hk)
      have hk3 := hNW.push kd s (by rw [hl4, hnn]; exact o1) gr
      have hb2 : Below (g + 1) w4 w1 := ⟨gr.os.trans h1, gr.tape.trans h2, gr.output.trans h3, Nat.le_trans hb.size gr.size, fun k hk => (gr.block k (by have := hb.size; omega) (fun e => by have := (owns_lt hown e.symm).1; omega)).trans (hb.block k (by omega))⟩
      have hk4 := hk3.keep (w' := w1.setCell ⟨g, 1, none⟩ (.slice (some ⟨g', 0, none⟩) (n + 1) cap')) (fun k hk _ => Below.heap_setCell _ _ _ _ (by show k ≠ g; omega))
      have hr5 := r4.keep hb2
      obtain ⟨p, c, a1, a2⟩ := hr5
      have hb3 : Below g w4 (w1.setCell ⟨g, 1, none⟩ (.slice (some ⟨g', 0, none⟩) (n + 1) cap')) := (hb2.mono (Nat.le_succ g)).setCell (p := ⟨g, 1, none⟩) (Nat.le_refl _) _
      refine ⟨⟨_, _, ⟨p, c, a1.setNodes _, a2.keep (fun k hk => Below.heap_setCell _ _ _ _ (by show k ≠ g; omega))⟩, hk4, t4.low hG hb3⟩, fr4.trans ⟨hb3, fun k cs fr hk => ?_⟩⟩
      have hkl := (Array.getElem?_eq_some_iff.1 hk).1
      have hkn : k ≠ g := fun e => by
        obtain ⟨p', c', a1', _⟩ := r4
        unfold RdAt at a1'
        rw [e, a1'] at hk
        cases hk
      have hkv : some k ≠ (Value.slice pn n cn).ownBlock := fun e => by
        obtain ⟨_, _, c, hc⟩ := owns_lt hown e.symm
        rw [hc] at hk
        cases hk
      rw [Below.heap_setCell _ _ _ _ hkn, gr.block k (by have := hb.size; omega) hkv]
      exact hb.block k hkl
    have HN : Hid (valS (f + 1) o ns.length bs = .ok ([⟨kd, s, [], []⟩], zs) ∧ zs.length ≤ bs.length ∧ (ns ++ [(⟨kd, s, [], []⟩ : Nd)]).length ≤ 256) := ⟨by rw [HV3.out, d1], by omega, by simp; omega⟩
    obtain ⟨i0, hi0, hz0, hz1, hz2⟩ := info_parts infoNode
    have q1 : (w4.alloc (.cells #[.int .u8 (kd : Int), .string ⟨s.toArray⟩, .slice none 0 0, .slice none 0 0] 38)).cell? ⟨g, 1, none⟩ = some (.slice pn n cn) := more_cell _ c4
    have q2 : ((w4.alloc (.cells #[.int .u8 (kd : Int), .string ⟨s.toArray⟩, .slice none 0 0, .slice none 0 0] 38)).alloc (.cells #[.int .u8 (kd : Int), .string ⟨s.toArray⟩, .slice none 0 0, .slice none 0 0] 38)).cell? ⟨g, 1, none⟩ = some (.slice pn n cn) := more_cell _ q1
    have HP : Hid (n + 1 ≤ maxLen ∧ (n + 1) * 72 ≤ 140737488355328 ∧ g + 1 ≤ ((w4.alloc (.cells #[.int .u8 (kd : Int), .string ⟨s.toArray⟩, .slice none 0 0, .slice none 0 0] 38)).alloc (.cells #[.int .u8 (kd : Int), .string ⟨s.toArray⟩, .slice none 0 0, .slice none 0 0] 38)).heap.size ∧ ((w4.alloc (.cells #[.int .u8 (kd : Int), .string ⟨s.toArray⟩, .slice none 0 0, .slice none 0 0] 38)).alloc (.cells #[.int .u8 (kd : Int), .string ⟨s.toArray⟩, .slice none 0 0, .slice none 0 0] 38)).heap.size = w4.heap.size + 1 + 1 ∧ g < ((w4.alloc (.cells #[.int .u8 (kd : Int), .string ⟨s.toArray⟩, .slice none 0 0, .slice none 0 0] 38)).alloc (.cells #[.int .u8 (kd : Int), .string ⟨s.toArray⟩, .slice none 0 0, .slice none 0 0] 38)).heap.size ∧ ((w4.alloc (.cells #[.int .u8 (kd : Int), .string ⟨s.toArray⟩, .slice none 0 0, .slice none 0 0] 38)).alloc (.cells #[.int .u8 (kd : Int), .string ⟨s.toArray⟩, .slice none 0 0, .slice none 0 0] 38)).cell? ⟨g, 1, none⟩ = some (.slice pn n cn) ∧ ((w4.alloc (.cells #[.int .u8 (kd : Int), .string ⟨s.toArray⟩, .slice none 0 0, .slice none 0 0] 38)).alloc (.cells #[.int .u8 (kd : Int), .string ⟨s.toArray⟩, .slice none 0 0, .slice none 0 0] 38)).frozen? ⟨g, 1, none⟩ = false ∧ ((w4.alloc (.cells #[.int .u8 (kd : Int), .string ⟨s.toArray⟩, .slice none 0 0, .slice none 0 0] 38)).alloc (.cells #[.int .u8 (kd : Int), .string ⟨s.toArray⟩, .slice none 0 0, .slice none 0 0] 38)).heap[w4.heap.size + 1]? = some (.cells #[.int .u8 (kd : Int), .string ⟨s.toArray⟩, .slice none 0 0, .slice none 0 0] 38 (0, 0))) := by
      refine ⟨by unfold maxLen; omega, by omega, by simp; omega, by simp, by simp; omega, q2, more_frozen _ q1 (more_frozen _ c4 f4), ?_⟩
      have := alloc_new (w4.alloc (.cells #[.int .u8 (kd : Int), .string ⟨s.toArray⟩, .slice none 0 0, .slice none 0 0] 38)) (.cells #[.int .u8 (kd : Int), .string ⟨s.toArray⟩, .slice none 0 0, .slice none 0 0] 38)
      simpa using this
    have HO : Hid (((w4.alloc (.cells #[.int .u8 (kd : Int), .string ⟨s.toArray⟩, .slice none 0 0, .slice none 0 0] 38)).alloc (.cells #[.int .u8 (kd : Int), .string ⟨s.toArray⟩, .slice none 0 0, .slice none 0 0] 38)).ownsRow (g + 1) 38 4 (.slice pn n cn) n (flat hs) ∧ (∀ u ∈ Hd.cells ⟨kd, s, .slice none 0 0, .slice none 0 0⟩, u.oneCell' = true) ∧ some g ≠ (Value.slice pn n cn).ownBlock) := ⟨(hown.alloc _).alloc _, by simp [Hd.cells, Value.oneCell'], hneG⟩
    clear G1 G2 hR hN hT hRw c1 r3 n3 t3 fr3 HV3 b4 d1 r4 n4 t4 fr4 hl4 hzl hown hneG hnn hbl
    go_upto_region 11 with fail
    go_cut [] from 5 (fun wc => St wc g zs (ns ++ [⟨kd, s, [], []⟩]) o ∧ Fr g w wc)
    case first =>
      go_region_law (refine step_append_lies _ rfl (.tmp 38) (.tmp 40) 24 rfl (g + 1) 38 i0 (.agg #[.int .u8 0, .string ⟨#[]⟩, .slice none 0 0, .slice none 0 0]) 4 72 Tryd.underlying24 hi0 hz0 hz1 hz2 rfl (by decide) (.slice pn n cn) n (flat hs) rfl HO.out.1 ⟨w4.heap.size + 1, 0, none⟩ 1 1 (Hd.cells ⟨kd, s, .slice none 0 0, .slice none 0 0⟩) rfl rfl (World.news_of_block HP.out.2.2.2.2.2.2.2) HO.out.2.1 (by decide) HP.out.1 HP.out.2.1 HP.out.2.2.1 (w4.heap.size + 1 + 1) HP.out.2.2.2.1 ?_; intro g' cap' w5 o1 gr1 at1 lt1; have HGG : Hid (_ ∧ _) := ⟨o1, gr1⟩; have c1'' := (gr1.cell_far ⟨g, 1, none⟩ HP.out.2.2.2.2.1 HO.out.2.2).trans HP.out.2.2.2.2.2.1; have f1'' := (gr1.frozen_far ⟨g, 1, none⟩ HP.out.2.2.2.2.1 HO.out.2.2).trans HP.out.2.2.2.2.2.2.1; clear o1 gr1 at1 lt1)
      all_goals (go_wp2_with fail; go_meet; exact HD.out ((w4.alloc (.cells #[.int .u8 (kd : Int), .string ⟨s.toArray⟩, .slice none 0 0, .slice none 0 0] 38)).alloc (.cells #[.int .u8 (kd : Int), .string ⟨s.toArray⟩, .slice none 0 0, .slice none 0 0] 38)).drew _ _ _ rfl rfl rfl rfl HGG.out.1 HGG.out.2)
    case rest =>
    obtain ⟨hS, hB⟩ := hcut
    go_wp2_with fail
    go_ret
    exact ⟨hB, .inl ⟨_, _, HN.out.1, rfl, hS, HN.out.2⟩⟩
  · go_wp2_with fail
    go_ret
    have hbA : Below w4.heap.size w4 (w4.alloc (.cells #[.int .u8 (kd : Int), .string s, .slice none 0 0, .slice none 0 0] 38)) := (Below.refl _ _).alloc (Nat.le_refl _) _
    exact ⟨fr3.trans ((Fr.ofBut b4 r3).trans (Fr.ofBelow hbA (Nat.le_of_lt r4.lt))), .inr ⟨11, by rw [HV3.out, d1], by decide, by decide, rfl, zs, _, r4.below hbA⟩⟩
end Go.Proofs.YtbobgebhdafciabDoor
