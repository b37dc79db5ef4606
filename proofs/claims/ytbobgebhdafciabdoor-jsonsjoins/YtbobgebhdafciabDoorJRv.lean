/-
  The document's reader of JSON: value.
-/
import Derived.Test.YtbobgebhdafciabDoorJRg
namespace Go.Proofs.YtbobgebhdafciabDoor
open Go.Shelf Go.RowKit
set_option linter.unusedVariables false
set_option linter.unusedSimpArgs false

theorem GI.setK {g : Nat} {B : Bs} {w0 W : World} {nv : Value} {hs : List Hd} {ns : List Nd} {b : Nat} {nv' : Value} {hs' : List Hd} {ns' : List Nd} {k : Nat} {t zs : Bs} {o cd : Nat} (r : GI g B w0 W nv hs ns b nv' hs' ns' ⟨k, t, .slice none 0 0, .slice none 0 0⟩ ⟨k, t, [], []⟩ zs o cd) (hb : w0.heap.size ≤ b) (k' : Nat) : GI g B w0 (W.setCell ⟨b, 0, none⟩ (.int .u8 (k' : Int))) nv hs ns b nv' hs' ns' ⟨k', t, .slice none 0 0, .slice none 0 0⟩ ⟨k', t, [], []⟩ zs o cd := by
  have hbg := r.nw.bg
  have ok : OK1 b (.slice none 0 0) W (W.setCell ⟨b, 0, none⟩ (.int .u8 (k' : Int))) := ⟨rfl, rfl, rfl, by simp [World.setCell], fun q _ hq _ => Below.heap_setCell W ⟨b, 0, none⟩ _ q hq⟩
  refine ⟨r.vk.own r.nw hb (.inl rfl) (fun q e => by cases e) ok, ⟨?_, hbg, r.nw.bn, ⟨rfl, rfl, World.ownsRow_nil _ _ _ 1, World.ownsRow_nil _ _ _ 1⟩, fun i k _ => zeroApart _ _ k⟩, zeroFresh _ _ _, r.dr.keep ⟨rfl, rfl, rfl, by simp [World.setCell], fun q hq => Below.heap_setCell W ⟨b, 0, none⟩ _ q (by show q ≠ b; omega)⟩⟩
  rw [heap_set_at W b 0 _ _ _ _ r.nw.at_]
  rfl
theorem GI.setT {g : Nat} {B : Bs} {w0 W : World} {nv : Value} {hs : List Hd} {ns : List Nd} {b : Nat} {nv' : Value} {hs' : List Hd} {ns' : List Nd} {k : Nat} {t zs : Bs} {o cd : Nat} (r : GI g B w0 W nv hs ns b nv' hs' ns' ⟨k, t, .slice none 0 0, .slice none 0 0⟩ ⟨k, t, [], []⟩ zs o cd) (hb : w0.heap.size ≤ b) (t' : Bs) : GI g B w0 (W.setCell ⟨b, 1, none⟩ (.string ⟨t'.toArray⟩)) nv hs ns b nv' hs' ns' ⟨k, t', .slice none 0 0, .slice none 0 0⟩ ⟨k, t', [], []⟩ zs o cd := by
  have hbg := r.nw.bg
  have ok : OK1 b (.slice none 0 0) W (W.setCell ⟨b, 1, none⟩ (.string ⟨t'.toArray⟩)) := ⟨rfl, rfl, rfl, by simp [World.setCell], fun q _ hq _ => Below.heap_setCell W ⟨b, 1, none⟩ _ q hq⟩
  refine ⟨r.vk.own r.nw hb (.inl rfl) (fun q e => by cases e) ok, ⟨?_, hbg, r.nw.bn, ⟨rfl, rfl, World.ownsRow_nil _ _ _ 1, World.ownsRow_nil _ _ _ 1⟩, fun i k _ => zeroApart _ _ k⟩, zeroFresh _ _ _, r.dr.keep ⟨rfl, rfl, rfl, by simp [World.setCell], fun q hq => Below.heap_setCell W ⟨b, 1, none⟩ _ q (by show q ≠ b; omega)⟩⟩
  rw [heap_set_at W b 1 _ _ _ _ r.nw.at_]
  rfl
/-- The group's answer is the node. -/
theorem GI.take {g : Nat} {B : Bs} {w0 W w' : World} {nv : Value} {hs : List Hd} {ns : List Nd} {b : Nat} {nv1 nv2 : Value} {hs1 hs2 : List Hd} {ns1 ns2 : List Nd} {h : Hd} {n : Nd} {zs us : Bs} {o cd cd' : Nat} (r : GI g B w0 W nv hs ns b nv1 hs1 ns1 ⟨0, [], .slice none 0 0, .slice none 0 0⟩ ⟨0, [], [], []⟩ zs o cd) (hb : w0.heap.size ≤ b)
    (hv : VK g W w' nv1 nv2 hs1 hs2 ns1 ns2) (rep : Rep w' (g + 1) h n) (fr : Fresh W.heap.size h) (ap : ∀ (i : Nat) (k : Hd), hs2[i]? = some k → Apart h k) (hd : Dr w' g B us o nv2 cd') :
    GI g B w0 (put4 w' b 0 h) nv hs ns b nv2 hs2 ns2 h n us o cd' := by
  have p := r.nw.vk r.vk.nodes hv
  have hbg := r.nw.bg
  have ok : OK1 b (.slice none 0 0) w' (put4 w' b 0 h) := ⟨rfl, rfl, rfl, by rw [put4_size]; exact Nat.le_refl _, fun q _ hq _ => put4_other w' b 0 h q hq⟩
  have keep : ∀ {e : TypeId} {v : Value} {m : Nat} {xs : List Value}, e ≠ 38 → w'.ownsRow (g + 1) e 1 v m xs → (put4 w' b 0 h).ownsRow (g + 1) e 1 v m xs := fun he ho => owns_keep ho (fun q hq => put4_other w' b 0 h q (fun e => by
    obtain ⟨_, _, c, hc⟩ := owns_lt ho hq
    rw [e, p.at_] at hc
    injection hc with h1
    injection h1 with _ h2
    exact he h2.symm))
  exact ⟨(r.vk.trans hv).own p hb (.inl rfl) (fun q e => by cases e) ok, ⟨put4_at p.at_, hbg, p.bn, ⟨rep.kind, rep.text, keep (by decide) rep.names, keep (by decide) rep.kids⟩, ap⟩, fr.mono r.vk.size, hd.keep ⟨rfl, rfl, rfl, by rw [put4_size]; exact Nat.le_refl _, fun q hq => put4_other w' b 0 h q (by omega)⟩⟩
theorem Dr.nodesc {w : World} {g : Nat} {B ys : Bs} {d : Nat} {nv : Value} {c : Nat} (h : Dr w g B ys d nv c) : w.cell? ⟨g, 3, none⟩ = some nv ∧ w.frozen? ⟨g, 3, none⟩ = false := by
  obtain ⟨pre, p, k, h0, h1, h2, h3⟩ := h
  exact ⟨h1.nodes, h1.frozen 3⟩
theorem Dr.setNodes {w : World} {g : Nat} {B ys : Bs} {d : Nat} {nv : Value} {c : Nat} (h : Dr w g B ys d nv c) (v : Value) : Dr (w.setCell ⟨g, 3, none⟩ v) g B ys d v c := by
  obtain ⟨pre, p, k, h0, h1, h2, h3⟩ := h
  exact ⟨pre, p, k, h0, h1.setNodes v, h2.keep (fun j hj => Below.heap_setCell _ _ _ _ (by show j ≠ g; omega)), h3⟩

theorem tk_pre {c : UInt8} {xs : Bs} : tk [c] (c :: xs) = some xs := by unfold tk; simp
theorem tk_nopre {c : UInt8} {xs : Bs} (h : [c].isPrefixOf xs = false) : tk [c] xs = none := by unfold tk; rw [if_neg (by rw [h]; decide)]
theorem valS_grp {f o c kind : Nat} {cc close : UInt8} {ys xs : Bs} (hk : (kind = 1 ∧ cc = 123 ∧ close = 125) ∨ (kind = 2 ∧ cc = 91 ∧ close = 93)) (h : bl ys = cc :: xs) (hc : c ≠ 256) : valS (f + 1) o c ys = grpS f o c kind close xs := by
  rw [valS_succ, if_neg hc, h]
  rcases hk with ⟨rfl, rfl, rfl⟩ | ⟨rfl, rfl, rfl⟩
  · rw [tk_pre]
  · rw [show tk [123] (91 :: xs) = none from rfl, tk_pre]
theorem valS_plain {f o c : Nat} {ys : Bs} (h1 : [123].isPrefixOf (bl ys) = false) (h2 : [91].isPrefixOf (bl ys) = false) (hc : c ≠ 256) : valS (f + 1) o c ys = match plainS (bl ys) with | none => .error 11 | some (n, zs) => .ok ([n], zs) := by
  rw [valS_succ, if_neg hc, tk_nopre h1, tk_nopre h2]
  rfl
theorem plainS_text (xs : Bs) : plainS (34 :: xs) = (textS (34 :: xs)).map fun p => (⟨3, p.1, [], []⟩, p.2) := by
  unfold plainS
  rw [show tk [116, 114, 117, 101] (34 :: xs) = none from rfl, show tk [102, 97, 108, 115, 101] (34 :: xs) = none from rfl, show tk [110, 117, 108, 108] (34 :: xs) = none from rfl]
  simp
theorem plainS_true {xs zs : Bs} (h : tk [116, 114, 117, 101] xs = some zs) : plainS xs = some (⟨5, [], [], []⟩, zs) := by unfold plainS; rw [h]
theorem plainS_false {xs zs : Bs} (h0 : tk [116, 114, 117, 101] xs = none) (h : tk [102, 97, 108, 115, 101] xs = some zs) : plainS xs = some (⟨6, [], [], []⟩, zs) := by unfold plainS; rw [h0, h]
theorem plainS_null {xs zs : Bs} (h0 : tk [116, 114, 117, 101] xs = none) (h1 : tk [102, 97, 108, 115, 101] xs = none) (h : tk [110, 117, 108, 108] xs = some zs) : plainS xs = some (⟨7, [], [], []⟩, zs) := by unfold plainS; rw [h0, h1, h]
theorem plainS_num {xs : Bs} (hq : [34].isPrefixOf xs = false) (h0 : tk [116, 114, 117, 101] xs = none) (h1 : tk [102, 97, 108, 115, 101] xs = none) (h2 : tk [110, 117, 108, 108] xs = none) : plainS xs = (numS xs).map fun p => (⟨4, p.1, [], []⟩, p.2) := by
  unfold plainS
  rw [h0, h1, h2]
  simp only []
  rw [if_neg (by rw [hq]; decide)]
theorem DN.number {w W : World} {g : Nat} {B xs : Bs} {d : Nat} {nv : Value} {code : Nat} (h : DN w W g B xs d nv code) :
    Calls Tryd.prog 39 #[.pointer (some ⟨g, 0, none⟩)] W fun e w' => (∃ (s zs : Bs), numS xs = some (s, zs) ∧ e = .returned (.tuple #[.string ⟨s.toArray⟩, .bool true]) ∧ DN w w' g B zs d nv code) ∨ (numS xs = none ∧ e = .returned (.tuple #[.string ⟨#[]⟩, .bool false]) ∧ ∃ zs, DN w w' g B zs d nv code) :=
  (dNumber g B xs d nv code W h.dr).mono (fun e w' r => by
    obtain ⟨b, (⟨s, zs, h1, h2, h3⟩ | ⟨h1, h2, zs, h3⟩)⟩ := r
    · exact .inl ⟨s, zs, h1, h2, h.but.trans b, h3⟩
    · exact .inr ⟨h1, h2, zs, h.but.trans b, h3⟩)

set_option maxRecDepth 100000 in
set_option maxHeartbeats 8000000 in
/-- value. -/
theorem dValue (f : Nat) (IH : ∀ f', f' < f → DVal f') : DVal (f + 1) := by
  intro g B ys o nv hs ns w hD hN hT hG hf ho hn
  have hgl := hD.lt
  obtain ⟨p, c, rfl⟩ := hN.slice
  obtain ⟨l, hl⟩ : ∃ l, ns.length = l := ⟨_, rfl⟩
  rw [hl] at hD hN ⊢
  have HN : Hid (Nodes w (g + 1) (.slice p l c) hs ns ∧ Tabs w ∧ Gl g ∧ ns.length = l) := ⟨hN, hT, hG, hl⟩
  obtain ⟨V0, hV0⟩ : ∃ V0, valS (f + 1) o l ys = V0 := ⟨_, rfl⟩
  have HV0 : Hid (valS (f + 1) o ns.length ys = V0) := by rw [hl]; exact hV0
  have hlb : (l : Int) ≤ 256 := by omega
  clear hN hT hG hV0 hn
  go_enter Tryd.func21, Tryd.ntmps21
  go_wp2_with fail
  go_at_call 22
  refine (DN.start hD).blank.mono ?_
  rintro e w1 ⟨rfl, S1⟩
  have e3 := S1.dr.nodesc.1
  have f3 := S1.dr.nodesc.2
  have e4 : w1.cell? ⟨g, 4, none⟩ = some (.int .i64 0) := S1.dr.codec
  by_cases q : l = 256
  · subst q
    have e3' : w1.cell? ⟨g, 3, none⟩ = some (.slice p 256 c) := e3
    clear e3 hl
    go_wp2_with fail
    go_at_call 23
    refine (S1.bad 14).mono ?_
    rintro e w2 ⟨rfl, S2⟩
    have e4' : w2.cell? ⟨g, 4, none⟩ = some (.int .i64 14) := S2.dr.codec
    clear e4 e3' f3
    go_wp2_with fail
    go_ret
    refine ⟨_, hs, ns, 0, rfl, VK.but HN.out.1 S2.but, .inr ⟨14, _, ?_, by decide, by decide, S2.dr⟩⟩
    rw [valS_succ, if_pos HN.out.2.2.2]
  · have q' : ((l : Int) == 256) = false := by simp; omega
    have hlb' : (l : Int) ≤ 255 := by omega
    clear q hlb hl
    go_upto_region 7 with fail
    have b1 := S1.but
    have N1 := HN.out.1.but' b1
    have hgl1 := S1.dr.lt
    have hhl : hs.length = l := by rw [HN.out.1.len]; exact HN.out.2.2.2
    have row1 := N1.row
    rw [hhl] at row1
    have hneG : some g ≠ (Value.slice p l c).ownBlock := N1.low (Nat.le_refl _)
    have HD7 : Hid (∀ (w5 : World) (g' cap' : Nat), w5.ownsRow (g + 1) 38 4 (.slice (some ⟨g', 0, none⟩) (l + 1) cap') (l + 1) (flat hs ++ Hd.cells ⟨0, [], .slice none 0 0, .slice none 0 0⟩) → (w1.alloc (.cells #[.int .u8 0, .string ⟨#[]⟩, .slice none 0 0, .slice none 0 0] 38)).grownBy w5 (Value.slice p l c).ownBlock → ((Value.slice p l c).ownBlock = some g' ∨ g' = w1.heap.size + 1) →
        VK g w (w5.setCell ⟨g, 3, none⟩ (.slice (some ⟨g', 0, none⟩) (l + 1) cap')) (.slice p l c) (.slice (some ⟨g', 0, none⟩) (l + 1) cap') hs (hs ++ [⟨0, [], .slice none 0 0, .slice none 0 0⟩]) ns (ns ++ [⟨0, [], [], []⟩]) ∧ Dr (w5.setCell ⟨g, 3, none⟩ (.slice (some ⟨g', 0, none⟩) (l + 1) cap')) g B (bl ys) o (.slice (some ⟨g', 0, none⟩) (l + 1) cap') 0) := by
      intro w5 g' cap' o1 gr at1
      have hbW := below_one w1 (.cells #[.int .u8 0, .string ⟨#[]⟩, .slice none 0 0, .slice none 0 0] 38)
      have NW1 := N1.but' (But.ofBelow (g := g) hbW)
      have hsz : (w1.alloc (.cells #[.int .u8 0, .string ⟨#[]⟩, .slice none 0 0, .slice none 0 0] 38)).heap.size = w1.heap.size + 1 := by simp
      have v := VK.push (g := g) (v' := .slice (some ⟨g', 0, none⟩) (l + 1) cap') NW1 0 [] (by rw [hhl]; exact o1) gr (by
        rw [hsz]
        rcases at1 with e | e
        · exact .inl e.symm
        · right; rw [e]; rfl) 3
      refine ⟨(VK.but HN.out.1 b1).trans ((VK.but N1 (But.ofBelow hbW)).trans v), ?_⟩
      have d5 : Dr w5 g B (bl ys) o (.slice p l c) 0 := S1.dr.keep ⟨gr.os.trans hbW.os, gr.tape.trans hbW.tape, gr.output.trans hbW.output, Nat.le_trans hbW.size gr.size, fun k hk => (gr.block k (by rw [hsz]; omega) (N1.low (by omega))).trans (hbW.block k (by omega))⟩
      exact d5.setNodes _
    obtain ⟨i0, hi0, hz0, hz1, hz2⟩ := info_parts infoNode
    have HP7 : Hid (l + 1 ≤ maxLen ∧ (l + 1) * 72 ≤ 140737488355328 ∧ g + 1 ≤ (w1.alloc (.cells #[.int .u8 0, .string ⟨#[]⟩, .slice none 0 0, .slice none 0 0] 38)).heap.size ∧ (w1.alloc (.cells #[.int .u8 0, .string ⟨#[]⟩, .slice none 0 0, .slice none 0 0] 38)).heap.size = w1.heap.size + 1 ∧ g < (w1.alloc (.cells #[.int .u8 0, .string ⟨#[]⟩, .slice none 0 0, .slice none 0 0] 38)).heap.size ∧ (w1.alloc (.cells #[.int .u8 0, .string ⟨#[]⟩, .slice none 0 0, .slice none 0 0] 38)).cell? ⟨g, 3, none⟩ = some (.slice p l c) ∧ (w1.alloc (.cells #[.int .u8 0, .string ⟨#[]⟩, .slice none 0 0, .slice none 0 0] 38)).frozen? ⟨g, 3, none⟩ = false) :=
      ⟨by unfold maxLen; omega, by omega, by simp; omega, by simp, by simp; omega, more_cell _ e3, more_frozen _ e3 f3⟩
    have HO7 : Hid ((w1.alloc (.cells #[.int .u8 0, .string ⟨#[]⟩, .slice none 0 0, .slice none 0 0] 38)).ownsRow (g + 1) 38 4 (.slice p l c) l (flat hs) ∧ (∀ u ∈ Hd.cells ⟨0, [], .slice none 0 0, .slice none 0 0⟩, u.oneCell' = true) ∧ some g ≠ (Value.slice p l c).ownBlock ∧ (∀ j u, (Hd.cells ⟨0, [], .slice none 0 0, .slice none 0 0⟩)[j]? = some u → (w1.alloc (.cells #[.int .u8 0, .string ⟨#[]⟩, .slice none 0 0, .slice none 0 0] 38)).cell? ((⟨w1.heap.size, 0, none⟩ : Addr).add j) = some u)) :=
      ⟨row1.alloc _, by simp [Hd.cells, Value.oneCell'], hneG, World.news_of_block (alloc_new w1 (.cells #[.int .u8 0, .string ⟨#[]⟩, .slice none 0 0, .slice none 0 0] 38))⟩
    have HS1 : Hid ((bl ys).length ≤ ys.length) := bl_len ys
    clear b1 N1 hgl1 hhl row1 hneG S1 hD e4
    go_cut [] from 6 (fun wc => ∃ nv1 : Value, VK g w wc (.slice p l c) nv1 hs (hs ++ [⟨0, [], .slice none 0 0, .slice none 0 0⟩]) ns (ns ++ [⟨0, [], [], []⟩]) ∧ Dr wc g B (bl ys) o nv1 0)
    case first =>
      --<done
      go_wp2_with (at_builtin; refine wpList_append_lies _ rfl (.tmp 30) (.tmp 32) 24 rfl (g + 1) 38 i0 (.agg #[.int .u8 0, .string ⟨#[]⟩, .slice none 0 0, .slice none 0 0]) 4 72 Tryd.underlying24 hi0 hz0 hz1 hz2 rfl (by decide) (.slice p l c) l (flat hs) rfl HO7.out.1 ⟨w1.heap.size, 0, none⟩ 1 1 (Hd.cells ⟨0, [], .slice none 0 0, .slice none 0 0⟩) rfl rfl HO7.out.2.2.2 HO7.out.2.1 (by decide) HP7.out.1 HP7.out.2.1 HP7.out.2.2.1 (w1.heap.size + 1) HP7.out.2.2.2.1 ?_; intro g' cap' w5 o1 gr1 at1 lt1; have HGG : Hid (_ ∧ _ ∧ _) := ⟨o1, gr1, at1⟩; have c3'' := (gr1.cell_far ⟨g, 3, none⟩ HP7.out.2.2.2.2.1 HO7.out.2.2.1).trans HP7.out.2.2.2.2.2.1; have f3'' := (gr1.frozen_far ⟨g, 3, none⟩ HP7.out.2.2.2.2.1 HO7.out.2.2.1).trans HP7.out.2.2.2.2.2.2; clear o1 gr1 at1 lt1)
      go_meet
      case rel => exact ⟨_, HD7.out _ _ _ HGG.out.1 HGG.out.2.1 HGG.out.2.2⟩
      --done>
    case rest =>
    obtain ⟨nv1, V2, D2⟩ := hcut
    clear HD7 HP7 HO7 e3 f3
    obtain ⟨w3, hw3⟩ : ∃ w3, wc.alloc (.cells #[.int .u8 0, .string ⟨#[]⟩, .slice none 0 0, .slice none 0 0] 38) = w3 := ⟨_, rfl⟩
    obtain ⟨b, hb⟩ : ∃ b, wc.heap.size = b := ⟨_, rfl⟩
    have b23 : Below wc.heap.size wc w3 := by rw [← hw3]; exact below_one wc _
    have NW3 : NW w3 g nv1 (hs ++ [⟨0, [], .slice none 0 0, .slice none 0 0⟩]) b ⟨0, [], .slice none 0 0, .slice none 0 0⟩ ⟨0, [], [], []⟩ := by
      rw [← hb]
      exact NW.new V2.nodes D2.lt 0 w3 (by rw [← hw3]; exact alloc_new _ _)
    have G3 : GI g B w w3 (.slice p l c) hs ns b nv1 (hs ++ [⟨0, [], .slice none 0 0, .slice none 0 0⟩]) (ns ++ [⟨0, [], [], []⟩]) ⟨0, [], .slice none 0 0, .slice none 0 0⟩ ⟨0, [], [], []⟩ (bl ys) o 0 := ⟨V2.trans (VK.but V2.nodes (But.ofBelow b23)), NW3, zeroFresh _ _ _, D2.below b23⟩
    have HBB : Hid (w.heap.size ≤ b) := by show _ ≤ _; rw [← hb]; exact V2.size
    have HW3 : Hid (wc.alloc (.cells #[.int .u8 0, .string ⟨#[]⟩, .slice none 0 0, .slice none 0 0] 38) = w3 ∧ wc.heap.size = b) := ⟨hw3, hb⟩
    clear V2 D2 NW3 b23 hw3 hb
    have HL5 : Hid (ns.length ≠ 256 ∧ ns.length + 1 ≤ 256) := by have := HN.out.2.2.2; exact ⟨by omega, by omega⟩
    have HTB : Hid (∀ (W : World) (nv' : Value) (hs' : List Hd) (ns' : List Nd) (h : Hd) (n : Nd) (zs : Bs) (o cd : Nat), GI g B w W (.slice p l c) hs ns b nv' hs' ns' h n zs o cd → Tabs W) :=
      fun W nv' hs' ns' h n zs o cd r => HN.out.2.1.low HN.out.2.2.1 (r.vk.below HN.out.1 hgl)
    go_upto_block 0 with fail
    rw [HW3.out.1, HW3.out.2]
    go_cut [5] from 6 (fun s5 wc => ∃ (okb : Bool) (nv2 : Value) (hs2 : List Hd) (ns2 : List Nd) (h : Hd) (n : Nd) (zs : Bs) (cd : Nat), s5 = .bool okb ∧ GI g B w wc (.slice p l c) hs ns b nv2 hs2 ns2 h n zs o cd ∧ Hid (ns.length + 1 ≤ ns2.length ∧ ((okb = true ∧ cd = 0 ∧ ∃ news, V0 = .ok (n :: news, zs) ∧ ns2 = (ns ++ [⟨0, [], [], []⟩]) ++ news ∧ zs.length ≤ ys.length ∧ ns2.length ≤ 256) ∨ (okb = true ∧ 0 < cd ∧ cd < 100 ∧ V0 = .error cd) ∨ (okb = false ∧ cd = 0 ∧ V0 = .error 11))))
    case first =>
      --<done
      clear HW3
      have HPLAIN : Hid (∀ (W : World) (h : Hd) (n : Nd) (zs : Bs), GI g B w W (.slice p l c) hs ns b nv1 (hs ++ [⟨0, [], .slice none 0 0, .slice none 0 0⟩]) (ns ++ [⟨0, [], [], []⟩]) h n zs o 0 → V0 = .ok ([n], zs) → zs.length ≤ (bl ys).length → ∃ (okb : Bool) (nv2 : Value) (hs2 : List Hd) (ns2 : List Nd) (h : Hd) (n : Nd) (zs : Bs) (cd : Nat), Value.bool true = .bool okb ∧ GI g B w W (.slice p l c) hs ns b nv2 hs2 ns2 h n zs o cd ∧ Hid (ns.length + 1 ≤ ns2.length ∧ ((okb = true ∧ cd = 0 ∧ ∃ news, V0 = .ok (n :: news, zs) ∧ ns2 = (ns ++ [⟨0, [], [], []⟩]) ++ news ∧ zs.length ≤ ys.length ∧ ns2.length ≤ 256) ∨ (okb = true ∧ 0 < cd ∧ cd < 100 ∧ V0 = .error cd) ∨ (okb = false ∧ cd = 0 ∧ V0 = .error 11)))) :=
        fun W h n zs r h1 h2 => ⟨true, _, _, _, h, n, zs, 0, rfl, r, by simp, .inl ⟨rfl, rfl, [], h1, by simp, Nat.le_trans h2 HS1.out, by have := HL5.out; simp; omega⟩⟩
      have HWRONG : Hid (∀ (W : World) (h : Hd) (n : Nd) (zs : Bs), GI g B w W (.slice p l c) hs ns b nv1 (hs ++ [⟨0, [], .slice none 0 0, .slice none 0 0⟩]) (ns ++ [⟨0, [], [], []⟩]) h n zs o 0 → V0 = .error 11 → ∃ (okb : Bool) (nv2 : Value) (hs2 : List Hd) (ns2 : List Nd) (h : Hd) (n : Nd) (zs : Bs) (cd : Nat), Value.bool false = .bool okb ∧ GI g B w W (.slice p l c) hs ns b nv2 hs2 ns2 h n zs o cd ∧ Hid (ns.length + 1 ≤ ns2.length ∧ ((okb = true ∧ cd = 0 ∧ ∃ news, V0 = .ok (n :: news, zs) ∧ ns2 = (ns ++ [⟨0, [], [], []⟩]) ++ news ∧ zs.length ≤ ys.length ∧ ns2.length ≤ 256) ∨ (okb = true ∧ 0 < cd ∧ cd < 100 ∧ V0 = .error cd) ∨ (okb = false ∧ cd = 0 ∧ V0 = .error 11)))) :=
        fun W h n zs r h1 => ⟨false, _, _, _, h, n, zs, 0, rfl, r, by simp, .inr (.inr ⟨rfl, rfl, h1⟩)⟩
      go_upto_region 12 with fail
      go_cut [44] from 45 to 50 (fun s44 wc => s44 = .bool ([123].isPrefixOf (bl ys) || [91].isPrefixOf (bl ys)) ∧ GI g B w wc (.slice p l c) hs ns b nv1 (hs ++ [⟨0, [], .slice none 0 0, .slice none 0 0⟩]) (ns ++ [⟨0, [], [], []⟩]) ⟨0, [], .slice none 0 0, .slice none 0 0⟩ ⟨0, [], [], []⟩ (bl ys) o 0)
      case first =>
        go_wp2_with fail
        go_at_call 35
        refine ((DN.start G3.dr).is 123).mono ?_
        rintro e w4 ⟨rfl, S4⟩
        have G4 := G3.dn S4
        cases hq1 : [123].isPrefixOf (bl ys)
        · go_wp2_with fail
          go_at_call 35
          refine ((DN.start G4.dr).is 91).mono ?_
          rintro e w5 ⟨rfl, S5⟩
          have G5 := G4.dn S5
          obtain ⟨q2, hq2⟩ : ∃ q2, [91].isPrefixOf (bl ys) = q2 := ⟨_, rfl⟩
          rw [hq2]
          go_wp2_with fail
          go_meet
          case rel => exact ⟨by rw [hq1, Bool.false_or, hq2], G5⟩
        · go_wp2_with fail
          go_meet
          case rel => exact ⟨by rw [hq1]; rfl, G4⟩
      case rest =>
      obtain ⟨rfl, G4⟩ := hcut
      clear G3
      obtain ⟨Q, hQ⟩ : ∃ Q, ([123].isPrefixOf (bl ys) || [91].isPrefixOf (bl ys)) = Q := ⟨_, rfl⟩
      rw [hQ]
      cases Q
      case true =>
        obtain ⟨kind, cc, close, xs, hk, hxs⟩ : ∃ (kind : Nat) (cc close : UInt8) (xs : Bs), ((kind = 1 ∧ cc = 123 ∧ close = 125) ∨ (kind = 2 ∧ cc = 91 ∧ close = 93)) ∧ bl ys = cc :: xs := by
          cases h1 : [123].isPrefixOf (bl ys)
          · rw [h1, Bool.false_or] at hQ
            obtain ⟨xs, hx⟩ := pre1 hQ
            exact ⟨2, 91, 93, xs, .inr ⟨rfl, rfl, rfl⟩, hx⟩
          · obtain ⟨xs, hx⟩ := pre1 h1
            exact ⟨1, 123, 125, xs, .inl ⟨rfl, rfl, rfl⟩, hx⟩
        have HG0 : Hid (V0 = grpS f o ns.length kind close xs) := by show _ = _; rw [← HV0.out, valS_grp hk hxs HL5.out.1]
        have hxl : xs.length + 1 ≤ ys.length := by have := HS1.out; rw [hxs] at this; simpa using this
        have G4' := G4
        rw [hxs] at G4'
        have HGC := dGroup f IH kind cc close hk g B xs o nv1 (hs ++ [⟨0, [], .slice none 0 0, .slice none 0 0⟩]) (ns ++ [⟨0, [], [], []⟩]) wc G4'.dr G4'.vk.nodes (HTB.out _ _ _ _ _ _ _ _ _ G4') HN.out.2.2.1 (by omega) ho (by have := HL5.out.2; simp; omega) (by simp)
        clear hQ hxs hk G4 HPLAIN HWRONG
        go_wp2_with fail
        go_at_call 36
        refine HGC.mono ?_
        clear HGC
        rintro e w5 ⟨nv2, hs2, ns2, ⟨kd, tx, vn, vk⟩, n, rfl, V5, R5, F5, A5, hO⟩
        obtain ⟨pN, lN, cN, rfl⟩ : ∃ p l c, vn = .slice p l c := by
          rcases R5.names.2 with ⟨e, _⟩ | ⟨q, cap, cur, e, _⟩
          · exact ⟨_, _, _, e⟩
          · exact ⟨_, _, _, e⟩
        obtain ⟨pK, lK, cK, rfl⟩ : ∃ p l c, vk = .slice p l c := by
          rcases R5.kids.2 with ⟨e, _⟩ | ⟨q, cap, cur, e, _⟩
          · exact ⟨_, _, _, e⟩
          · exact ⟨_, _, _, e⟩
        obtain ⟨zs, cd, G5, HE⟩ : ∃ (zs : Bs) (cd : Nat), GI g B w (put4 w5 b 0 ⟨kd, tx, .slice pN lN cN, .slice pK lK cK⟩) (.slice p l c) hs ns b nv2 hs2 ns2 ⟨kd, tx, .slice pN lN cN, .slice pK lK cK⟩ n zs o cd ∧ Hid (ns.length + 1 ≤ ns2.length ∧ ((true = true ∧ cd = 0 ∧ ∃ news, V0 = .ok (n :: news, zs) ∧ ns2 = (ns ++ [⟨0, [], [], []⟩]) ++ news ∧ zs.length ≤ ys.length ∧ ns2.length ≤ 256) ∨ (true = true ∧ 0 < cd ∧ cd < 100 ∧ V0 = .error cd) ∨ (true = false ∧ cd = 0 ∧ V0 = .error 11))) := by
          have hln := V5.len
          rw [List.length_append] at hln
          have hlen : (ns ++ [(⟨0, [], [], []⟩ : Nd)]).length - 1 = ns.length := by simp
          rw [hlen] at hO
          rcases hO with ⟨news, z, h1, h2, h3, h4, h5⟩ | ⟨cd, z, h1, h2, h3, h4⟩
          · exact ⟨z, 0, G4'.take HBB.out V5 R5 F5 A5 h3, hln, .inl ⟨rfl, rfl, news, by rw [HG0.out, h1], h2, by omega, h5⟩⟩
          · exact ⟨z, cd, G4'.take HBB.out V5 R5 F5 A5 h4, hln, .inr (.inl ⟨rfl, h2, h3, by rw [HG0.out, h1]⟩)⟩
        have p5 := G4'.nw.vk G4'.vk.nodes V5
        have d0 := p5.cell 0
        have d1 := p5.cell 1
        have d2 := p5.cell 2
        have d3 := p5.cell 3
        have x0 := p5.frozen 0
        have x1 := p5.frozen 1
        have x2 := p5.frozen 2
        have x3 := p5.frozen 3
        simp only [Hd.cells, List.getElem?_cons_zero, List.getElem?_cons_succ] at d0 d1 d2 d3
        clear p5 V5 R5 F5 A5 hO G4'
        simp only [Hd.cells]
        go_wp2_with fail
        go_meet
        case rel =>
          refine ⟨true, nv2, hs2, ns2, _, n, zs, cd, rfl, G5, HE.out.1, ?_⟩
          rcases HE.out.2 with h | h | h
          · exact .inl ⟨rfl, h.2⟩
          · exact .inr (.inl ⟨rfl, h.2⟩)
          · cases h.1
      case false =>
      have hq1 : [123].isPrefixOf (bl ys) = false := (Bool.or_eq_false_iff.1 hQ).1
      have hq2 : [91].isPrefixOf (bl ys) = false := (Bool.or_eq_false_iff.1 hQ).2
      have HPV : Hid (V0 = match plainS (bl ys) with | none => .error 11 | some (n, zs) => .ok ([n], zs)) := by show _ = _; rw [← HV0.out, valS_plain hq1 hq2 HL5.out.1]
      clear hQ hq1 hq2
      have cb0 : wc.cell? ⟨b, 0, none⟩ = some (.int .u8 (0 : Nat)) := G4.nw.cell 0
      go_wp2_with fail
      go_at_call 35
      refine ((DN.start G4.dr).is 34).mono ?_
      rintro e w5 ⟨rfl, S5⟩
      have G5 := G4.dn S5
      clear S5 G4 cb0
      have cb0 : w5.cell? ⟨b, 0, none⟩ = some (.int .u8 (0 : Nat)) := G5.nw.cell 0
      have fb0 := G5.nw.frozen 0
      cases hq3 : [34].isPrefixOf (bl ys)
      case true =>
        obtain ⟨xs, hxs⟩ := pre1 hq3
        have HXS : Hid (bl ys = 34 :: xs) := hxs
        clear hq3 hxs
        go_upto_region 15 with fail
        go_cut [] from 51 to 74 (fun wc => GI g B w wc (.slice p l c) hs ns b nv1 (hs ++ [⟨0, [], .slice none 0 0, .slice none 0 0⟩]) (ns ++ [⟨0, [], [], []⟩]) ⟨3, [], .slice none 0 0, .slice none 0 0⟩ ⟨3, [], [], []⟩ (bl ys) o 0)
        case first =>
          go_wp2_with fail
          go_meet
          case rel => exact G5.setK HBB.out 3
        case rest =>
        have G6 := hcut
        clear hcut G5 cb0 fb0
        rw [HXS.out] at G6
        go_wp2_with fail
        go_at_call 37
        refine ((DN.start G6.dr).text (HTB.out _ _ _ _ _ _ _ _ _ G6)).mono ?_
        rintro e w7 (⟨s, zs, t1, rfl, S7⟩ | ⟨t1, rfl, zs, S7⟩)
        · have G7 := G6.dn S7
          have c1 : w7.cell? ⟨b, 1, none⟩ = some (.string ⟨#[]⟩) := G7.nw.cell 1
          have x1 := G7.nw.frozen 1
          have hps : plainS (bl ys) = some (⟨3, s, [], []⟩, zs) := by rw [HXS.out, plainS_text, t1]; rfl
          have HPS : Hid (V0 = .ok ([⟨3, s, [], []⟩], zs) ∧ zs.length ≤ (bl ys).length) := ⟨by rw [HPV.out, hps], plainS_len hps⟩
          clear hps t1 S7 G6
          go_wp2_with fail
          go_meet
          case rel => exact HPLAIN.out _ _ _ _ (G7.setT HBB.out s) HPS.out.1 HPS.out.2
        · have G7 := G6.dn S7
          have c1 : w7.cell? ⟨b, 1, none⟩ = some (.string ⟨#[]⟩) := G7.nw.cell 1
          have x1 := G7.nw.frozen 1
          have HPS : Hid (V0 = .error 11) := by show _ = _; rw [HPV.out, HXS.out, plainS_text, t1]; rfl
          clear t1 S7 G6
          go_wp2_with fail
          go_meet
          case rel => exact HWRONG.out _ _ _ _ (G7.setT HBB.out []) HPS.out
      case false =>
      have HQ3 : Hid ([34].isPrefixOf (bl ys) = false) := hq3
      clear hq3
      go_wp2_with fail
      go_at_call 38
      refine ((DN.start G5.dr).word [116, 114, 117, 101] (by decide) (by decide)).mono ?_
      rintro e w6 ⟨t6, y6, rfl, m6, S6⟩
      have G6 := G5.dn S6
      clear G5 S6 cb0 fb0
      have cb0 : w6.cell? ⟨b, 0, none⟩ = some (.int .u8 (0 : Nat)) := G6.nw.cell 0
      have fb0 := G6.nw.frozen 0
      cases t6
      case true =>
        have htk : tk [116, 114, 117, 101] (bl ys) = some y6 := by
          rcases m6 with ⟨_, e⟩ | ⟨e, _⟩
          · exact e
          · cases e
        have hps := plainS_true htk
        have HPS : Hid (V0 = .ok ([⟨5, [], [], []⟩], y6) ∧ y6.length ≤ (bl ys).length) := ⟨by rw [HPV.out, hps], plainS_len hps⟩
        clear hps htk m6
        go_wp2_with fail
        go_meet
        case rel => exact HPLAIN.out _ _ _ _ (G6.setK HBB.out 5) HPS.out.1 HPS.out.2
      case false =>
      obtain ⟨ht1, rfl⟩ : tk [116, 114, 117, 101] (bl ys) = none ∧ y6 = bl ys := by
        rcases m6 with ⟨e, _⟩ | ⟨_, e, e'⟩
        · cases e
        · exact ⟨e, e'⟩
      have HT1 : Hid (tk [116, 114, 117, 101] (bl ys) = none) := ht1
      clear ht1 m6
      go_wp2_with fail
      go_at_call 38
      refine ((DN.start G6.dr).word [102, 97, 108, 115, 101] (by decide) (by decide)).mono ?_
      rintro e w7 ⟨t7, y7, rfl, m7, S7⟩
      have G7 := G6.dn S7
      clear G6 S7 cb0 fb0
      have cb0 : w7.cell? ⟨b, 0, none⟩ = some (.int .u8 (0 : Nat)) := G7.nw.cell 0
      have fb0 := G7.nw.frozen 0
      cases t7
      case true =>
        have htk : tk [102, 97, 108, 115, 101] (bl ys) = some y7 := by
          rcases m7 with ⟨_, e⟩ | ⟨e, _⟩
          · exact e
          · cases e
        have hps := plainS_false HT1.out htk
        have HPS : Hid (V0 = .ok ([⟨6, [], [], []⟩], y7) ∧ y7.length ≤ (bl ys).length) := ⟨by rw [HPV.out, hps], plainS_len hps⟩
        clear hps htk m7
        go_wp2_with fail
        go_meet
        case rel => exact HPLAIN.out _ _ _ _ (G7.setK HBB.out 6) HPS.out.1 HPS.out.2
      case false =>
      obtain ⟨ht2, rfl⟩ : tk [102, 97, 108, 115, 101] (bl ys) = none ∧ y7 = bl ys := by
        rcases m7 with ⟨e, _⟩ | ⟨_, e, e'⟩
        · cases e
        · exact ⟨e, e'⟩
      have HT2 : Hid (tk [102, 97, 108, 115, 101] (bl ys) = none) := ht2
      clear ht2 m7
      go_wp2_with fail
      go_at_call 38
      refine ((DN.start G7.dr).word [110, 117, 108, 108] (by decide) (by decide)).mono ?_
      rintro e w8 ⟨t8, y8, rfl, m8, S8⟩
      have G8 := G7.dn S8
      clear G7 S8 cb0 fb0
      have cb0 : w8.cell? ⟨b, 0, none⟩ = some (.int .u8 (0 : Nat)) := G8.nw.cell 0
      have fb0 := G8.nw.frozen 0
      cases t8
      case true =>
        have htk : tk [110, 117, 108, 108] (bl ys) = some y8 := by
          rcases m8 with ⟨_, e⟩ | ⟨e, _⟩
          · exact e
          · cases e
        have hps := plainS_null HT1.out HT2.out htk
        have HPS : Hid (V0 = .ok ([⟨7, [], [], []⟩], y8) ∧ y8.length ≤ (bl ys).length) := ⟨by rw [HPV.out, hps], plainS_len hps⟩
        clear hps htk m8
        go_wp2_with fail
        go_meet
        case rel => exact HPLAIN.out _ _ _ _ (G8.setK HBB.out 7) HPS.out.1 HPS.out.2
      case false =>
      obtain ⟨ht3, rfl⟩ : tk [110, 117, 108, 108] (bl ys) = none ∧ y8 = bl ys := by
        rcases m8 with ⟨e, _⟩ | ⟨_, e, e'⟩
        · cases e
        · exact ⟨e, e'⟩
      have hpn := plainS_num HQ3.out HT1.out HT2.out ht3
      have HPN : Hid (plainS (bl ys) = (numS (bl ys)).map fun p => (⟨4, p.1, [], []⟩, p.2)) := hpn
      clear hpn ht3 m8
      go_upto_region 10 with fail
      go_cut [] from 37 to 74 (fun wc => GI g B w wc (.slice p l c) hs ns b nv1 (hs ++ [⟨0, [], .slice none 0 0, .slice none 0 0⟩]) (ns ++ [⟨0, [], [], []⟩]) ⟨4, [], .slice none 0 0, .slice none 0 0⟩ ⟨4, [], [], []⟩ (bl ys) o 0)
      case first =>
        go_wp2_with fail
        go_meet
        case rel => exact G8.setK HBB.out 4
      case rest =>
      have G9 := hcut
      clear hcut G8 cb0 fb0
      go_wp2_with fail
      go_at_call 39
      refine (DN.start G9.dr).number.mono ?_
      rintro e w10 (⟨s, zs, t1, rfl, S10⟩ | ⟨t1, rfl, zs, S10⟩)
      · have G10 := G9.dn S10
        have c1 : w10.cell? ⟨b, 1, none⟩ = some (.string ⟨#[]⟩) := G10.nw.cell 1
        have x1 := G10.nw.frozen 1
        have hps : plainS (bl ys) = some (⟨4, s, [], []⟩, zs) := by rw [HPN.out, t1]; rfl
        have HPS : Hid (V0 = .ok ([⟨4, s, [], []⟩], zs) ∧ zs.length ≤ (bl ys).length) := ⟨by rw [HPV.out, hps], plainS_len hps⟩
        clear hps t1 S10 G9
        go_wp2_with fail
        go_meet
        case rel => exact HPLAIN.out _ _ _ _ (G10.setT HBB.out s) HPS.out.1 HPS.out.2
      · have G10 := G9.dn S10
        have c1 : w10.cell? ⟨b, 1, none⟩ = some (.string ⟨#[]⟩) := G10.nw.cell 1
        have x1 := G10.nw.frozen 1
        have HPS : Hid (V0 = .error 11) := by show _ = _; rw [HPV.out, HPN.out, t1]; rfl
        clear t1 S10 G9
        go_wp2_with fail
        go_meet
        case rel => exact HWRONG.out _ _ _ _ (G10.setT HBB.out []) HPS.out
      --done>
    case rest =>
    obtain ⟨okb, nv2, hs2, ns2, h, n, zs, cd, rfl, G4, HE⟩ := hcut
    clear G3 HW3
    go_upto_if 76 with fail
    go_cut [] from 6 (fun wc => ∃ (zs' : Bs) (cd' : Nat), GI g B w wc (.slice p l c) hs ns b nv2 hs2 ns2 h n zs' o cd' ∧ Hid (ns.length + 1 ≤ ns2.length ∧ ((cd' = 0 ∧ ∃ news, V0 = .ok (n :: news, zs') ∧ ns2 = (ns ++ [⟨0, [], [], []⟩]) ++ news ∧ zs'.length ≤ ys.length ∧ ns2.length ≤ 256) ∨ (0 < cd' ∧ cd' < 100 ∧ V0 = .error cd'))))
    case first =>
      cases okb
      · have HCD : Hid (cd = 0 ∧ V0 = .error 11) := by
          rcases HE.out.2 with h | h | h
          · cases h.1
          · cases h.1
          · exact h.2
        go_wp2_with fail
        go_at_call 23
        refine ((DN.start G4.dr).bad 11).mono ?_
        rintro e w5 ⟨rfl, S5⟩
        have G5 := G4.dn S5
        rw [if_pos HCD.out.1] at G5
        go_wp2_with fail
        go_meet
        case rel => exact ⟨zs, 11, G5, HE.out.1, .inr ⟨by decide, by decide, HCD.out.2⟩⟩
      · go_wp2_with fail
        go_meet
        case rel =>
          refine ⟨zs, cd, G4, HE.out.1, ?_⟩
          rcases HE.out.2 with h | h | h
          · exact .inl h.2
          · exact .inr h.2
          · cases h.1
    case rest =>
    obtain ⟨us, cd', G5, HF⟩ := hcut
    clear G4 HE
    obtain ⟨kd, tx, vn, vk⟩ := h
    obtain ⟨pN, lN, cN, rfl⟩ : ∃ p l c, vn = .slice p l c := by
      rcases G5.nw.rep.names.2 with ⟨e, _⟩ | ⟨q, cap, cur, e, _⟩
      · exact ⟨_, _, _, e⟩
      · exact ⟨_, _, _, e⟩
    obtain ⟨pK, lK, cK, rfl⟩ : ∃ p l c, vk = .slice p l c := by
      rcases G5.nw.rep.kids.2 with ⟨e, _⟩ | ⟨q, cap, cur, e, _⟩
      · exact ⟨_, _, _, e⟩
      · exact ⟨_, _, _, e⟩
    obtain ⟨gn, cap, rfl, hgn1, hgn2⟩ := G5.vk.nodes.form (by have := HF.out.1; omega)
    obtain ⟨m, hm⟩ : ∃ m, ns2.length = m := ⟨_, rfl⟩
    have hml : l + 1 ≤ m := by have h1 := HF.out.1; have h2 := HN.out.2.2.2; omega
    rw [hm] at G5
    have hhm : hs2.length = m := by rw [G5.vk.nodes.len, hm]
    have row5 := G5.vk.nodes.row
    rw [hhm] at row5
    have e3 : wc.cell? ⟨g, 3, none⟩ = some (.slice (some ⟨gn, 0, none⟩) m cap) := G5.dr.nodesc.1
    have hx5 : hs2[l]? = some hs2[l] := List.getElem?_eq_getElem (by omega)
    have row5c : ∀ j, j < 4 → ∃ u, wc.cell? ⟨gn, l * 4 + j, none⟩ = some u := fun j hj => by
      rw [owns_cell row5 (l * 4 + j) (by omega), flat_get hs2 l j _ hx5 hj]
      exact ⟨_, List.getElem?_eq_getElem (show j < (Hd.cells hs2[l]).length from hj)⟩
    obtain ⟨u0, d0⟩ := row5c 0 (by decide)
    obtain ⟨u1, d1⟩ := row5c 1 (by decide)
    obtain ⟨u2', d2⟩ := row5c 2 (by decide)
    obtain ⟨u3, d3⟩ := row5c 3 (by decide)
    rw [Nat.add_zero] at d0
    have y0 : wc.frozen? ⟨gn, l * 4, none⟩ = false := owns_frozen row5 _
    have y1 : wc.frozen? ⟨gn, l * 4 + 1, none⟩ = false := owns_frozen row5 _
    have y2 : wc.frozen? ⟨gn, l * 4 + 2, none⟩ = false := owns_frozen row5 _
    have y3 : wc.frozen? ⟨gn, l * 4 + 3, none⟩ = false := owns_frozen row5 _
    have c0 := G5.nw.cell 0
    have c1 := G5.nw.cell 1
    have c2 := G5.nw.cell 2
    have c3 := G5.nw.cell 3
    simp only [Hd.cells, List.getElem?_cons_zero, List.getElem?_cons_succ] at c0 c1 c2 c3
    have hlm : (l : Int) < (m : Int) := by omega
    have hl0 : (0 : Int) ≤ (l : Int) := by omega
    have HG5 : Hid (GI g B w wc (.slice p l c) hs ns b (.slice (some ⟨gn, 0, none⟩) m cap) hs2 ns2 ⟨kd, tx, .slice pN lN cN, .slice pK lK cK⟩ n us o cd' ∧ ns2.length = m ∧ l + 1 ≤ m) := ⟨G5, hm, hml⟩
    clear G5 hm hml hhm row5 hx5 row5c hgn1 hgn2
    have HEND : Hid (∀ W : World, Below wc.heap.size wc W → ValOut (f + 1) g o B ys (.slice p l c) hs ns w (.returned (.int .i64 (l : Int))) (put4 W gn l ⟨kd, tx, .slice pN lN cN, .slice pK lK cK⟩)) := by
      intro W hW
      have G6 := HG5.out.1.dn ⟨But.ofBelow hW, HG5.out.1.dr.below hW⟩
      have hlt : l < ns2.length := by have := HG5.out.2; omega
      have V7 := G6.vk.put G6.nw.rep G6.nw.apart G6.fr l hlt
      have hgn : g + 1 ≤ gn := (owns_lt G6.vk.nodes.row (g := gn) rfl).1
      have D7 : Dr (put4 W gn l ⟨kd, tx, .slice pN lN cN, .slice pK lK cK⟩) g B us o (.slice (some ⟨gn, 0, none⟩) m cap) cd' := G6.dr.keep ⟨rfl, rfl, rfl, by rw [put4_size]; exact Nat.le_refl _, fun q hq => put4_other W gn l _ q (by omega)⟩
      refine ⟨_, _, _, l, rfl, V7, ?_⟩
      rcases HF.out.2 with ⟨rfl, news, m1, m2, m3, m4⟩ | ⟨m1, m2, m3⟩
      · refine .inl ⟨n :: news, us, by rw [HV0.out, m1], HN.out.2.2.2.symm, ?_, D7, m3, by rw [List.length_set]; exact m4⟩
        rw [m2, ← HN.out.2.2.2, List.append_assoc, List.set_append_right _ _ (Nat.le_refl _), Nat.sub_self]
        rfl
      · exact .inr ⟨cd', us, by rw [HV0.out, m3], m1, m2, D7⟩
    go_wp2_with fail
    go_region
    all_goals (go_wp2_with fail)
    all_goals (go_ret; exact HEND.out wc.drew ⟨rfl, rfl, rfl, Nat.le_refl _, fun _ _ => rfl⟩)
/-- value, whatever the bytes. -/
theorem dValue_all : ∀ f, DVal f := by
  intro f
  induction f using Nat.strongRecOn with
  | ind f ih =>
    cases f with
    | zero => intro g B ys o nv hs ns w _ _ _ _ hf; omega
    | succ f => exact dValue f (fun f' h => ih f' (by omega))
end Go.Proofs.YtbobgebhdafciabDoor
