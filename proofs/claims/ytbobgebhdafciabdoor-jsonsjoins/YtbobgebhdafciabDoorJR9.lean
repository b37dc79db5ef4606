/-
  The document's reader of JSON: name.
-/
import Derived.Test.YtbobgebhdafciabDoorJR8
import Derived.Test.YtbobgebhdafciabDoorJRn
import Derived.Test.YtbobgebhdafciabDoorJH
import Derived.Deep.RegionLaw
namespace Go.Proofs.YtbobgebhdafciabDoor
open Go.Shelf Go.RowKit
set_option linter.unusedVariables false
set_option linter.unusedSimpArgs false

theorem DN.start {w : World} {g : Nat} {B ys : Bs} {d : Nat} {nv : Value} {code : Nat} (h : Dr w g B ys d nv code) : DN w w g B ys d nv code := ⟨But.refl _ _, h⟩
theorem DN.trans {w W W' : World} {g : Nat} {B ys zs : Bs} {d d' : Nat} {nv nv' : Value} {code code' : Nat} (h : DN w W g B ys d nv code) (k : DN W W' g B zs d' nv' code') : DN w W' g B zs d' nv' code' := ⟨h.but.trans k.but, k.dr⟩
theorem DN.blank {w W : World} {g : Nat} {B zs : Bs} {d : Nat} {nv : Value} {code : Nat} (h : DN w W g B zs d nv code) :
    Calls Tryd.prog 22 #[.pointer (some ⟨g, 0, none⟩)] W fun e w' => e = .returned (.tuple #[]) ∧ DN w w' g B (bl zs) d nv code :=
  (dBlank g B zs d nv code W h.dr).mono (fun e w' r => ⟨r.1, h.but.trans r.2.2, r.2.1⟩)
theorem DN.bad (k : Nat) {w W : World} {g : Nat} {B zs : Bs} {d : Nat} {nv : Value} {code : Nat} (h : DN w W g B zs d nv code) :
    Calls Tryd.prog 23 #[.pointer (some ⟨g, 0, none⟩), .int .i64 k] W fun e w' => e = .returned (.tuple #[]) ∧ DN w w' g B zs d nv (if code = 0 then k else code) := by
  by_cases hc : code = 0
  · subst hc
    rw [if_pos rfl]
    exact (dBad k g B zs d nv W h.dr).mono (fun e w' r => ⟨r.1, h.but.trans r.2.2, r.2.1⟩)
  · rw [if_neg hc]
    refine (dBad_no k g B zs d nv code hc W h.dr).mono (fun e w' r => ?_)
    obtain ⟨r1, rfl⟩ := r
    exact ⟨r1, h⟩
theorem DN.text {w W : World} {g : Nat} {B xs : Bs} {d : Nat} {nv : Value} {code : Nat} (h : DN w W g B (34 :: xs) d nv code) (hT : Tabs W) :
    Calls Tryd.prog 37 #[.pointer (some ⟨g, 0, none⟩)] W fun e w' => (∃ (s zs : Bs), textS (34 :: xs) = some (s, zs) ∧ e = .returned (.tuple #[.string ⟨s.toArray⟩, .bool true]) ∧ DN w w' g B zs d nv code) ∨ (textS (34 :: xs) = none ∧ e = .returned (.tuple #[.string ⟨#[]⟩, .bool false]) ∧ ∃ zs, DN w w' g B zs d nv code) :=
  (dText g B xs d nv code W h.dr hT).mono (fun e w' r => by
    obtain ⟨b, (⟨s, zs, h1, h2, h3⟩ | ⟨h1, h2, zs, h3⟩)⟩ := r
    · exact .inl ⟨s, zs, h1, h2, h.but.trans b, h3⟩
    · exact .inr ⟨h1, h2, zs, h.but.trans b, h3⟩)
theorem DN.tabs {w W : World} {g : Nat} {B zs : Bs} {d : Nat} {nv : Value} {code : Nat} (h : DN w W g B zs d nv code) (hT : Tabs w) (hG : Gl g) (hg : g < w.heap.size) : Tabs W := hT.low hG (h.but.below (Nat.le_refl _) (Nat.le_of_lt hg))
theorem pre1 {c : UInt8} {xs : Bs} (h : [c].isPrefixOf xs = true) : ∃ ys, xs = c :: ys := by
  obtain ⟨t, rfl⟩ := List.isPrefixOf_iff_prefix.1 h
  exact ⟨t, rfl⟩
theorem text_no {xs : Bs} (h : [34].isPrefixOf xs = false) : textS xs = none := by
  unfold textS tk
  rw [if_neg (by rw [h]; decide)]
/-- The code behind so many names. -/
def twice (s : Bs) (l : List Bs) : Nat := if s ∈ l then 12 else 0
theorem twice_snoc_yes {s : Bs} {l : List Bs} {i : Nat} (hi : i < l.length) (he : l[i] = s) : twice s (l.take (i + 1)) = if twice s (l.take i) = 0 then 12 else twice s (l.take i) := by
  unfold twice
  rw [List.take_add_one, List.getElem?_eq_getElem hi]
  simp [he]
theorem twice_snoc_no {s : Bs} {l : List Bs} {i : Nat} (hi : i < l.length) (he : l[i] ≠ s) : twice s (l.take (i + 1)) = twice s (l.take i) := by
  unfold twice
  rw [List.take_add_one, List.getElem?_eq_getElem hi]
  have : ¬ s = l[i] := fun e => he e.symm
  simp only [Option.toList, List.mem_append, List.mem_singleton, this, or_false]

set_option maxRecDepth 100000 in
set_option maxHeartbeats 8000000 in
/-- name. -/
theorem dName {w0 : World} {nv0 : Value} {hs0 : List Hd} {ns0 : List Nd} (g b : Nat) (B ys : Bs) (o : Nat) (nv : Value) (hs : List Hd) (ns : List Nd) (h : Hd) (n : Nd) (w : World)
    (hD : Dr w g B ys o nv 0) (hV : VK g w0 w nv0 nv hs0 hs ns0 ns) (hW : NW w g nv hs b h n) (hb : w0.heap.size ≤ b) (hF : Fresh w0.heap.size h) (hT : Tabs w) (hG : Gl g) (hl : n.names.length ≤ 256) :
    Calls Tryd.prog 49 #[.pointer (some ⟨g, 0, none⟩), .pointer (some ⟨b, 0, none⟩)] w fun e w' => e = .returned (.tuple #[]) ∧ ∃ h' N', VK g w0 w' nv0 nv hs0 hs ns0 ns ∧ NW w' g nv hs b h' { n with names := N' } ∧ Fresh w0.heap.size h' ∧ ((∃ zs, nameS n.names ys = .ok (N', zs) ∧ Dr w' g B zs o nv 0 ∧ zs.length < ys.length) ∨ (∃ c zs, nameS n.names ys = .error c ∧ 0 < c ∧ c < 100 ∧ Dr w' g B zs o nv c)) := by
  have S0 := DN.start hD
  have hgl := hD.lt
  have HW : Hid (VK g w0 w nv0 nv hs0 hs ns0 ns ∧ NW w g nv hs b h n ∧ w0.heap.size ≤ b ∧ Fresh w0.heap.size h ∧ Tabs w ∧ Gl g) := ⟨hV, hW, hb, hF, hT, hG⟩
  have HE : Hid (∀ w' c zs, DN w w' g B zs o nv c → 0 < c → c < 100 → nameS n.names ys = .error c → ∃ h' N', VK g w0 w' nv0 nv hs0 hs ns0 ns ∧ NW w' g nv hs b h' { n with names := N' } ∧ Fresh w0.heap.size h' ∧ ((∃ zs, nameS n.names ys = .ok (N', zs) ∧ Dr w' g B zs o nv 0 ∧ zs.length < ys.length) ∨ (∃ c zs, nameS n.names ys = .error c ∧ 0 < c ∧ c < 100 ∧ Dr w' g B zs o nv c))) :=
    fun w' c zs S h1 h2 h3 => ⟨h, n.names, hV.trans (VK.but hV.nodes S.but), hW.but S.but, hF, .inr ⟨c, zs, h3, h1, h2, S.dr⟩⟩
  clear hD hV hW hb hF hT hG
  go_enter Tryd.func49, Tryd.ntmps49
  go_wp2_with fail
  go_at_call 22
  refine S0.blank.mono ?_
  rintro e w1 ⟨rfl, S1⟩
  clear S0
  go_wp2_with fail
  go_at_call 35
  refine (S1.is 34).mono ?_
  rintro e w2 ⟨rfl, S2⟩
  clear S1
  cases hq : [34].isPrefixOf (bl ys)
  · go_wp2_with fail
    go_at_call 23
    refine (S2.bad 11).mono ?_
    rintro e w3 ⟨rfl, S3⟩
    go_wp2_with fail
    (try simp only [Exit.inBlock, Exit.then])
    refine bodyPost_ret (results_none rfl _ _ _) rfl ?_
    exact ⟨rfl, HE.out _ 11 _ S3 (by decide) (by decide) (by unfold nameS; rw [text_no hq])⟩
  obtain ⟨xs, hxs⟩ := pre1 hq
  have HB : Hid (bl ys = 34 :: xs) := hxs
  rw [hxs] at S2
  clear hq hxs
  go_wp2_with fail
  go_at_call 37
  refine (S2.text (S2.tabs HW.out.2.2.2.2.1 HW.out.2.2.2.2.2 hgl)).mono ?_
  rintro e w3 (⟨s, zs, t1, rfl, S3⟩ | ⟨t1, rfl, zs, S3⟩)
  case inr =>
    go_wp2_with fail
    go_at_call 23
    refine (S3.bad 11).mono ?_
    rintro e w4 ⟨rfl, S4⟩
    go_wp2_with fail
    (try simp only [Exit.inBlock, Exit.then])
    refine bodyPost_ret (results_none rfl _ _ _) rfl ?_
    exact ⟨rfl, HE.out _ 11 _ S4 (by decide) (by decide) (by unfold nameS; rw [HB.out, t1])⟩
  obtain ⟨la, hla⟩ : ∃ la, n.names.length = la := ⟨_, rfl⟩
  obtain ⟨p, cN, hnm⟩ : ∃ p c, h.nm = .slice p la c := by
    rw [← hla]
    rcases HW.out.2.1.rep.names.2 with ⟨e, h0⟩ | ⟨q, cap, cur, e, _⟩
    · exact ⟨none, 0, by rw [e, h0]⟩
    · exact ⟨_, _, e⟩
  have HL : Hid (n.names.length = la ∧ h.nm = .slice p la cN ∧ la ≤ 256) := ⟨hla, hnm, by omega⟩
  have hlb : (la : Int) ≤ 256 := by omega
  clear S2 hl hla hnm
  have HTX : Hid (textS (34 :: xs) = some (s, zs)) := t1
  clear t1
  go_wp2_with fail
  go_loopw [6] (fun v6 wr => ∃ i : Nat, v6 = .int .i64 i ∧ i ≤ la ∧ DN w wr g B zs o nv (twice s (n.names.take i))) (fun v6 _ => la - (intOf v6).toNat)
  case atStart => exact ⟨0, rfl, by omega, by simpa [twice] using S3⟩
  case round =>
    obtain ⟨i, rfl, hi, S⟩ := hrel
    clear S3
    have W4 := HW.out.2.1.but S.but
    have c2 : wr.cell? ⟨b, 2, none⟩ = some (.slice p la cN) := by rw [W4.cell 2, ← HL.out.2.1]; rfl
    have hr := W4.rep.names
    rw [HL.out.2.1, HL.out.1] at hr
    have hi0 : (0 : Int) ≤ (i : Int) := by omega
    rcases Nat.lt_or_eq_of_le hi with hi | rfl
    · have hiI : (i : Int) < (la : Int) := by omega
      have hid : decide ((i : Int) < (la : Int)) = true := by simpa using hiI
      obtain ⟨q, rfl⟩ : ∃ q, p = some ⟨q, 0, none⟩ := by
        rcases hr.2 with ⟨e, h0⟩ | ⟨q, cap, cur, e, _⟩
        · omega
        · cases e; exact ⟨q, rfl⟩
      have hil : i < n.names.length := by rw [HL.out.1]; exact hi
      obtain ⟨x, hx⟩ : ∃ x, n.names[i] = x := ⟨_, rfl⟩
      have hc := owns_cell hr i (by omega)
      rw [show (strs n.names)[i]? = some (.string ⟨x.toArray⟩) from by unfold strs; rw [List.getElem?_map, List.getElem?_eq_getElem hil, hx]; rfl] at hc
      have ht : ∀ l : Bs, (⟨l.toArray⟩ : ByteArray).toList = l := fun l => by rw [Lib.toList_data]
      have HX : Hid (n.names[i] = x) := hx
      have HSS : Hid (DN w wr g B zs o nv (twice s (n.names.take i))) := S
      clear hx W4 hr
      by_cases he : x = s
      · have hxb : (x == s) = true := by simpa using he
        have hsx : (s == x) = true := by simpa using he.symm
        clear S
        go_wp2_with fail
        go_at_call 23
        refine (HSS.out.bad 12).mono ?_
        rintro e w5 ⟨rfl, S5⟩
        go_wp2_with fail
        refine ⟨⟨i + 1, by go_num, by omega, ?_⟩, by simp only [intOf]; omega⟩
        rw [twice_snoc_yes hil (by rw [HX.out]; exact he)]
        exact S5
      · have hxb : (x == s) = false := by simpa using he
        have hsx : (s == x) = false := by simpa using (fun e => he e.symm)
        clear S
        go_wp2_with fail
        refine ⟨⟨i + 1, by go_num, by omega, ?_⟩, by simp only [intOf]; omega⟩
        rw [twice_snoc_no hil (by rw [HX.out]; exact he)]
        exact HSS.out
    · have hid : decide ((i : Int) < (i : Int)) = false := by simp
      rw [List.take_of_length_le (by rw [HL.out.1]; omega)] at S
      have V4 : VK g w0 wr nv0 nv hs0 hs ns0 ns := HW.out.1.trans (VK.but HW.out.1.nodes S.but)
      obtain ⟨cd, hcd⟩ : ∃ cd, twice s n.names = cd := ⟨_, rfl⟩
      rw [hcd] at S
      have HC : Hid (twice s n.names = cd) := hcd
      have hF4 := HW.out.2.2.2.1
      have hg4 := S.dr.lt
      have T4 := S.tabs HW.out.2.2.2.2.1 HW.out.2.2.2.2.2 hgl
      have hbg := W4.bg
      have hbl := W4.lt
      have hneB : some b ≠ (Value.slice p i cN).ownBlock := by rw [← HL.out.2.1]; exact W4.bnm
      have f2 := W4.frozen 2
      have HD : Hid (∀ (W w1 : World) (g' cap' : Nat), W.heap = (wr.alloc (.cells #[.string ⟨s.toArray⟩] 9)).heap → W.os = wr.os → W.tape = wr.tape → W.output = wr.output → w1.ownsRow (g + 1) 9 1 (.slice (some ⟨g', 0, none⟩) (i + 1) cap') (i + 1) (strs n.names ++ [.string ⟨s.toArray⟩]) → W.grownBy w1 (Value.slice p i cN).ownBlock → ((Value.slice p i cN).ownBlock = some g' ∨ g' = wr.heap.size + 1) →
          VK g w0 (w1.setCell ⟨b, 2, none⟩ (.slice (some ⟨g', 0, none⟩) (i + 1) cap')) nv0 nv hs0 hs ns0 ns ∧ NW (w1.setCell ⟨b, 2, none⟩ (.slice (some ⟨g', 0, none⟩) (i + 1) cap')) g nv hs b { h with nm := .slice (some ⟨g', 0, none⟩) (i + 1) cap' } { n with names := n.names ++ [s] } ∧ Fresh w0.heap.size { h with nm := .slice (some ⟨g', 0, none⟩) (i + 1) cap' } ∧ Dr (w1.setCell ⟨b, 2, none⟩ (.slice (some ⟨g', 0, none⟩) (i + 1) cap')) g B zs o nv cd) := by
        intro W w1 g' cap' hW h1 h2 h3 o1 gr at1
        have hb : Below wr.heap.size wr W := by
          have := (Below.refl wr.heap.size wr).alloc (Nat.le_refl _) (.cells #[.string ⟨s.toArray⟩] 9)
          exact ⟨h1, h2, h3, by rw [hW]; exact this.size, fun k hk => by rw [hW]; exact this.block k hk⟩
        have hws : W.heap.size = wr.heap.size + 1 := by rw [hW]; simp
        have VW : VK g w0 W nv0 nv hs0 hs ns0 ns := V4.trans (VK.but V4.nodes (But.ofBelow hb))
        have NWW := W4.but (But.ofBelow hb)
        have gr' : W.grownBy w1 h.nm.ownBlock := by rw [HL.out.2.1]; exact gr
        have at' : (Value.slice (some ⟨g', 0, none⟩) (i + 1) cap').ownBlock = h.nm.ownBlock ∨ (Value.slice (some ⟨g', 0, none⟩) (i + 1) cap').ownBlock = some W.heap.size := by
          rw [HL.out.2.1, hws]
          rcases at1 with e | e
          · exact .inl e.symm
          · right; rw [e]; rfl
        have ok := OK1.of (b := b) (j := 2) (v' := .slice (some ⟨g', 0, none⟩) (i + 1) cap') gr'
        have fr' : Fresh w0.heap.size { h with nm := .slice (some ⟨g', 0, none⟩) (i + 1) cap' } := ⟨fun q hq => by
          rcases at' with e | e
          · exact hF4.1 q (e.symm.trans hq)
          · have := e.symm.trans hq; cases this; exact VW.size, hF4.2⟩
        refine ⟨VW.own NWW HW.out.2.2.1 (.inl rfl) hF4.1 ok, NWW.name VW.nodes s _ (by rw [HL.out.1]; exact o1) gr' at', fr', ?_⟩
        refine S.dr.keep ⟨ok.os.trans h1, ok.tape.trans h2, ok.output.trans h3, Nat.le_trans hb.size ok.size, fun k hk => (ok.block k (by omega) (by omega) (fun e => ?_)).trans (hb.block k (by omega))⟩
        have := (owns_lt NWW.rep.names e.symm).1
        omega
      obtain ⟨i0, hi0, hz0, hz1, hz2⟩ := info_parts infoStr
      have HP : Hid (i + 1 ≤ maxLen ∧ (i + 1) * 16 ≤ 140737488355328 ∧ g + 1 ≤ (wr.alloc (.cells #[.string ⟨s.toArray⟩] 9)).heap.size ∧ (wr.alloc (.cells #[.string ⟨s.toArray⟩] 9)).heap.size = wr.heap.size + 1 ∧ b < (wr.alloc (.cells #[.string ⟨s.toArray⟩] 9)).heap.size ∧ (wr.alloc (.cells #[.string ⟨s.toArray⟩] 9)).cell? ⟨b, 2, none⟩ = some (.slice p i cN) ∧ (wr.alloc (.cells #[.string ⟨s.toArray⟩] 9)).frozen? ⟨b, 2, none⟩ = false) := by
        have := HL.out.2.2
        exact ⟨by unfold maxLen; omega, by omega, by simp; omega, by simp, by simp; omega, more_cell _ c2, more_frozen _ c2 f2⟩
      have HO : Hid ((wr.alloc (.cells #[.string ⟨s.toArray⟩] 9)).ownsRow (g + 1) 9 1 (.slice p i cN) i (strs n.names) ∧ (∀ u ∈ [Value.string ⟨s.toArray⟩], u.oneCell' = true) ∧ some b ≠ (Value.slice p i cN).ownBlock) := ⟨hr.alloc _, by simp [Value.oneCell'], hneB⟩
      clear S V4 hcd hF4 hg4 T4 hbg hneB hr W4
      go_upto_region 11 with fail
      go_cut [] from 7 (fun wc => ∃ h' : Hd, VK g w0 wc nv0 nv hs0 hs ns0 ns ∧ NW wc g nv hs b h' { n with names := n.names ++ [s] } ∧ Fresh w0.heap.size h' ∧ Dr wc g B zs o nv cd)
      case first =>
        go_wp2_with (at_builtin; refine wpList_append_lies _ rfl (.tmp 47) (.tmp 49) 35 rfl (g + 1) 9 i0 (.string ⟨#[]⟩) 1 16 Tryd.underlying35 hi0 hz0 hz1 hz2 rfl (by decide) (.slice p i cN) i (strs n.names) rfl HO.out.1 ⟨wr.heap.size, 0, none⟩ 1 1 [.string ⟨s.toArray⟩] rfl rfl (cell_one_new _ _ _) HO.out.2.1 (by decide) HP.out.1 HP.out.2.1 HP.out.2.2.1 (wr.heap.size + 1) HP.out.2.2.2.1 ?_; intro g' cap' w5 o1 gr1 at1 lt1; have HGG : Hid (_ ∧ _ ∧ _) := ⟨o1, gr1, at1⟩; have c2'' := (gr1.cell_far ⟨b, 2, none⟩ HP.out.2.2.2.2.1 HO.out.2.2).trans HP.out.2.2.2.2.2.1; have f2'' := (gr1.frozen_far ⟨b, 2, none⟩ HP.out.2.2.2.2.1 HO.out.2.2).trans HP.out.2.2.2.2.2.2; clear o1 gr1 at1 lt1)
        go_meet
        case rel => exact ⟨_, HD.out (wr.alloc (.cells #[.string ⟨s.toArray⟩] 9)) _ _ _ rfl rfl rfl rfl HGG.out.1 HGG.out.2.1 HGG.out.2.2⟩
      case rest =>
        obtain ⟨h', V5, N5, F5, D5⟩ := hcut
        have S5 := DN.start D5
        have HV5 : Hid (VK g w0 wc nv0 nv hs0 hs ns0 ns ∧ NW wc g nv hs b h' { n with names := n.names ++ [s] } ∧ Fresh w0.heap.size h') := ⟨V5, N5, F5⟩
        clear V5 N5 F5 D5 HD HP HO c2 f2
        have HNS : Hid (nameS n.names ys = if s ∈ n.names then .error 12 else match tk [58] (bl zs) with | none => .error 11 | some zs => .ok (n.names ++ [s], zs)) := by
          show _ = _
          unfold nameS
          rw [HB.out, HTX.out]
          rfl
        have HZ : Hid (zs.length < ys.length) := by
          have h1 := textS_ln HTX.out
          have h2 := bl_len ys
          rw [HB.out] at h2
          show _ < _
          omega
        go_wp2_with fail
        go_at_call 22
        refine S5.blank.mono ?_
        rintro e w6 ⟨rfl, S6⟩
        clear S5
        go_wp2_with fail
        go_at_call 38
        refine (S6.word [58] (by decide) (by decide)).mono ?_
        rintro e w7 ⟨t7, y7, rfl, m7, S7⟩
        clear S6
        cases t7
        · go_wp2_with fail
          go_at_call 23
          refine (S7.bad 11).mono ?_
          rintro e w8 ⟨rfl, S8⟩
          go_wp2_with fail
          go_end0
          refine ⟨rfl, h', n.names ++ [s], HV5.out.1.trans (VK.but HV5.out.1.nodes S8.but), HV5.out.2.1.but S8.but, HV5.out.2.2, .inr ?_⟩
          have htk : tk [58] (bl zs) = none := by
            rcases m7 with ⟨e, _⟩ | ⟨_, e, _⟩
            · cases e
            · exact e
          have hcd := HC.out
          unfold twice at hcd
          by_cases hm : s ∈ n.names
          · rw [if_pos hm] at hcd
            subst hcd
            exact ⟨12, y7, by rw [HNS.out, if_pos hm], by decide, by decide, S8.dr⟩
          · rw [if_neg hm] at hcd
            subst hcd
            exact ⟨11, y7, by rw [HNS.out, if_neg hm, htk], by decide, by decide, S8.dr⟩
        · go_wp2_with fail
          go_end0
          have htk : tk [58] (bl zs) = some y7 := by
            rcases m7 with ⟨_, e⟩ | ⟨e, _⟩
            · exact e
            · cases e
          refine ⟨rfl, h', n.names ++ [s], HV5.out.1.trans (VK.but HV5.out.1.nodes S7.but), HV5.out.2.1.but S7.but, HV5.out.2.2, ?_⟩
          have hcd := HC.out
          unfold twice at hcd
          by_cases hm : s ∈ n.names
          · rw [if_pos hm] at hcd
            subst hcd
            exact .inr ⟨12, y7, by rw [HNS.out, if_pos hm], by decide, by decide, S7.dr⟩
          · rw [if_neg hm] at hcd
            subst hcd
            refine .inl ⟨y7, by rw [HNS.out, if_neg hm, htk], S7.dr, ?_⟩
            have h1 := tk_len htk
            have h2 := bl_len zs
            have h3 := HZ.out
            simp at h1
            omega
end Go.Proofs.YtbobgebhdafciabDoor
