/-
  The document's reader of JSON: text.
-/
import Derived.Test.YtbobgebhdafciabDoorJR7
import Derived.Test.YtbobgebhdafciabDoorJRe
import Derived.Deep.CutRange
import Derived.Deep.MidRow
import Derived.Lib.ConvBytes
namespace Go.Proofs.YtbobgebhdafciabDoor
open Go.Shelf Go.RowKit
set_option linter.unusedVariables false
set_option linter.unusedSimpArgs false

theorem TX.app {w W W1 w5 : World} {g : Nat} {B zs : Bs} {d : Nat} {nv : Value} {code : Nat} {v : Value} {l : Bs} (S : TX w W g B zs d nv code v l) (hb : Below W.heap.size W W1) (news : Bs) (m : Nat) (hm : news.length = m) (g' cap' : Nat)
    (o1 : w5.ownsRow w.heap.size 5 1 (.slice (some ⟨g', 0, none⟩) (l.length + m) cap') (l.length + m) (Lib.byteCells l ++ Lib.byteCells news)) (gr : W1.grownBy w5 v.ownBlock) : TX w w5 g B zs d nv code (.slice (some ⟨g', 0, none⟩) (l.length + m) cap') (l ++ news) := by
  have S1 := S.move (But.ofBelow hb) (S.dr.below hb)
  refine S1.grow (S1.grown gr) ?_
  rw [List.length_append, hm, show Lib.byteCells (l ++ news) = Lib.byteCells l ++ Lib.byteCells news from by simp [Lib.byteCells]]
  exact o1
theorem below_one (w : World) (o : Obj) : Below w.heap.size w (w.alloc o) := (Below.refl _ _).alloc (Nat.le_refl _) o
theorem tk_no34 {c : UInt8} (h : c.toNat ≠ 34) (ys : Bs) : tk [34] (c :: ys) = none := by
  unfold tk
  rw [if_neg]
  intro h2
  simp at h2
  rw [← h2] at h
  exact h rfl

set_option maxRecDepth 100000 in
set_option maxHeartbeats 8000000 in
/-- text. -/
theorem dText (g : Nat) (B xs : Bs) (d : Nat) (nv : Value) (code : Nat) (w : World) (h : Dr w g B (34 :: xs) d nv code) (hT : Tabs w) :
    Calls Tryd.prog 37 #[.pointer (some ⟨g, 0, none⟩)] w fun e w' => But g w w' ∧ ((∃ (s zs : Bs), textS (34 :: xs) = some (s, zs) ∧ e = .returned (.tuple #[.string ⟨s.toArray⟩, .bool true]) ∧ Dr w' g B zs d nv code) ∨ (textS (34 :: xs) = none ∧ e = .returned (.tuple #[.string ⟨#[]⟩, .bool false]) ∧ ∃ zs, Dr w' g B zs d nv code)) := by
  have S0 := TX.start h hT
  obtain ⟨pre, p, k, h0, h1, h2, h3⟩ := h
  have e1 := h1.pos
  have f1 := h1.frozen 1
  obtain ⟨a, ha⟩ : ∃ a, pre.length = a := ⟨_, rfl⟩
  have hal : a + (xs.length + 1) ≤ 4096 := by rw [← ha]; rw [h0] at h3; simp at h3; omega
  have hD := Dr.step (mid := [34]) h0 rfl h1 h2 h3 ((a : Int) + 1) (by rw [ha]; simp)
  have HS : Hid (TX w (w.setCell ⟨g, 1, none⟩ (.int .i64 ((a : Int) + 1))) g B xs d nv code (.slice none 0 0) []) := S0.move (But.setCell g w 1 _) hD
  rw [ha] at e1
  have hab : (a : Int) ≤ 4096 := by omega
  clear S0 h0 h1 h2 h3 ha hD hT
  have HL : Hid (xs.length ≤ 4096) := by show xs.length ≤ 4096; omega
  clear hal
  go_enter Tryd.func37, Tryd.ntmps37
  go_wp2_with fail
  go_loopw [4, 5] (fun v4 v5 wr => ∃ (f : Nat) (l zs : Bs), Hid (textS (34 :: xs) = txtS (f + 1) l zs ∧ zs.length ≤ f ∧ l.length + 4 * zs.length ≤ 16384) ∧ TX w wr g B zs d nv code v4 l) (fun _ _ wr => leftN g B.length wr)
  case atStart => exact ⟨xs.length, [], xs, ⟨rfl, Nat.le_refl _, by have := HL.out; simp; omega⟩, HS.out⟩
  case round =>
    obtain ⟨f, l, zs, H, S⟩ := hrel
    clear HS HL
    have HM : Hid (leftN g B.length wr = zs.length) := leftN_eq S.dr
    obtain ⟨pre, p, k, h0, h1, h2, h3⟩ := S.dr
    have e0 := h1.b
    have e1 := h1.pos
    have f1 := h1.frozen 1
    obtain ⟨n, hn⟩ : ∃ n, B.length = n := ⟨_, rfl⟩
    obtain ⟨a, ha⟩ : ∃ a, pre.length = a := ⟨_, rfl⟩
    rw [hn] at e0
    rw [ha] at e1
    have hpl : n = a + zs.length := by rw [← hn, ← ha, h0]; simp
    have hab : (a : Int) ≤ 4096 := by omega
    have hnb : (n : Int) ≤ 4096 := by omega
    cases zs with
    | nil =>
      have hna : n = a := by simpa using hpl
      subst hna
      have hd' : decide ((n : Int) ≤ (n : Int)) = true := by simp
      clear hpl h0 h1 h2 hn ha
      --<done
      go_wp2_with fail
      go_quiet (fail)
      go_wp2_with fail
      go_ret2
      exact ⟨S.but.trans (But.ofBelow (below_drewN _ _)), .inr ⟨by rw [H.out.1, txtS]; rfl, rfl, _, S.dr.below (below_drewN _ _)⟩⟩
      --done>
    | cons c ys =>
      obtain ⟨b, off, rfl, hbg, hc⟩ := bytes_at h2 h0
      rw [ha] at hc
      have hlt : (a : Int) < (n : Int) := by simp at hpl; omega
      have ha0 : (0 : Int) ≤ (a : Int) := by omega
      have hd' : decide (n ≤ a) = false := by simp; omega
      obtain ⟨C, hC⟩ : ∃ C, c.toNat = C := ⟨_, rfl⟩
      rw [hC] at hc
      have HN : Hid (Dr wr g B (c :: ys) d nv code ∧ n = a + (c :: ys).length) := ⟨S.dr, hpl⟩
      have HD : Hid (∀ nq, Dr ((wr.drewN nq).setCell ⟨g, 1, none⟩ (.int .i64 ((a : Int) + 1))) g B ys d nv code) := fun nq => Dr.step (w := wr.drewN nq) (mid := [c]) h0 rfl (h1.same rfl) (h2.keep (fun j _ => rfl)) h3 ((a : Int) + 1) (by rw [ha]; simp)
      clear hpl h1 hn
      by_cases q1 : C < 32
      · have q1' : decide ((C : Int) < 32) = true := by simp; omega
        clear h0 h2 ha
        --<done
        go_wp2_with fail
        go_quiet (fail)
        go_wp2_with fail
        go_ret2
        refine ⟨S.but.trans (But.ofBelow (below_drewN _ _)), .inr ⟨?_, rfl, _, S.dr.below (below_drewN _ _)⟩⟩
        rw [H.out.1, txtS, tk_no34 (by omega) ys, sign_low c ys (by omega)]
        --done>
      · have q1' : decide ((C : Int) < 32) = false := by simp; omega
        have HR : Hid (B = pre ++ c :: ys ∧ RestD wr g (some ⟨b, off, none⟩) k B ∧ pre.length = a ∧ c.toNat = C) := ⟨h0, h2, ha, hC⟩
        clear h0 h2 ha hC
        go_wp2_with fail
        go_quiet (fail)
        go_wp2_with fail
        go_quiet (fail)
        by_cases q2 : C = 34
        · subst q2
          --<done
          have hcv : ∀ N v', (convert 27 9 u4).run Tryd.prog ((wr.drewN N).setCell ⟨g, 1, none⟩ v') = .ok (.string ⟨l.toArray⟩) ((wr.drewN N).setCell ⟨g, 1, none⟩ v') := fun N v' => conv_own (own_keep (w := wr) S.own (fun k h1 h2 => Below.heap_setCell (wr.drewN N) ⟨g, 1, none⟩ v' k (by have := S.lt; show k ≠ g; omega)))
          go_wp2_with fail
          go_ret2
          refine ⟨(S.but.trans (But.ofBelow (below_drewN _ _))).trans (But.setCell g _ 1 _), .inl ⟨l, ys, ?_, rfl, HD.out _⟩⟩
          rw [H.out.1, txtS, show c = 34 from u8_of (by decide) HR.out.2.2.2]
          rfl
          --done>
        · have q2' : ((C : Int) == 34) = false := by simp; omega
          by_cases q3 : C = 92
          · subst q3
            go_upto_region 15 with fail
            go_cut [] from 24 to 123 (fun wc => TX w wc g B ys d nv code u4 l)
            case first =>
              --<done
              go_wp2_with fail
              go_meet
              case rel => exact S.move ((But.ofBelow (below_drewN _ _)).trans (But.setCell g _ 1 _)) (HD.out _)
              --done>
            case rest =>
            have HE92 : Hid (c = 92) := u8_of (by decide) HR.out.2.2.2
            obtain ⟨pre2, p2, k2, g0, g1, g2, g3⟩ := hcut.dr
            obtain ⟨a2, ha2⟩ : ∃ a2, pre2.length = a2 := ⟨_, rfl⟩
            have e0' := g1.b
            have e1' := g1.pos
            have f1' := g1.frozen 1
            rw [ha2] at e1'
            have hn2 : B.length = n := by rw [HR.out.1, HN.out.2, List.length_append, HR.out.2.2.1]
            rw [hn2] at e0'
            have hpl2 : n = a2 + ys.length := by rw [← hn2, ← ha2, g0]; simp
            have HT1 : Hid (TX w wc g B ys d nv code u4 l) := hcut
            have hab2 : (a2 : Int) ≤ 4096 := by omega
            clear HD HR HN S hc hlt ha0 hd' hcut e0 e1 f1 hab q1 q1' q2 q2'
            cases ys with
            | nil =>
              have hna : n = a2 := by simpa using hpl2
              subst hna
              have hd' : decide ((n : Int) ≤ (n : Int)) = true := by simp
              clear hpl2 g0 g1 g2 ha2 hn2
              --<done
              go_wp2_with fail
              go_quiet (fail)
              go_wp2_with fail
              go_ret2
              exact ⟨HT1.out.but.trans (But.ofBelow (below_drewN _ _)), .inr ⟨by rw [H.out.1, txtS, HE92.out]; rfl, rfl, _, HT1.out.dr.below (below_drewN _ _)⟩⟩
              --done>
            | cons c2 ys2 =>
            obtain ⟨b2, off2, rfl, hbg2, hc2⟩ := bytes_at g2 g0
            rw [ha2] at hc2
            have hlt : (a2 : Int) < (n : Int) := by simp at hpl2; omega
            have ha0 : (0 : Int) ≤ (a2 : Int) := by omega
            have hd' : decide (n ≤ a2) = false := by simp; omega
            obtain ⟨C2, hC2⟩ : ∃ C, c2.toNat = C := ⟨_, rfl⟩
            rw [hC2] at hc2
            have HC2 : Hid (c2.toNat = C2) := hC2
            have HD2 : Hid (∀ nq, Dr ((wc.drewN nq).setCell ⟨g, 1, none⟩ (.int .i64 ((a2 : Int) + 1))) g B ys2 d nv code) := fun nq => Dr.step (w := wc.drewN nq) (mid := [c2]) g0 rfl (g1.same rfl) (g2.keep (fun j _ => rfl)) g3 ((a2 : Int) + 1) (by rw [ha2]; simp)
            clear hpl2 g0 g1 g2 hn2 ha2 hC2
            go_wp2_with fail
            go_quiet (fail)
            go_upto_region 18 with fail
            go_cut [5] from 124 to 143 (fun s5 wc2 => s5 = .int .u8 C2 ∧ ∃ nq, wc2 = wc.drewN nq)
            case first =>
              go_quiet (fail)
              go_wp2_with fail
              go_meet
              case rel => exact ⟨rfl, _, World.drewN_drewN _ _ _⟩
            case rest =>
            obtain ⟨rfl, nq2, rfl⟩ := hcut
            go_upto_region 19 with fail
            go_cut [] from 144 to 151 (fun wc2 => TX w wc2 g B ys2 d nv code u4 l)
            case first =>
              --<done
              go_wp2_with fail
              go_meet
              case rel => exact HT1.out.move ((But.ofBelow (below_drewN _ _)).trans (But.setCell g _ 1 _)) (HD2.out _)
              --done>
            case rest =>
            have HT2 : Hid (TX w wc g B ys2 d nv code u4 l) := hcut
            clear HT1 HD2 hcut e0' e1' f1' hc2 hlt ha0 hd' hab2 g3 hnb
            go_wp2_with fail
            go_loopw [4, 10, 11] (fun v4 v10 v11 wr2 => ∃ i : Nat, v11 = .int .i64 i ∧ i ≤ 8 ∧ v10 = .bool (!(escK i c2).isEmpty) ∧ TX w wr2 g B ys2 d nv code v4 (l ++ escK i c2)) (fun _ _ v11 _ => 8 - (intOf v11).toNat)
            case atStart => exact ⟨0, rfl, by omega, rfl, by simpa [escK] using HT2.out⟩
            case round =>
              obtain ⟨i, rfl, hi, rfl, S2⟩ := hrel
              rcases Nat.lt_or_eq_of_le hi with hi | rfl
              · skip
                --<done
                have hi8 : (i : Int) < 8 := by omega
                have hi0' : (0 : Int) ≤ (i : Int) := by omega
                have hid : decide ((i : Int) < 8) = true := by simpa using hi8
                obtain ⟨Fc, hFc⟩ : ∃ F, fromL.getD i 0 = F := ⟨_, rfl⟩
                obtain ⟨Tc, hTc⟩ : ∃ T, toL.getD i 0 = T := ⟨_, rfl⟩
                have i1 := fun W => idx_lit fromL i (show i < 8 from hi) W
                have i2 := fun W => idx_lit toL i (show i < 8 from hi) W
                rw [hFc] at i1
                rw [hTc] at i2
                unfold fromL at i1
                unfold toL at i2
                have hlen : (l ++ escK i c2).length ≤ 20000 := by
                  have h1 := escK_len i c2
                  have h2 := H.out.2.2
                  rw [List.length_append]
                  omega
                by_cases fe : Fc = c2
                · have fe' : ((Fc.toNat : Int) == (C2 : Int)) = true := by rw [fe, HC2.out]; simp
                  have HK : Hid (escK (i + 1) c2 = escK i c2 ++ [Tc]) := by show _ = _; rw [escK_yes (by rw [hFc]; exact fe), hTc]
                  obtain ⟨i0, hi0, hz0, hz1, hz2⟩ := info_parts infoU8
                  have HS2 : Hid (TX w wr g B ys2 d nv code u4 (l ++ escK i c2)) := S2
                  have HO : Hid ((wr.alloc (.cells #[.int .u8 (Tc.toNat : Int)] 5)).ownsRow w.heap.size 5 1 u4 (l ++ escK i c2).length (Lib.byteCells (l ++ escK i c2)) ∧ (∀ u ∈ [Value.int .u8 (Tc.toNat : Int)], u.oneCell' = true) ∧ (l ++ escK i c2).length + 1 ≤ maxLen ∧ ((l ++ escK i c2).length + 1) * 1 ≤ 140737488355328 ∧ w.heap.size ≤ (wr.alloc (.cells #[.int .u8 (Tc.toNat : Int)] 5)).heap.size ∧ (wr.alloc (.cells #[.int .u8 (Tc.toNat : Int)] 5)).heap.size = wr.heap.size + 1) :=
                    ⟨S2.own.alloc _, by simp [Value.oneCell'], by unfold maxLen; omega, by omega, by have := S2.but.size; simp; omega, by simp⟩
                  clear S2 fe hFc hTc hlen
                  go_wp2_with (at_builtin; refine wpList_append_lies _ rfl (.tmp 163) (.tmp 167) 27 rfl w.heap.size 5 i0 (.int .u8 0) 1 1 Tryd.underlying27 hi0 hz0 hz1 hz2 rfl (by decide) u4 (l ++ escK i c2).length (Lib.byteCells (l ++ escK i c2)) rfl HO.out.1 ⟨wr.heap.size, 0, none⟩ 1 1 [.int .u8 (Tc.toNat : Int)] rfl rfl (cell_one_new _ _ _) HO.out.2.1 (by decide) HO.out.2.2.1 HO.out.2.2.2.1 HO.out.2.2.2.2.1 (wr.heap.size + 1) HO.out.2.2.2.2.2 ?_; intro g' cap' w5 o1 gr1 at1 lt1; have HGG : Hid (_ ∧ _) := ⟨o1, gr1⟩; clear o1 gr1 at1 lt1)
                  have ht := HS2.out.app (below_one wr (.cells #[.int .u8 (Tc.toNat : Int)] 5)) [Tc] 1 rfl g' cap' HGG.out.1 HGG.out.2
                  rw [List.append_assoc, ← HK.out, List.length_append] at ht
                  exact ⟨⟨i + 1, by go_num, by omega, by rw [HK.out]; simp, ht⟩, by simp only [intOf]; omega⟩
                · have fe' : ((Fc.toNat : Int) == (C2 : Int)) = false := by
                    rw [← HC2.out]
                    simp only [beq_eq_false_iff_ne]
                    intro e
                    exact fe (UInt8.toNat_inj.1 (by omega))
                  have HK : Hid (escK (i + 1) c2 = escK i c2) := by show _ = _; rw [escK_no (by rw [hFc]; exact fe)]
                  clear fe hFc hTc hlen
                  go_wp2_with fail
                  exact ⟨⟨i + 1, by go_num, by omega, by rw [HK.out], by rw [HK.out]; exact S2⟩, by simp only [intOf]; omega⟩
                --done>
              · obtain ⟨pl, hpl⟩ : ∃ pl, (!(escK 8 c2).isEmpty) = pl := ⟨_, rfl⟩
                have HPL : Hid ((!(escK 8 c2).isEmpty) = pl) := hpl
                rw [hpl]
                have HS2 : Hid (TX w wr g B ys2 d nv code u4 (l ++ escK 8 c2)) := S2
                have hid : decide ((8 : Int) < 8) = false := by simp
                clear hpl S2 hi
                cases pl
                · by_cases q117 : C2 = 117
                  · subst q117
                    have HE117 : Hid (c2 = 117) := u8_of (by decide) HC2.out
                    have HT3 : Hid (TX w wr g B ys2 d nv code u4 l) := by have := HS2.out; rw [escK_nil HPL.out, List.append_nil] at this; exact this
                    have HU : Hid (textS (34 :: xs) = match unitsS ys2 with | none => none | some (r, zs) => txtS f (l ++ Lib.encodeRune r) zs) := by
                      show _ = _
                      rw [H.out.1, txtS, HE92.out]
                      show (match signS (92 :: c2 :: ys2) with | none => none | some (r, ys) => txtS f (l ++ Lib.encodeRune r) ys) = _
                      rw [sign_esc, escS, HE117.out, if_pos rfl]
                    go_wp2_with fail
                    go_at_call 50
                    refine (dHex g B ys2 d nv code wr HT3.out.dr).mono ?_
                    rintro e w3 ⟨b3, (⟨x, us, u1, rfl, d3⟩ | ⟨u1, rfl, d3⟩)⟩
                    case inr =>
                      --<done
                      go_wp2_with fail
                      go_ret2
                      refine ⟨HT3.out.but.trans b3, .inr ⟨?_, rfl, _, d3⟩⟩
                      rw [HU.out, units_none u1]
                      --done>
                    case inl =>
                    have hx6 := unit4_lt u1
                    have hxb : (x : Int) ≤ 65535 := by omega
                    have HX3 : Hid (TX w w3 g B us d nv code u4 l ∧ unitS 4 0 ys2 = some (x, us) ∧ us.length + 4 = ys2.length) := ⟨HT3.out.move b3 d3, u1, hx6.2⟩
                    clear b3 u1 d3 hx6 HT3
                    go_upto_region 32 with fail
                    go_cut [186] from 169 to 186 (fun s186 wc2 => s186 = .bool (decide ((56320 : Int) ≤ (x : Int) ∧ (x : Int) ≤ 57343)) ∧ wc2 = w3)
                    case first =>
                      --<done
                      by_cases r5 : (56320 : Int) ≤ (x : Int)
                      · have r5' : decide ((56320 : Int) ≤ (x : Int)) = true := by simpa using r5
                        by_cases m5 : (x : Int) ≤ 57343
                        · have m5' : decide ((x : Int) ≤ 57343) = true := by simpa using m5
                          have HQ : Hid (decide ((56320 : Int) ≤ (x : Int) ∧ (x : Int) ≤ 57343) = true) := decide_eq_true ⟨r5, m5⟩
                          clear r5 m5
                          go_wp2_with fail
                          go_meet
                          case rel => exact ⟨by rw [HQ.out], rfl⟩
                        · have m5' : decide ((x : Int) ≤ 57343) = false := by simpa using m5
                          have HQ : Hid (decide ((56320 : Int) ≤ (x : Int) ∧ (x : Int) ≤ 57343) = false) := decide_eq_false (fun h => m5 h.2)
                          clear r5 m5
                          go_wp2_with fail
                          go_meet
                          case rel => exact ⟨by rw [HQ.out], rfl⟩
                      · have r5' : decide ((56320 : Int) ≤ (x : Int)) = false := by simpa using r5
                        have HQ : Hid (decide ((56320 : Int) ≤ (x : Int) ∧ (x : Int) ≤ 57343) = false) := decide_eq_false (fun h => r5 h.1)
                        clear r5
                        go_wp2_with fail
                        go_meet
                        case rel => exact ⟨by rw [HQ.out], rfl⟩
                      --done>
                    case rest =>
                    obtain ⟨rfl, rfl⟩ := hcut
                    obtain ⟨Z, hZ⟩ : ∃ Z, decide ((56320 : Int) ≤ (x : Int) ∧ (x : Int) ≤ 57343) = Z := ⟨_, rfl⟩
                    have HZ1 : Hid (decide ((56320 : Int) ≤ (x : Int) ∧ (x : Int) ≤ 57343) = Z) := hZ
                    rw [hZ]
                    clear hZ
                    cases Z
                    case true =>
                      --<done
                      go_wp2_with fail
                      go_ret2
                      refine ⟨HX3.out.1.but, .inr ⟨?_, rfl, _, HX3.out.1.dr⟩⟩
                      rw [HU.out, units_mid HX3.out.2.1 HZ1.out]
                      --done>
                    case false =>
                    go_upto_region 34 with fail
                    go_cut [192] from 187 to 192 (fun s192 wc2 => s192 = .bool (decide ((55296 : Int) ≤ (x : Int) ∧ (x : Int) ≤ 56319)) ∧ wc2 = wc)
                    case first =>
                      --<done
                      by_cases r5 : (55296 : Int) ≤ (x : Int)
                      · have r5' : decide ((55296 : Int) ≤ (x : Int)) = true := by simpa using r5
                        by_cases m5 : (x : Int) ≤ 56319
                        · have m5' : decide ((x : Int) ≤ 56319) = true := by simpa using m5
                          have HQ : Hid (decide ((55296 : Int) ≤ (x : Int) ∧ (x : Int) ≤ 56319) = true) := decide_eq_true ⟨r5, m5⟩
                          clear r5 m5
                          go_wp2_with fail
                          go_meet
                          case rel => exact ⟨by rw [HQ.out], rfl⟩
                        · have m5' : decide ((x : Int) ≤ 56319) = false := by simpa using m5
                          have HQ : Hid (decide ((55296 : Int) ≤ (x : Int) ∧ (x : Int) ≤ 56319) = false) := decide_eq_false (fun h => m5 h.2)
                          clear r5 m5
                          go_wp2_with fail
                          go_meet
                          case rel => exact ⟨by rw [HQ.out], rfl⟩
                      · have r5' : decide ((55296 : Int) ≤ (x : Int)) = false := by simpa using r5
                        have HQ : Hid (decide ((55296 : Int) ≤ (x : Int) ∧ (x : Int) ≤ 56319) = false) := decide_eq_false (fun h => r5 h.1)
                        clear r5
                        go_wp2_with fail
                        go_meet
                        case rel => exact ⟨by rw [HQ.out], rfl⟩
                      --done>
                    case rest =>
                    obtain ⟨rfl, rfl⟩ := hcut
                    obtain ⟨Z, hZ⟩ : ∃ Z, decide ((55296 : Int) ≤ (x : Int) ∧ (x : Int) ≤ 56319) = Z := ⟨_, rfl⟩
                    have HZ2 : Hid (decide ((55296 : Int) ≤ (x : Int) ∧ (x : Int) ≤ 56319) = Z) := hZ
                    rw [hZ]
                    clear hZ
                    go_upto_if 192 with fail
                    go_cut [12] from 193 to 217 (fun s12 wc2 => ∃ (X : Nat) (zs : Bs), s12 = .int .i64 X ∧ Hid (unitsS ys2 = some (X, zs) ∧ okR X ∧ zs.length + 4 ≤ ys2.length) ∧ TX w wc2 g B zs d nv code u4 l)
                    case first =>
                      cases Z
                      · go_wp2_with fail
                        go_meet
                        case rel =>
                          have h1 := units_self HX3.out.2.1 HZ1.out HZ2.out
                          exact ⟨x, us, rfl, ⟨h1.1, h1.2, by have := HX3.out.2.2; omega⟩, HX3.out.1⟩
                      · have hz2 := of_decide_eq_true HZ2.out
                        have hxl : (55296 : Int) ≤ (x : Int) := hz2.1
                        have hxh : (x : Int) ≤ 56319 := hz2.2
                        clear hz2 hxb
                        go_wp2_with fail
                        go_at_call 38
                        refine (dWord [92, 117] (by decide) (by decide) g B us d nv code wc HX3.out.1.dr).mono ?_
                        rintro e w4 ⟨b4, (⟨vs, t4, rfl, d4⟩ | ⟨t4, rfl, d4⟩)⟩
                        case inr =>
                          --<done
                          go_wp2_with fail
                          go_ret2
                          refine ⟨HX3.out.1.but.trans b4, .inr ⟨?_, rfl, _, d4⟩⟩
                          rw [HU.out, units_low HX3.out.2.1 HZ2.out, low_no t4]
                          --done>
                        case inl =>
                        have HX4 : Hid (TX w w4 g B vs d nv code u4 l ∧ tk [92, 117] us = some vs) := ⟨HX3.out.1.move b4 d4, t4⟩
                        clear b4 d4 t4
                        go_wp2_with fail
                        go_at_call 50
                        refine (dHex g B vs d nv code w4 HX4.out.1.dr).mono ?_
                        rintro e w5 ⟨b5, (⟨y, ts, t5, rfl, d5⟩ | ⟨t5, rfl, d5⟩)⟩
                        case inr =>
                          --<done
                          go_wp2_with fail
                          go_ret2
                          refine ⟨HX4.out.1.but.trans b5, .inr ⟨?_, rfl, _, d5⟩⟩
                          rw [HU.out, units_low HX3.out.2.1 HZ2.out, low_unit HX4.out.2 t5]
                          --done>
                        case inl =>
                        have hyb : (y : Int) ≤ 65535 := by have := (unit4_lt t5).1; omega
                        have HX5 : Hid (TX w w5 g B ts d nv code u4 l ∧ unitS 4 0 vs = some (y, ts) ∧ ts.length + 4 = vs.length) := ⟨HX4.out.1.move b5 d5, t5, (unit4_lt t5).2⟩
                        clear b5 d5 t5
                        go_upto_region 38 with fail
                        go_cut [210] from 193 to 210 (fun s210 wc2 => s210 = .bool (decide ((y : Int) < 56320 ∨ 57343 < (y : Int))) ∧ wc2 = w5)
                        case first =>
                          --<done
                          by_cases r5 : (y : Int) < 56320
                          · have r5' : decide ((y : Int) < 56320) = true := by simpa using r5
                            have HQ : Hid (decide ((y : Int) < 56320 ∨ 57343 < (y : Int)) = true) := decide_eq_true (.inl r5)
                            clear r5
                            go_wp2_with fail
                            go_meet
                            case rel => exact ⟨by rw [HQ.out], rfl⟩
                          · have r5' : decide ((y : Int) < 56320) = false := by simpa using r5
                            by_cases m5 : 57343 < (y : Int)
                            · have m5' : decide (57343 < (y : Int)) = true := by simpa using m5
                              have HQ : Hid (decide ((y : Int) < 56320 ∨ 57343 < (y : Int)) = true) := decide_eq_true (.inr m5)
                              clear r5 m5
                              go_wp2_with fail
                              go_meet
                              case rel => exact ⟨by rw [HQ.out], rfl⟩
                            · have m5' : decide (57343 < (y : Int)) = false := by simpa using m5
                              have HQ : Hid (decide ((y : Int) < 56320 ∨ 57343 < (y : Int)) = false) := decide_eq_false (fun h => h.elim r5 m5)
                              clear r5 m5
                              go_wp2_with fail
                              go_meet
                              case rel => exact ⟨by rw [HQ.out], rfl⟩
                          --done>
                        case rest =>
                        obtain ⟨rfl, rfl⟩ := hcut
                        obtain ⟨Z3, hZ3⟩ : ∃ Z, decide ((y : Int) < 56320 ∨ 57343 < (y : Int)) = Z := ⟨_, rfl⟩
                        have HZ3 : Hid (decide ((y : Int) < 56320 ∨ 57343 < (y : Int)) = Z3) := hZ3
                        rw [hZ3]
                        clear hZ3
                        cases Z3
                        · obtain ⟨X, l1, l2, l3⟩ := low_good HX4.out.2 HX5.out.2.1 HZ2.out HZ3.out
                          have HLG : Hid (lowS x us = some (X, ts) ∧ okR X ∧ (65536 : Int) + ((x : Int) - 55296) * 1024 + (y : Int) - 56320 = (X : Int)) := ⟨l1, l2, l3⟩
                          have hy0 := of_decide_eq_false HZ3.out
                          have hyl : (56320 : Int) ≤ (y : Int) := by omega
                          have hyh : (y : Int) ≤ 57343 := by omega
                          clear l1 l2 l3 hy0 hyb
                          go_wp2_with fail
                          go_meet
                          case rel =>
                            refine ⟨X, ts, ?_, ⟨?_, HLG.out.2.1, ?_⟩, HX5.out.1⟩
                            · rw [HLG.out.2.2]
                            · rw [units_low HX3.out.2.1 HZ2.out, HLG.out.1]
                            · have h1 := HX3.out.2.2
                              have h2 := HX5.out.2.2
                              have h3 := tk_len HX4.out.2
                              simp at h3
                              omega
                        · --<done
                          go_wp2_with fail
                          go_ret2
                          refine ⟨HX5.out.1.but, .inr ⟨?_, rfl, _, HX5.out.1.dr⟩⟩
                          rw [HU.out, units_low HX3.out.2.1 HZ2.out, low_bad HX4.out.2 HX5.out.2.1 HZ3.out]
                          --done>
                    case rest =>
                    obtain ⟨X, zs, rfl, HXZ, S5⟩ := hcut
                    have hXb := HXZ.out.2.1.int
                    have hX0 : (0 : Int) ≤ (X : Int) := by omega
                    obtain ⟨L, hL⟩ : ∃ L, Lib.encodeRune (X : Int) = L := ⟨_, rfl⟩
                    obtain ⟨m, hm⟩ : ∃ m, L.length = m := ⟨_, rfl⟩
                    have hm14 : 1 ≤ m ∧ m ≤ 4 := by rw [← hm, ← hL]; exact encR_len _
                    have hcv1 : ∀ W, (convert 21 9 (.int .i32 (X : Int))).run Tryd.prog W = .ok (.string ⟨L.toArray⟩) W := fun W => by
                      rw [run_convert_int_string W _ _ _ _ (by rw [Tryd.underlying21]; rfl) Tryd.underlying9, HXZ.out.2.1.enc, hL]
                    have hsz : (⟨L.toArray⟩ : ByteArray).size = m := by rw [← hm]; rfl
                    have hcv2 : ∀ W, (convert 9 27 (.string ⟨L.toArray⟩)).run Tryd.prog W = .ok (.slice (some ⟨W.heap.size, 0, none⟩) m (grownCap W m 0 5)) (Lib.bytesWorld W 5 ⟨L.toArray⟩) := fun W => by
                      rw [Lib.run_convert_string_bytes W _ _ _ _ Tryd.underlying9 Tryd.underlying27 Tryd.underlying5, hsz]
                    have HLX : Hid (Lib.encodeRune (X : Int) = L ∧ L.length = m) := ⟨hL, hm⟩
                    have HS5 : Hid (TX w wc g B zs d nv code u4 l) := S5
                    obtain ⟨W5, hW5⟩ : ∃ W5, Lib.bytesWorld wc 5 ⟨L.toArray⟩ = W5 := ⟨_, rfl⟩
                    obtain ⟨cp, hcp⟩ : ∃ cp, grownCap wc m 0 5 = cp := ⟨_, rfl⟩
                    have hcv2' := hcv2 wc
                    rw [hW5, hcp] at hcv2'
                    have hbW : Below wc.heap.size wc W5 := by
                      rw [← hW5]
                      exact ⟨rfl, rfl, rfl, by rw [Lib.bytesWorld_size]; omega, fun k hk => Lib.bytesWorld_at_old _ _ _ _ hk⟩
                    have hsW : W5.heap.size = wc.heap.size + 1 := by rw [← hW5, Lib.bytesWorld_size]
                    have hcW : ∀ j u, (Lib.byteCells L)[j]? = some u → W5.cell? ((⟨wc.heap.size, 0, none⟩ : Addr).add j) = some u := fun j u hj => by
                      obtain ⟨hj1, hj2⟩ := List.getElem?_eq_some_iff.1 hj
                      have hj3 : j < L.length := by simpa [Lib.byteCells] using hj1
                      rw [Addr.add_mid, Nat.zero_add, ← hW5, Lib.bytesWorld_cell _ _ _ j (by rw [hsz, ← hm]; exact hj3), ← hj2]
                      simp [Lib.byteCells, List.getD, hj3]
                    have hlen : l.length ≤ 16384 := by have := H.out.2.2; omega
                    have HO : Hid (W5.ownsRow w.heap.size 5 1 u4 l.length (Lib.byteCells l) ∧ (Lib.byteCells L).length = m * 1 ∧ (∀ j u, (Lib.byteCells L)[j]? = some u → W5.cell? ((⟨wc.heap.size, 0, none⟩ : Addr).add j) = some u) ∧ (∀ u ∈ Lib.byteCells L, u.oneCell' = true) ∧ 0 < m ∧ l.length + m ≤ maxLen ∧ (l.length + m) * 1 ≤ 140737488355328 ∧ w.heap.size ≤ W5.heap.size ∧ W5.heap.size = wc.heap.size + 1 ∧ Below wc.heap.size wc W5) :=
                      ⟨own_keep S5.own (fun k h1 h2 => hbW.block k h2), by simp [Lib.byteCells, hm], hcW, by
                        intro u hu
                        simp only [Lib.byteCells, List.mem_map] at hu
                        obtain ⟨x, _, rfl⟩ := hu
                        rfl, by omega, by unfold maxLen; omega, by omega, by have := S5.but.size; omega, hsW, hbW⟩
                    obtain ⟨i0, hi0, hz0, hz1, hz2⟩ := info_parts infoU8
                    clear hL hm S5 hsz hcv2 hW5 hcp hbW hsW hcW hlen
                    go_wp2_with (at_builtin; refine wpList_append_lies _ rfl (.tmp 218) (.tmp 222) 27 rfl w.heap.size 5 i0 (.int .u8 0) 1 1 Tryd.underlying27 hi0 hz0 hz1 hz2 rfl (by decide) u4 l.length (Lib.byteCells l) rfl HO.out.1 ⟨wc.heap.size, 0, none⟩ m cp (Lib.byteCells L) rfl HO.out.2.1 HO.out.2.2.1 HO.out.2.2.2.1 HO.out.2.2.2.2.1 HO.out.2.2.2.2.2.1 HO.out.2.2.2.2.2.2.1 HO.out.2.2.2.2.2.2.2.1 (wc.heap.size + 1) HO.out.2.2.2.2.2.2.2.2.1 ?_; intro g' cap' w5 o1 gr1 at1 lt1; have HGG : Hid (_ ∧ _) := ⟨o1, gr1⟩; clear o1 gr1 at1 lt1)
                    have ht := HS5.out.app HO.out.2.2.2.2.2.2.2.2.2 L m HLX.out.2 g' cap' HGG.out.1 HGG.out.2
                    have hf := H.out.2.1
                    have hzl := HXZ.out.2.2
                    obtain ⟨f, rfl⟩ : ∃ f', f = f' + 1 := ⟨f - 1, by simp at hf; omega⟩
                    refine ⟨⟨f, l ++ L, zs, ⟨?_, ?_, ?_⟩, ht⟩, ?_⟩
                    · rw [HU.out, HXZ.out.1]
                      simp only []
                      rw [HLX.out.1]
                    · simp at hf; omega
                    · have h1 := H.out.2.2
                      rw [List.length_append, HLX.out.2]
                      simp at h1
                      omega
                    · rw [leftN_eq ht.dr, HM.out]
                      simp
                      omega
                  · have q117' : ((C2 : Int) == 117) = false := by simp; omega
                    have HN117 : Hid (c2 ≠ 117) := fun e => q117 (by rw [← HC2.out, e]; rfl)
                    --<done
                    clear q117
                    go_wp2_with fail
                    go_ret2
                    refine ⟨HS2.out.but, .inr ⟨?_, rfl, _, HS2.out.dr⟩⟩
                    rw [H.out.1, txtS, HE92.out]
                    show (match signS (92 :: c2 :: ys2) with | none => none | some (r, ys) => txtS f (l ++ Lib.encodeRune r) ys) = none
                    rw [sign_esc, escS, if_neg HN117.out, escK_none HPL.out]
                    --done>
                · skip
                  --<done
                  go_wp2_with fail
                  obtain ⟨r, hr1, hr2, hr3⟩ := escK_some HPL.out
                  have ht := HS2.out
                  rw [hr2] at ht
                  have hf := H.out.2.1
                  obtain ⟨f, rfl⟩ : ∃ f', f = f' + 1 := ⟨f - 1, by simp at hf; omega⟩
                  refine ⟨⟨f, l ++ Lib.encodeRune r, ys2, ⟨?_, ?_, ?_⟩, ht⟩, ?_⟩
                  · rw [H.out.1, txtS, HE92.out]
                    show (match signS (92 :: c2 :: ys2) with | none => none | some (r, ys) => txtS (f + 1) (l ++ Lib.encodeRune r) ys) = _
                    rw [sign_esc, escS, if_neg hr3, hr1]
                  · simp at hf; omega
                  · have h1 := H.out.2.2
                    have h2 := (encR_len (r : Int)).2
                    rw [List.length_append]
                    simp at h1
                    omega
                  · rw [leftN_eq ht.dr, HM.out]
                    simp
                    omega
                  --done>
          · have q3' : ((C : Int) == 92) = false := by simp; omega
            --<done
            have HV : Hid (tk [34] (c :: ys) = none ∧ 32 ≤ c.toNat ∧ c ≠ 92) := ⟨tk_no34 (by rw [HR.out.2.2.2]; exact q2) ys, by rw [HR.out.2.2.2]; omega, fun e => q3 (by rw [← HR.out.2.2.2, e]; rfl)⟩
            have hnk : n ≤ k := by have h5 := HR.out.2.1.cap; have h6 := HN.out.2; have h7 := HR.out.2.2.1; rw [HR.out.1] at h5; simp only [List.length_append] at h5; omega
            have hak : ¬ k = a := by omega
            obtain ⟨R, M, HRM⟩ : ∃ R M, Hid ((Lib.decodeGo ⟨(c :: ys).toArray⟩).1 = R ∧ (Lib.decodeGo ⟨(c :: ys).toArray⟩).2 = M) := ⟨_, _, rfl, rfl⟩
            have hM := dec_facts (c :: ys)
            rw [HRM.out.1, HRM.out.2] at hM
            have hM1 : (1 : Int) ≤ (M : Int) := by have := hM.2.2.2 (by simp); omega
            have hM4 : (M : Int) ≤ 4 := by have := hM.2.2.1; omega
            have hMn : (a : Int) + (M : Int) ≤ (n : Int) := by have := hM.2.1; have := HN.out.2; omega
            have hR : (R : Int) ≤ 1114111 := by have := hM.1; omega
            clear hM
            have HDec : ∀ N, Calls Tryd.prog 47 #[.slice (some ⟨b, off + a, none⟩) (n - a) (k - a)] (wr.drewN N) fun e w' => e = .returned (.tuple #[.int .i32 R, .int .i64 M]) ∧ Below wr.heap.size wr w' := fun N => dec_rest HR.out.1 HR.out.2.1 HR.out.2.2.1 hak S.tabs HN.out.2 HRM.out N
            go_wp2_with fail
            go_cut [6, 7] from 24 to 83 (fun s6 s7 wc => s6 = .int .i32 R ∧ s7 = .int .i64 M ∧ Below wr.heap.size wr wc)
            case first =>
              go_region_with (go_at_call 47; refine (HDec _).mono ?_; rintro e w4 ⟨rfl, hb4⟩)
              all_goals (go_wp2_with fail)
              all_goals (go_meet)
              all_goals exact ⟨rfl, rfl, hb4⟩
            case rest =>
              obtain ⟨rfl, rfl, hb4⟩ := hcut
              have e0' := (hb4.cell (p := ⟨g, 0, none⟩) S.dr.lt).trans e0
              have e1' := (hb4.cell (p := ⟨g, 1, none⟩) S.dr.lt).trans e1
              have f1' := (hb4.frozen (p := ⟨g, 1, none⟩) S.dr.lt).trans f1
              have S4 := S.move (But.ofBelow hb4) (S.dr.below hb4)
              go_upto_region 11 with fail
              go_cut [89] from 84 to 89 (fun s89 wc2 => s89 = .bool (decide (R = 65533 ∧ M = 1)) ∧ wc2 = wc)
              case first =>
                by_cases r5 : R = 65533
                · have r5' : ((R : Int) == 65533) = true := by simp; omega
                  by_cases m5 : M = 1
                  · have m5' : ((M : Int) == 1) = true := by simp; omega
                    have HQ : Hid (decide (R = 65533 ∧ M = 1) = true) := by show _ = _; simp [r5, m5]
                    clear hR r5 m5
                    go_wp2_with fail
                    go_meet
                    case rel => exact ⟨by rw [HQ.out], rfl⟩
                  · have m5' : ((M : Int) == 1) = false := by simp; omega
                    have HQ : Hid (decide (R = 65533 ∧ M = 1) = false) := by show _ = _; simp [m5]
                    clear hR r5 m5
                    go_wp2_with fail
                    go_meet
                    case rel => exact ⟨by rw [HQ.out], rfl⟩
                · have r5' : ((R : Int) == 65533) = false := by simp; omega
                  have HQ : Hid (decide (R = 65533 ∧ M = 1) = false) := by show _ = _; simp [r5]
                  clear hR r5
                  go_wp2_with fail
                  go_meet
                  case rel => exact ⟨by rw [HQ.out], rfl⟩
              case rest =>
              obtain ⟨rfl, rfl⟩ := hcut
              obtain ⟨Z, hZ⟩ : ∃ Z, decide (R = 65533 ∧ M = 1) = Z := ⟨_, rfl⟩
              rw [hZ]
              have HQ5 : Hid (decide (R = 65533 ∧ M = 1) = Z) := hZ
              clear hZ hR
              cases Z
              · obtain ⟨i0, hi0, hz0, hz1, hz2⟩ := info_parts infoU8
                have HE : Hid (wc.ownsRow w.heap.size 5 1 u4 l.length (Lib.byteCells l) ∧ (Lib.byteCells ((c :: ys).take M)).length = M * 1 ∧ (∀ j u, (Lib.byteCells ((c :: ys).take M))[j]? = some u → wc.cell? ((⟨b, off + a, none⟩ : Addr).add j) = some u) ∧ (∀ u ∈ Lib.byteCells ((c :: ys).take M), u.oneCell' = true) ∧ 0 < M ∧ l.length + M ≤ maxLen ∧ (l.length + M) * 1 ≤ 140737488355328 ∧ w.heap.size ≤ wc.heap.size) := by
                  have hMl : M ≤ (c :: ys).length := by have := HN.out.2; omega
                  have hcl : ∀ i, i < M → wc.cell? ⟨b, off + (a + i), none⟩ = some (.int .u8 ((((c :: ys).getD i 0).toNat : Nat) : Int)) := fun i hi => by
                    obtain ⟨b', off', e', hc'⟩ := HR.out.2.1.lies (by rw [HR.out.1]; simp; omega)
                    cases e'
                    have h8 : a + i < B.length := by rw [HR.out.1, List.length_append, HR.out.2.2.1]; omega
                    rw [hb4.cell (p := ⟨b, off + (a + i), none⟩) (Nat.lt_trans hbg S.dr.lt), hc' (a + i) h8, HR.out.1]
                    simp only [List.getD]
                    rw [← HR.out.2.2.1, List.getElem?_append_right (Nat.le_add_right _ _), Nat.add_sub_cancel_left]
                  refine ⟨S4.own, by simp [Lib.byteCells]; simp at hMl; omega, ?_, ?_, by omega, ?_, ?_, S4.but.size⟩
                  · intro j u hj
                    obtain ⟨hj1, hj2⟩ := List.getElem?_eq_some_iff.1 hj
                    have hj3 : j < M := by simp [Lib.byteCells] at hj1; omega
                    rw [show (⟨b, off + a, none⟩ : Addr).add j = ⟨b, off + (a + j), none⟩ from by
                      unfold Addr.add
                      by_cases h : j = 0
                      · rw [if_pos h, h]; rfl
                      · rw [if_neg h, Nat.add_assoc], hcl j hj3, ← hj2]
                    have hj4 : j < (c :: ys).length := by omega
                    rw [show (c :: ys).getD j 0 = (c :: ys)[j] from by simp [List.getD, List.getElem?_eq_getElem hj4]]
                    simp only [Lib.byteCells, List.getElem_map, List.getElem_take]
                  · intro u hu
                    simp only [Lib.byteCells, List.mem_map] at hu
                    obtain ⟨x, _, rfl⟩ := hu
                    rfl
                  · have := H.out.2.2; unfold maxLen; omega
                  · have := H.out.2.2; omega
                have HG : Hid (∀ (W : World) (g' cap' : Nat) (w5 : World), W.heap = wc.heap → W.os = wc.os → W.tape = wc.tape → W.output = wc.output → w5.ownsRow w.heap.size 5 1 (.slice (some ⟨g', 0, none⟩) (l.length + M) cap') (l.length + M) (Lib.byteCells l ++ Lib.byteCells ((c :: ys).take M)) → W.grownBy w5 u4.ownBlock → TX w w5 g B (c :: ys) d nv code (.slice (some ⟨g', 0, none⟩) (l.length + M) cap') (l ++ (c :: ys).take M)) := by
                  intro W g' cap' w5 e1 e2 e3 e4 o gr
                  have hMl : M ≤ (c :: ys).length := by have := HN.out.2; omega
                  have hb5 : Below w.heap.size wc w5 := ⟨gr.os.trans e2, gr.tape.trans e3, gr.output.trans e4, by have := gr.size; rw [e1] at this; exact this, fun k hk => (gr.block k (by rw [e1]; exact Nat.lt_of_lt_of_le hk S4.but.size) (own_low S4.own k hk)).trans (by rw [e1])⟩
                  refine S4.grow hb5 ?_
                  rw [show (l ++ (c :: ys).take M).length = l.length + M by rw [List.length_append, List.length_take]; omega, show Lib.byteCells (l ++ (c :: ys).take M) = Lib.byteCells l ++ Lib.byteCells ((c :: ys).take M) from by simp [Lib.byteCells]]
                  exact o
                obtain ⟨ae, HAE⟩ : ∃ ae, Hid (ae = a + M) := ⟨_, rfl⟩
                have hw1 : IntKind.i64.wrap ((a : Int) + (M : Int)) = (ae : Int) := by
                  have := HAE.out
                  rw [IntKind.wrap_i64]
                  omega
                have hw2 : (ae : Int) ≤ (k : Int) := by have := HAE.out; omega
                have hw3 : (0 : Int) ≤ (ae : Int) := by omega
                have hw4 : a ≤ ae := by have := HAE.out; omega
                have hw5 : ae - a = M := by have := HAE.out; omega
                have hw6 : ae ≤ k := by omega
                have hw7 : a ≤ (IntKind.i64.wrap ((a : Int) + (M : Int))).toNat := by rw [hw1]; omega
                have hw8 : (IntKind.i64.wrap ((a : Int) + (M : Int))).toNat - a = M := by rw [hw1]; omega
                have hw9 : IntKind.i64.wrap ((a : Int) + (M : Int)) ≤ (k : Int) := by rw [hw1]; omega
                have hw10 : 0 ≤ IntKind.i64.wrap ((a : Int) + (M : Int)) := by rw [hw1]; omega
                clear hw1
                go_upto_region 13 with fail
                go_cut [4] from 90 to 106 (fun s4 w5 => TX w w5 g B (c :: ys) d nv code s4 (l ++ (c :: ys).take M))
                case first =>
                  go_region_law (refine step_append_lies _ rfl (.tmp 90) (.tmp 105) 27 rfl w.heap.size 5 i0 (.int .u8 0) 1 1 Tryd.underlying27 hi0 hz0 hz1 hz2 rfl (by decide) u4 l.length (Lib.byteCells l) rfl HE.out.1 ⟨b, off + a, none⟩ M (k - a) (Lib.byteCells ((c :: ys).take M)) (by rfl) HE.out.2.1 HE.out.2.2.1 HE.out.2.2.2.1 HE.out.2.2.2.2.1 HE.out.2.2.2.2.2.1 HE.out.2.2.2.2.2.2.1 HE.out.2.2.2.2.2.2.2 wc.heap.size rfl ?_; intro g' cap' w5 o1 gr1 at1 lt1; have HGG : Hid (_ ∧ _) := ⟨o1, gr1⟩; clear o1 gr1 at1 lt1)
                  all_goals (go_wp2_with fail; go_meet)
                  all_goals exact HG.out wc.drew _ _ _ rfl rfl rfl rfl HGG.out.1 HGG.out.2
                case rest =>
                  obtain ⟨pre5, p5, k5, g0, g1, g2, g3⟩ := hcut.dr
                  have hp5 : pre5.length = a := by have h8 := congrArg List.length HR.out.1; rw [g0] at h8; simp only [List.length_append] at h8; have := HR.out.2.2.1; omega
                  have e1'' := g1.pos
                  have f1'' := g1.frozen 1
                  rw [hp5] at e1''
                  have hMl : M ≤ (c :: ys).length := by have := HN.out.2; omega
                  have HF : Hid (Dr (wc.setCell ⟨g, 1, none⟩ (.int .i64 ((a : Int) + (M : Int)))) g B ((c :: ys).drop M) d nv code) := Dr.step (mid := (c :: ys).take M) g0 (by simp) g1 g2 g3 _ (by rw [hp5, List.length_take]; omega)
                  have HT5 : Hid (TX w wc g B (c :: ys) d nv code u4 (l ++ (c :: ys).take M)) := hcut
                  clear g0 g1 g2 g3 hcut HE HG
                  go_wp2_with fail
                  have ht := HF.out
                  have hf := H.out.2.1
                  obtain ⟨f, rfl⟩ : ∃ f', f = f' + 1 := ⟨f - 1, by simp at hf; omega⟩
                  refine ⟨⟨f, l ++ (c :: ys).take M, (c :: ys).drop M, ⟨?_, ?_, ?_⟩, HT5.out.move (But.setCell g wc 1 _) ht⟩, ?_⟩
                  · rw [H.out.1, txtS, HV.out.1]
                    simp only []
                    have hs := sign_self c ys HV.out.2.1 HV.out.2.2
                    have hv : ¬ ((Lib.decodeGo ⟨(c :: ys).toArray⟩).1 = 65533 ∧ (Lib.decodeGo ⟨(c :: ys).toArray⟩).2 = 1) := by rw [HRM.out.1, HRM.out.2]; simpa using HQ5.out
                    have he := enc_self c ys hv
                    rw [if_neg hv] at hs
                    rw [hs]
                    simp only []
                    rw [he, HRM.out.2]
                  · rw [List.length_drop]; omega
                  · have := H.out.2.2
                    rw [List.length_append, List.length_drop, List.length_take]
                    omega
                  · rw [leftN_eq ht, HM.out, List.length_drop]
                    omega
              · go_wp2_with fail
                go_ret2
                refine ⟨S4.but, .inr ⟨?_, rfl, _, S4.dr⟩⟩
                rw [H.out.1, txtS, HV.out.1]
                simp only []
                rw [sign_self c ys HV.out.2.1 HV.out.2.2, HRM.out.1, HRM.out.2, if_pos (by simpa using HQ5.out)]
            --done>
end Go.Proofs.YtbobgebhdafciabDoor
