import Derived.Test.YtiblpcfkecalcaaDoorK12
import Derived.Test.YtiblpcfkecalcaaDoorK07
/-
  DerWrites.
-/
namespace Go.Proofs.YtiblpcfkecalcaaDoor
open Go.Shelf Go.RowKit
set_option linter.unusedVariables false
set_option linter.unusedSimpArgs false

theorem wpList_append_zeros {w : World} {ops : Array Oper} {rest : List Oper} {o : Oper} {a : Act} {Q : Exit → Act → World → Prop} (hgd : o.guard = none) (s x : Operand)
    (ho : o.op = .call { callee := .builtin .append, args := #[s, x], argTypes := #[22, 3] }) (base g n cap : Nat) (hs : a.eval s = .slice (some ⟨g, 0, none⟩) n cap) (old : Bs) (hown : w.ownsRow base 5 1 (.slice (some ⟨g, 0, none⟩) n cap) n (Lib.byteCells old)) (m : Nat) (hx : a.eval x = .int .i64 (m : Int)) (hlen : n + m ≤ 10000000) (hbase : base ≤ w.heap.size)
    (h : ∀ v' w', w'.ownsRow base 5 1 v' (n + m) (Lib.byteCells (old ++ List.replicate m 0)) → w.grownBy w' (some g) → (v'.ownBlock = some g ∨ v'.ownBlock = some w.heap.size) → wpList Tryd.prog ops Q rest (a.put o.dst v') w') : wpList Tryd.prog ops Q (o :: rest) a w := by
  refine wpList_plain hgd fun _ hK => ?_
  obtain ⟨v', w', hrun, h2, h3, h5⟩ := run_append_zeros base o.type g n cap old hown m hlen hbase
  unfold Oper.wp
  simp only [execOp, ho, resolve, invoke, builtin, Sem.run_bind, Sem.run_pure, Result.andThen_ok, List.map_toArray, List.map_cons, List.map_nil, hs, hx, hrun]
  exact hK _ _ (h v' w' h2 h3 h5)
theorem own_some {w : World} {base : Nat} {e : TypeId} {s : Nat} {v : Value} {n : Nat} {xs : List Value} (h : w.ownsRow base e s v n xs) {g : Nat} (hg : v.ownBlock = some g) : ∃ c, v = .slice (some ⟨g, 0, none⟩) n c := by
  rcases h.2 with ⟨rfl, _⟩ | ⟨g', cap, cur, rfl, _⟩
  · cases hg
  · cases hg; exact ⟨_, rfl⟩
set_option maxRecDepth 100000 in
set_option maxHeartbeats 8000000 in
theorem DerWrites_walk (w : World) (t0 : Int) (a0 : Option Addr) (len0 cap0 : Nat) (z0 : List Int) (ut0 : 0 ≤ t0 ∧ t0 < 256) (w0 : CameJ .u8 w a0 len0 cap0 z0) (a1 : Option Addr) (len1 cap1 : Nat) (z1 : List Int) (w1 : CameJ .u8 w a1 len1 cap1 z1) (n2 : Int) (w2 : (Lit.int .u16 n2).wf = true) (hL : laidMet Tryd.prog Rows.derWritesRow.laid w) :
    Calls Tryd.prog 5 #[.agg #[.int .u8 t0, .slice a0 len0 cap0], .slice a1 len1 cap1, .int .u16 n2] w fun e w' => e = .returned (.bool true) ∧ Below w.heap.size w w' := by
  have hT : Md w := md_laid hL
  obtain ⟨TN, rfl⟩ : ∃ T : Nat, t0 = (T : Int) := ⟨t0.toNat, by omega⟩
  have hTN : TN < 256 := by omega
  have hn2 : 0 ≤ n2 ∧ n2 < 65536 := by
    simp [Lit.wf, IntKind.min, IntKind.max, IntKind.signed, IntKind.bits] at w2
    exact ⟨by omega, by omega⟩
  obtain ⟨N2, rfl⟩ : ∃ T : Nat, n2 = (T : Int) := ⟨n2.toNat, by omega⟩
  have hle0 := w0.le
  have hle1 := w1.le
  unfold maxLen at hle0 hle1
  obtain ⟨bs, hn, hV⟩ := w0.byv
  obtain ⟨cs, hm, hC⟩ := w1.byv
  clear w0 w1 w2 hL ut0 hn2
  have hle0I : (len0 : Int) ≤ 9223372036854775807 := by omega
  have hle1I : (len1 : Int) ≤ 9223372036854775807 := by omega
  obtain ⟨W0, hW0⟩ : ∃ W, w.alloc (.cells #[.int .u8 (TN : Int), .slice a0 len0 cap0] 25) = W := ⟨_, rfl⟩
  have b0 : Below w.heap.size w W0 := by rw [← hW0]; exact (Below.refl _ _).alloc (Nat.le_refl _) _
  have s0 : Tl W0 w.heap.size (.int .u8 (TN : Int)) (.slice a0 len0 cap0) := by rw [← hW0]; exact Tl.new w _ _
  have hM0 : Md W0 := hT.below b0
  have z0 : w.heap.size < W0.heap.size := s0.lt
  have HS0 : Hid (Tl W0 w.heap.size (.int .u8 (TN : Int)) (.slice a0 len0 cap0)) := s0
  go_enter Tryd.func5, Tryd.ntmps5
  go_wp2_with fail
  go_at_call 9
  refine (DAwake_any W0 hM0).mono ?_
  rintro e w1 ⟨rfl, b1⟩
  have s1 := s0.below b1
  obtain ⟨f0, f1, f2, f3⟩ := s1.facts
  have B1 : Below w.heap.size w w1 := b0.trans (b1.mono b0.size)
  clear s0 hW0 HS0
  by_cases q : 3000 < len0 ∨ 500 < len1
  · have HB : Hid (Below w.heap.size w w1) := B1
    by_cases q3 : 3000 < len0
    · have q3I : 3000 < (len0 : Int) := by omega
      go_wp2_with fail
      go_ret
      exact ⟨rfl, HB.out⟩
    · have q3I : ¬ 3000 < (len0 : Int) := by omega
      have q4I : 500 < (len1 : Int) := by omega
      go_wp2_with fail
      go_ret
      exact ⟨rfl, HB.out⟩
  have q1 : ¬ 3000 < (len0 : Int) := by omega
  have q2 : ¬ 500 < (len1 : Int) := by omega
  have o1 := own_nil0 w1
  have b1a : Below w1.heap.size w1 (w1.alloc (.cells #[] 5)) := (Below.refl _ _).alloc (Nat.le_refl _) _
  have l1 : BAt (w1.alloc (.cells #[] 5)) a0 len0 bs := by have := ((hV.keep (fun k hk _ => B1.block k hk)).below b1a).lies; rw [hn] at this; exact this
  obtain ⟨m, hmm⟩ : ∃ m, N2 % 5000 = m := ⟨_, rfl⟩
  have hmI : (N2 : Int) % 5000 = (m : Int) := by omega
  have hm5 : m < 5000 := by omega
  obtain ⟨fa0, fa1, fa2, fa3⟩ := (s1.below b1a).facts
  have HX : Hid (Tl w1 w.heap.size (.int .u8 (TN : Int)) (.slice a0 len0 cap0) ∧ Below w.heap.size w w1 ∧ w.heap.size < w1.heap.size) := ⟨s1, B1, s1.lt⟩
  clear s1 hT hM0 b0
  go_wp2_with (at_builtin; first
    | (refine wpList_append_wt rfl (.tmp 24) (.tmp 26) rfl w1.heap.size (.slice (some ⟨w1.heap.size, 0, none⟩) 0 0) rfl [] 0 rfl o1 a0 len0 cap0 bs hn rfl l1 (by omega) b1a.size ?_; intro v2 w2 o2 gr2 at2; rw [Nat.zero_add, List.nil_append] at o2; have b2 : Below w1.heap.size w1 w2 := below_grownT b1a (Nat.le_refl _) o1 gr2; obtain ⟨g2, hg2⟩ : ∃ g, v2.ownBlock = some g := (by rcases at2 with e | e <;> exact ⟨_, e⟩); obtain ⟨c2, rfl⟩ := own_some o2 hg2; have H2 : Hid (w2.ownsRow w1.heap.size 5 1 (.slice (some ⟨g2, 0, none⟩) len0 c2) len0 (Lib.byteCells bs) ∧ Below w1.heap.size w1 w2) := ⟨o2, b2⟩; obtain ⟨fb0, fb1, fb2, fb3⟩ := (HX.out.1.below b2).facts; clear o2 at2 gr2 b2 hg2)
    | (refine wpList_append_zeros rfl (.tmp 27) (.tmp 30) rfl w1.heap.size g2 len0 c2 rfl bs H2.out.1 m rfl (by omega) H2.out.2.size ?_; intro v3 w3 o3 gr3 at3; have b3 : Below w1.heap.size w1 w3 := below_grownT H2.out.2 (Nat.le_refl _) H2.out.1 gr3; obtain ⟨g3, hg3⟩ : ∃ g, v3.ownBlock = some g := (by rcases at3 with e | e <;> exact ⟨_, e⟩); obtain ⟨c3, rfl⟩ := own_some o3 hg3; have H3 : Hid (w3.ownsRow w1.heap.size 5 1 (.slice (some ⟨g3, 0, none⟩) (len0 + m) c3) (len0 + m) (Lib.byteCells (bs ++ List.replicate m 0)) ∧ Below w1.heap.size w1 w3) := ⟨o3, b3⟩; obtain ⟨fc0, fc1, fc2, fc3⟩ := (HX.out.1.below b3).facts; clear o3 at3 gr3 b3 hg3))
  go_at_call 18
  obtain ⟨L, hL⟩ : ∃ L, len0 + m = L := ⟨_, rfl⟩
  obtain ⟨X, hX⟩ : ∃ X, bs ++ List.replicate m 0 = X := ⟨_, rfl⟩
  have hXL : X.length = L := by rw [← hX, List.length_append, hn, List.length_replicate, hL]
  have hLb : L < 8000 := by omega
  rw [hL, hX] at H3
  rw [hL]
  obtain ⟨G, hG⟩ : ∃ G, w.heap.size = G := ⟨_, rfl⟩
  rw [hG]
  have hG1 : G < w1.heap.size := by rw [← hG]; exact HX.out.2.2
  have b3g : Below w.heap.size w (w3.setCell ⟨G, 1, none⟩ (.slice (some ⟨g3, 0, none⟩) L c3)) := by
    have h1 : Below w.heap.size w w3 := HX.out.2.1.trans (H3.out.2.mono HX.out.2.1.size)
    exact h1.setCell (p := ⟨G, 1, none⟩) (by show w.heap.size ≤ G; omega) _
  have s4 : Tl (w3.setCell ⟨G, 1, none⟩ (.slice (some ⟨g3, 0, none⟩) L c3)) G (.int .u8 (TN : Int)) (.slice (some ⟨g3, 0, none⟩) L c3) := by
    have h1 := HX.out.1.below H3.out.2
    rw [hG] at h1
    exact h1.set1 _
  have o4 : (w3.setCell ⟨G, 1, none⟩ (.slice (some ⟨g3, 0, none⟩) L c3)).ownsRow w1.heap.size 5 1 (.slice (some ⟨g3, 0, none⟩) L c3) L (Lib.byteCells X) := owns_keep H3.out.1 (fun g hg => Below.heap_setCell _ _ _ _ (by show g ≠ G; have := (owns_lt H3.out.1 hg).1; omega))
  generalize w3.setCell ⟨G, 1, none⟩ (.slice (some ⟨g3, 0, none⟩) L c3) = w4 at b3g s4 o4 ⊢
  have m4 : BAt w4 (some ⟨g3, 0, none⟩) L X := by
    obtain ⟨p, c, e, hv⟩ := own_byv (l := X) (by rw [hXL]; exact o4)
    have := hv.lies
    rw [hXL] at this e
    cases e
    exact this
  have hC4 : ByV w4 (fun b => b < w.heap.size) a1 cap1 cs := hC.keep (fun k hk _ => b3g.block k hk)
  clear fa0 fa1 fa2 fa3 fb0 fb1 fb2 fb3 fc0 fc1 fc2 fc3 f0 f1 f2 f3 H2 H3 o4 HX o1 l1 b1a hV hC B1 b1 hG hX hL hmm hmI hm5 hn z0
  have HW := derWrite TN hTN (some ⟨g3, 0, none⟩) L c3 X w4 hXL m4 (by omega)
  refine HW.mono ?_
  rintro e w5 ⟨b5, hcases⟩
  rw [hXL] at hcases
  have s5 := s4.below b5
  obtain ⟨f0, f1, f2, f3⟩ := s5.facts
  have B5 : Below w.heap.size w w5 := b3g.trans (b5.mono b3g.size)
  have m5 := m4.below b5
  have H5 : Hid (Tl w5 G (.int .u8 (TN : Int)) (.slice (some ⟨g3, 0, none⟩) L c3) ∧ Below w.heap.size w w5 ∧ BAt w5 (some ⟨g3, 0, none⟩) L X ∧ ByV w5 (fun b => b < w.heap.size) a1 cap1 cs) := ⟨s5, B5, m5, hC4.below b5⟩
  clear s4 HW m4 hC4 s5 B5 m5
  rcases hcases with ⟨h31, rfl⟩ | ⟨h31, hbig, rfl⟩ | ⟨h31, hsm, v5, rfl, o5⟩
  · have h31I : (TN : Int) % 32 = 31 := by omega
    go_wp2_with fail
    go_ret
    exact ⟨rfl, H5.out.2.1⟩
  · obtain ⟨R, hR⟩ : ∃ R, TN % 32 = R := ⟨_, rfl⟩
    have hRI : (TN : Int) % 32 = (R : Int) := by omega
    have hRb : ((R : Int) == 31) = false := by simp; omega
    have HRW := rWrite_any TN hTN (some ⟨g3, 0, none⟩) L c3 X w5 hXL H5.out.2.2.1 (by omega)
    clear hR
    go_wp2_with fail
    go_at_call 19
    refine HRW.mono ?_
    rintro e w6 ⟨b6, v6, rfl, o6⟩
    obtain ⟨S, hS⟩ : ∃ S, 1 + (headD L).length + L = S := ⟨_, rfl⟩
    rw [hS] at o6 hbig
    obtain ⟨p6, c6, rfl⟩ := owns_slice o6
    have hSI : 4096 < (S : Int) := by omega
    have HB : Hid (Below w.heap.size w w6) := H5.out.2.1.trans (b6.mono H5.out.2.1.size)
    clear hS o6 b6 HRW
    go_wp2_with fail
    go_ret
    exact ⟨rfl, HB.out⟩
  · obtain ⟨R, hR⟩ : ∃ R, TN % 32 = R := ⟨_, rfl⟩
    have hRI : (TN : Int) % 32 = (R : Int) := by omega
    have hRb : ((R : Int) == 31) = false := by simp; omega
    obtain ⟨S, hS⟩ : ∃ S, 1 + (headD L).length + L = S := ⟨_, rfl⟩
    rw [hS] at o5 hsm
    obtain ⟨p5, c5, rfl⟩ := owns_slice o5
    obtain ⟨D, hD⟩ : ∃ D, UInt8.ofNat TN :: (headD L ++ X) = D := ⟨_, rfl⟩
    rw [hD] at o5
    have hDS : D.length = S := by rw [← hD]; simp [hXL]; omega
    have hDw : D = writeD (UInt8.ofNat TN) X := by rw [← hD]; unfold writeD; rw [hXL]
    have HRW := rWrite_any TN hTN (some ⟨g3, 0, none⟩) L c3 X w5 hXL H5.out.2.2.1 (by omega)
    rw [hS, hD] at HRW
    have HO : Hid (w5.ownsRow w4.heap.size 5 1 (.slice p5 S c5) S (Lib.byteCells D) ∧ D.length = S ∧ D = writeD (UInt8.ofNat TN) X ∧ TN % 32 ≠ 31) := ⟨o5, hDS, hDw, h31⟩
    clear hR hS hD hDw h31
    go_wp2_with fail
    go_at_call 19
    refine HRW.mono ?_
    rintro e w6 ⟨b6, v6, rfl, o6⟩
    obtain ⟨p6, c6, rfl⟩ := owns_slice o6
    have hSI : ¬ 4096 < (S : Int) := by omega
    have hc1 := own_conv (owns_keep HO.out.1 (fun g hg => b6.block g (owns_lt HO.out.1 hg).2.1)) hDS
    have hc2 := own_conv o6 hDS
    have B6 : Below w.heap.size w w6 := H5.out.2.1.trans (b6.mono H5.out.2.1.size)
    obtain ⟨k0, k1, k2, k3⟩ := (H5.out.1.below b6).facts
    have H6 : Hid (Tl w6 G (.int .u8 (TN : Int)) (.slice (some ⟨g3, 0, none⟩) L c3) ∧ Below w.heap.size w w6 ∧ BAt w6 (some ⟨g3, 0, none⟩) L X ∧ ByV w6 (fun b => b < w.heap.size) a1 cap1 cs ∧ BAt w6 p5 S D) := ⟨H5.out.1.below b6, B6, H5.out.2.2.1.below b6, H5.out.2.2.2.below b6, by
      obtain ⟨p, c, e, hv⟩ := own_byv (l := D) (by rw [hDS]; exact HO.out.1)
      have := hv.lies
      rw [hDS] at this e
      cases e
      exact this.below b6⟩
    clear o6 b6 HRW B6
    by_cases qs : 4096 < S + len1
    · have qsI : 4096 < (S : Int) + (len1 : Int) := by omega
      go_wp2_with fail
      go_ret
      exact ⟨rfl, H6.out.2.1⟩
    have qsI : ¬ 4096 < (S : Int) + (len1 : Int) := by omega
    have o7 := own_nil0 w6
    have b7 : Below w6.heap.size w6 (w6.alloc (.cells #[] 5)) := (Below.refl _ _).alloc (Nat.le_refl _) _
    have l7 := H6.out.2.2.2.2.below b7
    go_wp2_with (at_builtin; first
      | (refine wpList_append_wt rfl (.tmp 80) (.tmp 81) rfl w6.heap.size (.slice (some ⟨w6.heap.size, 0, none⟩) 0 0) rfl [] 0 rfl o7 p5 S c5 D hDS rfl l7 (by omega) b7.size ?_; intro v8 w8 o8 gr8 at8; rw [Nat.zero_add, List.nil_append] at o8; have b8 : Below w6.heap.size w6 w8 := below_grownT b7 (Nat.le_refl _) o7 gr8; obtain ⟨p8, c8, rfl⟩ := owns_slice o8; have H8 : Hid (w8.ownsRow w6.heap.size 5 1 (.slice p8 S c8) S (Lib.byteCells D) ∧ Below w6.heap.size w6 w8) := ⟨o8, b8⟩; clear o8 at8 gr8 b8)
      | (refine wpList_append_wt rfl (.tmp 82) (.tmp 83) rfl w6.heap.size (.slice p8 S c8) rfl D S hDS H8.out.1 a1 len1 cap1 cs hm rfl (by have := (H6.out.2.2.2.1.below H8.out.2).lies; rw [hm] at this; exact this) (by omega) H8.out.2.size ?_; intro v9 w9 o9 gr9 at9; have b9 : Below w6.heap.size w6 w9 := below_grownT H8.out.2 (Nat.le_refl _) H8.out.1 gr9; obtain ⟨p9, c9, rfl⟩ := owns_slice o9; have H9 : Hid (w9.ownsRow w6.heap.size 5 1 (.slice p9 (S + len1) c9) (S + len1) (Lib.byteCells (D ++ cs)) ∧ Below w6.heap.size w6 w9) := ⟨o9, b9⟩; clear o9 at9 gr9 b9))
    go_at_call 10
    have hDc : (D ++ cs).length = S + len1 := by rw [List.length_append, hDS, hm]
    obtain ⟨pp, cc, e9, hV9⟩ := own_byv (l := D ++ cs) (by rw [hDc]; exact H9.out.1)
    rw [hDc] at e9
    cases e9
    have hrd : readD (D ++ cs) = .ok ((UInt8.ofNat TN, X), cs) := by
      have h1 := HO.out.2.2.1
      have h2 : (UInt8.ofNat TN).toNat = TN := by rw [UInt8.toNat_ofNat']; omega
      rw [h1]
      exact write_read (by rw [h2]; exact HO.out.2.2.2) (by rw [← h1, hDc]; omega)
    have hTN2 : (UInt8.ofNat TN).toNat = TN := by rw [UInt8.toNat_ofNat']; omega
    have HRD := derRead p9 (S + len1) c9 (D ++ cs) _ w9 hDc hV9
    rw [hrd] at HRD
    refine HRD.mono ?_
    intro e w10 hp
    obtain ⟨b10, q1, d1, q2, d2, he, hv1, hv2⟩ := hp.okx
    rw [hTN2, hXL, hm] at he
    subst he
    have l1 : BAt w10 q1 L X := by have := hv1.lies; rw [hXL] at this; exact this
    have l2 : BAt w10 q2 len1 cs := by have := hv2.lies; rw [hm] at this; exact this
    have b610 : Below w6.heap.size w6 w10 := H9.out.2.trans (b10.mono H9.out.2.size)
    have H10 : Hid (BAt w10 q1 L X ∧ BAt w10 q2 len1 cs ∧ Below w6.heap.size w6 w10) := ⟨l1, l2, b610⟩
    clear hp HRD hrd hV9 hv1 hv2 l1 l2 b610 b10 k0 k1 k2 k3 hc1 hc2 l7 o7 b7 f0 f1 f2 f3 o5
    have b11 : Below w10.heap.size w10 (w10.alloc (.cells #[.int .u8 (TN : Int), .slice q1 L d1] 25)) := (Below.refl _ _).alloc (Nat.le_refl _) _
    have s11 : Tl (w10.alloc (.cells #[.int .u8 (TN : Int), .slice q1 L d1] 25)) w10.heap.size (.int .u8 (TN : Int)) (.slice q1 L d1) := Tl.new w10 _ _
    obtain ⟨k0, k1, k2, k3⟩ := ((H6.out.1.below H10.out.2.2).below b11).facts
    have HB11 : Hid (Below w10.heap.size w10 (w10.alloc (.cells #[.int .u8 (TN : Int), .slice q1 L d1] 25))) := b11
    clear b11
    go_wp2_with fail
    go_at_call 14
    have hB12 := H10.out.2.2.trans (HB11.out.mono H10.out.2.2.size)
    refine (rSame_yes TN q1 (some ⟨g3, 0, none⟩) L d1 c3 X _ hXL (H10.out.1.below HB11.out) (H6.out.2.2.1.below hB12)).mono ?_
    rintro e w13 ⟨rfl, b13⟩
    have hB13 : Below w6.heap.size w6 w13 := hB12.trans (b13.mono hB12.size)
    have hc1 := conv_bat (c := d2) ((H10.out.2.1.below HB11.out).below b13) hm
    have hc2 := conv_bat (c := cap1) (by have := (H6.out.2.2.2.1.below hB13).lies; rw [hm] at this; exact this) hm
    have HF : Hid (Below w.heap.size w w13) := H6.out.2.1.trans (hB13.mono H6.out.2.1.size)
    clear hB12 hB13 b13 k0 k1 k2 k3 s11
    go_wp2_with fail
    go_ret
    exact ⟨rfl, HF.out⟩
end Go.Proofs.YtiblpcfkecalcaaDoor
