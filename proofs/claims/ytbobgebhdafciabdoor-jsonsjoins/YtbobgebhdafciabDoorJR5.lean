/-
  The document's reader of JSON: number.
-/
import Derived.Test.YtbobgebhdafciabDoorJR4
namespace Go.Proofs.YtbobgebhdafciabDoor
open Go.Shelf Go.RowKit
set_option linter.unusedVariables false
set_option linter.unusedSimpArgs false

/-- The document's reader on its way. -/
structure DN (w W : World) (g : Nat) (B zs : Bs) (d : Nat) (nv : Value) (code : Nat) : Prop where
  but : But g w W
  dr : Dr W g B zs d nv code
theorem DN.word (l : Bs) (hl1 : 1 ≤ l.length) (hl2 : l.length ≤ 100) {w W : World} {g : Nat} {B zs : Bs} {d : Nat} {nv : Value} {code : Nat} (h : DN w W g B zs d nv code) :
    Calls Tryd.prog 38 #[.pointer (some ⟨g, 0, none⟩), .string ⟨l.toArray⟩] W fun e w' => ∃ t ys, e = .returned (.bool t) ∧ tkR l zs ys t ∧ DN w w' g B ys d nv code := by
  refine (dWord l hl1 hl2 g B zs d nv code W h.dr).mono ?_
  rintro e w' ⟨hb, (⟨ys, h1, rfl, h3⟩ | ⟨h1, rfl, h3⟩)⟩
  · exact ⟨true, ys, rfl, .inl ⟨rfl, h1⟩, h.but.trans hb, h3⟩
  · exact ⟨false, zs, rfl, .inr ⟨rfl, h1, rfl⟩, h.but.trans hb, h3⟩
theorem DN.digits {w W : World} {g : Nat} {B zs : Bs} {d : Nat} {nv : Value} {code : Nat} (h : DN w W g B zs d nv code) :
    Calls Tryd.prog 51 #[.pointer (some ⟨g, 0, none⟩)] W fun e w' => e = .returned (.int .i64 (nd zs : Int)) ∧ DN w w' g B (dg zs) d nv code := by
  refine (dDigits g B zs d nv code W h.dr).mono ?_
  rintro e w' ⟨rfl, h1, h2⟩
  exact ⟨rfl, h.but.trans h2, h1⟩
theorem DN.is (cc : UInt8) {w W : World} {g : Nat} {B zs : Bs} {d : Nat} {nv : Value} {code : Nat} (h : DN w W g B zs d nv code) :
    Calls Tryd.prog 35 #[.pointer (some ⟨g, 0, none⟩), .int .u8 cc.toNat] W fun e w' => e = .returned (.bool ([cc].isPrefixOf zs)) ∧ DN w w' g B zs d nv code := by
  refine (dIs cc g B zs d nv code W h.dr).mono ?_
  rintro e w' ⟨rfl, n, rfl⟩
  exact ⟨rfl, h.but.trans (But.ofBelow (below_drewN _ n)), h.dr.below (below_drewN _ n)⟩
theorem minus_of {zs ys : Bs} {t : Bool} (h : tkR [45] zs ys t) : ys = minus zs := by
  unfold minus
  rcases h with ⟨_, h⟩ | ⟨_, h, rfl⟩
  · rw [h]; rfl
  · rw [h]; rfl
theorem point_no (b : Bs) : (pointS b false).2 = false := by unfold pointS; split <;> simp
theorem pow_no (b : Bs) : (powS b false).2 = false := by unfold powS; split <;> simp
theorem numS_no1 {xs : Bs} (h : wholeS (minus xs) = false) : numS xs = none := by
  unfold numS
  rw [if_neg]
  unfold numR
  simp only [h]
  rw [point_no, pow_no]
  decide
theorem numS_no2 {xs : Bs} (h : wholeS (minus xs) = true) (h2 : (pointS (dg (minus xs)) true).2 = false) : numS xs = none := by
  unfold numS
  rw [if_neg]
  unfold numR
  simp only [h]
  rw [h2, pow_no]
  decide

theorem tk_le {l xs ys : Bs} (h : tk l xs = some ys) : ys.length ≤ xs.length := by
  unfold tk at h
  split at h
  · cases h; simp
  · cases h
theorem dg_le (xs : Bs) : (dg xs).length ≤ xs.length := trimLeftS_len _ _
theorem minus_le (xs : Bs) : (minus xs).length ≤ xs.length := by
  unfold minus
  cases h : tk [45] xs with
  | none => exact Nat.le_refl _
  | some y => exact tk_le h
theorem point_le (b : Bs) (r : Bool) : (pointS b r).1.length ≤ b.length := by
  unfold pointS
  split
  next d h => exact Nat.le_trans (dg_le d) (tk_le h)
  next => exact Nat.le_refl _
theorem plus_le (b : Bs) : (plus b).length ≤ b.length := by
  unfold plus
  split
  next d h => exact tk_le h
  next => exact minus_le b
theorem pow_le (b : Bs) (r : Bool) : (powS b r).1.length ≤ b.length := by
  unfold powS
  split
  next d h =>
    refine Nat.le_trans (dg_le _) (Nat.le_trans (plus_le d) ?_)
    cases h1 : tk [101] b with
    | some y => rw [h1] at h; cases h; exact tk_le h1
    | none => rw [h1] at h; exact tk_le (by simpa using h)
  next => exact Nat.le_refl _
theorem whole_lt {a : Bs} (h : wholeS a = true) : (dg a).length < a.length := by
  unfold wholeS at h
  simp at h
  omega
theorem numS_lt {xs s zs : Bs} (h : numS xs = some (s, zs)) : zs.length < xs.length := by
  unfold numS at h
  split at h
  next h2 =>
    cases h
    unfold numR at h2 ⊢
    simp only at h2 ⊢
    cases q : wholeS (minus xs) with
    | false => rw [q, show (pointS (dg (minus xs)) false).2 = false from point_no _, pow_no] at h2; cases h2
    | true =>
      have := whole_lt q
      have := minus_le xs
      have := point_le (dg (minus xs)) true
      have := pow_le (pointS (dg (minus xs)) true).1 (pointS (dg (minus xs)) true).2
      omega
  next => cases h

set_option maxRecDepth 100000 in
set_option maxHeartbeats 8000000 in
/-- number. -/
theorem dNumber (g : Nat) (B ys : Bs) (d : Nat) (nv : Value) (code : Nat) (w : World) (h : Dr w g B ys d nv code) :
    Calls Tryd.prog 39 #[.pointer (some ⟨g, 0, none⟩)] w fun e w' => But g w w' ∧ ((∃ (s zs : Bs), numS ys = some (s, zs) ∧ e = .returned (.tuple #[.string ⟨s.toArray⟩, .bool true]) ∧ Dr w' g B zs d nv code) ∨ (numS ys = none ∧ e = .returned (.tuple #[.string ⟨#[]⟩, .bool false]) ∧ ∃ zs, Dr w' g B zs d nv code)) := by
  have S0 : DN w w g B ys d nv code := ⟨But.refl _ _, h⟩
  obtain ⟨pre, p, k, h0, h1, h2, h3⟩ := h
  have e1 := h1.pos
  obtain ⟨a0, ha0⟩ : ∃ a, pre.length = a := ⟨_, rfl⟩
  rw [ha0] at e1
  have HS : Hid (B = pre ++ ys ∧ pre.length = a0 ∧ B.length ≤ 4096) := ⟨h0, ha0, h3⟩
  clear h0 h1 h2 h3 ha0
  go_enter Tryd.func39, Tryd.ntmps39
  go_wp2_with fail
  go_at_call 38
  refine (S0.word [45] (by decide) (by decide)).mono ?_
  rintro e w1 ⟨t1, y1, rfl, m1, S1⟩
  rw [minus_of m1] at S1
  clear S0 e1 m1
  obtain ⟨a, ha⟩ : ∃ a, minus ys = a := ⟨_, rfl⟩
  rw [ha] at S1
  go_wp2_with fail
  go_at_call 35
  refine (S1.is 48).mono ?_
  rintro e w2 ⟨rfl, S2⟩
  obtain ⟨Z, hZ⟩ : ∃ Z, [48].isPrefixOf a = Z := ⟨_, rfl⟩
  rw [hZ]
  go_wp2_with fail
  go_at_call 51
  refine S2.digits.mono ?_
  rintro e w3 ⟨rfl, S3⟩
  have hwh : wholeS a = (decide (nd a = 1) || (decide (1 < nd a) && !Z)) := by unfold wholeS; rw [hZ]; rfl
  have HA : Hid (minus ys = a ∧ wholeS a = (decide (nd a = 1) || (decide (1 < nd a) && !Z))) := ⟨ha, hwh⟩
  clear ha hZ hwh S1 S2
  go_upto_region 5 with fail
  go_cut [25] from 7 (fun s25 wc => s25 = .bool (!(wholeS a)) ∧ wc = w3)
  case first =>
    by_cases k0 : nd a = 0
    · have k0' : ((nd a : Int) == 0) = true := by simp [k0]
      go_wp2_with fail
      go_meet
      case rel => exact ⟨by rw [HA.out.2, k0]; simp, rfl⟩
    · have k0' : ((nd a : Int) == 0) = false := by simp; omega
      cases Z
      · go_wp2_with fail
        go_meet
        case rel =>
          refine ⟨?_, rfl⟩
          rw [HA.out.2]
          by_cases k1 : nd a = 1
          · simp [k1]
          · have k2 : 1 < nd a := by omega
            simp [k1, k2]
      · by_cases k1 : 1 < (nd a : Int)
        · go_wp2_with fail
          all_goals go_meet
          case rel =>
            refine ⟨?_, rfl⟩
            rw [HA.out.2]
            have : ¬ nd a = 1 := by omega
            simp [this]
        · have k1' : decide (1 < (nd a : Int)) = false := by simpa using k1
          go_wp2_with fail
          all_goals go_meet
          case rel =>
            refine ⟨?_, rfl⟩
            rw [HA.out.2]
            have : nd a = 1 := by omega
            simp [this]
  case rest =>
  obtain ⟨rfl, rfl⟩ := hcut
  obtain ⟨R, hR⟩ : ∃ R, wholeS a = R := ⟨_, rfl⟩
  rw [hR]
  have HB : Hid (minus ys = a ∧ wholeS a = R) := ⟨HA.out.1, hR⟩
  clear HA hR
  cases R
  · go_wp2_with fail
    go_ret2
    exact ⟨S3.but, .inr ⟨numS_no1 (by rw [HB.out.1]; exact HB.out.2), rfl, _, S3.dr⟩⟩
  go_upto_region 7 with fail
  go_cut [32] from 7 (fun s32 wc => ∃ t z1, s32 = .bool t ∧ Hid ((t = true ∧ (pointS (dg a) true).2 = false) ∨ (t = false ∧ pointS (dg a) true = (z1, true))) ∧ DN w wc g B z1 d nv code)
  case first =>
    go_wp2_with (first
      | (go_at_call 38; refine (S3.word [46] (by decide) (by decide)).mono ?_; rintro e w4 ⟨t4, y4, rfl, m4, S4⟩; cases t4)
      | (go_at_call 51; refine S4.digits.mono ?_; rintro e w5 ⟨rfl, S5⟩))
    all_goals go_meet
    · obtain ⟨h, _⟩ | ⟨_, m5, m6⟩ := m4
      · cases h
      · exact ⟨false, y4, rfl, .inr ⟨rfl, by unfold pointS; rw [show tk [46] (dg a) = none from m5, m6]⟩, S4⟩
    all_goals (
      obtain ⟨_, m5⟩ | ⟨h, _⟩ := m4
      · have hp : pointS (dg a) true = (dg y4, decide (0 < nd y4)) := by unfold pointS; rw [show tk [46] (dg a) = some y4 from m5]; show (dg y4, decide (0 < y4.length - (dg y4).length) && true) = _; rw [Bool.and_true]; rfl
        by_cases q : nd y4 = 0
        · exact ⟨true, dg y4, by simp [q], .inl ⟨rfl, by rw [hp]; simp [q]⟩, S5⟩
        · have q' : 0 < nd y4 := by omega
          exact ⟨false, dg y4, by simp; omega, .inr ⟨rfl, by rw [hp]; simp [q']⟩, S5⟩
      · cases h)
  case rest =>
  obtain ⟨t5, z1, rfl, H5, S5⟩ := hcut
  clear S3
  cases t5
  rotate_left
  · go_wp2_with fail
    go_ret2
    refine ⟨S5.but, .inr ⟨numS_no2 (by rw [HB.out.1]; exact HB.out.2) ?_, rfl, _, S5.dr⟩⟩
    rw [HB.out.1]
    rcases H5.out with ⟨_, h⟩ | ⟨h, _⟩
    · exact h
    · cases h
  have HP1 : Hid (pointS (dg a) true = (z1, true)) := by
    rcases H5.out with ⟨h, _⟩ | ⟨_, h⟩
    · cases h
    · exact h
  clear H5
  go_upto_region 9 with fail
  go_cut [38] from 7 (fun s38 wc => ∃ t y, s38 = .bool t ∧ Hid ((t = true ∧ (tk [101] z1).or (tk [69] z1) = some y) ∨ (t = false ∧ (tk [101] z1).or (tk [69] z1) = none ∧ y = z1)) ∧ DN w wc g B y d nv code)
  case first =>
    go_wp2_with (first
      | (go_at_call_of 38 (Value.string ⟨#[101]⟩); refine (S5.word [101] (by decide) (by decide)).mono ?_; rintro e w6 ⟨t6, y6, rfl, m6, S6⟩; cases t6)
      | (go_at_call_of 38 (Value.string ⟨#[69]⟩); refine (S6.word [69] (by decide) (by decide)).mono ?_; rintro e w7 ⟨t7, y7, rfl, m7, S7⟩))
    all_goals go_meet
    · obtain ⟨h, _⟩ | ⟨_, m8, rfl⟩ := m6
      · cases h
      · rcases m7 with ⟨rfl, m9⟩ | ⟨rfl, m9, rfl⟩
        · exact ⟨true, y7, rfl, .inl ⟨rfl, by rw [m8, m9]; rfl⟩, S7⟩
        · exact ⟨false, y7, rfl, .inr ⟨rfl, by rw [m8, m9]; rfl, rfl⟩, S7⟩
    · obtain ⟨_, m8⟩ | ⟨h, _⟩ := m6
      · exact ⟨true, y6, rfl, .inl ⟨rfl, by rw [m8]; rfl⟩, S6⟩
      · cases h
  case rest =>
  obtain ⟨t7, y7, rfl, H7, S7⟩ := hcut
  clear S5
  have HNU : Hid (∀ z r, powS z1 true = (z, r) → numS ys = if r then some (ys.take (ys.length - z.length), z) else none) := by
    intro z r hp
    have hN : numR ys = (z, r) := by
      unfold numR
      rw [HB.out.1]
      simp only
      rw [HB.out.2, HP1.out]
      exact hp
    unfold numS
    rw [hN]
  clear HB HP1
  go_upto_if 38 with fail
  go_cut [] from 7 (fun wc => ∃ z, Hid (powS z1 true = (z, true)) ∧ DN w wc g B z d nv code)
  case first =>
    cases t7
    · go_wp2_with fail
      go_meet
      case rel =>
        rcases H7.out with ⟨h, _⟩ | ⟨_, h5, rfl⟩
        · cases h
        · exact ⟨y7, by show powS _ _ = _; unfold powS; rw [h5], S7⟩
    · have h5 : (tk [101] z1).or (tk [69] z1) = some y7 := by
        rcases H7.out with ⟨_, h⟩ | ⟨h, _⟩
        · exact h
        · cases h
      have HP7 : Hid (powS z1 true = (dg (plus y7), decide (0 < nd (plus y7)))) := by
        show powS _ _ = _
        unfold powS
        rw [h5]
        show (dg (plus y7), decide (0 < (plus y7).length - (dg (plus y7)).length) && true) = _
        rw [Bool.and_true]
        rfl
      clear h5 H7
      go_upto_if 41 with (go_at_call_of 38 (Value.string ⟨#[43]⟩); refine (S7.word [43] (by decide) (by decide)).mono ?_; rintro e w8 ⟨t8, y8, rfl, m8, S8⟩)
      go_cut [] from 7 (fun wc => DN w wc g B (plus y7) d nv code)
      case first =>
        cases t8
        · go_wp2_with (go_at_call_of 38 (Value.string ⟨#[45]⟩); refine (S8.word [45] (by decide) (by decide)).mono ?_; rintro e w9 ⟨t9, y9, rfl, m9, S9⟩)
          go_meet
          case rel =>
            rcases m8 with ⟨h, _⟩ | ⟨_, h5, rfl⟩
            · cases h
            · rw [minus_of m9] at S9
              unfold plus
              rw [h5]
              exact S9
        · go_wp2_with fail
          go_meet
          case rel =>
            rcases m8 with ⟨_, h5⟩ | ⟨h, _⟩
            · unfold plus
              rw [h5]
              exact S8
            · cases h
      case rest =>
        clear S8 S7 m8
        by_cases q : nd (plus y7) = 0
        · have q' : ((nd (plus y7) : Int) == 0) = true := by simp [q]
          go_wp2_with (go_at_call 51; refine hcut.digits.mono ?_; rintro e w5 ⟨rfl, S9⟩)
          go_ret2
          refine ⟨S9.but, .inr ⟨?_, rfl, _, S9.dr⟩⟩
          rw [HNU.out _ _ HP7.out, q]
          rfl
        · have q' : ((nd (plus y7) : Int) == 0) = false := by simp; omega
          have q2 : 0 < nd (plus y7) := by omega
          go_wp2_with (go_at_call 51; refine hcut.digits.mono ?_; rintro e w5 ⟨rfl, S9⟩)
          go_meet
          case rel => exact ⟨_, by show powS _ _ = _; rw [HP7.out]; simp [q2], S9⟩
  case rest =>
  obtain ⟨z2, HP2, S9⟩ := hcut
  clear S7 H7
  obtain ⟨bb, pre2, p2, k2, g0, g1, g2, g3⟩ := S9
  have c0 := g1.b
  have c1 := g1.pos
  obtain ⟨n, hn⟩ : ∃ n, B.length = n := ⟨_, rfl⟩
  obtain ⟨a1, ha1⟩ : ∃ a, pre2.length = a := ⟨_, rfl⟩
  rw [hn] at c0
  rw [ha1] at c1
  have hlt : z2.length < ys.length := by
    have := HNU.out _ _ HP2.out
    rw [if_pos rfl] at this
    exact numS_lt this
  obtain ⟨i0, i1, i2⟩ := HS.out
  have q0 : n = a0 + ys.length := by rw [← hn, i0, List.length_append, i1]
  have q1 : n = a1 + z2.length := by rw [← hn, g0, List.length_append, ha1]
  have q2 : n ≤ k2 := by rw [← hn]; exact g2.cap
  obtain ⟨b, off, rfl, hbg⟩ : ∃ b off, p2 = some ⟨b, off, none⟩ ∧ b < g := by
    cases ys with
    | nil => simp at hlt
    | cons c xs => obtain ⟨b, off, e, hb, _⟩ := bytes_at g2 i0; exact ⟨b, off, e, hb⟩
  have hcv := fun nq => conv_mid (w := wc.drewN nq) (g2.keep (fun j _ => rfl)) i0 (ys.length - z2.length) (by omega) (k2 - a0)
  rw [i1] at hcv
  have hs1 : (a0 : Int) ≤ (a1 : Int) := by omega
  have hs2 : (a1 : Int) ≤ (k2 : Int) := by omega
  have hs3 : (0 : Int) ≤ (a0 : Int) := by omega
  have hs4 : ys.length - z2.length = a1 - a0 := by omega
  have hs5 : ¬ k2 = a0 := by omega
  have HF : Hid (numS ys = some (ys.take (ys.length - z2.length), z2) ∧ Dr wc g B z2 d nv code) := ⟨by
    have := HNU.out _ _ HP2.out
    rw [if_pos rfl] at this
    exact this, pre2, _, k2, g0, g1, g2, g3⟩
  rw [hs4] at hcv HF
  clear g0 g1 g2 g3 ha1 hn hlt i0 i1 i2 q0 q1 HNU HP2 HS hs4
  go_wp2_with fail
  go_quiet (fail)
  go_wp2_with fail
  go_ret2
  exact ⟨bb.trans (But.ofBelow (below_drewN _ _)), .inl ⟨_, _, HF.out.1, rfl, HF.out.2.below (below_drewN _ _)⟩⟩
end Go.Proofs.YtbobgebhdafciabDoor
