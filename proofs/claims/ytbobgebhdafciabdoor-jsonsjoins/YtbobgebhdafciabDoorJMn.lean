/-
  The reader's numbers, whole.
-/
import Derived.Test.YtbobgebhdafciabDoorJM
namespace Go.Proofs.YtbobgebhdafciabDoor
open Go.Shelf Go.RowKit
set_option linter.unusedVariables false
set_option linter.unusedSimpArgs false

set_option maxRecDepth 100000 in
set_option maxHeartbeats 8000000 in
/-- number. -/
theorem number_any (g : Nat) (bs : Bs) (nv : Value) (o : Nat) (w : World) (h : Rd w g bs nv o) :
    Calls Tryd.prog 30 #[.pointer (some ⟨g, 0, none⟩)] w fun e w' => But g w w' ∧ ((∃ (s ys : Bs), numS bs = some (s, ys) ∧ e = .returned (.tuple #[.string ⟨s.toArray⟩, .bool true]) ∧ Rd w' g ys nv o) ∨ (numS bs = none ∧ (∃ s, e = .returned (.tuple #[.string s, .bool false])) ∧ ∃ ys, Rd w' g ys nv o)) := by
  have hmf : ∀ (fn : Fn) (first cap : Array Value) (w : World), (Instr.makeFunc fn first cap).run Tryd.prog w = .ok (.func fn first cap) w := fun _ _ _ _ => rfl
  have hg := h.lt
  obtain ⟨rb, hrb⟩ : ∃ rb, w.heap.size = rb := ⟨_, rfl⟩
  have hrg : g < rb := by omega
  obtain ⟨W, hW⟩ : ∃ W, (w.alloc (.cells #[.pointer (some ⟨g, 0, none⟩)] 48)) = W := ⟨_, rfl⟩
  have hB : Below w.heap.size w W := by rw [← hW]; exact ((Below.refl _ _).alloc (Nat.le_refl _) _)
  have hx1 : Bx W rb 48 (.pointer (some ⟨g, 0, none⟩)) := by
    unfold Bx
    rw [← hW, ← hrb]
    exact alloc_new _ _
  have hR : Rd W g bs nv o := h.below hB
  have hR' := hR
  obtain ⟨p, c, h1, h2⟩ := hR'
  obtain ⟨n, hn⟩ : ∃ n, bs.length = n := ⟨_, rfl⟩
  have S0 : NumSt w W g rb n p c bs bs nv o := ⟨But.ofBelow hB, hR, hx1, by omega, h2, hn⟩
  have er0 := hx1.cell
  have e0 := h1.rest
  rw [hn] at e0
  have hnb : n ≤ 9223372036854775807 := by rw [← hn]; exact Nat.le_trans h2.cap h2.big
  have hnc : n ≤ c := by rw [← hn]; exact h2.cap
  have HM := numTake ⟨#[45]⟩ S0 hrg
  clear hB hx1 h h2 h1 hR S0
  go_enter Tryd.func30, Tryd.ntmps30
  go_wp2_with fail
  go_at_call 15
  refine HM.mono ?_
  clear HM
  intro e w1 hM
  obtain ⟨t1, rfl, S1⟩ : ∃ t, e = .returned (.bool t) ∧ NumSt w w1 g rb n p c bs (minus bs) nv o := by
    rcases hM with ⟨ys, h1, rfl, h3⟩ | ⟨h1, rfl, h3⟩
    · exact ⟨true, rfl, by unfold minus; rw [show tk [45] bs = some ys from h1.out]; exact h3⟩
    · exact ⟨false, rfl, by unfold minus; rw [show tk [45] bs = none from h1.out]; exact h3⟩
  clear hM er0 e0 hW
  obtain ⟨a, ha⟩ : ∃ a, minus bs = a := ⟨_, rfl⟩
  rw [ha] at S1
  obtain ⟨q1, m1, k1, e1, er1, l1, y1, z1⟩ := S1.facts
  have HP := numHas S1 hrg q1 m1 k1 e1
  have hcl := conv_lit #[.int .u8 48] 1 rfl w1
  obtain ⟨Z, hZ⟩ : ∃ Z, [48].isPrefixOf a = Z := ⟨_, rfl⟩
  rw [hZ] at HP
  have HA : Hid (minus bs = a ∧ [48].isPrefixOf a = Z ∧ bs.length = n) := ⟨ha, hZ, hn⟩
  clear ha hZ hn z1 S1 y1 l1
  go_wp2_with (go_at_call 29; refine HP.mono ?_; clear HP; rintro e w2 ⟨rfl, S2⟩; obtain ⟨q2, m2, k2, e2, er2, l2, y2, z2⟩ := S2.facts; clear e1 er1)
  go_at_call 45
  refine (numDig S2 hrg).mono ?_
  rintro e w3 ⟨rfl, S3⟩
  obtain ⟨q3, m3, k3, e3, er3, l3, y3, z3⟩ := S3.facts
  clear S2 e2 er2 l2 y2 z2
  have HW : Hid (wholeS a = (((nd a : Int) == 1) || (decide (1 < (nd a : Int)) && !Z))) := by
    show wholeS a = _
    unfold wholeS
    rw [HA.out.2.1, show a.length - (dg a).length = nd a from rfl]
    congr 1
    · by_cases h : nd a = 1
      · simp [h]
      · have : ¬ ((nd a : Int) = 1) := by omega
        simp [h, this]
    · congr 1
      by_cases h : 1 < nd a
      · have : 1 < (nd a : Int) := by omega
        simp [h, this]
      · have : ¬ 1 < (nd a : Int) := by omega
        simp [h, this]
  go_upto_region 6 with fail
  go_cut [8] from 9 (fun s8 wc => s8 = .bool (wholeS a) ∧ wc = w3)
  case first =>
    by_cases k1 : (nd a : Int) = 1
    · have k1' : ((nd a : Int) == 1) = true := by simpa using k1
      go_wp2_with fail
      go_meet
      case rel => exact ⟨by rw [HW.out, k1']; rfl, rfl⟩
    · have k1' : ((nd a : Int) == 1) = false := by simpa using k1
      by_cases k2 : 1 < (nd a : Int)
      · go_wp2_with fail
        all_goals go_meet
        case rel => exact ⟨by rw [HW.out, k1']; simp [k2], rfl⟩
      · have k2' : decide (1 < (nd a : Int)) = false := by simpa using k2
        go_wp2_with fail
        all_goals go_meet
        case rel => exact ⟨by rw [HW.out, k1', k2']; rfl, rfl⟩
  case rest =>
  obtain ⟨rfl, rfl⟩ := hcut
  clear HW
  go_upto_if 36 with (go_at_call 15; refine (numTake2 ⟨#[46]⟩ S3 hrg).mono ?_; rintro e w4 ⟨t4, y4, rfl, h4, S4⟩; obtain ⟨q4, m4, k4, e4, er4, l4, u4, z4⟩ := S4.facts)
  go_cut [8] from 9 (fun s8 wc => ∃ R zs, s8 = .bool R ∧ Hid (pointS (dg a) (wholeS a) = (zs, R)) ∧ NumSt w wc g rb n p c bs zs nv o)
  case first =>
    cases t4
    · go_wp2_with fail
      go_meet
      case rel =>
        rcases h4 with ⟨h, _⟩ | ⟨_, h5, rfl⟩
        · cases h
        · refine ⟨wholeS a, dg a, rfl, ?_, S4⟩
          show pointS _ _ = _
          unfold pointS
          rw [show tk [46] (dg a) = none from h5]
    · go_wp2_with (go_at_call 45; refine (numDig S4 hrg).mono ?_; rintro e w5 ⟨rfl, S5⟩)
      all_goals go_meet
      all_goals (
        rcases h4 with ⟨_, h5⟩ | ⟨h, _⟩
        · refine ⟨_, dg y4, rfl, ?_, S5⟩
          show pointS _ _ = _
          unfold pointS
          rw [show tk [46] (dg a) = some y4 from h5]
          simp only [show y4.length - (dg y4).length = nd y4 from rfl]
          congr 1
          by_cases h : 0 < nd y4 <;> first | (exfalso; omega) | simp [h]
        · cases h)
  case rest =>
  obtain ⟨R, z1, rfl, HP1, S6⟩ := hcut
  clear S3 e3 er3 l3 y3 z3 S4 e4 er4 l4 u4 z4 h4
  obtain ⟨q6, m6, k6, e6, er6, l6, u6, z6⟩ := S6.facts
  go_upto_region 9 with fail
  go_cut [48] from 9 (fun s48 wc => ∃ t ys, s48 = .bool t ∧ Hid ((t = true ∧ (tk [101] z1).or (tk [69] z1) = some ys) ∨ (t = false ∧ (tk [101] z1).or (tk [69] z1) = none ∧ ys = z1)) ∧ NumSt w wc g rb n p c bs ys nv o)
  case first =>
    go_wp2_with (first
      | (go_at_call_of 15 (Value.string ⟨#[101]⟩); refine (numTake ⟨#[101]⟩ S6 hrg).mono ?_; (rintro e w7 (⟨y7, h7, rfl, S7⟩ | ⟨h7, rfl, S7⟩) <;> (obtain ⟨q7, m7, k7, e7, er7, l7, u7, z7⟩ := S7.facts)))
      | (go_at_call_of 15 (Value.string ⟨#[69]⟩); refine (numTake ⟨#[69]⟩ S7 hrg).mono ?_; rintro e w8 (⟨y8, h8, rfl, S8⟩ | ⟨h8, rfl, S8⟩)))
    all_goals go_meet
    · exact ⟨true, y7, rfl, .inl ⟨rfl, by rw [show tk [101] z1 = some y7 from h7.out]; rfl⟩, S7⟩
    · exact ⟨true, y8, rfl, .inl ⟨rfl, by rw [show tk [101] z1 = none from h7.out, show tk [69] z1 = some y8 from h8.out]; rfl⟩, S8⟩
    · exact ⟨false, z1, rfl, .inr ⟨rfl, by rw [show tk [101] z1 = none from h7.out, show tk [69] z1 = none from h8.out]; rfl, rfl⟩, S8⟩
  case rest =>
  obtain ⟨t7, y7, rfl, H7, S7⟩ := hcut
  clear S6 e6 er6 l6 u6 z6
  obtain ⟨q7, m7, k7, e7, er7, l7, u7, z7⟩ := S7.facts
  go_upto_if 48 with fail
  go_cut [8] from 9 (fun s8 wc => ∃ R' zs, s8 = .bool R' ∧ Hid (powS z1 R = (zs, R')) ∧ NumSt w wc g rb n p c bs zs nv o)
  case first =>
    cases t7
    · go_wp2_with fail
      go_meet
      case rel =>
        rcases H7.out with ⟨h, _⟩ | ⟨_, h5, rfl⟩
        · cases h
        · refine ⟨R, y7, rfl, ?_, S7⟩
          show powS _ _ = _
          unfold powS
          rw [h5]
    · have h5 : (tk [101] z1).or (tk [69] z1) = some y7 := by
        rcases H7.out with ⟨_, h⟩ | ⟨h, _⟩
        · exact h
        · cases h
      have HP7 : Hid (∀ R', R' = (decide (0 < nd (plus y7)) && R) → powS z1 R = (dg (plus y7), R')) := by
        intro R' hR'
        unfold powS
        rw [h5]
        simp only [show (plus y7).length - (dg (plus y7)).length = nd (plus y7) from rfl, hR']
      clear h5 H7
      go_upto_if 51 with (go_at_call_of 15 (Value.string ⟨#[43]⟩); refine (numTake2 ⟨#[43]⟩ S7 hrg).mono ?_; rintro e w8 ⟨t8, y8, rfl, h8, S8⟩; obtain ⟨q8, m8, k8, e8, er8, l8, u8, z8⟩ := S8.facts)
      go_cut [] from 9 (fun wc => NumSt w wc g rb n p c bs (plus y7) nv o)
      case first =>
        cases t8
        · go_wp2_with (go_at_call_of 15 (Value.string ⟨#[45]⟩); refine (numTake2 ⟨#[45]⟩ S8 hrg).mono ?_; rintro e w9 ⟨t9, y9, rfl, h9, S9⟩)
          go_meet
          case rel =>
            rcases h8 with ⟨h, _⟩ | ⟨_, h5, rfl⟩
            · cases h
            · unfold plus
              rw [show tk [43] y8 = none from h5]
              unfold minus
              rcases h9 with ⟨_, h6⟩ | ⟨_, h6, rfl⟩
              · rw [show tk [45] y8 = some y9 from h6]; exact S9
              · rw [show tk [45] y9 = none from h6]; exact S9
        · go_wp2_with fail
          go_meet
          case rel =>
            rcases h8 with ⟨_, h5⟩ | ⟨h, _⟩
            · unfold plus
              rw [show tk [43] y7 = some y8 from h5]
              exact S8
            · cases h
      case rest =>
        clear S8 e8 er8 l8 u8 z8 h8 S7 e7 er7 l7 u7 z7
        go_wp2_with (go_at_call 45; refine (numDig hcut hrg).mono ?_; rintro e w5 ⟨rfl, S9⟩)
        all_goals go_meet
        all_goals exact ⟨_, _, rfl, HP7.out _ (by by_cases h : 0 < nd (plus y7) <;> first | (exfalso; omega) | simp [h]), S9⟩
  case rest =>
  obtain ⟨R2, z2, rfl, HP2, S9⟩ := hcut
  clear S7 e7 er7 l7 u7 z7 H7
  obtain ⟨q9, m9, k9, e9, er9, l9, u9, z9⟩ := S9.facts
  have HN : Hid (numR bs = (z2, R2)) := by
    show numR bs = _
    unfold numR
    rw [HA.out.1]
    simp only
    rw [HP1.out]
    exact HP2.out
  clear HP1 HP2
  go_wp2_with fail
  go_ret2
  refine ⟨S9.but, ?_⟩
  cases R2
  · exact .inr ⟨by unfold numS; rw [HN.out]; rfl, ⟨_, rfl⟩, z2, S9.rd⟩
  · refine .inl ⟨bs.take (n - m9), z2, ?_, rfl, S9.rd⟩
    unfold numS
    rw [HN.out, HA.out.2.2, u9.out]
    rfl
end Go.Proofs.YtbobgebhdafciabDoor
