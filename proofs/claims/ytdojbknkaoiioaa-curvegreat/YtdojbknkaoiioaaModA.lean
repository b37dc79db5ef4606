/-
  Contracts of modular.Of, Add, Mul, Sub.
-/
import Derived.Test.YtdojbknkaoiioaaDivA
import Derived.Test.YtdojbknkaoiioaaModM
namespace Go.Proofs.Ytdojbknkaoiioaa
open Go.RowKit
set_option linter.unusedVariables false
set_option linter.unusedSimpArgs false

/-- A number that is no greater has no more digits. -/
theorem len_fit {B : Int} (hB : 1 < B) {xs ys : List Int} (hx : Dg B xs) (cx : Canon xs) (hy : Dg B ys) (h : val B xs ≤ val B ys) : xs.length ≤ ys.length := by
  have h1 := top_mono hB hx hy h
  have h2 := top_le ys
  unfold Canon at cx
  omega
theorem NumOut.fit {k : IntKind} {B : Int} {w w' : World} {v : Value} {n : Int} {L : Nat} (h : NumOut k B w w' v n L) (hB : 1 < B) {ys : List Int} (hy : Dg B ys) (hn : n ≤ val B ys) : NumOut k B w w' v n ys.length := by
  obtain ⟨ao, len, cap, xs, rfl, h1, h2, h3, h4, h5⟩ := h
  exact ⟨ao, len, cap, xs, rfl, h1, h2, h3, by rw [← h1.len]; exact len_fit hB h1.dg h2 hy (by omega), h5⟩
theorem NumOut.from {k : IntKind} {B : Int} {w0 w w' : World} {v : Value} {n : Int} {L : Nat} (h : NumOut k B w w' v n L) (hb : Below w0.heap.size w0 w) : NumOut k B w0 w' v n L := by
  obtain ⟨ao, len, cap, xs, rfl, h1, h2, h3, h4, h5⟩ := h
  exact ⟨ao, len, cap, xs, rfl, h1, h2, h3, h4, hb.trans (h5.mono hb.size)⟩
theorem mod_range (x m : Int) (hm : 0 ≤ m) (h0 : m ≠ 0) : 0 ≤ x % m ∧ x % m < m := ⟨Int.emod_nonneg x h0, Int.emod_lt_of_pos x (by omega)⟩

set_option maxHeartbeats 400000 in
/-- modular.Of. -/
theorem mOf_any (ao mo : Option Addr) (la ca lm cm : Nat) (xs ms : List Int) (w : World) (h : NumIn .u64 B64 w ao la ca xs) (h' : NumIn .u64 B64 w mo lm cm ms) (h0 : val B64 ms ≠ 0) (hsm : la + lm < 1073740000) :
    Calls Try.prog 92 #[.slice ao la ca, .slice mo lm cm] w fun e w' => ∃ v, e = .returned (.tuple #[v, .int .i64 0]) ∧ NumOut .u64 B64 w w' v (val B64 xs % val B64 ms) lm := by
  have HD := Div_any ao mo la ca lm cm xs ms w h h' h0 hsm
  have hr := mod_range (val B64 xs) (val B64 ms) (val_nonneg B64_pos h'.dg) h0
  have HR : Hid (val B64 xs % val B64 ms ≤ val B64 ms ∧ Dg B64 ms ∧ ms.length = lm) := ⟨by omega, h'.dg, h'.len⟩
  clear h h' hr
  go_enter Try.func92, Try.ntmps92
  go_wp2_with fail
  refine HD.mono ?_
  rintro e w' ⟨q, r, rfl, hq, hr⟩
  have hr2 := hr.fit B64_one HR.out.2.1 HR.out.1
  rw [HR.out.2.2] at hr2
  obtain ⟨aq, lq, cq, xq, rfl, _, _, _, _, _⟩ := hq
  obtain ⟨ar, lr, cr, xr, rfl, n1, n2, n3, n4, n5⟩ := hr2
  have HN : Hid (NumOut .u64 B64 w w' (.slice ar lr cr) (val B64 xs % val B64 ms) lm) := ⟨ar, lr, cr, xr, rfl, n1, n2, n3, n4, n5⟩
  clear hr n1 n2 n3 n4 n5 HR HD
  go_wp2
  go_ret2
  exact ⟨_, rfl, HN.out⟩

set_option maxHeartbeats 400000 in
/-- modular.Of: of a modulus of 0. -/
theorem mOf_zero (ao mo : Option Addr) (la ca lm cm : Nat) (xs ms : List Int) (w : World) (h : NumIn .u64 B64 w ao la ca xs) (h' : NumIn .u64 B64 w mo lm cm ms) (h0 : val B64 ms = 0) :
    Calls Try.prog 92 #[.slice ao la ca, .slice mo lm cm] w fun e w' => e = .returned (.tuple #[.slice none 0 0, .int .i64 4]) ∧ w' = w := by
  have HD := Div_zero ao mo la ca lm cm xs ms w h h' h0
  clear h h' h0
  go_enter Try.func92, Try.ntmps92
  go_wp2_with fail
  refine HD.mono ?_
  rintro e w' ⟨rfl, rfl⟩
  go_wp2
  go_ret2
  exact ⟨rfl, rfl⟩

set_option maxHeartbeats 400000 in
/-- modular.Add. -/
theorem mAdd_any (ao bo mo : Option Addr) (la ca lb cb lm cm : Nat) (xs ys ms : List Int) (w : World) (h : NumIn .u64 B64 w ao la ca xs) (hb : NumIn .u64 B64 w bo lb cb ys) (h' : NumIn .u64 B64 w mo lm cm ms) (h0 : val B64 ms ≠ 0) (hsm : la + lb + lm < 1073730000) :
    Calls Try.prog 89 #[.slice ao la ca, .slice bo lb cb, .slice mo lm cm] w fun e w' => ∃ v, e = .returned (.tuple #[v, .int .i64 0]) ∧ NumOut .u64 B64 w w' v ((val B64 xs + val B64 ys) % val B64 ms) lm := by
  have HA := Add_any ao bo la ca lb cb xs ys w h hb (by omega)
  have HM : Hid (NumIn .u64 B64 w mo lm cm ms) := h'
  clear h hb h'
  go_enter Try.func89, Try.ntmps89
  go_wp2_with fail
  refine HA.mono ?_
  rintro e w1 ⟨v, rfl, a1, l1, c1, zs, rfl, n1, n2, n3, n4, n5⟩
  have HO := mOf_any a1 mo l1 c1 lm cm zs ms w1 n1 (HM.out.old n5) h0 (by omega)
  rw [n3] at HO
  have HB : Hid (Below w.heap.size w w1) := n5
  clear n1 n2 n3 n4 n5 HM HA
  go_wp2_with fail
  refine HO.mono ?_
  rintro e w2 ⟨v, rfl, hv⟩
  have HV : Hid (NumOut .u64 B64 w w2 v ((val B64 xs + val B64 ys) % val B64 ms) lm) := hv.from HB.out
  clear hv HB HO
  go_wp2
  go_ret2
  exact ⟨_, rfl, HV.out⟩

set_option maxHeartbeats 400000 in
/-- modular.Add: of a modulus of 0. -/
theorem mAdd_zero (ao bo mo : Option Addr) (la ca lb cb lm cm : Nat) (xs ys ms : List Int) (w : World) (h : NumIn .u64 B64 w ao la ca xs) (hb : NumIn .u64 B64 w bo lb cb ys) (h' : NumIn .u64 B64 w mo lm cm ms) (h0 : val B64 ms = 0) (hsm : la + lb + lm < 1073730000) :
    Calls Try.prog 89 #[.slice ao la ca, .slice bo lb cb, .slice mo lm cm] w fun e w' => e = .returned (.tuple #[.slice none 0 0, .int .i64 4]) ∧ Below w.heap.size w w' := by
  have HA := Add_any ao bo la ca lb cb xs ys w h hb (by omega)
  have HM : Hid (NumIn .u64 B64 w mo lm cm ms) := h'
  clear h hb h'
  go_enter Try.func89, Try.ntmps89
  go_wp2_with fail
  refine HA.mono ?_
  rintro e w1 ⟨v, rfl, a1, l1, c1, zs, rfl, n1, n2, n3, n4, n5⟩
  have HO := mOf_zero a1 mo l1 c1 lm cm zs ms w1 n1 (HM.out.old n5) h0
  have HB : Hid (Below w.heap.size w w1) := n5
  clear n1 n2 n3 n4 n5 HM HA h0
  go_wp2_with fail
  refine HO.mono ?_
  rintro e w2 ⟨rfl, rfl⟩
  go_wp2
  go_ret2
  exact ⟨rfl, HB.out⟩

set_option maxHeartbeats 400000 in
/-- modular.Mul. -/
theorem mMul_any (ao bo mo : Option Addr) (la ca lb cb lm cm : Nat) (xs ys ms : List Int) (w : World) (h : NumIn .u64 B64 w ao la ca xs) (hb : NumIn .u64 B64 w bo lb cb ys) (h' : NumIn .u64 B64 w mo lm cm ms) (h0 : val B64 ms ≠ 0) (hsm : la + lb + lm < 1073730000) :
    Calls Try.prog 81 #[.slice ao la ca, .slice bo lb cb, .slice mo lm cm] w fun e w' => ∃ v, e = .returned (.tuple #[v, .int .i64 0]) ∧ NumOut .u64 B64 w w' v ((val B64 xs * val B64 ys) % val B64 ms) lm := by
  have HA := Mul_any ao bo la ca lb cb xs ys w h hb (by omega)
  have HM : Hid (NumIn .u64 B64 w mo lm cm ms) := h'
  clear h hb h'
  go_enter Try.func81, Try.ntmps81
  go_wp2_with fail
  refine HA.mono ?_
  rintro e w1 ⟨v, rfl, a1, l1, c1, zs, rfl, n1, n2, n3, n4, n5⟩
  have HO := mOf_any a1 mo l1 c1 lm cm zs ms w1 n1 (HM.out.old n5) h0 (by omega)
  rw [n3] at HO
  have HB : Hid (Below w.heap.size w w1) := n5
  clear n1 n2 n3 n4 n5 HM HA
  go_wp2_with fail
  refine HO.mono ?_
  rintro e w2 ⟨v, rfl, hv⟩
  have HV : Hid (NumOut .u64 B64 w w2 v ((val B64 xs * val B64 ys) % val B64 ms) lm) := hv.from HB.out
  clear hv HB HO
  go_wp2
  go_ret2
  exact ⟨_, rfl, HV.out⟩

set_option maxHeartbeats 400000 in
/-- modular.Mul: of a modulus of 0. -/
theorem mMul_zero (ao bo mo : Option Addr) (la ca lb cb lm cm : Nat) (xs ys ms : List Int) (w : World) (h : NumIn .u64 B64 w ao la ca xs) (hb : NumIn .u64 B64 w bo lb cb ys) (h' : NumIn .u64 B64 w mo lm cm ms) (h0 : val B64 ms = 0) (hsm : la + lb + lm < 1073730000) :
    Calls Try.prog 81 #[.slice ao la ca, .slice bo lb cb, .slice mo lm cm] w fun e w' => e = .returned (.tuple #[.slice none 0 0, .int .i64 4]) ∧ Below w.heap.size w w' := by
  have HA := Mul_any ao bo la ca lb cb xs ys w h hb (by omega)
  have HM : Hid (NumIn .u64 B64 w mo lm cm ms) := h'
  clear h hb h'
  go_enter Try.func81, Try.ntmps81
  go_wp2_with fail
  refine HA.mono ?_
  rintro e w1 ⟨v, rfl, a1, l1, c1, zs, rfl, n1, n2, n3, n4, n5⟩
  have HO := mOf_zero a1 mo l1 c1 lm cm zs ms w1 n1 (HM.out.old n5) h0
  have HB : Hid (Below w.heap.size w w1) := n5
  clear n1 n2 n3 n4 n5 HM HA h0
  go_wp2_with fail
  refine HO.mono ?_
  rintro e w2 ⟨rfl, rfl⟩
  go_wp2
  go_ret2
  exact ⟨rfl, HB.out⟩

theorem sub_mod (a b m : Int) (h0 : 0 < m) : (a % m < b % m → a % m + m - b % m = (a - b) % m) ∧ (b % m ≤ a % m → a % m - b % m = (a - b) % m) := by
  have ra := mod_range a m (by omega) (by omega)
  have rb := mod_range b m (by omega) (by omega)
  have rc := mod_range (a - b) m (by omega) (by omega)
  have h1 : Cg m (a % m - b % m) ((a - b) % m) := ((Cg.mod m a).sub (Cg.mod m b)).trans (Cg.mod m (a - b)).symm
  refine ⟨fun hl => ?_, fun hl => ?_⟩
  · refine Cg.eq (M := m) ?_ (by omega) (by omega) rc.1 rc.2
    exact (show Cg m (a % m + m - b % m) (a % m - b % m) from ⟨1, by omega⟩).trans h1
  · exact h1.eq (by omega) (by omega) rc.1 rc.2

set_option maxHeartbeats 1000000 in
/-- modular.Sub. -/
theorem mSub_any (ao bo mo : Option Addr) (la ca lb cb lm cm : Nat) (xs ys ms : List Int) (w : World) (h : NumIn .u64 B64 w ao la ca xs) (hb : NumIn .u64 B64 w bo lb cb ys) (h' : NumIn .u64 B64 w mo lm cm ms) (h0 : val B64 ms ≠ 0) (hsm : la + lb + lm < 500000000) :
    Calls Try.prog 91 #[.slice ao la ca, .slice bo lb cb, .slice mo lm cm] w fun e w' => ∃ v, e = .returned (.tuple #[v, .int .i64 0]) ∧ NumOut .u64 B64 w w' v ((val B64 xs - val B64 ys) % val B64 ms) lm := by
  have hM := val_nonneg B64_pos h'.dg
  have HO := mOf_any ao mo la ca lm cm xs ms w h h' h0 (by omega)
  have HS := sub_mod (val B64 xs) (val B64 ys) (val B64 ms) (by omega)
  have HFIT : Hid ((val B64 xs - val B64 ys) % val B64 ms ≤ val B64 ms ∧ Dg B64 ms ∧ ms.length = lm) := ⟨by have := mod_range (val B64 xs - val B64 ys) (val B64 ms) hM h0; omega, h'.dg, h'.len⟩
  have HSM : Hid (la + lb + lm < 500000000) := hsm
  have HB : Hid (NumIn .u64 B64 w bo lb cb ys) := hb
  have HM : Hid (NumIn .u64 B64 w mo lm cm ms) := h'
  have HZ : Hid (val B64 ms ≠ 0) := h0
  clear h hb h' hM h0 hsm
  by_cases hlt : val B64 xs % val B64 ms < val B64 ys % val B64 ms
  · have HE : Hid (val B64 xs % val B64 ms + val B64 ms - val B64 ys % val B64 ms = (val B64 xs - val B64 ys) % val B64 ms) := HS.1 hlt
    have HCM : Hid (cmpI (val B64 xs % val B64 ms) (val B64 ys % val B64 ms) = -1) := cmpI_lt hlt
    have HLE : Hid (val B64 ys % val B64 ms ≤ val B64 xs % val B64 ms + val B64 ms) := by
      unfold Hid
      have hM := val_nonneg B64_pos HM.out.dg
      have a := mod_range (val B64 xs) _ hM HZ.out
      have b := mod_range (val B64 ys) _ hM HZ.out
      omega
    clear HS hlt
    go_enter Try.func91, Try.ntmps91
    go_wp2_with fail
    refine HO.mono ?_
    rintro e w1 ⟨v, rfl, a1, l1, c1, zs, rfl, n1, n2, n3, n4, n5⟩
    have HO2 := mOf_any bo mo lb cb lm cm ys ms w1 (HB.out.old n5) (HM.out.old n5) HZ.out (by have := HSM.out; omega)
    replace HM : Hid (NumIn .u64 B64 w1 mo lm cm ms) := HM.out.old n5
    have NX : Hid (NumIn .u64 B64 w1 a1 l1 c1 zs ∧ val B64 zs = val B64 xs % val B64 ms ∧ l1 ≤ lm) := ⟨n1, n3, n4⟩
    have BW : Hid (Below w.heap.size w w1) := n5
    clear n1 n2 n3 n4 n5 HB HO
    go_wp2_with fail
    refine HO2.mono ?_
    rintro e w2 ⟨v, rfl, a2, l2, c2, us, rfl, n1, n2, n3, n4, n5⟩
    replace HM : Hid (NumIn .u64 B64 w2 mo lm cm ms) := HM.out.old n5
    replace NX : Hid (NumIn .u64 B64 w2 a1 l1 c1 zs ∧ val B64 zs = val B64 xs % val B64 ms ∧ l1 ≤ lm) := ⟨NX.out.1.old n5, NX.out.2⟩
    have NY : Hid (NumIn .u64 B64 w2 a2 l2 c2 us ∧ val B64 us = val B64 ys % val B64 ms ∧ l2 ≤ lm) := ⟨n1, n3, n4⟩
    replace BW : Hid (Below w.heap.size w w2) := BW.out.trans (n5.mono BW.out.size)
    have HC := Cmp_any a1 a2 l1 c1 l2 c2 zs us w2 NX.out.1 NY.out.1
    rw [NX.out.2.1, NY.out.2.1, HCM.out] at HC
    clear n1 n2 n3 n4 n5 HO2
    go_wp2_with fail
    refine HC.mono ?_
    rintro e w3 ⟨rfl, hd⟩
    have n5 := hd.below w2.heap.size
    replace HM : Hid (NumIn .u64 B64 w3 mo lm cm ms) := HM.out.old n5
    replace NX : Hid (NumIn .u64 B64 w3 a1 l1 c1 zs ∧ val B64 zs = val B64 xs % val B64 ms ∧ l1 ≤ lm) := ⟨NX.out.1.old n5, NX.out.2⟩
    replace NY : Hid (NumIn .u64 B64 w3 a2 l2 c2 us ∧ val B64 us = val B64 ys % val B64 ms ∧ l2 ≤ lm) := ⟨NY.out.1.old n5, NY.out.2⟩
    replace BW : Hid (Below w.heap.size w w3) := BW.out.trans (n5.mono BW.out.size)
    have HA := Add_any a1 mo l1 c1 lm cm zs ms w3 NX.out.1 HM.out (by have := NX.out.2.2; have := HSM.out; omega)
    rw [NX.out.2.1] at HA
    clear hd n5 HC
    go_wp2_with fail
    refine HA.mono ?_
    rintro e w4 ⟨v, rfl, a4, l4, c4, ts, rfl, n1, n2, n3, n4, n5⟩
    replace BW : Hid (Below w.heap.size w w4) := BW.out.trans (n5.mono BW.out.size)
    have HU := Sub_yes a4 a2 l4 c4 l2 c2 ts us w4 n1 (NY.out.1.old n5) (by rw [n3, NY.out.2.1]; exact HLE.out)
    rw [n3, NY.out.2.1, HE.out] at HU
    clear n1 n2 n3 n4 n5 HA NX NY HM
    go_wp2_with fail
    refine HU.mono ?_
    rintro e w5 ⟨v, rfl, hv⟩
    have hv2 := (hv.fit B64_one HFIT.out.2.1 HFIT.out.1).from BW.out
    rw [HFIT.out.2.2] at hv2
    have HV : Hid (NumOut .u64 B64 w w5 v ((val B64 xs - val B64 ys) % val B64 ms) lm) := hv2
    clear hv hv2 HU
    go_wp2
    go_ret2
    exact ⟨_, rfl, HV.out⟩
  · have HE : Hid (val B64 xs % val B64 ms - val B64 ys % val B64 ms = (val B64 xs - val B64 ys) % val B64 ms) := HS.2 (by omega)
    have HCM : Hid ((cmpI (val B64 xs % val B64 ms) (val B64 ys % val B64 ms) < 0) = False) := by
      unfold Hid
      rcases Int.lt_or_eq_of_le (show val B64 ys % val B64 ms ≤ val B64 xs % val B64 ms by omega) with h | h
      · rw [cmpI_gt h]; decide
      · rw [cmpI_eq h.symm]; decide
    have HLE : Hid (val B64 ys % val B64 ms ≤ val B64 xs % val B64 ms) := by unfold Hid; omega
    clear HS hlt
    go_enter Try.func91, Try.ntmps91
    go_wp2_with fail
    refine HO.mono ?_
    rintro e w1 ⟨v, rfl, a1, l1, c1, zs, rfl, n1, n2, n3, n4, n5⟩
    have HO2 := mOf_any bo mo lb cb lm cm ys ms w1 (HB.out.old n5) (HM.out.old n5) HZ.out (by have := HSM.out; omega)
    have NX : Hid (NumIn .u64 B64 w1 a1 l1 c1 zs ∧ val B64 zs = val B64 xs % val B64 ms ∧ l1 ≤ lm) := ⟨n1, n3, n4⟩
    have BW : Hid (Below w.heap.size w w1) := n5
    clear n1 n2 n3 n4 n5 HB HO HM
    go_wp2_with fail
    refine HO2.mono ?_
    rintro e w2 ⟨v, rfl, a2, l2, c2, us, rfl, n1, n2, n3, n4, n5⟩
    replace NX : Hid (NumIn .u64 B64 w2 a1 l1 c1 zs ∧ val B64 zs = val B64 xs % val B64 ms ∧ l1 ≤ lm) := ⟨NX.out.1.old n5, NX.out.2⟩
    have NY : Hid (NumIn .u64 B64 w2 a2 l2 c2 us ∧ val B64 us = val B64 ys % val B64 ms ∧ l2 ≤ lm) := ⟨n1, n3, n4⟩
    replace BW : Hid (Below w.heap.size w w2) := BW.out.trans (n5.mono BW.out.size)
    have HC := Cmp_any a1 a2 l1 c1 l2 c2 zs us w2 NX.out.1 NY.out.1
    rw [NX.out.2.1, NY.out.2.1] at HC
    generalize cmpI (val B64 xs % val B64 ms) (val B64 ys % val B64 ms) = cc at HC HCM
    have hcc : ¬ cc < 0 := by rw [HCM.out]; exact not_false
    clear n1 n2 n3 n4 n5 HO2 HCM
    go_wp2_with fail
    refine HC.mono ?_
    rintro e w3 ⟨rfl, hd⟩
    have n5 := hd.below w2.heap.size
    replace BW : Hid (Below w.heap.size w w3) := BW.out.trans (n5.mono BW.out.size)
    have HU := Sub_yes a1 a2 l1 c1 l2 c2 zs us w3 (NX.out.1.old n5) (NY.out.1.old n5) (by rw [NX.out.2.1, NY.out.2.1]; exact HLE.out)
    rw [NX.out.2.1, NY.out.2.1, HE.out] at HU
    clear hd n5 HC NX NY
    go_wp2_with fail
    refine HU.mono ?_
    rintro e w5 ⟨v, rfl, hv⟩
    have hv2 := (hv.fit B64_one HFIT.out.2.1 HFIT.out.1).from BW.out
    rw [HFIT.out.2.2] at hv2
    have HV : Hid (NumOut .u64 B64 w w5 v ((val B64 xs - val B64 ys) % val B64 ms) lm) := hv2
    clear hv hv2 HU
    go_wp2
    go_ret2
    exact ⟨_, rfl, HV.out⟩

set_option maxHeartbeats 400000 in
/-- modular.Sub: of a modulus of 0. -/
theorem mSub_zero (ao bo mo : Option Addr) (la ca lb cb lm cm : Nat) (xs ms : List Int) (w : World) (h : NumIn .u64 B64 w ao la ca xs) (h' : NumIn .u64 B64 w mo lm cm ms) (h0 : val B64 ms = 0) :
    Calls Try.prog 91 #[.slice ao la ca, .slice bo lb cb, .slice mo lm cm] w fun e w' => e = .returned (.tuple #[.slice none 0 0, .int .i64 4]) ∧ w' = w := by
  have HO := mOf_zero ao mo la ca lm cm xs ms w h h' h0
  clear h h' h0
  go_enter Try.func91, Try.ntmps91
  go_wp2_with fail
  refine HO.mono ?_
  rintro e w2 ⟨rfl, rfl⟩
  go_wp2
  go_ret2
  exact ⟨rfl, rfl⟩
end Go.Proofs.Ytdojbknkaoiioaa
