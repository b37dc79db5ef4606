import Derived.Test.YtnacgkkklmlhaaaK14
/-
  The law RsaPowers.
-/
namespace Go.Proofs.Ytnacgkkklmlhaaa
open Go.Shelf Go.RowKit
set_option linter.unusedVariables false
set_option linter.unusedSimpArgs false

theorem fld_keyP (w : World) (n1 : Option Addr) (n2 n3 : Nat) (m1 : Option Addr) (m2 m3 : Nat) : (Instr.field 32 (.agg #[.int .u8 2, .int .i64 0, .slice none 0 0, .slice none 0 0, .bool false, .slice n1 n2 n3, .slice m1 m2 m3]) 3).run Try.prog w = .ok (.agg #[.slice n1 n2 n3, .slice m1 m2 m3]) w := by kernel_rfl
theorem cast_back {x d e N : Nat} (h : (x ^ d % N) ^ e % N = x) : ((x : Int) ^ d % (N : Int)) ^ e % (N : Int) = (x : Int) := by
  have := congrArg (Nat.cast (R := Int)) h
  exact_mod_cast this
/-- What is signed comes back. -/
theorem rsa_back (i : Int) (x : Int) (h0 : 0 ≤ x) (hx : x < rsaN i) : (x ^ (rsaD i).toNat % rsaN i) ^ (rsaE i).toNat % rsaN i = x := by
  obtain ⟨n, rfl⟩ := Int.eq_ofNat_of_zero_le h0
  by_cases h : i % 2 = 0
  · have e1 : rsaN i = ((8478774692950686948931691623231886540506061736060197768102464703086314338576516908251073744980808318024178470791773212721119574061960704473384495341337591 : Nat) : Int) := by unfold rsaN; rw [if_pos h]; decide
    have e2 : (rsaD i).toNat = 2383713378970908144011267194989815058803793086148422171861512003209871396131481888572373782155166885376097174023812513049970796133554954105071126847058473 := by unfold rsaD; rw [if_pos h]; decide +kernel
    have e3 : (rsaE i).toNat = 65537 := by unfold rsaE; rw [if_pos h]; decide
    rw [e1] at hx
    rw [e1, e2, e3]
    exact cast_back (back0 n (Int.ofNat_lt.1 hx))
  · have e1 : rsaN i = ((10946859011210766630761700678456930657619854580716871171759543806720678760030654918172574107507588800923464901969980427984494337629330413913164793052846871 : Nat) : Int) := by unfold rsaN; rw [if_neg h]; decide
    have e2 : (rsaD i).toNat = 7297906007473844420507800452304620438413236387144580781173029204480452506686963438357913577234804839559658985100037650548491023180987702123054674724834667 := by unfold rsaD; rw [if_neg h]; decide +kernel
    have e3 : (rsaE i).toNat = 3 := by unfold rsaE; rw [if_neg h]; decide
    rw [e1] at hx
    rw [e1, e2, e3]
    exact cast_back (back1 n (Int.ofNat_lt.1 hx))
set_option maxRecDepth 100000 in
set_option maxHeartbeats 2000000 in
theorem hash_any (bs : List Int) (ao : Option Addr) (len cap : Nat) (w : World) (hb : NumIn .u8 256 w ao len cap bs) (hl : len ≤ 1000000) :
    Calls Try.prog 19 #[.slice ao len cap] w fun e w' => e = .returned (ag .u8 (shaS bs)) ∧ Below w.heap.size w w' := by
  have hl32 := shaS_length bs
  obtain ⟨hs, hbs⟩ : ∃ hs, shaS bs = hs := ⟨_, rfl⟩
  rw [hbs] at hl32 ⊢
  go_enter Try.func19, Try.ntmps19
  have hnn := hb.nn
  go_wp2_with (first
    | ((with_reducible show wpList _ _ _ (Oper.mk _ (Op.alloc 47) _ _ _ _ :: _) _ _); refine wpList_alloc_row (w := w) (by with_reducible rfl) 47 (by with_reducible rfl) .u8 32 Try.infoB32 ?_; intro w1 hr1 hb1 hs1))
  have HS := rSum_any bs ao len cap w1 hb.dg (hb.old hb1).lies hb.nn hl
  rw [hbs] at HS
  refine HS.mono ?_
  rintro r w2 ⟨rfl, d2⟩
  have hr2 := hr1.below d2 (by omega)
  have B2 := hb1.trans (d2.mono hb1.size)
  clear HS
  go_wp2_with (first
    | ((with_reducible show wpList _ _ _ (Oper.mk _ (Op.store 47 _ _) _ _ _ _ :: _) _ _); refine wpList_store_nums (w := w2) (by with_reducible rfl) 47 _ _ (by with_reducible rfl) .u8 47 32 Try.sizeB32 w.heap.size (List.replicate 32 0) hs (by rfl) (by rfl) hr2 (by simp) hl32 ?_; intro w3 hr3 hb3 hs3 ho3))
  refine bodyPost_ret (results_nums rfl _ _ w.heap.size 47 5 .u8 32 hs rfl hr3 Try.underlying47 Try.sizeB32 hl32) rfl ?_
  exact ⟨rfl, B2.trans hb3⟩
end Go.Proofs.Ytnacgkkklmlhaaa
/-
  Two arrays of 32 bytes, compared.
-/
namespace Go.Proofs.Ytnacgkkklmlhaaa
open Go.Shelf Go.RowKit
set_option linter.unusedVariables false
set_option linter.unusedSimpArgs false

theorem eq_loop2 (d : Nat) (xs ys : List Int) (w : World) : ∀ (l : List Nat), (∀ i ∈ l, i < xs.length ∧ i < ys.length) →
    (forIn l ((none, ()) : Option Bool × Unit) fun i r => do
      if !(← Op.equalIn (d + 1) 5 (← part 5 ((xs.map (Value.int .u8)).toArray) (i * 1)) (← part 5 ((ys.map (Value.int .u8)).toArray) (i * 1))) then (pure (ForInStep.done (some false, ())) : Sem (ForInStep (Option Bool × Unit))) else pure (ForInStep.yield (none, ()))).run Try.prog w = .ok (if l.all (fun i => xs.getD i 0 == ys.getD i 0) then (none, ()) else (some false, ())) w
  | [], _ => by simp
  | i :: l, h => by
    obtain ⟨hi, hi'⟩ := h i (by simp)
    have ih := eq_loop2 d xs ys w l (fun j hj => h j (by simp [hj]))
    have hp : (part 5 ((xs.map (Value.int .u8)).toArray) (i * 1)).run Try.prog w = .ok (.int .u8 xs[i]) w := by
      simp [part, Try.isAgg5, hi]
    have hq : (part 5 ((ys.map (Value.int .u8)).toArray) (i * 1)).run Try.prog w = .ok (.int .u8 ys[i]) w := by
      simp [part, Try.isAgg5, hi']
    have ex : xs.getD i 0 = xs[i] := by simp [List.getD, hi]
    have ey : ys.getD i 0 = ys[i] := by simp [List.getD, hi']
    simp only [List.forIn_cons, Sem.run_bind, hp, hq, Result.andThen_ok, run_equalIn_int w d 5 .u8 .u8 _ _ Try.underlying5, List.all_cons, ex, ey]
    by_cases he : xs[i] = ys[i]
    · simp only [he, beq_self_eq_true, Bool.not_true, Bool.false_eq_true, if_false, Sem.run_pure, Bool.true_and]
      exact ih
    · have hb : (xs[i] == ys[i]) = false := by simp [he]
      simp [hb]
theorem all_eq {xs ys : List Int} {n : Nat} (hx : xs.length = n) (hy : ys.length = n) : (List.range' 0 n).all (fun i => xs.getD i 0 == ys.getD i 0) = decide (xs = ys) := by
  by_cases h : xs = ys
  · subst h
    simp
  · rw [decide_eq_false h]
    rw [List.all_eq_false]
    have : ∃ i, i < n ∧ xs.getD i 0 ≠ ys.getD i 0 := by
      apply Classical.byContradiction
      intro hc
      apply h
      apply List.ext_getElem (by omega)
      intro i h1 h2
      have h3 : xs.getD i 0 = ys.getD i 0 := Classical.byContradiction fun hn => hc ⟨i, by omega, hn⟩
      simpa [List.getD, h1, h2] using h3
    obtain ⟨i, hi, hne⟩ := this
    exact ⟨i, by simp [List.mem_range'_1, hi], by simpa using hne⟩
theorem eq_arr2 (d : Nat) (xs ys : List Int) (hx : xs.length = 32) (hy : ys.length = 32) (w : World) : (Op.equalIn (d + 1 + 1) 47 (ag .u8 xs) (ag .u8 ys)).run Try.prog w = .ok (decide (xs = ys)) w := by
  have h := eq_loop2 d xs ys w (List.range' 0 32) (fun i hi => by rw [hx, hy]; simpa using hi)
  rw [all_eq hx hy] at h
  unfold ag
  rw [Op.equalIn]
  simp only [Sem.run_bind, run_underlying Try.underlying47, Result.andThen_ok, Try.sizeOf5]
  rw [Std.Legacy.Range.forIn_eq_forIn_range']
  have e : (List.range' ([:32] : Std.Legacy.Range).start ([:32] : Std.Legacy.Range).size ([:32] : Std.Legacy.Range).step) = List.range' 0 32 := rfl
  rw [e, h]
  by_cases he : xs = ys
  · simp [he]
  · simp [he]
theorem neq_arr (xs ys : List Int) (hx : xs.length = 32) (hy : ys.length = 32) (w : World) : (binOp .neq 47 (ag .u8 xs) (ag .u8 ys)).run Try.prog w = .ok (.bool (!decide (xs = ys))) w := by
  have h2 := run_neq_struct (P := Try.prog) w 47 ((xs.map (Value.int .u8)).toArray) ((ys.map (Value.int .u8)).toArray)
  have h3 := eq_arr2 9998 xs ys hx hy w
  unfold ag at h3 ⊢
  rw [h3] at h2
  rw [h2]
  rfl
theorem neq_guard (xs ys : List Int) (x y : Operand) (w : World) : (eqGuard .neq 47 x y (ag .u8 xs) (ag .u8 ys)).run Try.prog w = .ok () w :=
  run_eqGuard_agg (P := Try.prog) w .neq 47 x y ((xs.map (Value.int .u8)).toArray) ((ys.map (Value.int .u8)).toArray) Try.eqGuardType47
end Go.Proofs.Ytnacgkkklmlhaaa
/-
  The law RsaSigns: its mathematics.
-/
namespace Go.Proofs.Ytnacgkkklmlhaaa
open Go.Shelf Go.RowKit
set_option linter.unusedVariables false
set_option linter.unusedSimpArgs false
set_option maxRecDepth 100000

theorem back0s (x : Nat) (hx : x < 8478774692950686948931691623231886540506061736060197768102464703086314338576516908251073744980808318024178470791773212721119574061960704473384495341337591) : (x ^ 65537 % 8478774692950686948931691623231886540506061736060197768102464703086314338576516908251073744980808318024178470791773212721119574061960704473384495341337591) ^ 2383713378970908144011267194989815058803793086148422171861512003209871396131481888572373782155166885376097174023812513049970796133554954105071126847058473 % 8478774692950686948931691623231886540506061736060197768102464703086314338576516908251073744980808318024178470791773212721119574061960704473384495341337591 = x := by
  have h := rsa_backN (p := 88719611872649329952513991566286235520218913748764956406943566279012192949221) (q := 95568212191024491931941514659376198119986059423125729445699730223722487564971) (e := 2383713378970908144011267194989815058803793086148422171861512003209871396131481888572373782155166885376097174023812513049970796133554954105071126847058473) (d := 65537) (k := 1760844309619626263846022407599006450360743144871091565037017529372086833384572250) (l := 1634658848753563904375070294608823889460033485820994321797935208690799655089378500) rp10 rp18 (by decide) (by decide) (by decide +kernel) (by decide +kernel) (by decide +kernel) x
  rw [show 88719611872649329952513991566286235520218913748764956406943566279012192949221 * 95568212191024491931941514659376198119986059423125729445699730223722487564971 = 8478774692950686948931691623231886540506061736060197768102464703086314338576516908251073744980808318024178470791773212721119574061960704473384495341337591 by decide +kernel] at h
  exact h hx
theorem back1s (x : Nat) (hx : x < 10946859011210766630761700678456930657619854580716871171759543806720678760030654918172574107507588800923464901969980427984494337629330413913164793052846871) : (x ^ 3 % 10946859011210766630761700678456930657619854580716871171759543806720678760030654918172574107507588800923464901969980427984494337629330413913164793052846871) ^ 7297906007473844420507800452304620438413236387144580781173029204480452506686963438357913577234804839559658985100037650548491023180987702123054674724834667 % 10946859011210766630761700678456930657619854580716871171759543806720678760030654918172574107507588800923464901969980427984494337629330413913164793052846871 = x := by
  have h := rsa_backN (p := 97598692930283064568214715830273728601041630315902629291465192316678958387271) (q := 112161942773458590813326868146150591322910531441900228557395536266102007207601) (e := 7297906007473844420507800452304620438413236387144580781173029204480452506686963438357913577234804839559658985100037650548491023180987702123054674724834667) (d := 3) (k := 224323885546917181626653736292301182645821062883800457114791072532204014415200) (l := 195197385860566129136429431660547457202083260631805258582930384633357916774540) rp27 rp33 (by decide) (by decide) (by decide +kernel) (by decide +kernel) (by decide +kernel) x
  rw [show 97598692930283064568214715830273728601041630315902629291465192316678958387271 * 112161942773458590813326868146150591322910531441900228557395536266102007207601 = 10946859011210766630761700678456930657619854580716871171759543806720678760030654918172574107507588800923464901969980427984494337629330413913164793052846871 by decide +kernel] at h
  exact h hx
theorem rsa_backs (i : Int) (x : Int) (h0 : 0 ≤ x) (hx : x < rsaN i) : (x ^ (rsaE i).toNat % rsaN i) ^ (rsaD i).toNat % rsaN i = x := by
  obtain ⟨n, rfl⟩ := Int.eq_ofNat_of_zero_le h0
  by_cases h : i % 2 = 0
  · have e1 : rsaN i = ((8478774692950686948931691623231886540506061736060197768102464703086314338576516908251073744980808318024178470791773212721119574061960704473384495341337591 : Nat) : Int) := by unfold rsaN; rw [if_pos h]; decide
    have e2 : (rsaD i).toNat = 2383713378970908144011267194989815058803793086148422171861512003209871396131481888572373782155166885376097174023812513049970796133554954105071126847058473 := by unfold rsaD; rw [if_pos h]; decide +kernel
    have e3 : (rsaE i).toNat = 65537 := by unfold rsaE; rw [if_pos h]; decide
    rw [e1] at hx
    rw [e1, e2, e3]
    exact cast_back (back0s n (Int.ofNat_lt.1 hx))
  · have e1 : rsaN i = ((10946859011210766630761700678456930657619854580716871171759543806720678760030654918172574107507588800923464901969980427984494337629330413913164793052846871 : Nat) : Int) := by unfold rsaN; rw [if_neg h]; decide
    have e2 : (rsaD i).toNat = 7297906007473844420507800452304620438413236387144580781173029204480452506686963438357913577234804839559658985100037650548491023180987702123054674724834667 := by unfold rsaD; rw [if_neg h]; decide +kernel
    have e3 : (rsaE i).toNat = 3 := by unfold rsaE; rw [if_neg h]; decide
    rw [e1] at hx
    rw [e1, e2, e3]
    exact cast_back (back1s n (Int.ofNat_lt.1 hx))
theorem rsa_key (i : Int) : keyB (rsaN i) (rsaE i) = true := by
  unfold rsaN rsaE
  split <;> decide +kernel
theorem padZ_inj {xs ys : List Int} (hx : xs.length = 32) (hy : ys.length = 32) (dx : Dg 256 xs) (dy : Dg 256 ys) (h : padZ xs = padZ ys) : xs = ys := by
  unfold padZ at h
  have h1 := val_inj (B := 256) (by decide) (by rw [List.length_reverse, List.length_reverse, padL_len _ _ hx (by decide), padL_len _ _ hy (by decide)]) (fun x m => padL_dg 64 xs dx x (List.mem_reverse.1 m)) (fun x m => padL_dg 64 ys dy x (List.mem_reverse.1 m)) h
  have h2 := List.reverse_inj.1 h1
  unfold padL at h2
  simpa using h2
/-- What a signature of whatever bytes says. -/
theorem ver_sig (i : Int) (hs : List Int) (hl : hs.length = 32) (hd : Dg 256 hs) (bs : List Int) (bl : bs.length = 64) (bd : Dg 256 bs) : verB (rsaN i) (rsaE i) hs 64 bs = decide (val 256 bs.reverse = padZ hs ^ (rsaD i).toNat % rsaN i) := by
  have hk := rsa_key i
  have h5 := rsa_512 i
  have hp := padZ_lt hs hl hd
  have hN : 0 < rsaN i := by omega
  have hv0 : 0 ≤ val 256 bs.reverse := val_nonneg (by decide) (fun x m => bd x (List.mem_reverse.1 m))
  unfold verB
  rw [hk, h5.2.2.2]
  have e1 : val 256 (padA ((64 : Nat) : Int) hs).reverse = padZ hs := rfl
  rw [e1]
  generalize val 256 bs.reverse = V at *
  by_cases hV : V = padZ hs ^ (rsaD i).toNat % rsaN i
  · have h6 := Int.emod_lt_of_pos (padZ hs ^ (rsaD i).toNat) hN
    have h7 := rsa_back i (padZ hs) hp.1 (by omega)
    rw [← hV] at h6 h7
    rw [decide_eq_true hV, decide_eq_true h6, decide_eq_true h7]
    rfl
  · rw [decide_eq_false hV]
    by_cases hlt : V < rsaN i
    · have h7 := rsa_backs i V hv0 hlt
      have h8 : ¬ V ^ (rsaE i).toNat % rsaN i = padZ hs := fun h => hV (by rw [← h]; exact h7.symm)
      rw [decide_eq_false h8]
      simp
    · rw [decide_eq_false hlt]
      simp
theorem ver_len (i : Int) (hs : List Int) (m : Nat) (bs : List Int) (hm : m ≠ 64) : verB (rsaN i) (rsaE i) hs m bs = false := by
  unfold verB
  rw [(rsa_512 i).2.2.2, decide_eq_false (show ¬ ((m : Int) = 64) by omega)]
  simp
theorem xor8 : ∀ x : Nat, x < 256 → ∀ b : Nat, b < 8 → bits .xor .u8 (x : Int) (2 ^ b) ≠ (x : Int) ∧ 0 ≤ bits .xor .u8 (x : Int) (2 ^ b) ∧ bits .xor .u8 (x : Int) (2 ^ b) < 256 := by decide +kernel
theorem u8_pow (b : Nat) (h : b < 8) : IntKind.u8.wrap (2 ^ b) = 2 ^ b := by
  have h1 : ∀ b, b < 8 → IntKind.u8.wrap (2 ^ b) = 2 ^ b := by decide
  exact h1 b h
theorem turned_ne (bs : List Int) (bd : Dg 256 bs) (k : Nat) (hk : k < bs.length) (z : Int) (hz : z ≠ bs.getD k 0) (hz0 : 0 ≤ z ∧ z < 256) : val 256 (bs.set k z).reverse ≠ val 256 bs.reverse := by
  intro h
  have h1 := val_inj (B := 256) (by decide) (by simp) (fun x m => (bd.set k hz0) x (List.mem_reverse.1 m)) (fun x m => bd x (List.mem_reverse.1 m)) h
  have h2 := List.reverse_inj.1 h1
  apply hz
  have h3 := congrArg (fun l => l.getD k 0) h2
  simpa [List.getD, hk] using h3
end Go.Proofs.Ytnacgkkklmlhaaa
