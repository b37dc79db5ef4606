import Derived.Test.YtnacgkkklmlhaaaK14
/-
  The law RsaPowers.
-/
namespace Go.Proofs.Ytnacgkkklmlhaaa
open Go.Shelf Go.RowKit
set_option linter.unusedVariables false
set_option linter.unusedSimpArgs false

theorem fld_keyP (w : World) (n1 : Option Addr) (n2 n3 : Nat) (m1 : Option Addr) (m2 m3 : Nat) : (Instr.field 32 (.agg #[.int .u8 2, .int .i64 0, .slice none 0 0, .slice none 0 0, .bool false, .slice n1 n2 n3, .slice m1 m2 m3]) 3).run Try.prog w = .ok (.agg #[.slice n1 n2 n3, .slice m1 m2 m3]) w := by kernel_rfl
theorem cast_back {x d e N : Nat} (h : (x ^ d % N) ^ e % N = x) : ((x : Int) ^ d % (N : Int)) ^ e % (N : Int) = (x : Int) := by
  have := congrArg (Nat.cast (R := Int)) h
  exact_mod_cast this
/-- What is signed comes back. -/
theorem rsa_back (i : Int) (x : Int) (h0 : 0 ≤ x) (hx : x < rsaN i) : (x ^ (rsaD i).toNat % rsaN i) ^ (rsaE i).toNat % rsaN i = x := by
  obtain ⟨n, rfl⟩ := Int.eq_ofNat_of_zero_le h0
  by_cases h : i % 2 = 0
  · have e1 : rsaN i = ((8478774692950686948931691623231886540506061736060197768102464703086314338576516908251073744980808318024178470791773212721119574061960704473384495341337591 : Nat) : Int) := by unfold rsaN; rw [if_pos h]; decide
    have e2 : (rsaD i).toNat = 2383713378970908144011267194989815058803793086148422171861512003209871396131481888572373782155166885376097174023812513049970796133554954105071126847058473 := by unfold rsaD; rw [if_pos h]; decide +kernel
    have e3 : (rsaE i).toNat = 65537 := by unfold rsaE; rw [if_pos h]; decide
    rw [e1] at hx
    rw [e1, e2, e3]
    exact cast_back (back0 n (Int.ofNat_lt.1 hx))
  · have e1 : rsaN i = ((10946859011210766630761700678456930657619854580716871171759543806720678760030654918172574107507588800923464901969980427984494337629330413913164793052846871 : Nat) : Int) := by unfold rsaN; rw [if_neg h]; decide
    have e2 : (rsaD i).toNat = 7297906007473844420507800452304620438413236387144580781173029204480452506686963438357913577234804839559658985100037650548491023180987702123054674724834667 := by unfold rsaD; rw [if_neg h]; decide +kernel
    have e3 : (rsaE i).toNat = 3 := by unfold rsaE; rw [if_neg h]; decide
    rw [e1] at hx
    rw [e1, e2, e3]
    exact cast_back (back1 n (Int.ofNat_lt.1 hx))
set_option maxRecDepth 100000 in
set_option maxHeartbeats 2000000 in
theorem hash_any (bs : List Int) (ao : Option Addr) (len cap : Nat) (w : World) (hb : NumIn .u8 256 w ao len cap bs) (hl : len ≤ 1000000) :
    Calls Try.prog 19 #[.slice ao len cap] w fun e w' => e = .returned (ag .u8 (shaS bs)) ∧ Below w.heap.size w w' := by
  have hl32 := shaS_length bs
  obtain ⟨hs, hbs⟩ : ∃ hs, shaS bs = hs := ⟨_, rfl⟩
  rw [hbs] at hl32 ⊢
  go_enter Try.func19, Try.ntmps19
  have hnn := hb.nn
  go_wp2_with (first
    | ((with_reducible show wpList _ _ _ (Oper.mk _ (Op.alloc 47) _ _ _ _ :: _) _ _); refine wpList_alloc_row (w := w) (by with_reducible rfl) 47 (by with_reducible rfl) .u8 32 Try.infoB32 ?_; intro w1 hr1 hb1 hs1))
  have HS := rSum_any bs ao len cap w1 hb.dg (hb.old hb1).lies hb.nn hl
  rw [hbs] at HS
  refine HS.mono ?_
  rintro r w2 ⟨rfl, d2⟩
  have hr2 := hr1.below d2 (by omega)
  have B2 := hb1.trans (d2.mono hb1.size)
  clear HS
  go_wp2_with (first
    | ((with_reducible show wpList _ _ _ (Oper.mk _ (Op.store 47 _ _) _ _ _ _ :: _) _ _); refine wpList_store_nums (w := w2) (by with_reducible rfl) 47 _ _ (by with_reducible rfl) .u8 47 32 Try.sizeB32 w.heap.size (List.replicate 32 0) hs (by rfl) (by rfl) hr2 (by simp) hl32 ?_; intro w3 hr3 hb3 hs3 ho3))
  refine bodyPost_ret (results_nums rfl _ _ w.heap.size 47 5 .u8 32 hs rfl hr3 Try.underlying47 Try.sizeB32 hl32) rfl ?_
  exact ⟨rfl, B2.trans hb3⟩
end Go.Proofs.Ytnacgkkklmlhaaa
