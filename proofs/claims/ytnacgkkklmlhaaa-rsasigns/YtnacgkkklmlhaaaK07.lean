import Derived.Test.YtnacgkkklmlhaaaK06
import Derived.Test.YtnacgkkklmlhaaaK05
import Derived.Laws.ResultCell
/-
  The signer's numbers and key.
-/
namespace Go.Proofs.Ytnacgkkklmlhaaa
open Go.Shelf Go.RowKit
set_option linter.unusedVariables false
set_option linter.unusedSimpArgs false

theorem val_full (B : Int) : ∀ d : Nat, val B (List.replicate d (B - 1)) = B ^ d - 1
  | 0 => by simp [val]
  | d + 1 => by
    rw [List.replicate_succ, val_cons, val_full B d, Int.pow_succ]
    generalize B ^ d = q
    grind
theorem fit_len {B : Int} (hB : 1 < B) {xs : List Int} (hd : Dg B xs) (hc : Canon xs) {d : Nat} (h : val B xs < B ^ d) : xs.length ≤ d := by
  have h1 := len_fit (B := B) hB hd hc (ys := List.replicate d (B - 1)) (fun x hx => by rw [(List.mem_replicate.1 hx).2]; omega) (by rw [val_full]; omega)
  rwa [List.length_replicate] at h1
theorem Rv.fit {w : World} {v : Value} {n : Int} {L d : Nat} (h : Rv w v n L) (hn : n < D16 ^ d) : Rv w v n d := by
  obtain ⟨ao, l, c, xs, rfl, h1, h2, h3, h4⟩ := h
  exact ⟨ao, l, c, xs, rfl, h1, h2, h3, by have := fit_len D16_one h1.dg h2 (by rw [h3]; exact hn); rw [h1.len] at this; exact this⟩
theorem rv_eq {w w' : World} {v : Value} {n n' : Int} {L d : Nat} (h : NumOut .i64 D16 w w' v n L) (e : n = n') (hd : n' < D16 ^ d) : Rv w' v n' d ∧ Below w.heap.size w w' := by
  subst e
  exact ⟨(rv_of h).1.fit hd, (rv_of h).2⟩
theorem rNat_nv (v : Value) (n : Int) (L d : Nat) (w : World) (h : Rv w v n L) (hL : L ≤ 1000) (hd : n < B64 ^ d) :
    Calls Try.prog 25 #[v] w fun e w' => ∃ r, e = .returned r ∧ Nv w' r n d ∧ Below w.heap.size w w' := by
  obtain ⟨a1, a2, a3, a4, rfl, a5, a6, a7, a8⟩ := h
  refine (rNat_any a1 a2 a3 a4 w a5 a6 (by omega)).mono ?_
  rintro e w' ⟨v, rfl, q1, q2, q3, q4, rfl, h1, h2, h3, h4, h5⟩
  rw [a7] at h3
  exact ⟨_, rfl, ⟨q1, q2, q3, q4, rfl, h1, h3, by have := fit_len B64_one h1.dg h2 (by rw [h3]; exact hd); rw [h1.len] at this; exact this⟩, h5⟩
def rsaN (i : Int) : Int := if i % 2 = 0 then 8478774692950686948931691623231886540506061736060197768102464703086314338576516908251073744980808318024178470791773212721119574061960704473384495341337591 else 10946859011210766630761700678456930657619854580716871171759543806720678760030654918172574107507588800923464901969980427984494337629330413913164793052846871
def rsaE (i : Int) : Int := if i % 2 = 0 then 65537 else 3
def rsaD (i : Int) : Int := if i % 2 = 0 then 2383713378970908144011267194989815058803793086148422171861512003209871396131481888572373782155166885376097174023812513049970796133554954105071126847058473 else 7297906007473844420507800452304620438413236387144580781173029204480452506686963438357913577234804839559658985100037650548491023180987702123054674724834667
set_option maxRecDepth 100000 in
set_option maxHeartbeats 4000000 in
theorem rsa12_any (i : Int) (w : World) (h0 : 0 ≤ i) (h1 : i < 256) :
    Calls Try.prog 27 #[.int .i64 i] w fun e w' => ∃ v1 v2 v3, e = .returned (.tuple #[v1, v2, v3]) ∧ Rv w' v1 (rsaN i) 32 ∧ Rv w' v2 (rsaE i) 32 ∧ Rv w' v3 (rsaD i) 32 ∧ Below w.heap.size w w' := by
  unfold rsaN rsaE rsaD
  rcases Int.emod_two_eq i with hj | hj
  · have hjt : i.tmod 2 = 0 := by rw [Int.tmod_eq_emod_of_nonneg h0]; exact hj
    rw [if_pos hj, if_pos hj, if_pos hj]
    clear hj
    go_enter Try.func27, Try.ntmps27
    go_wp2_with fail
    refine (hex_any _ w (by decide +kernel)).mono ?_
    rintro e w1 ⟨v1, rfl, ho1⟩
    obtain ⟨r1, b1⟩ := rv_eq (n' := 8478774692950686948931691623231886540506061736060197768102464703086314338576516908251073744980808318024178470791773212721119574061960704473384495341337591) (d := 32) ho1 (by decide +kernel) (by decide +kernel)
    clear ho1
    go_wp2_with fail
    refine (hex_any _ w1 (by decide +kernel)).mono ?_
    rintro e w2 ⟨v2, rfl, ho2⟩
    obtain ⟨r2, b2⟩ := rv_eq (n' := 65537) (d := 32) ho2 (by decide +kernel) (by decide +kernel)
    clear ho2
    go_wp2_with fail
    refine (hex_any _ w2 (by decide +kernel)).mono ?_
    rintro e w3 ⟨v3, rfl, ho3⟩
    obtain ⟨r3, b3⟩ := rv_eq (n' := 2383713378970908144011267194989815058803793086148422171861512003209871396131481888572373782155166885376097174023812513049970796133554954105071126847058473) (d := 32) ho3 (by decide +kernel) (by decide +kernel)
    clear ho3
    have c2 := b2.trans (b3.mono b2.size)
    have HR : Hid (Rv w3 v1 8478774692950686948931691623231886540506061736060197768102464703086314338576516908251073744980808318024178470791773212721119574061960704473384495341337591 32 ∧ Rv w3 v2 65537 32 ∧ Rv w3 v3 2383713378970908144011267194989815058803793086148422171861512003209871396131481888572373782155166885376097174023812513049970796133554954105071126847058473 32 ∧ Below w.heap.size w w3) := ⟨r1.old c2, r2.old b3, r3, b1.trans (c2.mono b1.size)⟩
    clear r1 r2 r3 b1 b2 b3 c2
    go_wp2
    go_ret3
    exact ⟨_, _, _, rfl, HR.out⟩
  · have hjt : i.tmod 2 = 1 := by rw [Int.tmod_eq_emod_of_nonneg h0]; exact hj
    rw [if_neg (by omega), if_neg (by omega), if_neg (by omega)]
    clear hj
    go_enter Try.func27, Try.ntmps27
    go_wp2_with fail
    refine (hex_any _ w (by decide +kernel)).mono ?_
    rintro e w1 ⟨v1, rfl, ho1⟩
    obtain ⟨r1, b1⟩ := rv_eq (n' := 10946859011210766630761700678456930657619854580716871171759543806720678760030654918172574107507588800923464901969980427984494337629330413913164793052846871) (d := 32) ho1 (by decide +kernel) (by decide +kernel)
    clear ho1
    go_wp2_with fail
    refine (hex_any _ w1 (by decide +kernel)).mono ?_
    rintro e w2 ⟨v2, rfl, ho2⟩
    obtain ⟨r2, b2⟩ := rv_eq (n' := 3) (d := 32) ho2 (by decide +kernel) (by decide +kernel)
    clear ho2
    go_wp2_with fail
    refine (hex_any _ w2 (by decide +kernel)).mono ?_
    rintro e w3 ⟨v3, rfl, ho3⟩
    obtain ⟨r3, b3⟩ := rv_eq (n' := 7297906007473844420507800452304620438413236387144580781173029204480452506686963438357913577234804839559658985100037650548491023180987702123054674724834667) (d := 32) ho3 (by decide +kernel) (by decide +kernel)
    clear ho3
    have c2 := b2.trans (b3.mono b2.size)
    have HR : Hid (Rv w3 v1 10946859011210766630761700678456930657619854580716871171759543806720678760030654918172574107507588800923464901969980427984494337629330413913164793052846871 32 ∧ Rv w3 v2 3 32 ∧ Rv w3 v3 7297906007473844420507800452304620438413236387144580781173029204480452506686963438357913577234804839559658985100037650548491023180987702123054674724834667 32 ∧ Below w.heap.size w w3) := ⟨r1.old c2, r2.old b3, r3, b1.trans (c2.mono b1.size)⟩
    clear r1 r2 r3 b1 b2 b3 c2
    go_wp2
    go_ret3
    exact ⟨_, _, _, rfl, HR.out⟩
end Go.Proofs.Ytnacgkkklmlhaaa
