import Derived.Test.YticopomchoahnaaK16
/-
  ecdsa's Verify, over a prime.
-/
namespace Go.Proofs.Yticopomchoahnaa
open Go.Shelf Go.RowKit
set_option linter.unusedVariables false
set_option linter.unusedSimpArgs false
/-- A number and an error, as they are answered together. -/
def Fk.nt (R : Int → Prop) (L : Nat) : Fk := ⟨fun vs W => ∃ n u z, R n ∧ vs.getD 0 undef = .tuple #[u, .int .i64 z] ∧ Nv W u n L, fun vs w w' hb h => by
  obtain ⟨n, u, z, h1, h2, h3⟩ := h
  exact ⟨n, u, z, h1, h2, h3.old hb⟩, true, fun _ vs w w' r a1 a2 l1 k1 l2 k2 b b1 b2 m1 n1 m2 n2 b' hs _ hb h => by
  obtain ⟨n, u, z, h1, h2, h3⟩ := h
  exact ⟨n, u, z, h1, h2, h3.apart hs hb⟩⟩
/-- What 'x, _ := ..' leaves. -/
theorem nt_end {R : Int → Prop} {L : Nat} {W : World} {vs1 vs2 vs3 vs4 : List Value} (h1 : (Fk.nt R L).sem vs1 W) (h2 : Fk.same.sem vs2 W) (h3 : (Fk.ext 0).sem vs3 W) (h4 : Fk.same.sem vs4 W) (e1 : vs2.getD 1 undef = vs1.getD 0 undef) (e2 : vs3.getD 1 undef = vs2.getD 0 undef) (e3 : vs4.getD 1 undef = vs3.getD 0 undef) : ∃ n, R n ∧ Nv W (vs4.getD 0 undef) n L := by
  obtain ⟨n, u, z, hr, hp, hn⟩ := h1
  have h2' : vs2.getD 0 undef = vs2.getD 1 undef := h2
  have h4' : vs4.getD 0 undef = vs4.getD 1 undef := h4
  obtain ⟨t3, q3, q3'⟩ := h3
  rw [e2, h2', e1, hp] at q3
  injection q3 with q3
  subst q3
  refine ⟨n, hr, ?_⟩
  rw [h4', e3, q3']
  exact hn
theorem mof_nv (a m : Value) (x M : Int) (L Lm : Nat) (w : World) (ha : Nv w a x L) (hm : Nv w m M Lm) (h0 : M ≠ 0) (hs : L + Lm < 100000000) :
    Calls Try.prog 120 #[a, m] w fun e w' => ∃ v, e = .returned (.tuple #[v, .int .i64 0]) ∧ Na w w' v (x % M) Lm := by
  obtain ⟨ao, la, ca, xs, rfl, h1, rfl, h2⟩ := ha
  obtain ⟨mo, lm, cm, ms, rfl, m1, rfl, m2⟩ := hm
  refine (mOf_any ao mo la ca lm cm xs ms w h1 m1 h0 (by omega)).mono ?_
  rintro e w' ⟨v, rfl, h⟩
  exact ⟨v, rfl, h.na.1.up m2, h.na.2⟩
end Go.Proofs.Yticopomchoahnaa
