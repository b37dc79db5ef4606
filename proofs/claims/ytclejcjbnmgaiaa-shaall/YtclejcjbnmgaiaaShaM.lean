/-
  Contract of sha.mix.
-/
import Derived.Test.YtclejcjbnmgaiaaShaB
namespace Go.Proofs.Ytclejcjbnmgaiaa
open Go.RowKit
set_option linter.unusedVariables false
set_option linter.unusedSimpArgs false

theorem sched_length (b : List Int) : (sched b).length = 64 := by unfold sched; rw [schedGo_length, words16_length]

theorem int_eq {k : IntKind} {x y : Int} (h : x = y) : Value.int k x = Value.int k y := by rw [h]
/-- What a round makes, in the walk's spelling. -/
theorem rnd_a (a b c d e f g h k w : Int) : ((h + bits .xor .u32 (bits .xor .u32 (rot e 6) (rot e 11)) (rot e 25) + bits .xor .u32 (bits .and .u32 e f) (bits .and .u32 (bits .xor .u32 (if IntKind.u32.signed = true then -1 else IntKind.u32.max) e) g) + k + w) % 4294967296 + (bits .xor .u32 (bits .xor .u32 (rot a 2) (rot a 13)) (rot a 22) + bits .xor .u32 (bits .xor .u32 (bits .and .u32 a b) (bits .and .u32 a c)) (bits .and .u32 b c)) % 4294967296) % 4294967296 = (rnd ⟨a, b, c, d, e, f, g, h⟩ k w).a := by
  have e0 : (if IntKind.u32.signed = true then -1 else IntKind.u32.max) = (4294967295 : Int) := rfl
  rw [e0]
  simp only [rnd, t1, t2, big0, big1, chI, majI, M32]
  omega
theorem rnd_e (a b c d e f g h k w : Int) : (d + (h + bits .xor .u32 (bits .xor .u32 (rot e 6) (rot e 11)) (rot e 25) + bits .xor .u32 (bits .and .u32 e f) (bits .and .u32 (bits .xor .u32 (if IntKind.u32.signed = true then -1 else IntKind.u32.max) e) g) + k + w) % 4294967296) % 4294967296 = (rnd ⟨a, b, c, d, e, f, g, h⟩ k w).e := by
  have e0 : (if IntKind.u32.signed = true then -1 else IntKind.u32.max) = (4294967295 : Int) := rfl
  rw [e0]
  simp only [rnd, t1, t2, big0, big1, chI, majI, M32]
  omega

set_option maxRecDepth 100000 in
set_option maxHeartbeats 4000000 in
/-- sha.mix. -/
theorem mix_any (old K : List Int) (b off cap : Nat) (bs : List Int) (w : World) (ho : old.length = 8) (hk : K.length = 64) (h : Lies .u8 w (some ⟨b, off, none⟩) 64 bs) (hd : Dg 256 bs) (hcap : 64 ≤ cap) (hc2 : cap ≤ maxLen) :
    Calls Try.prog 26 #[ag .u32 old, .slice (some ⟨b, off, none⟩) 64 cap, ag .u32 K] w fun e w' => e = .returned (ag .u32 (mixS K old bs)) ∧ Below w.heap.size w w' := by
  have HS : ∀ w', Below w.heap.size w w' → Calls Try.prog 35 #[.slice (some ⟨b, off, none⟩) 64 cap] w' fun e w'' => e = .returned (ag .u32 (sched bs)) ∧ Below w'.heap.size w' w'' := fun w' hb => schedule_any b off cap bs w' (h.old hb) hd hcap hc2
  have HLN : Hid (old.length = 8 ∧ K.length = 64 ∧ (sched bs).length = 64) := ⟨ho, hk, sched_length bs⟩
  have HFIN : Hid (mixS K old bs = addS old (runS K (sched bs) (s8 old) 64)) := rfl
  generalize sched bs = W at *
  clear h hd ho hk
  go_enter Try.func26, Try.ntmps26
  go_wp2_with (first
    | (refine wpList_box_row rfl 44 _ (by with_reducible rfl) .u32 old (by rfl) ?_; intro w1 hr1 hb1 hs1)
    | (refine wpList_box_row rfl 55 _ (by with_reducible rfl) .u32 K (by rfl) ?_; intro w2 hr2 hb2 hs2)
    | (refine wpList_alloc_row rfl 44 (by with_reducible rfl) .u32 8 Try.infoW8 ?_; intro w3 hr3 hb3 hs3))
  have HW3 : Hid (Row 44 .u32 w3 w.heap.size old ∧ Row 55 .u32 w3 (w.heap.size + 1) K ∧ Row 44 .u32 w3 (w.heap.size + 1 + 1) (List.replicate 8 0) ∧ Below w.heap.size w w3 ∧ w3.heap.size = w.heap.size + 3) :=
    ⟨(hr1.below hb2 (by omega)).below hb3 (by omega), by rw [← hs1]; exact hr2.below hb3 (by omega), by rw [← hs1, ← hs2]; exact hr3, (hb1.trans (hb2.mono (by omega))).trans (hb3.mono (by omega)), by omega⟩
  clear hr1 hb1 hs1 hr2 hb2 hs2 hr3 hb3 hs3
  refine (HS _ HW3.out.2.2.2.1).mono ?_
  rintro e w4 ⟨rfl, hb4⟩
  have HW4 : Hid (Row 44 .u32 w4 w.heap.size old ∧ Row 55 .u32 w4 (w.heap.size + 1) K ∧ Row 44 .u32 w4 (w.heap.size + 1 + 1) (List.replicate 8 0) ∧ Below w.heap.size w w4 ∧ w.heap.size + 3 ≤ w4.heap.size) := by
    obtain ⟨a1, a2, a3, a4, a5⟩ := HW3.out
    exact ⟨a1.below hb4 (by omega), a2.below hb4 (by omega), a3.below hb4 (by omega), a4.trans (hb4.mono (by omega)), by have := hb4.size; omega⟩
  clear HW3 hb4 HS
  go_wp2_with (first
    | (refine wpList_alloc_row rfl 55 rfl .u32 64 Try.infoW64 ?_; intro w5 hr5 hb5 hs5)
    | (refine wpList_store_nums rfl 55 _ _ rfl .u32 55 64 Try.sizeW64 _ (List.replicate 64 0) W rfl rfl hr5 (by simp) HLN.out.2.2 ?_; intro w6 hr6 hb6 hs6 ho6))
  generalize hg7 : w4.heap.size = g7 at *
  have HW6 : Hid (Row 44 .u32 w6 w.heap.size old ∧ Row 55 .u32 w6 (w.heap.size + 1) K ∧ Row 44 .u32 w6 (w.heap.size + 1 + 1) (List.replicate 8 0) ∧ Row 55 .u32 w6 g7 W ∧ Below w.heap.size w w6) := by
    obtain ⟨a1, a2, a3, a4, a5⟩ := HW4.out
    have hb46 : Below g7 w4 w6 := hb5.trans hb6
    exact ⟨a1.below hb46 (by omega), a2.below hb46 (by omega), a3.below hb46 (by omega), hr6, a4.trans (hb46.mono (by omega))⟩
  clear HW4 hr5 hb5 hs5 hr6 hb6 hs6 ho6 hg7
  have hc : ∀ j, j < 8 → w6.cell? ⟨w.heap.size, j, none⟩ = some (.int .u32 (old.getD j 0)) := fun j hj => HW6.out.1.cell j (by have := HLN.out; omega)
  have c0 := hc 0 (by omega)
  have c1 := hc 1 (by omega)
  have c2 := hc 2 (by omega)
  have c3 := hc 3 (by omega)
  have c4 := hc 4 (by omega)
  have c5 := hc 5 (by omega)
  have c6 := hc 6 (by omega)
  have c7 := hc 7 (by omega)
  clear hc
  have HS8 : Hid (s8 old = ⟨old.getD 0 0, old.getD 1 0, old.getD 2 0, old.getD 3 0, old.getD 4 0, old.getD 5 0, old.getD 6 0, old.getD 7 0⟩) := rfl
  have HAD : Hid (∀ s, addS old s = [(old.getD 0 0 + s.a) % M32, (old.getD 1 0 + s.b) % M32, (old.getD 2 0 + s.c) % M32, (old.getD 3 0 + s.d) % M32, (old.getD 4 0 + s.e) % M32, (old.getD 5 0 + s.f) % M32, (old.getD 6 0 + s.g) % M32, (old.getD 7 0 + s.h) % M32]) := fun _ => rfl
  generalize old.getD 0 0 = o0 at *
  generalize old.getD 1 0 = o1 at *
  generalize old.getD 2 0 = o2 at *
  generalize old.getD 3 0 = o3 at *
  generalize old.getD 4 0 = o4 at *
  generalize old.getD 5 0 = o5 at *
  generalize old.getD 6 0 = o6 at *
  generalize old.getD 7 0 = o7 at *
  go_simp
  go_quiet (fail)
  go_wp2
  go_quiet (fail)
  go_wp2
  go_loopw [8, 9, 10, 11, 12, 13, 14, 15, 37] (fun va vb vc vd ve vf vg vh vi wr => ∃ (i : Nat) (s : S8), i ≤ 64 ∧ vi = .int .i64 i ∧ va = .int .u32 s.a ∧ vb = .int .u32 s.b ∧ vc = .int .u32 s.c ∧ vd = .int .u32 s.d ∧ ve = .int .u32 s.e ∧ vf = .int .u32 s.f ∧ vg = .int .u32 s.g ∧ vh = .int .u32 s.h ∧ s = runS K W (s8 old) i ∧ Drew w6 wr) (fun _ _ _ _ _ _ _ _ vi _ => 64 - (intOf vi).toNat)
  case atStart => exact ⟨0, s8 old, by omega, rfl, by rw [HS8.out], by rw [HS8.out], by rw [HS8.out], by rw [HS8.out], by rw [HS8.out], by rw [HS8.out], by rw [HS8.out], by rw [HS8.out], rfl, ((Drew.refl _).more _).more _⟩
  case round =>
    obtain ⟨i, s, hi, rfl, rfl, rfl, rfl, rfl, rfl, rfl, rfl, rfl, hs, hdr⟩ := hrel
    by_cases hlt : i < 64
    · have ck := (hdr.cell _).trans (HW6.out.2.1.cell i (by have := HLN.out; omega))
      have cw := (hdr.cell _).trans (HW6.out.2.2.2.1.cell i (by have := HLN.out; omega))
      have HN : Hid (runS K W (s8 old) (i + 1) = rnd s (K.getD i 0) (W.getD i 0)) := by unfold Hid; rw [hs]; rfl
      clear hs c0 c1 c2 c3 c4 c5 c6 c7
      generalize K.getD i 0 = kk at *
      generalize W.getD i 0 = ww at *
      obtain ⟨a, b', c, d, e, f, g, h⟩ := s
      have HR : ∀ (x : Int) (n : Nat) (w : World), 1 ≤ n → n ≤ 31 → Calls Try.prog 36 #[.int .u32 x, .int .i64 n] w fun e w' => e = .returned (.int .u32 (rot x n)) ∧ w' = w := fun x n w h1 h2 => rotr_any x n w h1 h2
      have R6 := fun w => HR e 6 w (by omega) (by omega)
      have R11 := fun w => HR e 11 w (by omega) (by omega)
      have R25 := fun w => HR e 25 w (by omega) (by omega)
      have R2 := fun w => HR a 2 w (by omega) (by omega)
      have R13 := fun w => HR a 13 w (by omega) (by omega)
      have R22 := fun w => HR a 22 w (by omega) (by omega)
      clear HR
      have HDR : Hid (Drew w6 wr) := hdr
      clear hdr
      go_wp2
      go_quiet ((go_at_call 36; first | exact Calls.quiet_of_same (R6 _) | exact Calls.quiet_of_same (R11 _) | exact Calls.quiet_of_same (R25 _)))
      go_wp2_with (go_at_call 36; first | (refine (R2 _).mono ?_; rintro e w' ⟨rfl, rfl⟩) | (refine (R13 _).mono ?_; rintro e w' ⟨rfl, rfl⟩) | (refine (R22 _).mono ?_; rintro e w' ⟨rfl, rfl⟩))
      refine ⟨⟨i + 1, rnd ⟨a, b', c, d, e, f, g, h⟩ kk ww, by omega, by go_num, int_eq (rnd_a a b' c d e f g h kk ww), rfl, rfl, rfl, int_eq (rnd_e a b' c d e f g h kk ww), rfl, rfl, rfl, HN.out.symm, HDR.out.more _⟩, ?_⟩
      simp [intOf]
      omega
    · have d0 := (hdr.cell _).trans c0
      have d1 := (hdr.cell _).trans c1
      have d2 := (hdr.cell _).trans c2
      have d3 := (hdr.cell _).trans c3
      have d4 := (hdr.cell _).trans c4
      have d5 := (hdr.cell _).trans c5
      have d6 := (hdr.cell _).trans c6
      have d7 := (hdr.cell _).trans c7
      have HF : Hid (mixS K old bs = [(o0 + s.a) % M32, (o1 + s.b) % M32, (o2 + s.c) % M32, (o3 + s.d) % M32, (o4 + s.e) % M32, (o5 + s.f) % M32, (o6 + s.g) % M32, (o7 + s.h) % M32]) := by
        unfold Hid
        rw [HFIN.out, HAD.out, hs, show i = 64 by omega]
      have HDR : Hid (Drew w6 wr) := hdr
      have HW : Hid (Row 44 .u32 wr (w.heap.size + 1 + 1) (List.replicate 8 0) ∧ Below w.heap.size w wr) := by
        obtain ⟨n, rfl⟩ := hdr
        exact ⟨HW6.out.2.2.1.drewN n, HW6.out.2.2.2.2.trans (Drew.below ⟨n, rfl⟩ _)⟩
      clear hs c0 c1 c2 c3 c4 c5 c6 c7 hdr HW6 HFIN HAD HS8
      obtain ⟨a, b', c, d, e, f, g, h⟩ := s
      go_wp2_with (refine wpList_store_nums (by with_reducible rfl) 44 _ _ (by with_reducible rfl) .u32 44 8 Try.sizeW8 _ (List.replicate 8 0) [(o0 + a) % M32, (o1 + b') % M32, (o2 + c) % M32, (o3 + d) % M32, (o4 + e) % M32, (o5 + f) % M32, (o6 + g) % M32, (o7 + h) % M32] (by rfl) (by rfl) HW.out.1 (by simp) (by rfl) ?_; intro w7 hr7 hb7 hs7 ho7)
      rw [← HF.out] at hr7
      refine bodyPost_ret (v := ag .u32 (mixS K old bs)) (results_nums rfl _ _ _ 44 41 .u32 8 _ rfl hr7 Try.underlying44 Try.sizeW8 rfl) rfl ⟨rfl, HW.out.2.trans (hb7.mono (by omega))⟩
end Go.Proofs.Ytclejcjbnmgaiaa
