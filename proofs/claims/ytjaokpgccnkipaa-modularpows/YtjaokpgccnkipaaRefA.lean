/-
  Contracts of the document's answer: the sum (Add), the difference (Sub).
-/
import Derived.Test.YtjaokpgccnkipaaRefM
namespace Go.Proofs.Ytjaokpgccnkipaa
open Go.RowKit
set_option linter.unusedVariables false
set_option linter.unusedSimpArgs false

/-- An answer as in NumOut, whose cells are new. -/
def NumNew (k : IntKind) (B : Int) (w w' : World) (v : Value) (n : Int) (L : Nat) : Prop :=
  ∃ ao len cap xs, v = .slice ao len cap ∧ NumIn k B w' ao len cap xs ∧ Canon xs ∧ val B xs = n ∧ len ≤ L ∧ Below w.heap.size w w' ∧ ∀ b off s, ao = some ⟨b, off, s⟩ → w.heap.size ≤ b
theorem NumNew.out {k : IntKind} {B : Int} {w w' : World} {v : Value} {n : Int} {L : Nat} (h : NumNew k B w w' v n L) : NumOut k B w w' v n L := by
  obtain ⟨a, b, c, d, e1, e2, e3, e4, e5, e6, _⟩ := h
  exact ⟨a, b, c, d, e1, e2, e3, e4, e5, e6⟩
theorem Own.fresh {e : TypeId} {k : IntKind} {w : World} {base : Nat} {ao : Option Addr} {len cap : Nat} {xs : List Int} (h : Own e k w base (.slice ao len cap) xs) : ∀ b off s, ao = some ⟨b, off, s⟩ → base ≤ b := by
  intro b off s ha
  rcases h.2 with ⟨h1, _⟩ | ⟨g, cap', cur, h1, hg, _⟩
  · injection h1 with h1
    rw [h1] at ha; cases ha
  · injection h1 with h1
    rw [h1] at ha
    injection ha with ha
    injection ha with ha
    omega
theorem NumIn.fresh {k : IntKind} {B : Int} {w w' : World} {ao : Option Addr} {len cap : Nat} {xs : List Int} (h : NumIn k B w' ao len cap xs) (hb : Below w.heap.size w w') (n : Int) (hv : val B xs = n) (L : Nat) (hL : len ≤ L) (hf : ∀ b off s, ao = some ⟨b, off, s⟩ → w.heap.size ≤ b) :
    NumNew k B w w' (.slice ao (top xs) cap) n L := by
  have hl := h.len
  have ht := top_le xs
  exact ⟨ao, top xs, cap, xs.take (top xs), rfl, h.take _ (by omega), canon_take_top xs, by rw [val_take_top, hv], by omega, hb, hf⟩

/-- What Sub has gathered: i digits, and what is borrowed. -/
def RSubs (xs ys : List Int) (i : Nat) (ds : List Int) (c : Int) : Prop :=
  ds.length = i ∧ Dg D16 ds ∧ 0 ≤ c ∧ c ≤ 1 ∧ val D16 ds = low D16 xs i - low D16 ys i + D16 ^ i * c
theorem RSubs.step {xs ys : List Int} {i : Nat} {ds : List Int} {c : Int} (h : RSubs xs ys i ds c) {d c' : Int} (hd : 0 ≤ d ∧ d < D16) (hc : 0 ≤ c' ∧ c' ≤ 1) (he : d = xs.getD i 0 - c - ys.getD i 0 + 65536 * c') : RSubs xs ys (i + 1) (ds ++ [d]) c' := by
  obtain ⟨h1, h2, h3, h4, h5⟩ := h
  refine ⟨by simp [h1], h2.append (Dg.cons hd (Dg.nil _)), hc.1, hc.2, ?_⟩
  rw [val_snoc, low_succ, low_succ, h1, Int.pow_succ, h5, he]
  have hD : D16 = 65536 := rfl
  generalize D16 ^ i = p at *
  rw [hD]
  grind
theorem RSubs.done {xs ys : List Int} {ds : List Int} {c : Int} (h : RSubs xs ys xs.length ds c) (hy : ys.length ≤ xs.length) (hle : val D16 ys ≤ val D16 xs) : val D16 ds = val D16 xs - val D16 ys := by
  obtain ⟨h1, h2, h3, h4, h5⟩ := h
  rw [low_len, low_all D16 ys xs.length (by have := top_le ys; omega)] at h5
  have hc : c = 0 := by
    have a := val_lt D16_pos h2
    rw [h1] at a
    rcases (show c = 0 ∨ c = 1 by omega) with e | e
    · exact e
    · rw [e] at h5
      omega
  rw [hc] at h5
  simpa using h5

set_option maxHeartbeats 1000000 in
/-- the document's Sub, of a number that isn't less. -/
theorem rSub_new (ao bo : Option Addr) (la ca lb cb : Nat) (xs ys : List Int) (w : World) (h : NumIn .i64 D16 w ao la ca xs) (h' : NumIn .i64 D16 w bo lb cb ys) (hx : Canon xs) (hy : Canon ys) (hle : val D16 ys ≤ val D16 xs) (hla : la ≤ 1000000) (hlb : lb ≤ 1000000) :
    Calls Try.prog 24 #[.slice ao la ca, .slice bo lb cb] w fun e w' => ∃ v, e = .returned v ∧ NumNew .i64 D16 w w' v (val D16 xs - val D16 ys) la := by
  have hl := h.len
  have hl' := h'.len
  have hyx : lb ≤ la := by
    have := top_mono D16_one h'.dg h.dg hle
    unfold Canon at hx hy
    omega
  clear hx hy
  go_enter Try.func24, Try.ntmps24
  go_wp2
  go_loopw [5, 6, 7] (fun vo vc vi wr => ∃ (i : Nat) (c : Int) (ds : List Int), i ≤ la ∧ vi = .int .i64 i ∧ vc = .int .i64 c ∧ Own 3 .i64 wr w.heap.size vo ds ∧ RSubs xs ys i ds c ∧ Below w.heap.size w wr) (fun _ _ vi _ => la - (intOf vi).toNat)
  case atStart => exact ⟨0, 0, [], Nat.zero_le _, rfl, rfl, Own.nil _ _ _ _, ⟨rfl, Dg.nil _, by decide, by decide, by simp [val, low_zero]⟩, Below.refl _ _⟩
  case round =>
    obtain ⟨i, c, ds, hi, rfl, rfl, hown, hs, hb⟩ := hrel
    by_cases hlt : i < la
    · have hx := h.lies.old hb
      obtain ⟨b, off, rfl, hblk, hcs⟩ := hx.at (by omega)
      have hcx := hcs i hlt
      have hlen := hs.1
      have hc0 := hs.2.2.1
      have hc1 := hs.2.2.2.1
      have gx := h.dg.getD D16_pos i
      have gy := h'.dg.getD D16_pos i
      have HS : Hid (∀ d c', (0 ≤ d ∧ d < D16) → (0 ≤ c' ∧ c' ≤ 1) → d = xs.getD i 0 - c - ys.getD i 0 + 65536 * c' → RSubs xs ys (i + 1) (ds ++ [d]) c') := fun d c' h1 h2 h3 => hs.step h1 h2 h3
      have HLB : Hid (ds.length < 1073741824) := by unfold Hid; omega
      have hbs := hb.size
      have x0 := gx.1
      have x1 : xs.getD i 0 < 65536 := gx.2
      have y0 := gy.1
      have y1 : ys.getD i 0 < 65536 := gy.2
      have hin : i < lb → ∃ b2 off2, bo = some ⟨b2, off2, none⟩ ∧ wr.cell? ⟨b2, off2 + i, none⟩ = some (.int .i64 (ys.getD i 0)) := fun hk => by
        obtain ⟨b2, off2, e, _, hc2⟩ := (h'.lies.old hb).at (by omega)
        exact ⟨b2, off2, e, hc2 i hk⟩
      have hout : ¬ i < lb → ys.getD i 0 = 0 := fun hk => by simp [List.getD, List.getElem?_eq_none (show ys.length ≤ i by omega)]
      generalize xs.getD i 0 = x at *
      generalize ys.getD i 0 = y at *
      clear hs hx hcs h h' hle hl hl' gx gy hlen
      by_cases hk : i < lb
      · obtain ⟨b2, off2, rfl, hcy⟩ := hin hk
        clear hin hout
        by_cases hneg : x - c - y < 0
        · have HF := HS.out (x - c - y + 65536) 1 (by unfold D16; omega) (by omega) (by omega)
          replace HS : Hid (RSubs xs ys (i + 1) (ds ++ [x - c - y + 65536]) 1) := HF
          clear HF
          go_wp2_with (at_builtin; refine wpList_append_one rfl _ _ 27 rfl 3 .i64 8 Try.underlying27 Try.infoI w.heap.size u5 ds (x - c - y + 65536) (by rfl) hown (by rfl) HLB.out (by decide) w hb hbs ?_)
          intro v' w' hown' hb'
          clear hown hb hbs
          go_wp2
          go_roundw
          case rel => exact ⟨i + 1, _, _, by omega, by go_num, rfl, hown', HS.out, hb'⟩
          case measure => simp [intOf] <;> omega
        · have HF := HS.out (x - c - y) 0 (by unfold D16; omega) (by omega) (by omega)
          replace HS : Hid (RSubs xs ys (i + 1) (ds ++ [x - c - y]) 0) := HF
          clear HF
          go_wp2_with (at_builtin; refine wpList_append_one rfl _ _ 27 rfl 3 .i64 8 Try.underlying27 Try.infoI w.heap.size u5 ds (x - c - y) (by rfl) hown (by rfl) HLB.out (by decide) w hb hbs ?_)
          intro v' w' hown' hb'
          clear hown hb hbs
          go_wp2
          go_roundw
          case rel => exact ⟨i + 1, _, _, by omega, by go_num, rfl, hown', HS.out, hb'⟩
          case measure => simp [intOf] <;> omega
      · have hz := hout hk
        subst hz
        clear hin hout y0 y1
        by_cases hneg : x - c < 0
        · have HF := HS.out (x - c + 65536) 1 (by unfold D16; omega) (by omega) (by omega)
          replace HS : Hid (RSubs xs ys (i + 1) (ds ++ [x - c + 65536]) 1) := HF
          clear HF
          go_wp2_with (at_builtin; refine wpList_append_one rfl _ _ 27 rfl 3 .i64 8 Try.underlying27 Try.infoI w.heap.size u5 ds (x - c + 65536) (by rfl) hown (by rfl) HLB.out (by decide) w hb hbs ?_)
          intro v' w' hown' hb'
          clear hown hb hbs
          go_wp2
          go_roundw
          case rel => exact ⟨i + 1, _, _, by omega, by go_num, rfl, hown', HS.out, hb'⟩
          case measure => simp [intOf] <;> omega
        · have HF := HS.out (x - c) 0 (by unfold D16; omega) (by omega) (by omega)
          replace HS : Hid (RSubs xs ys (i + 1) (ds ++ [x - c]) 0) := HF
          clear HF
          go_wp2_with (at_builtin; refine wpList_append_one rfl _ _ 27 rfl 3 .i64 8 Try.underlying27 Try.infoI w.heap.size u5 ds (x - c) (by rfl) hown (by rfl) HLB.out (by decide) w hb hbs ?_)
          intro v' w' hown' hb'
          clear hown hb hbs
          go_wp2
          go_roundw
          case rel => exact ⟨i + 1, _, _, by omega, by go_num, rfl, hown', HS.out, hb'⟩
          case measure => simp [intOf] <;> omega
    · obtain rfl : i = la := by omega
      have hlen := hs.1
      obtain ⟨a2, c2, hv, hnum⟩ := hown.num hs.2.1 (by omega)
      have HV : Hid (val D16 ds = val D16 xs - val D16 ys) := by rw [← hl] at hs; exact hs.done (by omega) hle
      have HN : Hid (NumIn .i64 D16 wr a2 ds.length c2 ds) := hnum
      have HB : Hid (Below w.heap.size w wr) := hb
      have HL : Hid (ds.length = i) := hlen
      subst hv
      have HFR : Hid (∀ b off s, a2 = some ⟨b, off, s⟩ → w.heap.size ≤ b) := hown.fresh
      clear hown hs hnum hb h h' hle hlen
      go_wp2_with fail
      refine (rtrim_any a2 ds.length c2 ds wr HN.out).mono ?_
      rintro e w4 ⟨rfl, rfl⟩
      go_wp2
      go_ret
      exact ⟨_, rfl, HN.out.fresh HB.out _ HV.out _ (by have := HL.out; omega) HFR.out⟩
/-- the document's Sub. -/
theorem rSub_any (ao bo : Option Addr) (la ca lb cb : Nat) (xs ys : List Int) (w : World) (h : NumIn .i64 D16 w ao la ca xs) (h' : NumIn .i64 D16 w bo lb cb ys) (hx : Canon xs) (hy : Canon ys) (hle : val D16 ys ≤ val D16 xs) (hla : la ≤ 1000000) (hlb : lb ≤ 1000000) :
    Calls Try.prog 24 #[.slice ao la ca, .slice bo lb cb] w fun e w' => ∃ v, e = .returned v ∧ NumOut .i64 D16 w w' v (val D16 xs - val D16 ys) la := by
  refine (rSub_new ao bo la ca lb cb xs ys w h h' hx hy hle hla hlb).mono ?_
  rintro e w' ⟨v, rfl, hv⟩
  exact ⟨v, rfl, hv.out⟩

/-- What Add has gathered: i digits, and what is carried. -/
def RAdds (xs ys : List Int) (i : Nat) (ds : List Int) (c : Int) : Prop :=
  ds.length = i ∧ Dg D16 ds ∧ 0 ≤ c ∧ c ≤ 1 ∧ val D16 ds + D16 ^ i * c = low D16 xs i + low D16 ys i
theorem RAdds.step {xs ys : List Int} {i : Nat} {ds : List Int} {c : Int} (h : RAdds xs ys i ds c) (hx : Dg D16 xs) (hy : Dg D16 ys) : RAdds xs ys (i + 1) (ds ++ [(c + xs.getD i 0 + ys.getD i 0) % 65536]) ((c + xs.getD i 0 + ys.getD i 0) / 65536) := by
  obtain ⟨h1, h2, h3, h4, h5⟩ := h
  have hD : D16 = 65536 := rfl
  have gx := hx.getD D16_pos i
  have gy := hy.getD D16_pos i
  rw [hD] at gx gy
  refine ⟨by simp [h1], h2.append (Dg.cons (by rw [hD]; omega) (Dg.nil _)), by omega, by omega, ?_⟩
  rw [val_snoc, low_succ, low_succ, h1, Int.pow_succ]
  have e : c + xs.getD i 0 + ys.getD i 0 = (c + xs.getD i 0 + ys.getD i 0) % 65536 + 65536 * ((c + xs.getD i 0 + ys.getD i 0) / 65536) := by omega
  generalize (c + xs.getD i 0 + ys.getD i 0) % 65536 = r at *
  generalize (c + xs.getD i 0 + ys.getD i 0) / 65536 = q at *
  generalize xs.getD i 0 = x at *
  generalize ys.getD i 0 = y at *
  generalize D16 ^ i = p at *
  rw [hD]
  have e3 : r = c + x + y - 65536 * q := by omega
  rw [e3]
  grind
theorem RAdds.most {xs ys : List Int} {i : Nat} {ds : List Int} {c : Int} (h : RAdds xs ys i ds c) (hx : Dg D16 xs) (hy : Dg D16 ys) (m : Nat) (hm : xs.length ≤ m) (hm' : ys.length ≤ m) (hc : 0 < c) : i ≤ m := by
  obtain ⟨h1, h2, h3, h4, h5⟩ := h
  by_cases hi : i ≤ m
  · exact hi
  · exfalso
    have a : low D16 xs i = val D16 xs := low_all _ _ _ (by have := top_le xs; omega)
    have b : low D16 ys i = val D16 ys := low_all _ _ _ (by have := top_le ys; omega)
    rw [a, b] at h5
    have a1 := val_lt D16_pos hx
    have b1 := val_lt D16_pos hy
    have a2 := pow_mono (B := D16) (by decide) hm
    have b2 := pow_mono (B := D16) (by decide) hm'
    have a3 := pow_mono (B := D16) (by decide) (show m + 1 ≤ i by omega)
    rw [Int.pow_succ] at a3
    have hp : 0 < D16 ^ m := Int.pow_pos D16_pos
    have hv := val_nonneg D16_pos h2
    obtain rfl : c = 1 := by omega
    have hD : D16 = 65536 := rfl
    generalize hq : D16 ^ m = q at *
    generalize D16 ^ i = p at *
    rw [hD] at a3
    omega
theorem RAdds.done {xs ys : List Int} {i : Nat} {ds : List Int} (h : RAdds xs ys i ds 0) (hx : Dg D16 xs) (hy : Dg D16 ys) (cx : Canon xs) (cy : Canon ys) (hi : xs.length ≤ i) (hi' : ys.length ≤ i) (hsh : ∀ j, i = j + 1 → xs.length = i ∨ ys.length = i ∨ D16 ^ j ≤ val D16 ds) : val D16 ds = val D16 xs + val D16 ys ∧ Canon ds := by
  obtain ⟨h1, h2, h3, h4, h5⟩ := h
  have a : low D16 xs i = val D16 xs := low_all _ _ _ (by have := top_le xs; omega)
  have b : low D16 ys i = val D16 ys := low_all _ _ _ (by have := top_le ys; omega)
  rw [a, b] at h5
  have hv : val D16 ds = val D16 xs + val D16 ys := by simpa using h5
  refine ⟨hv, ?_⟩
  cases i with
  | zero =>
    have : ds = [] := List.eq_nil_of_length_eq_zero h1
    rw [this]; exact Canon.nil
  | succ j =>
    refine canon_of_ge D16_one h2 j h1 ?_
    have x0 := val_nonneg D16_pos hx
    have y0 := val_nonneg D16_pos hy
    unfold Canon at cx cy
    rcases hsh j rfl with e | e | e
    · have := val_ge D16_pos hx j (by omega); omega
    · have := val_ge D16_pos hy j (by omega); omega
    · exact e

set_option maxHeartbeats 1000000 in
/-- the document's Add. -/
theorem rAdd_any (ao bo : Option Addr) (la ca lb cb : Nat) (xs ys : List Int) (w : World) (h : NumIn .i64 D16 w ao la ca xs) (h' : NumIn .i64 D16 w bo lb cb ys) (hx : Canon xs) (hy : Canon ys) (hla : la ≤ 1000000) (hlb : lb ≤ 1000000) :
    Calls Try.prog 19 #[.slice ao la ca, .slice bo lb cb] w fun e w' => ∃ v, e = .returned v ∧ NumOut .i64 D16 w w' v (val D16 xs + val D16 ys) (la + lb + 1) := by
  have hl := h.len
  have hl' := h'.len
  go_enter Try.func19, Try.ntmps19
  go_wp2
  go_loopw [5, 6, 7] (fun vo vc vi wr => ∃ (i : Nat) (c : Int) (ds : List Int), i ≤ la + lb + 1 ∧ vi = .int .i64 i ∧ vc = .int .i64 c ∧ Own 3 .i64 wr w.heap.size vo ds ∧ RAdds xs ys i ds c ∧ (∀ j, i = j + 1 → la ≤ j → lb ≤ j → c = 0 → D16 ^ j ≤ val D16 ds) ∧ Below w.heap.size w wr) (fun _ _ vi _ => la + lb + 1 - (intOf vi).toNat)
  case atStart => exact ⟨0, 0, [], Nat.zero_le _, rfl, rfl, Own.nil _ _ _ _, ⟨rfl, Dg.nil _, by decide, by decide, by simp [val, low_zero]⟩, fun j h => by omega, Below.refl _ _⟩
  case round =>
    obtain ⟨i, c, ds, hi, rfl, rfl, hown, hs, hj, hb⟩ := hrel
    have hc0 := hs.2.2.1
    have hc1 := hs.2.2.2.1
    have hlen := hs.1
    by_cases hgo : i < la ∨ i < lb ∨ 0 < c
    · have hm : i ≤ la + lb := by
        rcases hgo with e | e | e
        · omega
        · omega
        · exact hs.most h.dg h'.dg (la + lb) (by omega) (by omega) e
      have gx := h.dg.getD D16_pos i
      have gy := h'.dg.getD D16_pos i
      have x0 := gx.1
      have x1 : xs.getD i 0 < 65536 := gx.2
      have y0 := gy.1
      have y1 : ys.getD i 0 < 65536 := gy.2
      have hst := hs.step h.dg h'.dg
      have hj2 : ∀ j, i + 1 = j + 1 → la ≤ j → lb ≤ j → (c + xs.getD i 0 + ys.getD i 0) / 65536 = 0 → D16 ^ j ≤ val D16 (ds ++ [(c + xs.getD i 0 + ys.getD i 0) % 65536]) := fun j e1 e2 e3 e4 => by
        obtain rfl : i = j := by omega
        have cp : 0 < c := by omega
        rw [val_snoc, hlen]
        have v0 := val_nonneg D16_pos hs.2.1
        have : D16 ^ i * 1 ≤ D16 ^ i * ((c + xs.getD i 0 + ys.getD i 0) % 65536) := Int.mul_le_mul_of_nonneg_left (by omega) (by have : 0 < D16 ^ i := Int.pow_pos D16_pos; omega)
        omega
      have HS : Hid (RAdds xs ys (i + 1) (ds ++ [(c + xs.getD i 0 + ys.getD i 0) % 65536]) ((c + xs.getD i 0 + ys.getD i 0) / 65536) ∧ ∀ j, i + 1 = j + 1 → la ≤ j → lb ≤ j → (c + xs.getD i 0 + ys.getD i 0) / 65536 = 0 → D16 ^ j ≤ val D16 (ds ++ [(c + xs.getD i 0 + ys.getD i 0) % 65536])) := ⟨hst, hj2⟩
      have HLB : Hid (ds.length < 1073741824) := by unfold Hid; omega
      have hbs := hb.size
      have hinx : i < la → ∃ b2 off2, ao = some ⟨b2, off2, none⟩ ∧ wr.cell? ⟨b2, off2 + i, none⟩ = some (.int .i64 (xs.getD i 0)) := fun hk => by
        obtain ⟨b2, off2, e, _, hc2⟩ := (h.lies.old hb).at (by omega)
        exact ⟨b2, off2, e, hc2 i hk⟩
      have houtx : ¬ i < la → xs.getD i 0 = 0 := fun hk => by simp [List.getD, List.getElem?_eq_none (show xs.length ≤ i by omega)]
      have hin : i < lb → ∃ b2 off2, bo = some ⟨b2, off2, none⟩ ∧ wr.cell? ⟨b2, off2 + i, none⟩ = some (.int .i64 (ys.getD i 0)) := fun hk => by
        obtain ⟨b2, off2, e, _, hc2⟩ := (h'.lies.old hb).at (by omega)
        exact ⟨b2, off2, e, hc2 i hk⟩
      have hout : ¬ i < lb → ys.getD i 0 = 0 := fun hk => by simp [List.getD, List.getElem?_eq_none (show ys.length ≤ i by omega)]
      generalize xs.getD i 0 = x at *
      generalize ys.getD i 0 = y at *
      clear hs h h' hl hl' gx gy hlen hst hj2 hj hx hy
      by_cases hka : i < la
      · obtain ⟨b1, off1, rfl, hcx⟩ := hinx hka
        clear hinx houtx hgo
        by_cases hk : i < lb
        · obtain ⟨b2, off2, rfl, hcy⟩ := hin hk
          clear hin hout
          go_wp2_with (at_builtin; refine wpList_append_one rfl _ _ 27 rfl 3 .i64 8 Try.underlying27 Try.infoI w.heap.size u5 ds ((c + x + y) % 65536) (by rfl) hown (by rfl) HLB.out (by decide) w hb hbs ?_)
          intro v' w' hown' hb'
          clear hown hb hbs
          go_wp2
          go_roundw
          case rel => exact ⟨i + 1, _, _, by omega, by go_num, rfl, hown', HS.out.1, HS.out.2, hb'⟩
          case measure => simp [intOf] <;> omega
        · have hz := hout hk
          subst hz
          rw [show c + x + 0 = c + x by omega] at HS
          clear hin hout y0 y1
          go_wp2_with (at_builtin; refine wpList_append_one rfl _ _ 27 rfl 3 .i64 8 Try.underlying27 Try.infoI w.heap.size u5 ds ((c + x) % 65536) (by rfl) hown (by rfl) HLB.out (by decide) w hb hbs ?_)
          intro v' w' hown' hb'
          clear hown hb hbs
          go_wp2
          go_roundw
          case rel => exact ⟨i + 1, _, _, by omega, by go_num, rfl, hown', HS.out.1, HS.out.2, hb'⟩
          case measure => simp [intOf] <;> omega
      · have hz := houtx hka
        subst hz
        rw [show c + 0 + y = c + y by omega] at HS
        clear hinx houtx x0 x1
        by_cases hk : i < lb
        · obtain ⟨b2, off2, rfl, hcy⟩ := hin hk
          clear hin hout hgo
          go_wp2_with (at_builtin; refine wpList_append_one rfl _ _ 27 rfl 3 .i64 8 Try.underlying27 Try.infoI w.heap.size u5 ds ((c + y) % 65536) (by rfl) hown (by rfl) HLB.out (by decide) w hb hbs ?_)
          intro v' w' hown' hb'
          clear hown hb hbs
          go_wp2
          go_roundw
          case rel => exact ⟨i + 1, _, _, by omega, by go_num, rfl, hown', HS.out.1, HS.out.2, hb'⟩
          case measure => simp [intOf] <;> omega
        · have hz := hout hk
          subst hz
          rw [show c + 0 = c by omega] at HS
          have hcp : 0 < c := by omega
          clear hin hout y0 y1 hgo
          go_wp2_with (at_builtin; refine wpList_append_one rfl _ _ 27 rfl 3 .i64 8 Try.underlying27 Try.infoI w.heap.size u5 ds (c % 65536) (by rfl) hown (by rfl) HLB.out (by decide) w hb hbs ?_)
          intro v' w' hown' hb'
          clear hown hb hbs
          go_wp2
          go_roundw
          case rel => exact ⟨i + 1, _, _, by omega, by go_num, rfl, hown', HS.out.1, HS.out.2, hb'⟩
          case measure => simp [intOf] <;> omega
    · obtain rfl : c = 0 := by omega
      have h1 : la ≤ i := by omega
      have h2 : lb ≤ i := by omega
      have hdn := hs.done h.dg h'.dg hx hy (by omega) (by omega) (fun j e => by
        by_cases e1 : xs.length = i
        · exact .inl e1
        · by_cases e2 : ys.length = i
          · exact .inr (.inl e2)
          · exact .inr (.inr (hj j e (by omega) (by omega) rfl)))
      obtain ⟨a2, c2, hv, hnum⟩ := hown.num hs.2.1 (by omega)
      have HF : Hid (NumOut .i64 D16 w wr (.slice a2 ds.length c2) (val D16 xs + val D16 ys) (la + lb + 1)) := ⟨_, _, _, _, rfl, hnum, hdn.2, hdn.1, by omega, hb⟩
      subst hv
      clear hown hs hnum hb h h' hdn hj hx hy hgo hlen
      go_wp2
      go_ret
      exact ⟨_, rfl, HF.out⟩
end Go.Proofs.Ytjaokpgccnkipaa
