/-
  Contracts of the document's answer: the sum (Add), the difference (Sub).
-/
import Derived.Test.YtdojbknkaoiioaaRefM
namespace Go.Proofs.Ytdojbknkaoiioaa
open Go.RowKit
set_option linter.unusedVariables false
set_option linter.unusedSimpArgs false

/-- An answer as in NumOut, whose cells are new. -/
def NumNew (k : IntKind) (B : Int) (w w' : World) (v : Value) (n : Int) (L : Nat) : Prop :=
  ∃ ao len cap xs, v = .slice ao len cap ∧ NumIn k B w' ao len cap xs ∧ Canon xs ∧ val B xs = n ∧ len ≤ L ∧ Below w.heap.size w w' ∧ ∀ b off s, ao = some ⟨b, off, s⟩ → w.heap.size ≤ b
theorem NumNew.out {k : IntKind} {B : Int} {w w' : World} {v : Value} {n : Int} {L : Nat} (h : NumNew k B w w' v n L) : NumOut k B w w' v n L := by
  obtain ⟨a, b, c, d, e1, e2, e3, e4, e5, e6, _⟩ := h
  exact ⟨a, b, c, d, e1, e2, e3, e4, e5, e6⟩
theorem Own.fresh {e : TypeId} {k : IntKind} {w : World} {base : Nat} {ao : Option Addr} {len cap : Nat} {xs : List Int} (h : Own e k w base (.slice ao len cap) xs) : ∀ b off s, ao = some ⟨b, off, s⟩ → base ≤ b := by
  intro b off s ha
  rcases h.2 with ⟨h1, _⟩ | ⟨g, cap', cur, h1, hg, _⟩
  · injection h1 with h1
    rw [h1] at ha; cases ha
  · injection h1 with h1
    rw [h1] at ha
    injection ha with ha
    injection ha with ha
    omega
theorem NumIn.fresh {k : IntKind} {B : Int} {w w' : World} {ao : Option Addr} {len cap : Nat} {xs : List Int} (h : NumIn k B w' ao len cap xs) (hb : Below w.heap.size w w') (n : Int) (hv : val B xs = n) (L : Nat) (hL : len ≤ L) (hf : ∀ b off s, ao = some ⟨b, off, s⟩ → w.heap.size ≤ b) :
    NumNew k B w w' (.slice ao (top xs) cap) n L := by
  have hl := h.len
  have ht := top_le xs
  exact ⟨ao, top xs, cap, xs.take (top xs), rfl, h.take _ (by omega), canon_take_top xs, by rw [val_take_top, hv], by omega, hb, hf⟩

/-- What Sub has gathered: i digits, and what is borrowed. -/
def RSubs (xs ys : List Int) (i : Nat) (ds : List Int) (c : Int) : Prop :=
  ds.length = i ∧ Dg D16 ds ∧ 0 ≤ c ∧ c ≤ 1 ∧ val D16 ds = low D16 xs i - low D16 ys i + D16 ^ i * c
theorem RSubs.step {xs ys : List Int} {i : Nat} {ds : List Int} {c : Int} (h : RSubs xs ys i ds c) {d c' : Int} (hd : 0 ≤ d ∧ d < D16) (hc : 0 ≤ c' ∧ c' ≤ 1) (he : d = xs.getD i 0 - c - ys.getD i 0 + 65536 * c') : RSubs xs ys (i + 1) (ds ++ [d]) c' := by
  obtain ⟨h1, h2, h3, h4, h5⟩ := h
  refine ⟨by simp [h1], h2.append (Dg.cons hd (Dg.nil _)), hc.1, hc.2, ?_⟩
  rw [val_snoc, low_succ, low_succ, h1, Int.pow_succ, h5, he]
  have hD : D16 = 65536 := rfl
  generalize D16 ^ i = p at *
  rw [hD]
  grind
theorem RSubs.done {xs ys : List Int} {ds : List Int} {c : Int} (h : RSubs xs ys xs.length ds c) (hy : ys.length ≤ xs.length) (hle : val D16 ys ≤ val D16 xs) : val D16 ds = val D16 xs - val D16 ys := by
  obtain ⟨h1, h2, h3, h4, h5⟩ := h
  rw [low_len, low_all D16 ys xs.length (by have := top_le ys; omega)] at h5
  have hc : c = 0 := by
    have a := val_lt D16_pos h2
    rw [h1] at a
    rcases (show c = 0 ∨ c = 1 by omega) with e | e
    · exact e
    · rw [e] at h5
      omega
  rw [hc] at h5
  simpa using h5

set_option maxHeartbeats 1000000 in
/-- the document's Sub, of a number that isn't less. -/
theorem rSub_new (ao bo : Option Addr) (la ca lb cb : Nat) (xs ys : List Int) (w : World) (h : NumIn .i64 D16 w ao la ca xs) (h' : NumIn .i64 D16 w bo lb cb ys) (hx : Canon xs) (hy : Canon ys) (hle : val D16 ys ≤ val D16 xs) (hla : la ≤ 1000000) (hlb : lb ≤ 1000000) :
    Calls Try.prog 84 #[.slice ao la ca, .slice bo lb cb] w fun e w' => ∃ v, e = .returned v ∧ NumNew .i64 D16 w w' v (val D16 xs - val D16 ys) la := by
  have hl := h.len
  have hl' := h'.len
  have hyx : lb ≤ la := by
    have := top_mono D16_one h'.dg h.dg hle
    unfold Canon at hx hy
    omega
  clear hx hy
  go_enter Try.func84, Try.ntmps84
  go_wp2
  go_loopw [5, 6, 7] (fun vo vc vi wr => ∃ (i : Nat) (c : Int) (ds : List Int), i ≤ la ∧ vi = .int .i64 i ∧ vc = .int .i64 c ∧ Own 3 .i64 wr w.heap.size vo ds ∧ RSubs xs ys i ds c ∧ Below w.heap.size w wr) (fun _ _ vi _ => la - (intOf vi).toNat)
  case atStart => exact ⟨0, 0, [], Nat.zero_le _, rfl, rfl, Own.nil _ _ _ _, ⟨rfl, Dg.nil _, by decide, by decide, by simp [val, low_zero]⟩, Below.refl _ _⟩
  case round =>
    obtain ⟨i, c, ds, hi, rfl, rfl, hown, hs, hb⟩ := hrel
    by_cases hlt : i < la
    · have hx := h.lies.old hb
      obtain ⟨b, off, rfl, hblk, hcs⟩ := hx.at (by omega)
      have hcx := hcs i hlt
      have hlen := hs.1
      have hc0 := hs.2.2.1
      have hc1 := hs.2.2.2.1
      have gx := h.dg.getD D16_pos i
      have gy := h'.dg.getD D16_pos i
      have HS : Hid (∀ d c', (0 ≤ d ∧ d < D16) → (0 ≤ c' ∧ c' ≤ 1) → d = xs.getD i 0 - c - ys.getD i 0 + 65536 * c' → RSubs xs ys (i + 1) (ds ++ [d]) c') := fun d c' h1 h2 h3 => hs.step h1 h2 h3
      have HLB : Hid (ds.length < 1073741824) := by unfold Hid; omega
      have hbs := hb.size
      have x0 := gx.1
      have x1 : xs.getD i 0 < 65536 := gx.2
      have y0 := gy.1
      have y1 : ys.getD i 0 < 65536 := gy.2
      have hin : i < lb → ∃ b2 off2, bo = some ⟨b2, off2, none⟩ ∧ wr.cell? ⟨b2, off2 + i, none⟩ = some (.int .i64 (ys.getD i 0)) := fun hk => by
        obtain ⟨b2, off2, e, _, hc2⟩ := (h'.lies.old hb).at (by omega)
        exact ⟨b2, off2, e, hc2 i hk⟩
      have hout : ¬ i < lb → ys.getD i 0 = 0 := fun hk => by simp [List.getD, List.getElem?_eq_none (show ys.length ≤ i by omega)]
      generalize xs.getD i 0 = x at *
      generalize ys.getD i 0 = y at *
      clear hs hx hcs h h' hle hl hl' gx gy hlen
      by_cases hk : i < lb
      · obtain ⟨b2, off2, rfl, hcy⟩ := hin hk
        clear hin hout
        by_cases hneg : x - c - y < 0
        · have HF := HS.out (x - c - y + 65536) 1 (by unfold D16; omega) (by omega) (by omega)
          replace HS : Hid (RSubs xs ys (i + 1) (ds ++ [x - c - y + 65536]) 1) := HF
          clear HF
          go_wp2_with (at_builtin; refine wpList_append_one rfl _ _ 66 rfl 3 .i64 8 Try.underlying66 Try.infoI w.heap.size u5 ds (x - c - y + 65536) (by rfl) hown (by rfl) HLB.out (by decide) w hb hbs ?_)
          intro v' w' hown' hb'
          clear hown hb hbs
          go_wp2
          go_roundw
          case rel => exact ⟨i + 1, _, _, by omega, by go_num, rfl, hown', HS.out, hb'⟩
          case measure => simp [intOf] <;> omega
        · have HF := HS.out (x - c - y) 0 (by unfold D16; omega) (by omega) (by omega)
          replace HS : Hid (RSubs xs ys (i + 1) (ds ++ [x - c - y]) 0) := HF
          clear HF
          go_wp2_with (at_builtin; refine wpList_append_one rfl _ _ 66 rfl 3 .i64 8 Try.underlying66 Try.infoI w.heap.size u5 ds (x - c - y) (by rfl) hown (by rfl) HLB.out (by decide) w hb hbs ?_)
          intro v' w' hown' hb'
          clear hown hb hbs
          go_wp2
          go_roundw
          case rel => exact ⟨i + 1, _, _, by omega, by go_num, rfl, hown', HS.out, hb'⟩
          case measure => simp [intOf] <;> omega
      · have hz := hout hk
        subst hz
        clear hin hout y0 y1
        by_cases hneg : x - c < 0
        · have HF := HS.out (x - c + 65536) 1 (by unfold D16; omega) (by omega) (by omega)
          replace HS : Hid (RSubs xs ys (i + 1) (ds ++ [x - c + 65536]) 1) := HF
          clear HF
          go_wp2_with (at_builtin; refine wpList_append_one rfl _ _ 66 rfl 3 .i64 8 Try.underlying66 Try.infoI w.heap.size u5 ds (x - c + 65536) (by rfl) hown (by rfl) HLB.out (by decide) w hb hbs ?_)
          intro v' w' hown' hb'
          clear hown hb hbs
          go_wp2
          go_roundw
          case rel => exact ⟨i + 1, _, _, by omega, by go_num, rfl, hown', HS.out, hb'⟩
          case measure => simp [intOf] <;> omega
        · have HF := HS.out (x - c) 0 (by unfold D16; omega) (by omega) (by omega)
          replace HS : Hid (RSubs xs ys (i + 1) (ds ++ [x - c]) 0) := HF
          clear HF
          go_wp2_with (at_builtin; refine wpList_append_one rfl _ _ 66 rfl 3 .i64 8 Try.underlying66 Try.infoI w.heap.size u5 ds (x - c) (by rfl) hown (by rfl) HLB.out (by decide) w hb hbs ?_)
          intro v' w' hown' hb'
          clear hown hb hbs
          go_wp2
          go_roundw
          case rel => exact ⟨i + 1, _, _, by omega, by go_num, rfl, hown', HS.out, hb'⟩
          case measure => simp [intOf] <;> omega
    · obtain rfl : i = la := by omega
      have hlen := hs.1
      obtain ⟨a2, c2, hv, hnum⟩ := hown.num hs.2.1 (by omega)
      have HV : Hid (val D16 ds = val D16 xs - val D16 ys) := by rw [← hl] at hs; exact hs.done (by omega) hle
      have HN : Hid (NumIn .i64 D16 wr a2 ds.length c2 ds) := hnum
      have HB : Hid (Below w.heap.size w wr) := hb
      have HL : Hid (ds.length = i) := hlen
      subst hv
      have HFR : Hid (∀ b off s, a2 = some ⟨b, off, s⟩ → w.heap.size ≤ b) := hown.fresh
      clear hown hs hnum hb h h' hle hlen
      go_wp2_with fail
      refine (rtrim_any a2 ds.length c2 ds wr HN.out).mono ?_
      rintro e w4 ⟨rfl, rfl⟩
      go_wp2
      go_ret
      exact ⟨_, rfl, HN.out.fresh HB.out _ HV.out _ (by have := HL.out; omega) HFR.out⟩
/-- the document's Sub. -/
theorem rSub_any (ao bo : Option Addr) (la ca lb cb : Nat) (xs ys : List Int) (w : World) (h : NumIn .i64 D16 w ao la ca xs) (h' : NumIn .i64 D16 w bo lb cb ys) (hx : Canon xs) (hy : Canon ys) (hle : val D16 ys ≤ val D16 xs) (hla : la ≤ 1000000) (hlb : lb ≤ 1000000) :
    Calls Try.prog 84 #[.slice ao la ca, .slice bo lb cb] w fun e w' => ∃ v, e = .returned v ∧ NumOut .i64 D16 w w' v (val D16 xs - val D16 ys) la := by
  refine (rSub_new ao bo la ca lb cb xs ys w h h' hx hy hle hla hlb).mono ?_
  rintro e w' ⟨v, rfl, hv⟩
  exact ⟨v, rfl, hv.out⟩

end Go.Proofs.Ytdojbknkaoiioaa
