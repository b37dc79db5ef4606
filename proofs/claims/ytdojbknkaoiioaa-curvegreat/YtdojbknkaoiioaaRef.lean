/-
  Contracts of the document's answer (numbers as digits of 16 bits): trim, Of, Nat, Same.
-/
import Derived.Test.YtdojbknkaoiioaaApp
namespace Go.Proofs.Ytdojbknkaoiioaa
open Go.RowKit
set_option linter.unusedVariables false
set_option linter.unusedSimpArgs false

/-- An operation whose guard is met is walked as one without. -/
theorem wpList_unguard {P : Program} {w : World} {ops : Array Oper} {rest : List Oper} {o : Oper} {a : Act} {Q : Exit → Act → World → Prop} (hw : Region.wanted o (yielded ops a.tmps) = true)
    (h : wpList P ops Q ({ o with guard := none } :: rest) a w) : wpList P ops Q (o :: rest) a w := by
  have hn : Region.wanted { o with guard := none } (yielded ops a.tmps) = true := rfl
  unfold wpList at h ⊢
  rw [if_pos hn] at h
  rw [if_pos hw]
  exact h

/-- append(out, x). -/
theorem wpList_append_one {P : Program} {w : World} {ops : Array Oper} {rest : List Oper} {o : Oper} {a : Act} {Q : Exit → Act → World → Prop} (hgd : o.guard = none) (s x : Operand) (t : TypeId)
    (ho : o.op = .call { callee := .builtin .append, args := #[s, x], argTypes := #[t, t] }) (e : TypeId) (k : IntKind) (bytes : Nat) (ht : P.underlying t = some (.slice e))
    (h2 : (P.info? e).map (fun i => (i.zero, i.size, i.bytes)) = some (some (.int k 0), 1, bytes)) (base : Nat) (v : Value) (xs : List Int) (y : Int) (hs : a.eval s = v) (hown : Own e k w base v xs)
    (hx : a.eval x = .slice (some ⟨w.heap.size, 0, none⟩) 1 1) (hb1 : xs.length < 1073741824) (hb2 : bytes ≤ 8) (w0 : World) (hb : Below base w0 w) (hbase : base ≤ w.heap.size)
    (h : ∀ v' w', Own e k w' base v' (xs ++ [y]) → Below base w0 w' → wpList P ops Q rest (a.put o.dst v') w') : wpList P ops Q (o :: rest) a (w.alloc (.cells #[.int k y] e)) := by
  refine wpList_append_nums hgd s x t ho e k bytes ht h2 base v xs hs (hown.alloc _) (some ⟨w.heap.size, 0, none⟩) 1 1 [y] hx ((row_alloc w e k y).lies 0 1 (by simp)) (fun h => by cases h) (by omega) hb2 w0 (hb.alloc hbase _) (by simp; omega) ?_
  intro v' w' h1 h2 _ _
  exact h v' w' h1 h2

def D16 : Int := 65536
theorem D16_pos : 0 < D16 := by decide
theorem D16_one : 1 < D16 := by decide
theorem D16_4 : D16 ^ 4 = B64 := by decide

set_option maxHeartbeats 1000000 in
/-- the document's trim. -/
theorem rtrim_any (ao : Option Addr) (len cap : Nat) (xs : List Int) (w : World) (h : NumIn .i64 D16 w ao len cap xs) :
    Calls Try.prog 65 #[.slice ao len cap] w fun e w' => e = .returned (.slice ao (top xs) cap) ∧ w' = w := by
  have hl := h.len
  have ht := top_le xs
  have hs := h.sm
  have hm := h.cm
  have hlc := h.lc
  have hn := h.nn
  unfold maxLen at hm
  go_enter Try.func65, Try.ntmps65
  go_wp2
  go_loop [3] (fun v => ∃ k : Nat, k ≤ len ∧ v = .int .i64 k ∧ ∀ j, k ≤ j → j < len → xs.getD j 0 = 0) (fun v => (intOf v).toNat)
  case atStart => exact ⟨len, Nat.le_refl _, rfl, fun j h1 h2 => by omega⟩
  case round =>
    obtain ⟨k, hk, rfl, hz⟩ := hrel
    have fin : top xs = k → ∀ (K : Prop), (top xs = k → K) → K := fun h K f => f h
    by_cases h0 : k = 0
    · subst h0
      have htop : top xs = 0 := top_eq xs 0 (fun j h1 h2 => hz j h1 (by omega)) (.inl rfl)
      have HT : Hid (top xs = 0) := htop
      clear htop hz fin h
      cases ao with
      | none =>
        obtain rfl := hn rfl
        obtain rfl : len = 0 := by omega
        go_wp2
        go_ret
        exact ⟨ret_slice HT.out.symm rfl, rfl⟩
      | some a =>
        go_wp2
        go_ret
        exact ⟨ret_slice HT.out.symm rfl, rfl⟩
    · obtain ⟨b, off, rfl, hb, hc⟩ := h.lies.at (by omega)
      obtain ⟨m, rfl⟩ : ∃ m, k = m + 1 := ⟨k - 1, by omega⟩
      have hcell := hc m (by omega)
      by_cases hz0 : xs.getD m 0 = 0
      · have HZ : Hid (∀ j, m ≤ j → j < len → xs.getD j 0 = 0) := fun j h1 h2 => by
          by_cases e : j = m
          · rw [e]; exact hz0
          · exact hz j (by omega) h2
        rw [hz0] at hcell
        clear hz hc hz0 fin h0 h
        go_wp2
        go_round
        case rel => exact ⟨m, by omega, by go_num, HZ.out⟩
        case measure => simp only [intOf]; omega
      · have htop : top xs = m + 1 := top_eq xs (m + 1) (fun j h1 h2 => hz j h1 (by omega)) (.inr (by simpa using hz0))
        have HT : Hid (top xs = m + 1) := htop
        have hzb : (xs.getD m 0 == 0) = false := by simpa using hz0
        generalize xs.getD m 0 = x at *
        clear htop hz hc hz0 fin h0 h ht
        go_wp2
        go_ret
        exact ⟨ret_slice HT.out.symm rfl, rfl⟩

theorem val_snoc (B : Int) (xs : List Int) (y : Int) : val B (xs ++ [y]) = val B xs + B ^ xs.length * y := by rw [val_append]; simp [val]
/-- What Of has gathered: i limbs whole, k digits of the next. -/
def Ofs (xs : List Int) (i k : Nat) (ds : List Int) (x : Int) : Prop :=
  ds.length = 4 * i + k ∧ Dg D16 ds ∧ 0 ≤ x ∧ x < D16 ^ (4 - k) ∧ val D16 ds + D16 ^ (4 * i + k) * x = low B64 xs (i + 1)
theorem pow_D (i : Nat) : D16 ^ (4 * i) = B64 ^ i := by rw [Int.pow_mul, D16_4]
theorem Ofs.start {xs : List Int} {i : Nat} {ds : List Int} (h1 : ds.length = 4 * i) (h2 : Dg D16 ds) (h3 : val D16 ds = low B64 xs i) (hx : 0 ≤ xs.getD i 0 ∧ xs.getD i 0 < B64) : Ofs xs i 0 ds (xs.getD i 0) :=
  ⟨by omega, h2, hx.1, by rw [Nat.sub_zero, D16_4]; exact hx.2, by rw [Nat.add_zero, pow_D, low_succ, h3]⟩
theorem Ofs.step {xs : List Int} {i k : Nat} {ds : List Int} {x : Int} (h : Ofs xs i k ds x) (hk : k < 4) : Ofs xs i (k + 1) (ds ++ [x % 65536]) (x / 65536) := by
  obtain ⟨h1, h2, h3, h4, h5⟩ := h
  refine ⟨by simp [h1]; omega, h2.append (Dg.cons ⟨by omega, by unfold D16; omega⟩ (Dg.nil _)), by omega, ?_, ?_⟩
  · obtain ⟨j, hj⟩ : ∃ j, 4 - k = j + 1 := ⟨3 - k, by omega⟩
    rw [show 4 - (k + 1) = j by omega]
    rw [hj, Int.pow_succ] at h4
    unfold D16 at h4 ⊢
    omega
  · rw [val_snoc, h1, show 4 * i + (k + 1) = (4 * i + k) + 1 by omega, Int.pow_succ, ← h5]
    have e : x = x % 65536 + 65536 * (x / 65536) := by omega
    generalize x / 65536 = q at *
    generalize x % 65536 = r at *
    rw [e]
    have : D16 = 65536 := rfl
    generalize D16 ^ (4 * i + k) = p at *
    rw [this]
    grind
theorem Ofs.done {xs : List Int} {i : Nat} {ds : List Int} {x : Int} (h : Ofs xs i 4 ds x) : ds.length = 4 * (i + 1) ∧ Dg D16 ds ∧ val D16 ds = low B64 xs (i + 1) := by
  obtain ⟨h1, h2, h3, h4, h5⟩ := h
  have : x = 0 := by simp at h4; omega
  rw [this, Int.mul_zero, Int.add_zero] at h5
  exact ⟨by omega, h2, h5⟩

set_option maxHeartbeats 4000000 in
/-- the document's Of. -/
theorem rOf_any (ao : Option Addr) (la ca : Nat) (xs : List Int) (w : World) (h : NumIn .u64 B64 w ao la ca xs) (hla : la ≤ 1000000) :
    Calls Try.prog 34 #[.slice ao la ca] w fun e w' => ∃ v, e = .returned v ∧ NumOut .i64 D16 w w' v (val B64 xs) (4 * la) := by
  have hl := h.len
  go_enter Try.func34, Try.ntmps34
  go_wp2
  go_loopw [3, 4] (fun vo vi wr => ∃ (i : Nat) (ds : List Int), i ≤ la ∧ vi = .int .i64 i ∧ Own 3 .i64 wr w.heap.size vo ds ∧ (ds.length = 4 * i ∧ Dg D16 ds ∧ val D16 ds = low B64 xs i) ∧ Below w.heap.size w wr) (fun _ vi _ => la - (intOf vi).toNat)
  case atStart => exact ⟨0, [], Nat.zero_le _, rfl, Own.nil _ _ _ _, ⟨rfl, Dg.nil _, by simp [val, low_zero]⟩, Below.refl _ _⟩
  case round =>
    obtain ⟨i, ds, hi, rfl, hown, hds, hb⟩ := hrel
    by_cases hlt : i < la
    · have hx := h.lies.old hb
      obtain ⟨b, off, rfl, hblk, hc⟩ := hx.at (by omega)
      have hcell := hc i hlt
      have gx := h.dg.getD B64_pos i
      have hst := Ofs.start hds.1 hds.2.1 hds.2.2 gx
      generalize xs.getD i 0 = x at *
      have HST : Hid (Ofs xs i 0 ds x) := hst
      have HOWN : Hid (Own 3 .i64 wr w.heap.size u3 ds) := hown
      have HB : Hid (Below w.heap.size w wr) := hb
      have HX : Hid (0 ≤ x ∧ x < B64) := gx
      clear hst hown hb hc hx hds gx
      go_wp2
      go_loopw [3, 5, 6] (fun vo vx vk wr => ∃ (k : Nat) (ds : List Int) (x : Int), k ≤ 4 ∧ vk = .int .i64 k ∧ vx = .int .u64 x ∧ Own 3 .i64 wr w.heap.size vo ds ∧ Ofs xs i k ds x ∧ Below w.heap.size w wr) (fun _ _ vk _ => 4 - (intOf vk).toNat)
      case atStart => exact ⟨0, ds, x, by omega, rfl, rfl, HOWN.out, HST.out, HB.out⟩
      case round =>
        obtain ⟨k, ds2, x2, hk, rfl, rfl, hown2, hof, hb2⟩ := hrel
        by_cases hk4 : k < 4
        · have hx0 := hof.2.2.1
          have hlen2 := hof.1
          have HS : Hid (Ofs xs i (k + 1) (ds2 ++ [x2 % 65536]) (x2 / 65536)) := hof.step hk4
          have hxb : x2 < 18446744073709551616 := by
            have := hof.2.2.2.1
            have hp := pow_mono (B := D16) (by decide) (show 4 - k ≤ 4 by omega)
            rw [D16_4] at hp
            unfold B64 at hp
            omega
          have hbs := hb2.size
          have HLB : Hid (ds2.length < 1073741824) := by unfold Hid; omega
          clear hof HST HOWN HB HX hcell hlen2
          go_wp2_with (at_builtin; refine wpList_append_one rfl _ _ 66 rfl 3 .i64 8 Try.underlying66 Try.infoI w.heap.size u3 ds2 (x2 % 65536) (by rfl) hown2 (by rfl) HLB.out (by decide) w hb2 hbs ?_)
          intro v' w' hown' hb'
          clear hown2 hb2 hbs
          go_wp2
          go_roundw
          case rel => exact ⟨k + 1, _, _, by omega, by go_num, rfl, hown', HS.out, hb'⟩
          case measure => simp [intOf]; omega
        · obtain rfl : k = 4 := by omega
          have hdn := hof.done
          have HF : Hid _ := hdn
          clear hof hdn HST HOWN HB HX hcell
          go_wp2
          go_roundw
          case rel => exact ⟨i + 1, _, by omega, by go_num, hown2, HF.out, hb2⟩
          case measure => simp [intOf]; omega
    · obtain rfl : i = la := by omega
      obtain ⟨a2, c2, hv, hnum⟩ := hown.num hds.2.1 (by omega)
      have HV : Hid (val D16 ds = val B64 xs) := by unfold Hid; rw [hds.2.2, ← hl, low_len]
      have HL : Hid (ds.length = 4 * i) := hds.1
      have HN : Hid (NumIn .i64 D16 wr a2 ds.length c2 ds) := hnum
      have HB : Hid (Below w.heap.size w wr) := hb
      subst hv
      clear hown hds hnum hb
      go_wp2_with fail
      refine (rtrim_any _ _ _ _ _ HN.out).mono ?_
      rintro e w4 ⟨rfl, rfl⟩
      go_wp2
      go_ret
      exact ⟨_, rfl, HN.out.out HB.out _ HV.out _ (by have := HL.out; omega)⟩
end Go.Proofs.Ytdojbknkaoiioaa
