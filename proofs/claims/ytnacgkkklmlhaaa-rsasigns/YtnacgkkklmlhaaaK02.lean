import Derived.Test.YtnacgkkklmlhaaaK01
import Derived.RangeFuncNested
import Derived.RangeFuncBound
import Derived.RangeFuncCalls
import Derived.RangeFuncLeaves
import Derived.Shelf.Abstract
import Derived.Shelf.RegionOpen
import Derived.OwnWalkIn
import Derived.TacticsInMore
import Derived.LoopNIn
import Derived.LoopIn
import Derived.Test.YtnacgkkklmlhaaaK00
import Derived.Stop.RegionWithIn
import Derived.Deep.RegionHeld3
/-
  Contracts of the document's answer (numbers as digits of 16 bits): trim, Of, Nat, Same.
-/
namespace Go.Proofs.Ytnacgkkklmlhaaa
open Go.RowKit
set_option linter.unusedVariables false
set_option linter.unusedSimpArgs false

/-- An operation whose guard is met is walked as one without. -/
theorem wpList_unguard {P : Program} {w : World} {ops : Array Oper} {rest : List Oper} {o : Oper} {a : Act} {Q : Exit → Act → World → Prop} (hw : Region.wanted o (yielded ops a.tmps) = true)
    (h : wpList P ops Q ({ o with guard := none } :: rest) a w) : wpList P ops Q (o :: rest) a w := by
  have hn : Region.wanted { o with guard := none } (yielded ops a.tmps) = true := rfl
  unfold wpList at h ⊢
  rw [if_pos hn] at h
  rw [if_pos hw]
  exact h

/-- append(out, x). -/
theorem wpList_append_one {P : Program} {w : World} {ops : Array Oper} {rest : List Oper} {o : Oper} {a : Act} {Q : Exit → Act → World → Prop} (hgd : o.guard = none) (s x : Operand) (t : TypeId)
    (ho : o.op = .call { callee := .builtin .append, args := #[s, x], argTypes := #[t, t] }) (e : TypeId) (k : IntKind) (bytes : Nat) (ht : P.underlying t = some (.slice e))
    (h2 : (P.info? e).map (fun i => (i.zero, i.size, i.bytes)) = some (some (.int k 0), 1, bytes)) (base : Nat) (v : Value) (xs : List Int) (y : Int) (hs : a.eval s = v) (hown : Own e k w base v xs)
    (hx : a.eval x = .slice (some ⟨w.heap.size, 0, none⟩) 1 1) (hb1 : xs.length < 1073741824) (hb2 : bytes ≤ 8) (w0 : World) (hb : Below base w0 w) (hbase : base ≤ w.heap.size)
    (h : ∀ v' w', Own e k w' base v' (xs ++ [y]) → Below base w0 w' → wpList P ops Q rest (a.put o.dst v') w') : wpList P ops Q (o :: rest) a (w.alloc (.cells #[.int k y] e)) := by
  refine wpList_append_nums hgd s x t ho e k bytes ht h2 base v xs hs (hown.alloc _) (some ⟨w.heap.size, 0, none⟩) 1 1 [y] hx ((row_alloc w e k y).lies 0 1 (by simp)) (fun h => by cases h) (by omega) hb2 w0 (hb.alloc hbase _) (by simp; omega) ?_
  intro v' w' h1 h2 _ _
  exact h v' w' h1 h2

def D16 : Int := 65536
theorem D16_pos : 0 < D16 := by decide
theorem D16_one : 1 < D16 := by decide
theorem D16_4 : D16 ^ 4 = B64 := by decide

set_option maxHeartbeats 1000000 in
/-- the document's trim. -/
theorem rtrim_any (ao : Option Addr) (len cap : Nat) (xs : List Int) (w : World) (h : NumIn .i64 D16 w ao len cap xs) :
    Calls Try.prog 34 #[.slice ao len cap] w fun e w' => e = .returned (.slice ao (top xs) cap) ∧ w' = w := by
  have hl := h.len
  have ht := top_le xs
  have hs := h.sm
  have hm := h.cm
  have hlc := h.lc
  have hn := h.nn
  unfold maxLen at hm
  go_enter Try.func34, Try.ntmps34
  go_wp2
  go_loop [3] (fun v => ∃ k : Nat, k ≤ len ∧ v = .int .i64 k ∧ ∀ j, k ≤ j → j < len → xs.getD j 0 = 0) (fun v => (intOf v).toNat)
  case atStart => exact ⟨len, Nat.le_refl _, rfl, fun j h1 h2 => by omega⟩
  case round =>
    obtain ⟨k, hk, rfl, hz⟩ := hrel
    have fin : top xs = k → ∀ (K : Prop), (top xs = k → K) → K := fun h K f => f h
    by_cases h0 : k = 0
    · subst h0
      have htop : top xs = 0 := top_eq xs 0 (fun j h1 h2 => hz j h1 (by omega)) (.inl rfl)
      have HT : Hid (top xs = 0) := htop
      clear htop hz fin h
      cases ao with
      | none =>
        obtain rfl := hn rfl
        obtain rfl : len = 0 := by omega
        go_wp2
        go_ret
        exact ⟨ret_slice HT.out.symm rfl, rfl⟩
      | some a =>
        go_wp2
        go_ret
        exact ⟨ret_slice HT.out.symm rfl, rfl⟩
    · obtain ⟨b, off, rfl, hb, hc⟩ := h.lies.at (by omega)
      obtain ⟨m, rfl⟩ : ∃ m, k = m + 1 := ⟨k - 1, by omega⟩
      have hcell := hc m (by omega)
      by_cases hz0 : xs.getD m 0 = 0
      · have HZ : Hid (∀ j, m ≤ j → j < len → xs.getD j 0 = 0) := fun j h1 h2 => by
          by_cases e : j = m
          · rw [e]; exact hz0
          · exact hz j (by omega) h2
        rw [hz0] at hcell
        clear hz hc hz0 fin h0 h
        go_wp2
        go_round
        case rel => exact ⟨m, by omega, by go_num, HZ.out⟩
        case measure => simp only [intOf]; omega
      · have htop : top xs = m + 1 := top_eq xs (m + 1) (fun j h1 h2 => hz j h1 (by omega)) (.inr (by simpa using hz0))
        have HT : Hid (top xs = m + 1) := htop
        have hzb : (xs.getD m 0 == 0) = false := by simpa using hz0
        generalize xs.getD m 0 = x at *
        clear htop hz hc hz0 fin h0 h ht
        go_wp2
        go_ret
        exact ⟨ret_slice HT.out.symm rfl, rfl⟩

theorem val_snoc (B : Int) (xs : List Int) (y : Int) : val B (xs ++ [y]) = val B xs + B ^ xs.length * y := by rw [val_append]; simp [val]
/-- What Of has gathered: i limbs whole, k digits of the next. -/
def Ofs (xs : List Int) (i k : Nat) (ds : List Int) (x : Int) : Prop :=
  ds.length = 4 * i + k ∧ Dg D16 ds ∧ 0 ≤ x ∧ x < D16 ^ (4 - k) ∧ val D16 ds + D16 ^ (4 * i + k) * x = low B64 xs (i + 1)
theorem pow_D (i : Nat) : D16 ^ (4 * i) = B64 ^ i := by rw [Int.pow_mul, D16_4]
theorem Ofs.start {xs : List Int} {i : Nat} {ds : List Int} (h1 : ds.length = 4 * i) (h2 : Dg D16 ds) (h3 : val D16 ds = low B64 xs i) (hx : 0 ≤ xs.getD i 0 ∧ xs.getD i 0 < B64) : Ofs xs i 0 ds (xs.getD i 0) :=
  ⟨by omega, h2, hx.1, by rw [Nat.sub_zero, D16_4]; exact hx.2, by rw [Nat.add_zero, pow_D, low_succ, h3]⟩
theorem Ofs.step {xs : List Int} {i k : Nat} {ds : List Int} {x : Int} (h : Ofs xs i k ds x) (hk : k < 4) : Ofs xs i (k + 1) (ds ++ [x % 65536]) (x / 65536) := by
  obtain ⟨h1, h2, h3, h4, h5⟩ := h
  refine ⟨by simp [h1]; omega, h2.append (Dg.cons ⟨by omega, by unfold D16; omega⟩ (Dg.nil _)), by omega, ?_, ?_⟩
  · obtain ⟨j, hj⟩ : ∃ j, 4 - k = j + 1 := ⟨3 - k, by omega⟩
    rw [show 4 - (k + 1) = j by omega]
    rw [hj, Int.pow_succ] at h4
    unfold D16 at h4 ⊢
    omega
  · rw [val_snoc, h1, show 4 * i + (k + 1) = (4 * i + k) + 1 by omega, Int.pow_succ, ← h5]
    have e : x = x % 65536 + 65536 * (x / 65536) := by omega
    generalize x / 65536 = q at *
    generalize x % 65536 = r at *
    rw [e]
    have : D16 = 65536 := rfl
    generalize D16 ^ (4 * i + k) = p at *
    rw [this]
    grind
theorem Ofs.done {xs : List Int} {i : Nat} {ds : List Int} {x : Int} (h : Ofs xs i 4 ds x) : ds.length = 4 * (i + 1) ∧ Dg D16 ds ∧ val D16 ds = low B64 xs (i + 1) := by
  obtain ⟨h1, h2, h3, h4, h5⟩ := h
  have : x = 0 := by simp at h4; omega
  rw [this, Int.mul_zero, Int.add_zero] at h5
  exact ⟨by omega, h2, h5⟩

set_option maxHeartbeats 4000000 in
/-- the document's Of. -/
theorem rOf_any (ao : Option Addr) (la ca : Nat) (xs : List Int) (w : World) (h : NumIn .u64 B64 w ao la ca xs) (hla : la ≤ 1000000) :
    Calls Try.prog 11 #[.slice ao la ca] w fun e w' => ∃ v, e = .returned v ∧ NumOut .i64 D16 w w' v (val B64 xs) (4 * la) := by
  have hl := h.len
  go_enter Try.func11, Try.ntmps11
  go_wp2
  go_loopw [3, 4] (fun vo vi wr => ∃ (i : Nat) (ds : List Int), i ≤ la ∧ vi = .int .i64 i ∧ Own 3 .i64 wr w.heap.size vo ds ∧ (ds.length = 4 * i ∧ Dg D16 ds ∧ val D16 ds = low B64 xs i) ∧ Below w.heap.size w wr) (fun _ vi _ => la - (intOf vi).toNat)
  case atStart => exact ⟨0, [], Nat.zero_le _, rfl, Own.nil _ _ _ _, ⟨rfl, Dg.nil _, by simp [val, low_zero]⟩, Below.refl _ _⟩
  case round =>
    obtain ⟨i, ds, hi, rfl, hown, hds, hb⟩ := hrel
    by_cases hlt : i < la
    · have hx := h.lies.old hb
      obtain ⟨b, off, rfl, hblk, hc⟩ := hx.at (by omega)
      have hcell := hc i hlt
      have gx := h.dg.getD B64_pos i
      have hst := Ofs.start hds.1 hds.2.1 hds.2.2 gx
      generalize xs.getD i 0 = x at *
      have HST : Hid (Ofs xs i 0 ds x) := hst
      have HOWN : Hid (Own 3 .i64 wr w.heap.size u3 ds) := hown
      have HB : Hid (Below w.heap.size w wr) := hb
      have HX : Hid (0 ≤ x ∧ x < B64) := gx
      clear hst hown hb hc hx hds gx
      go_wp2
      go_loopw [3, 5, 6] (fun vo vx vk wr => ∃ (k : Nat) (ds : List Int) (x : Int), k ≤ 4 ∧ vk = .int .i64 k ∧ vx = .int .u64 x ∧ Own 3 .i64 wr w.heap.size vo ds ∧ Ofs xs i k ds x ∧ Below w.heap.size w wr) (fun _ _ vk _ => 4 - (intOf vk).toNat)
      case atStart => exact ⟨0, ds, x, by omega, rfl, rfl, HOWN.out, HST.out, HB.out⟩
      case round =>
        obtain ⟨k, ds2, x2, hk, rfl, rfl, hown2, hof, hb2⟩ := hrel
        by_cases hk4 : k < 4
        · have hx0 := hof.2.2.1
          have hlen2 := hof.1
          have HS : Hid (Ofs xs i (k + 1) (ds2 ++ [x2 % 65536]) (x2 / 65536)) := hof.step hk4
          have hxb : x2 < 18446744073709551616 := by
            have := hof.2.2.2.1
            have hp := pow_mono (B := D16) (by decide) (show 4 - k ≤ 4 by omega)
            rw [D16_4] at hp
            unfold B64 at hp
            omega
          have hbs := hb2.size
          have HLB : Hid (ds2.length < 1073741824) := by unfold Hid; omega
          clear hof HST HOWN HB HX hcell hlen2
          go_wp2_with (at_builtin; refine wpList_append_one rfl _ _ 41 rfl 3 .i64 8 Try.underlying41 Try.infoI w.heap.size u3 ds2 (x2 % 65536) (by rfl) hown2 (by rfl) HLB.out (by decide) w hb2 hbs ?_)
          intro v' w' hown' hb'
          clear hown2 hb2 hbs
          go_wp2
          go_roundw
          case rel => exact ⟨k + 1, _, _, by omega, by go_num, rfl, hown', HS.out, hb'⟩
          case measure => simp [intOf]; omega
        · obtain rfl : k = 4 := by omega
          have hdn := hof.done
          have HF : Hid _ := hdn
          clear hof hdn HST HOWN HB HX hcell
          go_wp2
          go_roundw
          case rel => exact ⟨i + 1, _, by omega, by go_num, hown2, HF.out, hb2⟩
          case measure => simp [intOf]; omega
    · obtain rfl : i = la := by omega
      obtain ⟨a2, c2, hv, hnum⟩ := hown.num hds.2.1 (by omega)
      have HV : Hid (val D16 ds = val B64 xs) := by unfold Hid; rw [hds.2.2, ← hl, low_len]
      have HL : Hid (ds.length = 4 * i) := hds.1
      have HN : Hid (NumIn .i64 D16 wr a2 ds.length c2 ds) := hnum
      have HB : Hid (Below w.heap.size w wr) := hb
      subst hv
      clear hown hds hnum hb
      go_wp2_with fail
      refine (rtrim_any _ _ _ _ _ HN.out).mono ?_
      rintro e w4 ⟨rfl, rfl⟩
      go_wp2
      go_ret
      exact ⟨_, rfl, HN.out.out HB.out _ HV.out _ (by have := HL.out; omega)⟩
end Go.Proofs.Ytnacgkkklmlhaaa
/-
  Contracts of the document's answer: a number of digits as limbs (Nat), two numbers as they stand (Same), and the law's own 'is'.
-/
namespace Go.Proofs.Ytnacgkkklmlhaaa
open Go.RowKit
set_option linter.unusedVariables false
set_option linter.unusedSimpArgs false

/-- The number that n digits from place p on say. -/
def hi (ds : List Int) (p : Nat) : Nat → Int
  | 0 => 0
  | n + 1 => ds.getD p 0 + 65536 * hi ds (p + 1) n
theorem hi_range (ds : List Int) (hd : Dg D16 ds) : ∀ (n p : Nat), 0 ≤ hi ds p n ∧ hi ds p n < D16 ^ n
  | 0, p => by simp [hi]
  | n + 1, p => by
    have h := hi_range ds hd n (p + 1)
    have g := hd.getD D16_pos p
    rw [hi, Int.pow_succ]
    unfold D16 at *
    omega
theorem hi_low (ds : List Int) : ∀ (n p : Nat), low D16 ds (p + n) = low D16 ds p + D16 ^ p * hi ds p n
  | 0, p => by simp [hi]
  | n + 1, p => by
    have h := hi_low ds n (p + 1)
    rw [show p + (n + 1) = p + 1 + n by omega, h, hi, low_succ, Int.pow_succ]
    have : D16 = 65536 := rfl
    generalize D16 ^ p = q at *
    rw [this]
    grind
/-- A number that fills its digits has no zeros above. -/
theorem canon_of_ge {B : Int} (hB : 1 < B) {xs : List Int} (hd : Dg B xs) (n : Nat) (hl : xs.length = n + 1) (h : B ^ n ≤ val B xs) : Canon xs := by
  unfold Canon
  have ht := top_le xs
  by_cases e : top xs = xs.length
  · exact e
  · exfalso
    have a := val_lt (by omega) (hd.take (top xs))
    rw [val_take_top] at a
    have c : (xs.take (top xs)).length = top xs := by simp; omega
    rw [c] at a
    have d := pow_mono (B := B) (by omega) (show top xs ≤ n by omega)
    omega
/-- What Nat has gathered: m limbs. -/
def Nats (ds : List Int) (m : Nat) (outs : List Int) : Prop := outs.length = m ∧ Dg B64 outs ∧ val B64 outs = low D16 ds (4 * m)
theorem Nats.step {ds : List Int} {m : Nat} {outs : List Int} (hd : Dg D16 ds) (h : Nats ds m outs) : Nats ds (m + 1) (outs ++ [hi ds (4 * m) 4]) := by
  obtain ⟨h1, h2, h3⟩ := h
  have hr := hi_range ds hd 4 (4 * m)
  rw [D16_4] at hr
  refine ⟨by simp [h1], h2.append (Dg.cons hr (Dg.nil _)), ?_⟩
  rw [val_snoc, h3, h1, show 4 * (m + 1) = 4 * m + 4 by omega, hi_low, pow_D]
theorem Nats.done {ds : List Int} {m : Nat} {outs : List Int} (h : Nats ds m outs) (hd : Dg D16 ds) (hc : Canon ds) (h1 : ds.length ≤ 4 * m) (h2 : 4 * m < ds.length + 4) : val B64 outs = val D16 ds ∧ Canon outs := by
  obtain ⟨e1, e2, e3⟩ := h
  have hv : val B64 outs = val D16 ds := by rw [e3]; exact low_all _ _ _ (by unfold Canon at hc; omega)
  refine ⟨hv, ?_⟩
  cases m with
  | zero =>
    have : outs = [] := List.eq_nil_of_length_eq_zero e1
    rw [this]; exact Canon.nil
  | succ m =>
    refine canon_of_ge B64_one e2 m e1 ?_
    rw [hv, ← pow_D]
    have a := val_ge D16_pos hd (ds.length - 1) (by unfold Canon at hc; omega)
    have b := pow_mono (B := D16) (by decide) (show 4 * m ≤ ds.length - 1 by omega)
    omega

set_option maxHeartbeats 4000000 in
/-- the document's Nat. -/
theorem rNat_any (ao : Option Addr) (la ca : Nat) (ds : List Int) (w : World) (h : NumIn .i64 D16 w ao la ca ds) (hc : Canon ds) (hla : la ≤ 1000000) :
    Calls Try.prog 25 #[.slice ao la ca] w fun e w' => ∃ v, e = .returned v ∧ NumOut .u64 B64 w w' v (val D16 ds) la := by
  have hl := h.len
  go_enter Try.func25, Try.ntmps25
  go_wp2
  go_loopw [3, 4] (fun vo vi wr => ∃ (m : Nat) (outs : List Int), 4 * m < la + 4 ∧ vi = .int .i64 ((4 * m : Nat) : Int) ∧ Own 36 .u64 wr w.heap.size vo outs ∧ Nats ds m outs ∧ Below w.heap.size w wr) (fun _ vi _ => la + 4 - (intOf vi).toNat)
  case atStart => exact ⟨0, [], by omega, rfl, Own.nil _ _ _ _, ⟨rfl, Dg.nil _, by simp [val, low_zero]⟩, Below.refl _ _⟩
  case round =>
    obtain ⟨m, outs, hi0, rfl, hown, hns, hb⟩ := hrel
    by_cases hlt : 4 * m < la
    · have hx := h.lies.old hb
      obtain ⟨b, off, rfl, hblk, hcs⟩ := hx.at (by omega)
      have HC : Hid (∀ i, i < la → wr.cell? ⟨b, off + i, none⟩ = some (.int .i64 (ds.getD i 0))) := hcs
      have HN : Hid (Nats ds m outs) := hns
      have HOWN : Hid (Own 36 .u64 wr w.heap.size u3 outs) := hown
      have HB : Hid (Below w.heap.size w wr) := hb
      have HD : Hid (Dg D16 ds) := h.dg
      clear hns hown hb hcs hx h hc
      go_wp2
      go_loop [5, 6] (fun vx vk => ∃ (kk : Nat), kk ≤ 4 ∧ vk = .int .i64 ((kk : Int) - 1) ∧ vx = .int .u64 (hi ds (4 * m + kk) (4 - kk))) (fun _ vk => (intOf vk + 1).toNat)
      case atStart => exact ⟨4, by omega, rfl, rfl⟩
      case round =>
        obtain ⟨kk, hk, rfl, rfl⟩ := hrel
        by_cases hk0 : kk = 0
        · subst hk0
          have HS : Hid (Nats ds (m + 1) (outs ++ [hi ds (4 * m) 4])) := HN.out.step HD.out
          have hlen := HN.out.1
          have HLB : Hid (outs.length < 1073741824) := by unfold Hid; omega
          have hbs := HB.out.size
          have hbw := HB.out
          have how := HOWN.out
          rw [show 4 * m + 0 = 4 * m from rfl, show 4 - 0 = 4 from rfl]
          generalize hi ds (4 * m) 4 = x at *
          clear HN HB HOWN HC HD hlen
          go_wp2_with (at_builtin; refine wpList_append_one rfl _ _ 23 rfl 36 .u64 8 Try.underlying23 Try.infoU w.heap.size u3 outs x (by rfl) how (by rfl) HLB.out (by decide) w hbw hbs ?_)
          intro v' w' hown' hb'
          clear how hbw hbs
          go_wp2
          go_roundw
          case rel => exact ⟨m + 1, _, by omega, by go_num, hown', HS.out, hb'⟩
          case measure => simp [intOf]; omega
        · obtain ⟨k, rfl⟩ : ∃ k, kk = k + 1 := ⟨kk - 1, by omega⟩
          have hr := hi_range ds HD.out (4 - (k + 1)) (4 * m + (k + 1))
          have hp := pow_mono (B := D16) (by decide) (show 4 - (k + 1) ≤ 3 by omega)
          have e3 : D16 ^ 3 = 281474976710656 := by decide
          rw [e3] at hp
          have hx2 : hi ds (4 * m + (k + 1)) (4 - (k + 1)) < 281474976710656 := by omega
          have hx1 := hr.1
          have hg := HD.out.getD D16_pos (4 * m + k)
          have HE : Hid (hi ds (4 * m + k) (4 - k) = ds.getD (4 * m + k) 0 + 65536 * hi ds (4 * m + (k + 1)) (4 - (k + 1))) := by
            unfold Hid
            rw [show 4 - k = (4 - (k + 1)) + 1 by omega, hi]
            rfl
          clear hr hp e3
          unfold D16 at hg
          by_cases hin : 4 * m + k < la
          · have hcell := HC.out (4 * m + k) hin
            generalize hi ds (4 * m + (k + 1)) (4 - (k + 1)) = x at *
            generalize ds.getD (4 * m + k) 0 = y at *
            have ei : ((4 * m + k : Nat) : Int) = 4 * (m : Int) + (k : Int) := by omega
            clear HN HB HOWN HC HD
            go_wp2
            go_round
            case rel => exact ⟨k, by omega, by go_num, by rw [HE.out]; go_num⟩
            case measure => simp [intOf] <;> omega
          · have hz : ds.getD (4 * m + k) 0 = 0 := by simp [List.getD, List.getElem?_eq_none (show ds.length ≤ 4 * m + k by omega)]
            rw [hz] at HE
            generalize hi ds (4 * m + (k + 1)) (4 - (k + 1)) = x at *
            clear HN HB HOWN HC HD hz hg
            go_wp2
            go_round
            case rel => exact ⟨k, by omega, by go_num, by rw [HE.out]; go_num⟩
            case measure => simp [intOf] <;> omega
    · have hdn := hns.done h.dg hc (by omega) (by omega)
      have hlen := hns.1
      obtain ⟨a2, c2, hv, hnum⟩ := hown.num hns.2.1 (by omega)
      have HF : Hid (NumOut .u64 B64 w wr (.slice a2 outs.length c2) (val D16 ds) la) := ⟨_, _, _, _, rfl, hnum, hdn.2, hdn.1, by omega, hb⟩
      subst hv
      clear hown hns hnum hb hdn hlen hc h
      go_wp2
      go_ret
      exact ⟨_, rfl, HF.out⟩

set_option maxHeartbeats 1000000 in
/-- the document's Same, of two numbers that are the same. -/
theorem Same_yes (ao bo : Option Addr) (n ca cb : Nat) (xs : List Int) (w : World) (h : Lies .u64 w ao n xs) (h' : Lies .u64 w bo n xs) (hn : n ≤ 1073741824) :
    Calls Try.prog 24 #[.slice ao n ca, .slice bo n cb] w fun e w' => e = .returned (.bool true) ∧ Drew w w' := by
  go_enter Try.func24, Try.ntmps24
  go_wp2
  go_loopw [5] (fun vi wr => ∃ (i : Nat), i ≤ n ∧ vi = .int .i64 i ∧ Drew w wr) (fun vi _ => n - (intOf vi).toNat)
  case atStart => exact ⟨0, Nat.zero_le _, rfl, Drew.refl _⟩
  case round =>
    obtain ⟨i, hi, rfl, hdr⟩ := hrel
    by_cases hlt : i < n
    · obtain ⟨b, off, rfl, hb, hc⟩ := h.at (by omega)
      obtain ⟨b2, off2, rfl, hb2, hc2⟩ := h'.at (by omega)
      have hcell := (hdr.cell _).trans (hc i hlt)
      have hcell2 := (hdr.cell _).trans (hc2 i hlt)
      generalize xs.getD i 0 = x at *
      have HDR : Hid (Drew w wr) := hdr
      clear hc hc2 h h' hdr
      go_wp2
      go_quiet (fail)
      go_wp2
      go_roundw
      case rel => exact ⟨i + 1, by omega, by go_num, HDR.out.more _⟩
      case measure => simp [intOf]; omega
    · obtain rfl : i = n := by omega
      clear h h'
      go_wp2
      go_ret
      exact ⟨rfl, hdr⟩

end Go.Proofs.Ytnacgkkklmlhaaa
/-
  Contracts of the document's answer: how many bits (Len), how one number stands to another (Cmp).
-/
namespace Go.Proofs.Ytnacgkkklmlhaaa
open Go.RowKit
set_option linter.unusedVariables false
set_option linter.unusedSimpArgs false

theorem blen_split (L e m : Nat) (hL : L < 2 ^ m) (he : e ≠ 0) : blen (L + 2 ^ m * e) = m + blen e := by
  have b1 := blen_lt e
  have b2 := blen_ge e he
  have b3 := blen_pos e he
  have hp := Nat.two_pow_pos m
  obtain ⟨c, hc⟩ : ∃ c, blen e = c + 1 := ⟨blen e - 1, by omega⟩
  rw [hc] at b1 b2
  simp only [Nat.add_sub_cancel] at b2
  have := blen_eq (L + 2 ^ m * e) (m + c) (by
    rw [Nat.pow_add]
    have := Nat.mul_le_mul_left (2 ^ m) b2
    omega) (by
    rw [show m + c + 1 = m + (c + 1) by omega, Nat.pow_add]
    have := Nat.mul_le_mul_left (2 ^ m) (show e + 1 ≤ 2 ^ (c + 1) by omega)
    rw [Nat.mul_add] at this
    omega)
  omega
theorem blen_half (n : Nat) (h : 0 < n) : blen n = 1 + blen (n / 2) := by
  by_cases h1 : n = 1
  · subst h1; decide
  · have := blen_shift n 1 (by omega)
    simpa using this
theorem rlen_eq (ds : List Int) (hd : Dg D16 ds) (hc : Canon ds) (m : Nat) (hm : ds.length = m + 1) : 16 * m + blen (ds.getD m 0).toNat = blen (val D16 ds).toNat := by
  have ht : top ds = m + 1 := by unfold Canon at hc; omega
  have hh := top_hit ds (by omega)
  have hg := hd.getD D16_pos m
  rw [ht] at hh
  simp only [Nat.add_sub_cancel] at hh
  have hv : val D16 ds = low D16 ds m + D16 ^ m * ds.getD m 0 := by rw [← low_succ, ← hm, low_len]
  have l0 : 0 ≤ low D16 ds m := val_nonneg D16_pos (hd.take m)
  have l1 : low D16 ds m < D16 ^ m := by
    have a := val_lt D16_pos (hd.take m)
    have b : (ds.take m).length ≤ m := by simp; omega
    have c := pow_mono (B := D16) (by decide) b
    unfold low; omega
  generalize ds.getD m 0 = d at *
  generalize low D16 ds m = L at *
  obtain ⟨e, rfl⟩ := Int.eq_ofNat_of_zero_le hg.1
  obtain ⟨L, rfl⟩ := Int.eq_ofNat_of_zero_le l0
  have hB : D16 ^ m = ((2 ^ (16 * m) : Nat) : Int) := by rw [Int.natCast_pow, Int.pow_mul]; rfl
  rw [hB] at hv l1
  rw [hv, ← Int.natCast_mul, ← Int.natCast_add, Int.toNat_natCast, Int.toNat_natCast, blen_split L e (16 * m) (by omega) (by intro h0; rw [h0] at hh; exact hh rfl)]

set_option maxHeartbeats 1000000 in
/-- the document's Len. -/
theorem rLen_any (ao : Option Addr) (la ca : Nat) (ds : List Int) (w : World) (h : NumIn .i64 D16 w ao la ca ds) (hc : Canon ds) (hla : la ≤ 1000000) :
    Calls Try.prog 10 #[.slice ao la ca] w fun e w' => e = .returned (.int .i64 (blen (val D16 ds).toNat)) ∧ w' = w := by
  have hl := h.len
  by_cases h0 : la = 0
  · subst h0
    have hx : ds = [] := List.eq_nil_of_length_eq_zero hl
    subst hx
    clear h hc
    go_enter Try.func10, Try.ntmps10
    go_wp2
    go_ret
    exact ⟨ret_int (by simp [val, blen]), rfl⟩
  · obtain ⟨m, rfl⟩ : ∃ m, la = m + 1 := ⟨la - 1, by omega⟩
    obtain ⟨b, off, rfl, hb, hcs⟩ := h.lies.at (by omega)
    have hcell := hcs m (by omega)
    have HE : Hid (16 * m + blen (ds.getD m 0).toNat = blen (val D16 ds).toNat) := rlen_eq ds h.dg hc m hl
    have hg := h.dg.getD D16_pos m
    generalize ds.getD m 0 = d at *
    obtain ⟨d, rfl⟩ := Int.eq_ofNat_of_zero_le hg.1
    rw [Int.toNat_natCast] at HE
    have hd2 : d < 65536 := by unfold D16 at hg; omega
    have hbl := blen_le d 16 hd2
    clear hcs h hc hg h0 hl
    go_enter Try.func10, Try.ntmps10
    go_wp2
    go_loop [3, 4] (fun vn vx => ∃ (j x : Nat), j + blen x = blen d ∧ x ≤ d ∧ vn = .int .i64 ((16 * m + j : Nat) : Int) ∧ vx = .int .i64 (x : Int)) (fun _ vx => (intOf vx).toNat)
    case atStart => exact ⟨0, d, by omega, Nat.le_refl _, by go_num, rfl⟩
    case round =>
      obtain ⟨j, x, hj, hx, rfl, rfl⟩ := hrel
      by_cases h0 : x = 0
      · subst h0
        have HF : Hid (16 * m + j = blen (val D16 ds).toNat) := by unfold Hid; rw [← HE.out, ← hj, blen_zero]; omega
        clear HE hj
        rw [show ((0 : Nat) : Int) = 0 from rfl]
        go_wp2
        go_ret
        exact ⟨ret_int (by rw [← HF.out]; omega), rfl⟩
      · have HS : Hid ((j + 1) + blen (x / 2) = blen d) := by unfold Hid; rw [← hj, blen_half x (by omega)]; omega
        have hj2 : j ≤ 16 := by omega
        clear HE hj
        go_wp2
        go_round
        case rel => exact ⟨j + 1, x / 2, HS.out, by omega, by go_num, by go_num⟩
        case measure => simp [intOf] <;> omega

set_option maxHeartbeats 2000000 in
/-- the document's Cmp. -/
theorem rCmp_any (ao bo : Option Addr) (la ca lb cb : Nat) (xs ys : List Int) (w : World) (h : NumIn .i64 D16 w ao la ca xs) (h' : NumIn .i64 D16 w bo lb cb ys) (hx : Canon xs) (hy : Canon ys) (hla : la ≤ 1000000) (hlb : lb ≤ 1000000) :
    Calls Try.prog 35 #[.slice ao la ca, .slice bo lb cb] w fun e w' => e = .returned (.int .i64 (cmpI (val D16 xs) (val D16 ys))) ∧ Drew w w' := by
  have hl := h.len
  have hl' := h'.len
  unfold Canon at hx hy
  rcases Nat.lt_trichotomy la lb with hlt | heq | hlt
  · have HF : Hid (cmpI (val D16 xs) (val D16 ys) = -1) := cmpI_lt (top_lt_val D16_one h.dg h'.dg (by omega))
    have hne : ((la : Int) != (lb : Int)) = true := by simp; omega
    clear h h' hx hy
    go_enter Try.func35, Try.ntmps35
    go_wp2
    go_ret
    exact ⟨ret_int HF.out.symm, Drew.refl _⟩
  · subst heq
    clear hx hy
    go_enter Try.func35, Try.ntmps35
    go_wp2
    go_loopw [5] (fun vi wr => ∃ (k : Nat), k ≤ la ∧ vi = .int .i64 ((k : Int) - 1) ∧ (∀ j, k ≤ j → j < la → xs.getD j 0 = ys.getD j 0) ∧ Drew w wr) (fun vi _ => (intOf vi + 1).toNat)
    case atStart => exact ⟨la, Nat.le_refl _, by go_num, fun j h1 h2 => by omega, Drew.refl _⟩
    case round =>
      obtain ⟨k, hk, rfl, heq, hdr⟩ := hrel
      by_cases h0 : k = 0
      · subst h0
        have HF : Hid (cmpI (val D16 xs) (val D16 ys) = 0) := by
          refine cmpI_eq ?_
          congr 1
          apply List.ext_getElem
          · omega
          · intro i h1 h2
            have := heq i (by omega) (by omega)
            simp only [List.getD] at this
            rw [List.getElem?_eq_getElem h1, List.getElem?_eq_getElem h2] at this
            simpa using this
        clear heq h h'
        go_wp2
        go_ret
        exact ⟨ret_int HF.out.symm, hdr⟩
      · obtain ⟨p, rfl⟩ : ∃ p, k = p + 1 := ⟨k - 1, by omega⟩
        obtain ⟨b, off, rfl, hb, hc⟩ := h.lies.at (by omega)
        obtain ⟨b2, off2, rfl, hb2, hc2⟩ := h'.lies.at (by omega)
        have hcell := (hdr.cell _).trans (hc p (by omega))
        have hcell2 := (hdr.cell _).trans (hc2 p (by omega))
        have HL : Hid (xs.getD p 0 < ys.getD p 0 → val D16 xs < val D16 ys) := cmp_at D16 D16_one xs ys h.dg h'.dg la hl hl' p (by omega) (fun j h1 h2 => heq j (by omega) h2)
        have HG : Hid (ys.getD p 0 < xs.getD p 0 → val D16 ys < val D16 xs) := cmp_at D16 D16_one ys xs h'.dg h.dg la hl' hl p (by omega) (fun j h1 h2 => (heq j (by omega) h2).symm)
        have HE : Hid (xs.getD p 0 = ys.getD p 0 → ∀ j, p ≤ j → j < la → xs.getD j 0 = ys.getD j 0) := fun h0 j h1 h2 => by
          by_cases hj : j = p
          · rw [hj]; exact h0
          · exact heq j (by omega) h2
        have HDR : Hid (Drew w wr) := hdr
        generalize xs.getD p 0 = x at *
        generalize ys.getD p 0 = y at *
        clear hc hc2 heq h h' hdr
        rcases Int.lt_trichotomy x y with hxy | hxy | hxy
        · have HF : Hid (cmpI (val D16 xs) (val D16 ys) = -1) := cmpI_lt (HL.out hxy)
          clear HL HG HE
          go_wp2
          go_quiet (fail)
          go_wp2
          go_ret
          exact ⟨ret_int HF.out.symm, HDR.out.more _⟩
        · have HF : Hid (∀ j, p ≤ j → j < la → xs.getD j 0 = ys.getD j 0) := HE.out hxy
          subst hxy
          clear HL HG HE
          go_wp2
          go_quiet (fail)
          go_wp2
          go_quiet (fail)
          go_wp2
          go_roundw
          case rel => exact ⟨p, by omega, by go_num, HF.out, HDR.out.more _⟩
          case measure => simp [intOf] <;> omega
        · have HF : Hid (cmpI (val D16 xs) (val D16 ys) = 1) := cmpI_gt (HG.out hxy)
          clear HL HG HE
          go_wp2
          go_quiet (fail)
          go_wp2
          go_quiet (fail)
          go_wp2
          go_ret
          exact ⟨ret_int HF.out.symm, (HDR.out.more _).more _⟩
  · have HF : Hid (cmpI (val D16 xs) (val D16 ys) = 1) := cmpI_gt (top_lt_val D16_one h'.dg h.dg (by omega))
    have hne : ((la : Int) != (lb : Int)) = true := by simp; omega
    clear h h' hx hy
    go_enter Try.func35, Try.ntmps35
    go_wp2
    go_ret
    exact ⟨ret_int HF.out.symm, Drew.refl _⟩
end Go.Proofs.Ytnacgkkklmlhaaa
/-
  Contracts for a number's bits: the document's Bit, nat.isSet, nat.Bits.
-/
namespace Go.Proofs.Ytnacgkkklmlhaaa
open Go.RowKit
set_option linter.unusedVariables false
set_option linter.unusedSimpArgs false

/-- The bit of that place. -/
def bitAt (V : Int) (p : Nat) : Int := V / 2 ^ p % 2
theorem bitAt_01 (V : Int) (p : Nat) : bitAt V p = 0 ∨ bitAt V p = 1 := by unfold bitAt; omega
theorem bit_of_digit {B : Int} {m : Nat} (hB : B = 2 ^ m) (hm : 0 < m) (xs : List Int) (hd : Dg B xs) (p : Nat) : xs.getD (p / m) 0 / 2 ^ (p % m) % 2 = bitAt (val B xs) p := by
  have hB0 : 0 < B := by rw [hB]; exact Int.pow_pos (by decide)
  unfold bitAt
  rw [digit_at hB0 xs hd (p / m)]
  have hp : (0 : Int) < B ^ (p / m) := Int.pow_pos hB0
  have hq : (0 : Int) < 2 ^ (p % m) := Int.pow_pos (by decide)
  have e0 : (2 : Int) ^ p = B ^ (p / m) * 2 ^ (p % m) := by
    rw [hB, ← Int.pow_mul, ← Int.pow_add, Nat.div_add_mod]
  rw [e0, ← Int.ediv_ediv_of_nonneg (by omega)]
  generalize val B xs / B ^ (p / m) = Y
  have hlt : p % m < m := Nat.mod_lt _ hm
  have e : B = 2 ^ (p % m) * (2 * 2 ^ (m - 1 - p % m)) := by
    rw [Int.mul_comm 2, ← Int.pow_succ, ← Int.pow_add, show p % m + (m - 1 - p % m + 1) = m by omega]; exact hB
  rw [e]
  generalize (2 : Int) ^ (p % m) = q at *
  generalize (2 : Int) ^ (m - 1 - p % m) = s at *
  rw [Int.emod_def Y, show Y - q * (2 * s) * (Y / (q * (2 * s))) = Y + q * (-(2 * s * (Y / (q * (2 * s))))) by grind]
  rw [Int.add_mul_ediv_left _ _ (by omega)]
  rw [show Y / q + -(2 * s * (Y / (q * (2 * s)))) = Y / q + 2 * (-(s * (Y / (q * (2 * s))))) by grind, Int.add_mul_emod_self_left]

set_option maxHeartbeats 1000000 in
/-- the document's Bit. -/
theorem rBit_any (ao : Option Addr) (la ca : Nat) (ds : List Int) (i : Nat) (w : World) (h : NumIn .i64 D16 w ao la ca ds) (hi : i < 1000000000) :
    Calls Try.prog 50 #[.slice ao la ca, .int .i64 i] w fun e w' => e = .returned (.int .i64 (bitAt (val D16 ds) i)) ∧ w' = w := by
  have hl := h.len
  have HE : Hid (ds.getD (i / 16) 0 / 2 ^ (i % 16) % 2 = bitAt (val D16 ds) i) := bit_of_digit (m := 16) rfl (by decide) ds h.dg i
  have gx := h.dg.getD D16_pos (i / 16)
  obtain ⟨q, hq⟩ : ∃ q, i / 16 = q := ⟨_, rfl⟩
  obtain ⟨r, hr⟩ : ∃ r, i % 16 = r := ⟨_, rfl⟩
  have hqI : (i : Int) / 16 = (q : Int) := by omega
  have hrI : (i : Int) % 16 = (r : Int) := by omega
  have hr16 : r < 16 := by omega
  rw [hq, hr] at HE
  rw [hq] at gx
  by_cases hin : q < la
  · obtain ⟨b, off, rfl, hblk, hcs⟩ := h.lies.at (by omega)
    have hc := hcs q hin
    have x0 := gx.1
    have x1 : ds.getD q 0 < 65536 := gx.2
    generalize ds.getD q 0 = x at *
    clear hcs h hq hr gx
    go_enter Try.func50, Try.ntmps50
    go_wp2
    go_ret
    exact ⟨ret_int (by rw [← HE.out]; exact Int.tmod_eq_emod_of_nonneg (Int.ediv_nonneg x0 (Int.le_of_lt (Int.pow_pos (by decide))))), rfl⟩
  · have hz : ds.getD q 0 = 0 := by simp [List.getD, List.getElem?_eq_none (show ds.length ≤ q by omega)]
    rw [hz] at HE
    have HF : Hid (bitAt (val D16 ds) i = 0) := by unfold Hid; rw [← HE.out]; simp
    clear h hq hr gx hz HE
    go_enter Try.func50, Try.ntmps50
    go_wp2
    go_ret
    exact ⟨ret_int HF.out.symm, rfl⟩

theorem low_bit (a : Nat) (ha : a < 18446744073709551616) : bits .and .u64 (a : Int) 1 = ((a % 2 : Nat) : Int) := by
  have h := bits_and_u64_nat a 1 ha (by omega)
  rw [show a &&& 1 = a % 2 from Nat.and_two_pow_sub_one_eq_mod a 1] at h
  exact h

set_option maxHeartbeats 1000000 in
/-- nat.isSet. -/
theorem isSet_any (ao : Option Addr) (la ca : Nat) (xs : List Int) (i : Nat) (w : World) (h : NumIn .u64 B64 w ao la ca xs) (hi : i < 1000000000) :
    Calls Try.prog 74 #[.slice ao la ca, .int .i64 i] w fun e w' => e = .returned (.bool (bitAt (val B64 xs) i == 1)) ∧ w' = w := by
  have hl := h.len
  have hs := h.sm
  have HE : Hid (xs.getD (i / 64) 0 / 2 ^ (i % 64) % 2 = bitAt (val B64 xs) i) := bit_of_digit (m := 64) rfl (by decide) xs h.dg i
  have gx := h.dg.getD B64_pos (i / 64)
  have HL := limb_any ao la ca xs ((i : Int) / 64) w h.lies (by unfold maxLen; omega) (by omega)
  rw [show ((i : Int) / 64).toNat = i / 64 by omega] at HL
  obtain ⟨q, hq⟩ : ∃ q, i / 64 = q := ⟨_, rfl⟩
  obtain ⟨r, hr⟩ : ∃ r, i % 64 = r := ⟨_, rfl⟩
  have hqI : (i : Int) / 64 = (q : Int) := by omega
  have hrI : (i : Int) % 64 = (r : Int) := by omega
  have hr64 : r < 64 := by omega
  rw [hq, hr] at HE
  rw [hq] at gx HL
  rw [hqI] at HL
  obtain ⟨x, hx⟩ := Int.eq_ofNat_of_zero_le gx.1
  rw [hx] at HE gx HL
  have hx1 : x < 18446744073709551616 := by unfold B64 at gx; omega
  have ed : (x : Int) / 2 ^ r = ((x / 2 ^ r : Nat) : Int) := by rw [Int.natCast_ediv, Int.natCast_pow]; rfl
  have hdl : x / 2 ^ r < 18446744073709551616 := Nat.lt_of_le_of_lt (Nat.div_le_self _ _) hx1
  have hb := low_bit (x / 2 ^ r) hdl
  rw [← ed] at hb
  clear h hq hr gx hx ed
  go_enter Try.func74, Try.ntmps74
  go_wp2_with fail
  refine HL.mono ?_
  rintro e w' ⟨rfl, rfl⟩
  go_wp2
  go_ret
  exact ⟨by rw [← HE.out]; rfl, rfl⟩

theorem new_cell (W : World) (v : Value) (t : TypeId) : (W.alloc (.cells #[v] t)).cell? ⟨W.heap.size, 0, none⟩ = some v ∧ (W.alloc (.cells #[v] t)).frozen? ⟨W.heap.size, 0, none⟩ = false := ⟨by simp, by simp⟩
theorem more_cell {W : World} {a : Addr} {v : Value} (o : Obj) (h : W.cell? a = some v) : (W.alloc o).cell? a = some v := cell_kept h (World.grownBy_alloc W o none) (fun r e => by cases e)
theorem more_frozen {W : World} {a : Addr} {v : Value} (o : Obj) (h : W.cell? a = some v) (hf : W.frozen? a = false) : (W.alloc o).frozen? a = false := (frozen_kept h (World.grownBy_alloc W o none) (fun r e => by cases e)).trans hf

/-- What nat.Bits hands out: a closure over two cells: how many bits there are, and the limbs. -/
def BitsAt (w : World) (g3 g4 : Nat) (V : Int) (L : Nat) : Prop :=
  ∃ ao la ca xs, g3 < w.heap.size ∧ g4 < w.heap.size ∧ w.cell? ⟨g4, 0, none⟩ = some (.int .i64 L) ∧ w.cell? ⟨g3, 0, none⟩ = some (.slice ao la ca) ∧ NumIn .u64 B64 w ao la ca xs ∧ val B64 xs = V ∧ L ≤ 4480
theorem BitsAt.old {w w' : World} {g3 g4 : Nat} {V : Int} {L : Nat} (h : BitsAt w g3 g4 V L) (hb : Below w.heap.size w w') : BitsAt w' g3 g4 V L := by
  obtain ⟨ao, la, ca, xs, h1, h2, h3, h4, h5, h6, h7⟩ := h
  exact ⟨ao, la, ca, xs, Nat.lt_of_lt_of_le h1 hb.size, Nat.lt_of_lt_of_le h2 hb.size, (hb.cell (p := ⟨g4, 0, none⟩) h2).trans h3, (hb.cell (p := ⟨g3, 0, none⟩) h1).trans h4, h5.old hb, h6, h7⟩

set_option maxHeartbeats 1000000 in
/-- nat.Bits. -/
theorem Bits_new (ao : Option Addr) (la ca : Nat) (xs : List Int) (w : World) (h : NumIn .u64 B64 w ao la ca xs) (hla : la ≤ 70) :
    Calls Try.prog 64 #[.slice ao la ca] w fun e w' => ∃ g3 g4, e = .returned (.func (.func 73) #[] #[.pointer (some ⟨g4, 0, none⟩), .pointer (some ⟨g3, 0, none⟩)]) ∧ BitsAt w' g3 g4 (val B64 xs) (blen (val B64 xs).toNat) ∧ Below w.heap.size w w' ∧ w.heap.size ≤ g3 := by
  have HN := Norm_any ao la ca xs w h
  have hbl : blen (val B64 xs).toNat ≤ 4480 := by
    have h0 := val_nonneg B64_pos h.dg
    have h1 := val_lt B64_pos h.dg
    have h2 := pow_mono (B := B64) (by decide) (show xs.length ≤ 70 by have := h.len; omega)
    refine blen_le _ _ ?_
    have e : ((2 ^ 4480 : Nat) : Int) = B64 ^ 70 := by decide +kernel
    omega
  have HBL : Hid (blen (val B64 xs).toNat ≤ 4480) := hbl
  clear hbl h
  go_enter Try.func64, Try.ntmps64
  go_wp2_with fail
  refine HN.mono ?_
  rintro e w1 ⟨v, rfl, a1, l1, c1, ys, rfl, hy, hcy, hvy, hby, hb⟩
  have HB1 : Hid (Below w.heap.size w w1) := hb
  have HY : Hid (NumIn .u64 B64 w1 a1 l1 c1 ys ∧ val B64 ys = val B64 xs) := ⟨hy, hvy⟩
  clear hy hcy hvy hb HN
  go_wp2_with fail
  obtain ⟨w2, hw2⟩ : ∃ w2, w1.alloc (.cells #[.slice a1 l1 c1] 23) = w2 := ⟨_, rfl⟩
  have c3 := new_cell w1 (.slice a1 l1 c1) 23
  have hb2 : Below w1.heap.size w1 (w1.alloc (.cells #[.slice a1 l1 c1] 23)) := (Below.refl _ _).alloc (Nat.le_refl _) _
  have hs2 : (w1.alloc (.cells #[.slice a1 l1 c1] 23)).heap.size = w1.heap.size + 1 := World.size_alloc _ _
  have HL := Len_any a1 l1 c1 ys (w1.alloc (.cells #[.slice a1 l1 c1] 23)) (HY.out.1.old hb2)
  rw [show lenOf ys = blen (val B64 xs).toNat from by rw [lenOf_eq _ HY.out.1.dg, HY.out.2]] at HL
  rw [hw2] at HL c3 hb2 hs2 ⊢
  clear hw2
  refine HL.mono ?_
  rintro e w2' ⟨rfl, rfl⟩
  clear HL
  generalize hL : blen (val B64 xs).toNat = L at *
  have c4 := new_cell w2' (.int .i64 L) 3
  have hb3 : Below w2'.heap.size w2' (w2'.alloc (.cells #[.int .i64 L] 3)) := (Below.refl _ _).alloc (Nat.le_refl _) _
  have HF : Hid (BitsAt (w2'.alloc (.cells #[.int .i64 L] 3)) w1.heap.size w2'.heap.size (val B64 xs) L ∧ Below w.heap.size w (w2'.alloc (.cells #[.int .i64 L] 3)) ∧ w.heap.size ≤ w1.heap.size) := by
    refine ⟨⟨a1, l1, c1, ys, ?_, ?_, c4.1, ?_, (HY.out.1.old hb2).old hb3, HY.out.2, HBL.out⟩, ?_, HB1.out.size⟩
    · rw [World.size_alloc]; omega
    · rw [World.size_alloc]; omega
    · exact (hb3.cell (p := ⟨w1.heap.size, 0, none⟩) (by show w1.heap.size < _; omega)).trans c3.1
    · exact (HB1.out.trans (hb2.mono HB1.out.size)).trans (hb3.mono (by have := HB1.out.size; omega))
  have HS : Hid (w2'.heap.size = w1.heap.size + 1) := hs2
  have HLE : Hid (blen (val B64 xs).toNat = L) := hL
  clear c3 c4 hb2 hb3 HB1 HY HBL hs2 hL
  go_wp2
  go_ret
  exact ⟨_, _, rfl, by rw [HLE.out]; exact HF.out⟩
theorem Bits_any (ao : Option Addr) (la ca : Nat) (xs : List Int) (w : World) (h : NumIn .u64 B64 w ao la ca xs) (hla : la ≤ 70) :
    Calls Try.prog 64 #[.slice ao la ca] w fun e w' => ∃ g3 g4, e = .returned (.func (.func 73) #[] #[.pointer (some ⟨g4, 0, none⟩), .pointer (some ⟨g3, 0, none⟩)]) ∧ BitsAt w' g3 g4 (val B64 xs) (blen (val B64 xs).toNat) ∧ Below w.heap.size w w' := by
  refine (Bits_new ao la ca xs w h hla).mono ?_
  rintro e w' ⟨g3, g4, h1, h2, h3, _⟩
  exact ⟨g3, g4, h1, h2, h3⟩
end Go.Proofs.Ytnacgkkklmlhaaa
/-
  The iterator that nat.Bits hands out: what it yields.
-/
namespace Go.Proofs.Ytnacgkkklmlhaaa
open Go.RowKit Go.Shelf
set_option linter.unusedVariables false
set_option linter.unusedSimpArgs false
attribute [local go_sem] Oper.semAt_some

abbrev encB (p : Int × Bool) : Array Value := #[.int .i64 p.1, .bool p.2]
/-- A number's bits, from the greatest one on. -/
def bitOf (V : Int) (L i : Nat) : Int × Bool := (((L - 1 - i : Nat) : Int), bitAt V (L - 1 - i) == 1)
def bitsOf (V : Int) (L k : Nat) : List (Int × Bool) := (List.range k).map (bitOf V L)
theorem bitsOf_succ (V : Int) (L k : Nat) : bitsOf V L (k + 1) = bitsOf V L k ++ [bitOf V L k] := by simp [bitsOf, List.range_succ]
theorem bitsOf_len (V : Int) (L k : Nat) : (bitsOf V L k).length = k := by simp [bitsOf]
theorem bitsOf_pre (V : Int) (L k m : Nat) (h : k ≤ m) : bitsOf V L k <+: bitsOf V L m := by
  obtain ⟨d, rfl⟩ := Nat.le.dest h
  clear h
  induction d with
  | zero => exact List.prefix_refl _
  | succ d ih => rw [← Nat.add_assoc, bitsOf_succ]; exact ih.trans (List.prefix_append _ _)
theorem bitsOf_take (V : Int) (L : Nat) (pre : List (Int × Bool)) (x : Int × Bool) (h : pre ++ [x] <+: bitsOf V L L) : x = bitOf V L pre.length := by
  obtain ⟨t, ht⟩ := h
  have h1 : (bitsOf V L L)[pre.length]? = some x := by rw [← ht]; simp
  have h2 : pre.length < L := by
    have := congrArg List.length ht
    rw [bitsOf_len] at this
    simp at this
    omega
  rw [bitsOf, List.getElem?_map, List.getElem?_range h2] at h1
  simpa using h1.symm

set_option maxRecDepth 100000 in
set_option maxHeartbeats 2000000 in
theorem bits_stops (n : Nat) (hn : 1 ≤ n) (w0 : World) (g3 g4 : Nat) (V : Int) (L : Nat) (h : BitsAt w0 g3 g4 V L) :
    SeqStopsK Fence.wide n Try.prog 73 #[.pointer (some ⟨g4, 0, none⟩), .pointer (some ⟨g3, 0, none⟩)] encB (Below w0.heap.size) (fun xs => xs = bitsOf V L L) (fun pre => pre <+: bitsOf V L L) L w0 := fun l J Jx W hW hJ hJx hY h0 => by
  obtain ⟨ao, la, ca, xs, hg3, hg4, hc4, hc3, hnum, hv, hL⟩ := h
  have HW : Hid (Below w0.heap.size w0 W) := hW
  have HN : Hid (NumIn .u64 B64 w0 ao la ca xs ∧ val B64 xs = V) := ⟨hnum, hv⟩
  have HC : Hid (w0.cell? ⟨g4, 0, none⟩ = some (.int .i64 L) ∧ w0.cell? ⟨g3, 0, none⟩ = some (.slice ao la ca)) := ⟨hc4, hc3⟩
  have hcW := (hW.cell (p := ⟨g4, 0, none⟩) hg4).trans hc4
  clear hJ hJx hnum hv hc4 hc3 hW
  refine callsIn_of_wp Try.func73 rfl trivial ?_ rfl
  simp only [Try.ntmps73, List.size_toArray, List.length_cons, List.length_nil, Nat.reduceAdd, Nat.reduceSub, Array.replicate_succ, Array.replicate_zero, List.push_toArray, List.append_toArray, List.nil_append, List.cons_append]
  gi_wp2
  gi_loopw [4, 5, 7] (fun _ _ vi wr => ∃ (k : Nat), k ≤ L ∧ vi = .int .i64 k ∧ J (bitsOf V L k) wr ∧ Below w0.heap.size w0 wr) (fun _ _ vi _ => L - (intOf vi).toNat)
  case atStart => exact ⟨0, Nat.zero_le _, rfl, h0, HW.out⟩
  case round =>
    obtain ⟨k, hk, rfl, hJs, hb⟩ := hrel
    clear hcW HW h0
    by_cases hlt : k < L
    · have hc4 := (hb.cell (p := ⟨g4, 0, none⟩) hg4).trans HC.out.1
      have hc3 := (hb.cell (p := ⟨g3, 0, none⟩) hg3).trans HC.out.2
      obtain ⟨fn, tmps, assign, body, hy, hR⟩ := hY (bitsOf V L k) (bitOf V L k) wr hJs (by rw [bitsOf_len]; exact hlt)
      have HI := isSet_any ao la ca xs (L - 1 - k) wr (HN.out.1.old hb) (by omega)
      rw [HN.out.2] at HI
      dsimp only [encB, bitOf] at hy
      obtain ⟨p, hp⟩ : ∃ p, L - 1 - k = p := ⟨_, rfl⟩
      have ep : (L : Int) - 1 - (k : Int) = (p : Int) := by omega
      rw [hp] at hy HI
      clear hp
      have HB : Hid (Below w0.heap.size w0 wr) := hb
      have HP : Hid (bitsOf V L (k + 1) = bitsOf V L k ++ [bitOf V L k] ∧ bitsOf V L (k + 1) <+: bitsOf V L L) := ⟨bitsOf_succ V L k, bitsOf_pre V L _ _ (by omega)⟩
      clear hb hY
      generalize (bitAt V p == 1) = bb at *
      generalize bitOf V L k = bk at *
      gi_wp2_with (refine ⟨trivial, ?_⟩; gi_at_call 74; refine (callsIn_wide.2 HI).mono ?_; rintro e w' ⟨rfl, rfl⟩)
      refine hR.mono ?_
      rintro e W3 (⟨rfl, hJ3, hk3⟩ | ⟨rfl, hJx3⟩)
      · rw [← HP.out.1] at hJ3
        clear hR hy HI hc3 hc4 hJs
        gi_wp2
        go_roundw
        case rel => exact ⟨k + 1, by omega, by go_num, hJ3, HB.out.trans hk3⟩
        case measure => simp [intOf] <;> omega
      · rw [← HP.out.1] at hJx3
        clear hR hy HI hc3 hc4 hJs
        gi_wp2
        refine bodyPost_ret (results_none rfl _ _ _) rfl ?_
        exact ⟨⟨_, rfl⟩, .inr ⟨_, HP.out.2, hJx3⟩⟩
    · obtain rfl : k = L := by omega
      clear hY
      gi_wp2
      go_end0
      exact ⟨⟨_, rfl⟩, .inl ⟨_, rfl, hJs⟩⟩
end Go.Proofs.Ytnacgkkklmlhaaa
/-
  Plain mathematics below a modulus: the same up to multiples, powers by bits, the greatest common divisor, inverses by Euclid's steps. No program in sight.
-/
namespace Go.Proofs.Ytnacgkkklmlhaaa
set_option linter.unusedVariables false

/-- The same up to multiples of M. -/
def Cg (M a b : Int) : Prop := ∃ k, a - b = M * k
theorem Cg.refl (M a : Int) : Cg M a a := ⟨0, by simp⟩
theorem Cg.of_eq {M a b : Int} (h : a = b) : Cg M a b := h ▸ Cg.refl M a
theorem Cg.symm {M a b : Int} (h : Cg M a b) : Cg M b a := by obtain ⟨k, hk⟩ := h; exact ⟨-k, by grind⟩
theorem Cg.trans {M a b c : Int} (h : Cg M a b) (h' : Cg M b c) : Cg M a c := by obtain ⟨k, hk⟩ := h; obtain ⟨l, hl⟩ := h'; exact ⟨k + l, by grind⟩
theorem Cg.add {M a b c d : Int} (h : Cg M a b) (h' : Cg M c d) : Cg M (a + c) (b + d) := by obtain ⟨k, hk⟩ := h; obtain ⟨l, hl⟩ := h'; exact ⟨k + l, by grind⟩
theorem Cg.sub {M a b c d : Int} (h : Cg M a b) (h' : Cg M c d) : Cg M (a - c) (b - d) := by obtain ⟨k, hk⟩ := h; obtain ⟨l, hl⟩ := h'; exact ⟨k - l, by grind⟩
theorem Cg.mul {M a b c d : Int} (h : Cg M a b) (h' : Cg M c d) : Cg M (a * c) (b * d) := by
  obtain ⟨k, hk⟩ := h; obtain ⟨l, hl⟩ := h'
  exact ⟨a * l + k * d, by
    have e : a * c - b * d = a * (c - d) + (a - b) * d := by grind
    rw [e, hk, hl]; grind⟩
theorem Cg.neg {M a b : Int} (h : Cg M a b) : Cg M (-a) (-b) := by obtain ⟨k, hk⟩ := h; exact ⟨-k, by grind⟩
theorem Cg.pow {M a b : Int} (h : Cg M a b) : ∀ n : Nat, Cg M (a ^ n) (b ^ n)
  | 0 => by rw [Int.pow_zero, Int.pow_zero]; exact Cg.refl _ _
  | n + 1 => by rw [Int.pow_succ, Int.pow_succ]; exact (Cg.pow h n).mul h
theorem Cg.mod (M a : Int) : Cg M (a % M) a := ⟨-(a / M), by have := Int.emod_add_mul_ediv a M; grind⟩
theorem Cg.emod {M a b : Int} (h : Cg M a b) : a % M = b % M := by
  obtain ⟨k, hk⟩ := h
  rw [show a = b + M * k by omega, Int.add_mul_emod_self_left]
theorem Cg.eq {M a b : Int} (h : Cg M a b) (ha : 0 ≤ a) (ha' : a < M) (hb : 0 ≤ b) (hb' : b < M) : a = b := by
  have := h.emod
  rwa [Int.emod_eq_of_lt ha ha', Int.emod_eq_of_lt hb hb'] at this
theorem cg_of_emod {M a b : Int} (h : a % M = b % M) : Cg M a b := (Cg.mod M a).symm.trans (h ▸ Cg.mod M b)
theorem cg_mult (M a k : Int) : Cg M (a + k * M) a := ⟨k, by grind⟩

/-- The half of a number, and its last bit. -/
theorem half_step (V : Int) (p : Nat) : V / 2 ^ p = 2 * (V / 2 ^ (p + 1)) + V / 2 ^ p % 2 := by
  have hp : (0 : Int) < 2 ^ p := Int.pow_pos (by decide)
  rw [Int.pow_succ, ← Int.ediv_ediv_of_nonneg (by omega)]
  omega
/-- The power by the exponent's bits from p on. -/
def pws (X V : Int) (p : Nat) : Int := X ^ (V / 2 ^ p).toNat
theorem pws_zero (X V : Int) : pws X V 0 = X ^ V.toNat := by simp [pws]
theorem pws_top (X V : Int) (h0 : 0 ≤ V) (L : Nat) (h : V < 2 ^ L) : pws X V L = 1 := by
  unfold pws
  rw [Int.ediv_eq_zero_of_lt h0 h]; exact Int.pow_zero X
theorem pws_even (X V : Int) (h0 : 0 ≤ V) (p : Nat) (h : V / 2 ^ p % 2 = 0) : pws X V p = pws X V (p + 1) * pws X V (p + 1) := by
  have hp : (0 : Int) < 2 ^ (p + 1) := Int.pow_pos (by decide)
  have hq : 0 ≤ V / 2 ^ (p + 1) := Int.ediv_nonneg h0 (by omega)
  have hs := half_step V p
  unfold pws
  rw [← Int.pow_add]
  congr 1
  omega
theorem pws_odd (X V : Int) (h0 : 0 ≤ V) (p : Nat) (h : V / 2 ^ p % 2 = 1) : pws X V p = pws X V (p + 1) * pws X V (p + 1) * X := by
  have hp : (0 : Int) < 2 ^ (p + 1) := Int.pow_pos (by decide)
  have hq : 0 ≤ V / 2 ^ (p + 1) := Int.ediv_nonneg h0 (by omega)
  have hs := half_step V p
  unfold pws
  rw [← Int.pow_add, ← Int.pow_succ]
  congr 1
  omega

/-- The greatest common divisor. -/
def gd (a b : Int) : Int := (Nat.gcd a.toNat b.toNat : Nat)
theorem gd_step (a b : Int) (ha : 0 ≤ a) (hb : 0 ≤ b) : gd a b = gd b (a % b) := by
  unfold gd
  rw [Int.toNat_emod ha hb, Nat.gcd_comm a.toNat b.toNat, Nat.gcd_rec b.toNat a.toNat, Nat.gcd_comm]
theorem gd_zero (a : Int) (ha : 0 ≤ a) : gd a 0 = a := by unfold gd; simp; omega
theorem gd_dvd_left (a b : Int) (ha : 0 ≤ a) : ∃ k, a = gd a b * k := by
  obtain ⟨k, hk⟩ := Nat.gcd_dvd_left a.toNat b.toNat
  exact ⟨k, by unfold gd; rw [← Int.natCast_mul, ← hk]; omega⟩
theorem gd_dvd_right (a b : Int) (hb : 0 ≤ b) : ∃ k, b = gd a b * k := by
  obtain ⟨k, hk⟩ := Nat.gcd_dvd_right a.toNat b.toNat
  exact ⟨k, by unfold gd; rw [← Int.natCast_mul, ← hk]; omega⟩
theorem gd_nonneg (a b : Int) : 0 ≤ gd a b := by unfold gd; omega

/-- Between two of Euclid's steps: left, next, how often each; which of the two stands below 0. -/
def Euc (M A l n t m : Int) (b : Bool) : Prop :=
  0 < l ∧ l ≤ M ∧ 0 ≤ n ∧ n ≤ M ∧ 0 ≤ t ∧ t ≤ M ∧ 0 ≤ m ∧ m ≤ M ∧ t * n + m * l = M ∧ gd l n = gd M A ∧
    Cg M l (bif b then -(t * A) else t * A) ∧ Cg M n (bif b then m * A else -(m * A))
theorem Euc.start (M A : Int) (hM : 0 < M) (h0 : 0 ≤ A) (h1 : A < M) : Euc M A M A 0 1 true :=
  ⟨hM, by omega, h0, by omega, by omega, by omega, by omega, by omega, by omega, rfl, ⟨1, by simp⟩, Cg.of_eq (by simp)⟩
theorem Euc.step {M A l n t m : Int} {b : Bool} (h : Euc M A l n t m b) (hn : 0 < n) : Euc M A n (l % n) m (t + l / n * m) (!b) := by
  obtain ⟨h1, h2, h3, h4, h5, h6, h7, h8, h9, h10, h11, h12⟩ := h
  have r0 := Int.emod_nonneg l (show n ≠ 0 by omega)
  have r1 := Int.emod_lt_of_pos l hn
  have q0 : 0 ≤ l / n := Int.ediv_nonneg (by omega) (by omega)
  have hd := Int.emod_add_mul_ediv l n
  generalize l % n = r at *
  generalize l / n = q at *
  have m0 : 0 ≤ q * m := Int.mul_nonneg q0 h7
  have e : m * r + (t + q * m) * n = M := by rw [← h9, ← hd]; grind
  have p0 : 0 ≤ m * r := Int.mul_nonneg h7 r0
  have p1 : (t + q * m) * 1 ≤ (t + q * m) * n := Int.mul_le_mul_of_nonneg_left (by omega) (by omega)
  refine ⟨hn, h4, r0, by omega, h7, h8, by omega, by omega, e, ?_, ?_, ?_⟩
  · rw [← h10, gd_step l n (by omega) h3]
    congr 1
    rw [← hd, Int.add_mul_emod_self_left, Int.emod_eq_of_lt r0 r1]
  · cases b
    · exact h12
    · exact h12
  · have e2 : r = l - q * n := by rw [← hd]; grind
    rw [e2]
    have h13 := h11.sub ((Cg.refl M q).mul h12)
    cases b
    · exact h13.trans (Cg.of_eq (by simp only [cond_false, cond_true, Bool.not_false]; grind))
    · exact h13.trans (Cg.of_eq (by simp only [cond_false, cond_true, Bool.not_true]; grind))
theorem Euc.done {M A l t m : Int} {b : Bool} (h : Euc M A l 0 t m b) : l = gd M A ∧ Cg M (gd M A) (bif b then -(t * A) else t * A) := by
  obtain ⟨h1, h2, h3, h4, h5, h6, h7, h8, h9, h10, h11, h12⟩ := h
  rw [gd_zero l (by omega)] at h10
  exact ⟨h10, h10 ▸ h11⟩

/-- There is but one inverse. -/
theorem inv_one {M X i j : Int} (hi : Cg M (i * X) 1) (hj : Cg M (j * X) 1) : Cg M i j := by
  have a : Cg M (i * (j * X)) (i * 1) := (Cg.refl M i).mul hj
  have b : Cg M (j * (i * X)) (j * 1) := (Cg.refl M j).mul hi
  have e : i * (j * X) = j * (i * X) := by grind
  rw [e] at a
  exact (Cg.of_eq (by simp)).trans (a.symm.trans (b.trans (Cg.of_eq (by simp))))
/-- What has an inverse has no divisor above 1 together with the modulus. -/
theorem gd_of_inv {M A i : Int} (hM : 0 < M) (hA : 0 ≤ A) (h : Cg M (i * A) 1) : gd M A = 1 := by
  obtain ⟨k, hk⟩ := h
  obtain ⟨x, hx⟩ := gd_dvd_left M A (by omega)
  obtain ⟨y, hy⟩ := gd_dvd_right M A hA
  have h0 := gd_nonneg M A
  generalize gd M A = g at *
  have e : g * (i * y - x * k) = 1 := by
    have e1 : i * (g * y) - g * x * k = 1 := by rw [← hx, ← hy]; omega
    rw [← e1]; grind
  exact Int.eq_one_of_mul_eq_one_right h0 e
end Go.Proofs.Ytnacgkkklmlhaaa
/-
  Contracts of modular.Of, Add, Mul, Sub.
-/
namespace Go.Proofs.Ytnacgkkklmlhaaa
open Go.RowKit
set_option linter.unusedVariables false
set_option linter.unusedSimpArgs false

/-- A number that is no greater has no more digits. -/
theorem len_fit {B : Int} (hB : 1 < B) {xs ys : List Int} (hx : Dg B xs) (cx : Canon xs) (hy : Dg B ys) (h : val B xs ≤ val B ys) : xs.length ≤ ys.length := by
  have h1 := top_mono hB hx hy h
  have h2 := top_le ys
  unfold Canon at cx
  omega
theorem NumOut.fit {k : IntKind} {B : Int} {w w' : World} {v : Value} {n : Int} {L : Nat} (h : NumOut k B w w' v n L) (hB : 1 < B) {ys : List Int} (hy : Dg B ys) (hn : n ≤ val B ys) : NumOut k B w w' v n ys.length := by
  obtain ⟨ao, len, cap, xs, rfl, h1, h2, h3, h4, h5⟩ := h
  exact ⟨ao, len, cap, xs, rfl, h1, h2, h3, by rw [← h1.len]; exact len_fit hB h1.dg h2 hy (by omega), h5⟩
theorem NumOut.from {k : IntKind} {B : Int} {w0 w w' : World} {v : Value} {n : Int} {L : Nat} (h : NumOut k B w w' v n L) (hb : Below w0.heap.size w0 w) : NumOut k B w0 w' v n L := by
  obtain ⟨ao, len, cap, xs, rfl, h1, h2, h3, h4, h5⟩ := h
  exact ⟨ao, len, cap, xs, rfl, h1, h2, h3, h4, hb.trans (h5.mono hb.size)⟩
theorem mod_range (x m : Int) (hm : 0 ≤ m) (h0 : m ≠ 0) : 0 ≤ x % m ∧ x % m < m := ⟨Int.emod_nonneg x h0, Int.emod_lt_of_pos x (by omega)⟩

set_option maxHeartbeats 400000 in
/-- modular.Of. -/
theorem mOf_any (ao mo : Option Addr) (la ca lm cm : Nat) (xs ms : List Int) (w : World) (h : NumIn .u64 B64 w ao la ca xs) (h' : NumIn .u64 B64 w mo lm cm ms) (h0 : val B64 ms ≠ 0) (hsm : la + lm < 1073740000) :
    Calls Try.prog 63 #[.slice ao la ca, .slice mo lm cm] w fun e w' => ∃ v, e = .returned (.tuple #[v, .int .i64 0]) ∧ NumOut .u64 B64 w w' v (val B64 xs % val B64 ms) lm := by
  have HD := Div_any ao mo la ca lm cm xs ms w h h' h0 hsm
  have hr := mod_range (val B64 xs) (val B64 ms) (val_nonneg B64_pos h'.dg) h0
  have HR : Hid (val B64 xs % val B64 ms ≤ val B64 ms ∧ Dg B64 ms ∧ ms.length = lm) := ⟨by omega, h'.dg, h'.len⟩
  clear h h' hr
  go_enter Try.func63, Try.ntmps63
  go_wp2_with fail
  refine HD.mono ?_
  rintro e w' ⟨q, r, rfl, hq, hr⟩
  have hr2 := hr.fit B64_one HR.out.2.1 HR.out.1
  rw [HR.out.2.2] at hr2
  obtain ⟨aq, lq, cq, xq, rfl, _, _, _, _, _⟩ := hq
  obtain ⟨ar, lr, cr, xr, rfl, n1, n2, n3, n4, n5⟩ := hr2
  have HN : Hid (NumOut .u64 B64 w w' (.slice ar lr cr) (val B64 xs % val B64 ms) lm) := ⟨ar, lr, cr, xr, rfl, n1, n2, n3, n4, n5⟩
  clear hr n1 n2 n3 n4 n5 HR HD
  go_wp2
  go_ret2
  exact ⟨_, rfl, HN.out⟩

set_option maxHeartbeats 400000 in
/-- modular.Of: of a modulus of 0. -/
theorem mOf_zero (ao mo : Option Addr) (la ca lm cm : Nat) (xs ms : List Int) (w : World) (h : NumIn .u64 B64 w ao la ca xs) (h' : NumIn .u64 B64 w mo lm cm ms) (h0 : val B64 ms = 0) :
    Calls Try.prog 63 #[.slice ao la ca, .slice mo lm cm] w fun e w' => e = .returned (.tuple #[.slice none 0 0, .int .i64 4]) ∧ w' = w := by
  have HD := Div_zero ao mo la ca lm cm xs ms w h h' h0
  clear h h' h0
  go_enter Try.func63, Try.ntmps63
  go_wp2_with fail
  refine HD.mono ?_
  rintro e w' ⟨rfl, rfl⟩
  go_wp2
  go_ret2
  exact ⟨rfl, rfl⟩


set_option maxHeartbeats 400000 in
/-- modular.Mul. -/
theorem mMul_any (ao bo mo : Option Addr) (la ca lb cb lm cm : Nat) (xs ys ms : List Int) (w : World) (h : NumIn .u64 B64 w ao la ca xs) (hb : NumIn .u64 B64 w bo lb cb ys) (h' : NumIn .u64 B64 w mo lm cm ms) (h0 : val B64 ms ≠ 0) (hsm : la + lb + lm < 1073730000) :
    Calls Try.prog 65 #[.slice ao la ca, .slice bo lb cb, .slice mo lm cm] w fun e w' => ∃ v, e = .returned (.tuple #[v, .int .i64 0]) ∧ NumOut .u64 B64 w w' v ((val B64 xs * val B64 ys) % val B64 ms) lm := by
  have HA := Mul_any ao bo la ca lb cb xs ys w h hb (by omega)
  have HM : Hid (NumIn .u64 B64 w mo lm cm ms) := h'
  clear h hb h'
  go_enter Try.func65, Try.ntmps65
  go_wp2_with fail
  refine HA.mono ?_
  rintro e w1 ⟨v, rfl, a1, l1, c1, zs, rfl, n1, n2, n3, n4, n5⟩
  have HO := mOf_any a1 mo l1 c1 lm cm zs ms w1 n1 (HM.out.old n5) h0 (by omega)
  rw [n3] at HO
  have HB : Hid (Below w.heap.size w w1) := n5
  clear n1 n2 n3 n4 n5 HM HA
  go_wp2_with fail
  refine HO.mono ?_
  rintro e w2 ⟨v, rfl, hv⟩
  have HV : Hid (NumOut .u64 B64 w w2 v ((val B64 xs * val B64 ys) % val B64 ms) lm) := hv.from HB.out
  clear hv HB HO
  go_wp2
  go_ret2
  exact ⟨_, rfl, HV.out⟩

set_option maxHeartbeats 400000 in
/-- modular.Mul: of a modulus of 0. -/
theorem mMul_zero (ao bo mo : Option Addr) (la ca lb cb lm cm : Nat) (xs ys ms : List Int) (w : World) (h : NumIn .u64 B64 w ao la ca xs) (hb : NumIn .u64 B64 w bo lb cb ys) (h' : NumIn .u64 B64 w mo lm cm ms) (h0 : val B64 ms = 0) (hsm : la + lb + lm < 1073730000) :
    Calls Try.prog 65 #[.slice ao la ca, .slice bo lb cb, .slice mo lm cm] w fun e w' => e = .returned (.tuple #[.slice none 0 0, .int .i64 4]) ∧ Below w.heap.size w w' := by
  have HA := Mul_any ao bo la ca lb cb xs ys w h hb (by omega)
  have HM : Hid (NumIn .u64 B64 w mo lm cm ms) := h'
  clear h hb h'
  go_enter Try.func65, Try.ntmps65
  go_wp2_with fail
  refine HA.mono ?_
  rintro e w1 ⟨v, rfl, a1, l1, c1, zs, rfl, n1, n2, n3, n4, n5⟩
  have HO := mOf_zero a1 mo l1 c1 lm cm zs ms w1 n1 (HM.out.old n5) h0
  have HB : Hid (Below w.heap.size w w1) := n5
  clear n1 n2 n3 n4 n5 HM HA h0
  go_wp2_with fail
  refine HO.mono ?_
  rintro e w2 ⟨rfl, rfl⟩
  go_wp2
  go_ret2
  exact ⟨rfl, HB.out⟩

theorem sub_mod (a b m : Int) (h0 : 0 < m) : (a % m < b % m → a % m + m - b % m = (a - b) % m) ∧ (b % m ≤ a % m → a % m - b % m = (a - b) % m) := by
  have ra := mod_range a m (by omega) (by omega)
  have rb := mod_range b m (by omega) (by omega)
  have rc := mod_range (a - b) m (by omega) (by omega)
  have h1 : Cg m (a % m - b % m) ((a - b) % m) := ((Cg.mod m a).sub (Cg.mod m b)).trans (Cg.mod m (a - b)).symm
  refine ⟨fun hl => ?_, fun hl => ?_⟩
  · refine Cg.eq (M := m) ?_ (by omega) (by omega) rc.1 rc.2
    exact (show Cg m (a % m + m - b % m) (a % m - b % m) from ⟨1, by omega⟩).trans h1
  · exact h1.eq (by omega) (by omega) rc.1 rc.2

end Go.Proofs.Ytnacgkkklmlhaaa
/-
  Contracts of modular.euclid, Inv.
-/
namespace Go.Proofs.Ytnacgkkklmlhaaa
open Go.RowKit
set_option linter.unusedVariables false
set_option linter.unusedSimpArgs false

/-- The value v is that number, of at most L digits. -/
def Nm (k : IntKind) (B : Int) (w : World) (v : Value) (n : Int) (L : Nat) : Prop :=
  ∃ ao len cap xs, v = .slice ao len cap ∧ NumIn k B w ao len cap xs ∧ val B xs = n ∧ len ≤ L
theorem Nm.old {k : IntKind} {B : Int} {w w' : World} {v : Value} {n : Int} {L : Nat} (h : Nm k B w v n L) (hb : Below w.heap.size w w') : Nm k B w' v n L := by
  obtain ⟨ao, len, cap, xs, rfl, h1, h2, h3⟩ := h
  exact ⟨ao, len, cap, xs, rfl, h1.old hb, h2, h3⟩
theorem NumOut.nm {k : IntKind} {B : Int} {w w' : World} {v : Value} {n : Int} {L : Nat} (h : NumOut k B w w' v n L) : Nm k B w' v n L := by
  obtain ⟨ao, len, cap, xs, rfl, h1, h2, h3, h4, h5⟩ := h
  exact ⟨ao, len, cap, xs, rfl, h1, h3, h4⟩
theorem NumOut.bl {k : IntKind} {B : Int} {w w' : World} {v : Value} {n : Int} {L : Nat} (h : NumOut k B w w' v n L) : Below w.heap.size w w' := by
  obtain ⟨ao, len, cap, xs, rfl, h1, h2, h3, h4, h5⟩ := h
  exact h5
/-- The number that a slice says, read off the world. -/
def nval (B : Int) (w : World) (v : Value) : Nat :=
  match v with
  | .slice (some ⟨b, off, _⟩) len _ => (val B ((List.range len).map fun i => intOf ((w.cell? ⟨b, off + i, none⟩).getD undef))).toNat
  | _ => 0
theorem Nm.nval {k : IntKind} {B : Int} {w : World} {v : Value} {n : Int} {L : Nat} (h : Nm k B w v n L) : nval B w v = n.toNat := by
  obtain ⟨ao, len, cap, xs, rfl, h1, rfl, h3⟩ := h
  rcases h1.lies.2 with h0 | ⟨b, off, rfl, _, hc⟩
  · have hx : xs = [] := List.eq_nil_of_length_eq_zero (by rw [h1.len]; exact h0)
    subst hx; subst h0
    cases ao <;> simp [Go.Proofs.Ytnacgkkklmlhaaa.nval, val]
  · have e : ((List.range len).map fun i => intOf ((w.cell? ⟨b, off + i, none⟩).getD undef)) = xs := by
      apply List.ext_getElem
      · simp [h1.len]
      · intro i g1 g2
        simp only [List.getElem_map, List.getElem_range]
        rw [hc i (by simpa using g1)]
        simp [intOf, List.getD, g2]
    simp only [Go.Proofs.Ytnacgkkklmlhaaa.nval]
    rw [e]
theorem lenOf_zero {xs : List Int} (hd : Dg B64 xs) (h : val B64 xs = 0) : lenOf xs = 0 := by rw [lenOf_eq xs hd, h]; rfl
theorem lenOf_pos {xs : List Int} (hd : Dg B64 xs) (h : 0 < val B64 xs) : 0 < lenOf xs := by rw [lenOf_eq xs hd]; exact blen_pos _ (by omega)
theorem lenOf_le {xs : List Int} (hd : Dg B64 xs) (n : Nat) (hn : xs.length ≤ n) : lenOf xs ≤ 64 * n := by
  rw [lenOf_eq xs hd]
  refine blen_le _ _ ?_
  have h0 := val_nonneg B64_pos hd
  have h1 := val_lt B64_pos hd
  have h2 := pow_mono (B := B64) (by decide) hn
  have e : B64 ^ n = ((2 ^ (64 * n) : Nat) : Int) := by
    rw [Nat.pow_mul, Int.natCast_pow]; rfl
  omega

end Go.Proofs.Ytnacgkkklmlhaaa
/-
  Cells of the call's own beside numbers; powers bit by bit.
-/
namespace Go.Proofs.Ytnacgkkklmlhaaa
open Go.RowKit Go.Shelf
set_option linter.unusedVariables false
set_option linter.unusedSimpArgs false
attribute [local go_sem] Oper.semAt_some

/-- A cell of the call's own, with what it holds. -/
def Kc (W : World) (b : Nat) (v : Value) : Prop := W.cell? ⟨b, 0, none⟩ = some v ∧ W.frozen? ⟨b, 0, none⟩ = false
theorem Kc.lt {W : World} {b : Nat} {v : Value} (h : Kc W b v) : b < W.heap.size := World.block_lt_of_cell? W ⟨b, 0, none⟩ h.1
theorem Kc.kept {W W' : World} {b : Nat} {v : Value} {row : Option Nat} (h : Kc W b v) (hg : W.grownBy W' row) (hr : ∀ r, row = some r → ∃ o : Obj, W.heap[r]? = some o ∧ o.isCells = false) : Kc W' b v :=
  ⟨cell_kept h.1 hg hr, (frozen_kept h.1 hg hr).trans h.2⟩
theorem Kc.new (W : World) (v : Value) (t : TypeId) (b : Nat) (hb : b = W.heap.size) : Kc (W.alloc (.cells #[v] t)) b v := by subst hb; exact new_cell W v t
theorem Kc.alloc {W : World} {b : Nat} {v : Value} (h : Kc W b v) (o : Obj) : Kc (W.alloc o) b v := ⟨more_cell o h.1, more_frozen o h.1 h.2⟩
theorem Kc.set {W : World} {b : Nat} {v : Value} (h : Kc W b v) (u : Value) : Kc (W.setCell ⟨b, 0, none⟩ u) b u := ⟨World.cell?_setCell_same _ _ _ h.1, by rw [World.frozen?_setCell]; exact h.2⟩
theorem Kc.other {W : World} {b c : Nat} {v : Value} (h : Kc W b v) (hne : c ≠ b) (u : Value) : Kc (W.setCell ⟨c, 0, none⟩ u) b v := ⟨(World.cell?_setCell_other _ _ _ _ (by intro e; injection e with e; exact hne e)).trans h.1, by rw [World.frozen?_setCell]; exact h.2⟩
theorem Kc.old {W W' : World} {b : Nat} {v : Value} (h : Kc W b v) (hb : Below W.heap.size W W') : Kc W' b v :=
  ⟨(hb.cell (p := ⟨b, 0, none⟩) h.lt).trans h.1, (hb.frozen (p := ⟨b, 0, none⟩) h.lt).trans h.2⟩
/-- Two cells that hold other things are two. -/
theorem Kc.ne {W : World} {b c : Nat} {u v : Value} (h : Kc W b u) (h' : Kc W c v) (hne : u ≠ v) : b ≠ c := fun e => hne (by
  subst e
  have := h.1.symm.trans h'.1
  exact Option.some.inj this)

theorem NumIn.keptc {k : IntKind} {B : Int} {W W' : World} {ao : Option Addr} {len cap : Nat} {xs : List Int} (h : NumIn k B W ao len cap xs) {row : Option Nat} (hg : W.grownBy W' row) (hr : ∀ r, row = some r → ∃ o : Obj, W.heap[r]? = some o ∧ o.isCells = false) : NumIn k B W' ao len cap xs := by
  refine ⟨⟨h.len, ?_⟩, h.lc, h.cm, h.nn, h.dg, h.sm⟩
  by_cases h0 : len = 0
  · exact .inl h0
  · obtain ⟨b, off, e, hlt, hc⟩ := h.lies.at (by omega)
    have hc0 := cell_kept (hc 0 (by omega)) hg hr
    exact .inr ⟨b, off, e, World.block_lt_of_cell? W' ⟨b, off + 0, none⟩ hc0, fun i hi => cell_kept (hc i hi) hg hr⟩
/-- A store into a cell that holds a slice leaves numbers alone. -/
theorem NumIn.setSlice {k : IntKind} {B : Int} {W : World} {ao : Option Addr} {len cap : Nat} {xs : List Int} (h : NumIn k B W ao len cap xs) {b : Nat} {a : Option Addr} {l c : Nat} (hk : Kc W b (.slice a l c)) (u : Value) : NumIn k B (W.setCell ⟨b, 0, none⟩ u) ao len cap xs := by
  refine ⟨⟨h.len, ?_⟩, h.lc, h.cm, h.nn, h.dg, h.sm⟩
  by_cases h0 : len = 0
  · exact .inl h0
  · obtain ⟨b', off, e, hlt, hc⟩ := h.lies.at (by omega)
    refine .inr ⟨b', off, e, by rw [World.size_setCell]; exact hlt, fun i hi => ?_⟩
    refine (World.cell?_setCell_other _ _ _ _ ?_).trans (hc i hi)
    intro e2
    have h1 := hc i hi
    rw [← e2] at h1
    have h2 := hk.1.symm.trans h1
    cases h2
theorem KeepsOthers.of_below {W W' : World} (hb : Below W.heap.size W W') : KeepsOthers W W' :=
  ⟨hb.size, fun j o hj _ => (hb.block j (Array.getElem?_eq_some_iff.1 hj).1).trans hj⟩

theorem BitsAt.keptc {W W' : World} {g3 g4 : Nat} {V : Int} {L : Nat} (h : BitsAt W g3 g4 V L) {row : Option Nat} (hg : W.grownBy W' row) (hr : ∀ r, row = some r → ∃ o : Obj, W.heap[r]? = some o ∧ o.isCells = false) : BitsAt W' g3 g4 V L := by
  obtain ⟨ao, la, ca, xs, h1, h2, h3, h4, h5, h6, h7⟩ := h
  have c4 := cell_kept h3 hg hr
  have c3 := cell_kept h4 hg hr
  exact ⟨ao, la, ca, xs, World.block_lt_of_cell? W' _ c3, World.block_lt_of_cell? W' _ c4, c4, c3, h5.keptc hg hr, h6, h7⟩
theorem BitsAt.setSlice {W : World} {g3 g4 : Nat} {V : Int} {L : Nat} (h : BitsAt W g3 g4 V L) {b : Nat} {a : Option Addr} {l c : Nat} (hk : Kc W b (.slice a l c)) (hne : b ≠ g3) (u : Value) : BitsAt (W.setCell ⟨b, 0, none⟩ u) g3 g4 V L := by
  obtain ⟨ao, la, ca, xs, h1, h2, h3, h4, h5, h6, h7⟩ := h
  have hne4 : b ≠ g4 := fun e => by
    subst e
    have := hk.1.symm.trans h3
    cases this
  refine ⟨ao, la, ca, xs, by rw [World.size_setCell]; exact h1, by rw [World.size_setCell]; exact h2, ?_, ?_, h5.setSlice hk u, h6, h7⟩
  · exact (World.cell?_setCell_other _ _ _ _ (by intro e; injection e with e; exact hne4 e)).trans h3
  · exact (World.cell?_setCell_other _ _ _ _ (by intro e; injection e with e; exact hne e)).trans h4

set_option maxRecDepth 100000 in
set_option maxHeartbeats 2000000 in
/-- The iterator of nat.Bits, where the rounds keep just what it reads. -/
theorem bits_stopsI (n : Nat) (hn : 1 ≤ n) (w0 : World) (g3 g4 : Nat) (V : Int) (L : Nat) (h : BitsAt w0 g3 g4 V L) :
    SeqStopsK Fence.wide n Try.prog 73 #[.pointer (some ⟨g4, 0, none⟩), .pointer (some ⟨g3, 0, none⟩)] encB (fun A B => BitsAt A g3 g4 V L → BitsAt B g3 g4 V L) (fun xs => xs = bitsOf V L L) (fun pre => pre <+: bitsOf V L L) L w0 := fun l J Jx W hW hJ hJx hY h0 => by
  have HW : Hid (BitsAt W g3 g4 V L) := h.old hW
  obtain ⟨_, _, _, _, _, _, hcW, _, _, _, hL⟩ := HW.out
  clear hJ hJx hW h
  refine callsIn_of_wp Try.func73 rfl trivial ?_ rfl
  simp only [Try.ntmps73, List.size_toArray, List.length_cons, List.length_nil, Nat.reduceAdd, Nat.reduceSub, Array.replicate_succ, Array.replicate_zero, List.push_toArray, List.append_toArray, List.nil_append, List.cons_append]
  gi_wp2
  gi_loopw [4, 5, 7] (fun _ _ vi wr => ∃ (k : Nat), k ≤ L ∧ vi = .int .i64 k ∧ J (bitsOf V L k) wr ∧ BitsAt wr g3 g4 V L) (fun _ _ vi _ => L - (intOf vi).toNat)
  case atStart => exact ⟨0, Nat.zero_le _, rfl, h0, HW.out⟩
  case round =>
    obtain ⟨k, hk, rfl, hJs, hb⟩ := hrel
    clear hcW HW h0
    by_cases hlt : k < L
    · have HB : Hid (BitsAt wr g3 g4 V L) := hb
      obtain ⟨ao, la, ca, xs, _, _, hc4, hc3, hnum, hv, _⟩ := hb
      obtain ⟨fn, tmps, assign, body, hy, hR⟩ := hY (bitsOf V L k) (bitOf V L k) wr hJs (by rw [bitsOf_len]; exact hlt)
      have HI := isSet_any ao la ca xs (L - 1 - k) wr hnum (by omega)
      rw [hv] at HI
      dsimp only [encB, bitOf] at hy
      obtain ⟨p, hp⟩ : ∃ p, L - 1 - k = p := ⟨_, rfl⟩
      have ep : (L : Int) - 1 - (k : Int) = (p : Int) := by omega
      rw [hp] at hy HI
      clear hp hnum hv
      have HP : Hid (bitsOf V L (k + 1) = bitsOf V L k ++ [bitOf V L k] ∧ bitsOf V L (k + 1) <+: bitsOf V L L) := ⟨bitsOf_succ V L k, bitsOf_pre V L _ _ (by omega)⟩
      clear hY
      generalize (bitAt V p == 1) = bb at *
      generalize bitOf V L k = bk at *
      gi_wp2_with (refine ⟨trivial, ?_⟩; gi_at_call 74; refine (callsIn_wide.2 HI).mono ?_; rintro e w' ⟨rfl, rfl⟩)
      refine hR.mono ?_
      rintro e W3 (⟨rfl, hJ3, hk3⟩ | ⟨rfl, hJx3⟩)
      · rw [← HP.out.1] at hJ3
        have HB3 : Hid (BitsAt W3 g3 g4 V L) := hk3 HB.out
        clear hR hy HI hc3 hc4 hJs hk3
        gi_wp2
        go_roundw
        case rel => exact ⟨k + 1, by omega, by go_num, hJ3, HB3.out⟩
        case measure => simp [intOf] <;> omega
      · rw [← HP.out.1] at hJx3
        clear hR hy HI hc3 hc4 hJs
        gi_wp2
        refine bodyPost_ret (results_none rfl _ _ _) rfl ?_
        exact ⟨⟨_, rfl⟩, .inr ⟨_, HP.out.2, hJx3⟩⟩
    · obtain rfl : k = L := by omega
      clear hY hb
      gi_wp2
      go_end0
      exact ⟨⟨_, rfl⟩, .inl ⟨_, rfl, hJs⟩⟩

/-- The power that the bits that have come give. -/
def pstep (M X : Int) (p : Int) (x : Int × Bool) : Int := bif x.2 then p * p % M * X % M else p * p % M
def pfold (M X : Int) (pre : List (Int × Bool)) : Int := pre.foldl (pstep M X) (1 % M)
theorem pfold_nil (M X : Int) : pfold M X [] = 1 % M := rfl
theorem pfold_snoc (M X : Int) (pre : List (Int × Bool)) (x : Int × Bool) : pfold M X (pre ++ [x]) = pstep M X (pfold M X pre) x := by simp [pfold]
theorem pfold_cg (M X V : Int) (h0 : 0 ≤ V) (L : Nat) (hL : V < 2 ^ L) : ∀ k, k ≤ L → Cg M (pfold M (X % M) (bitsOf V L k)) (pws X V (L - k))
  | 0, _ => by
    rw [Nat.sub_zero, pws_top X V h0 L hL]
    exact Cg.mod M 1
  | k + 1, hk => by
    have ih := pfold_cg M X V h0 L hL k (by omega)
    rw [bitsOf_succ, pfold_snoc]
    have e : L - k = (L - (k + 1)) + 1 := by omega
    have e2 : L - 1 - k = L - (k + 1) := by omega
    rw [e] at ih
    have sq := (Cg.mod M _).trans (ih.mul ih)
    unfold pstep bitOf
    rw [e2]
    simp only
    rcases bitAt_01 V (L - (k + 1)) with hb | hb
    · rw [hb, pws_even X V h0 _ hb]
      exact sq
    · rw [hb, pws_odd X V h0 _ hb]
      exact (Cg.mod M _).trans (sq.mul (Cg.mod M X))
theorem pfold_all (M X V : Int) (h0 : 0 ≤ V) (hM : 0 < M) (L : Nat) (hL : V < 2 ^ L) (h : ∀ ys, 0 ≤ pfold M (X % M) ys ∧ pfold M (X % M) ys < M) : pfold M (X % M) (bitsOf V L L) = X ^ V.toNat % M := by
  have hc := pfold_cg M X V h0 L hL L (Nat.le_refl _)
  rw [Nat.sub_self, pws_zero] at hc
  have r := h (bitsOf V L L)
  rw [← hc.emod, Int.emod_eq_of_lt r.1 r.2]
theorem pfold_range (M X : Int) (hM : 0 < M) (ys : List (Int × Bool)) : 0 ≤ pfold M X ys ∧ pfold M X ys < M := by
  have h : ∀ (l : List (Int × Bool)) (p : Int), 0 ≤ p ∧ p < M → 0 ≤ l.foldl (pstep M X) p ∧ l.foldl (pstep M X) p < M := by
    intro l
    induction l with
    | nil => intro p hp; exact hp
    | cons x l ih =>
      intro p hp
      refine ih _ ?_
      unfold pstep
      cases x.2
      · exact mod_range _ _ (by omega) (by omega)
      · exact mod_range _ _ (by omega) (by omega)
  exact h ys _ (mod_range _ _ (by omega) (by omega))
end Go.Proofs.Ytnacgkkklmlhaaa
/-
  Contract of modular.Pow.
-/
namespace Go.Proofs.Ytnacgkkklmlhaaa
open Go.RowKit Go.Shelf
set_option linter.unusedVariables false
set_option linter.unusedSimpArgs false
attribute [local go_sem] Oper.semAt_some

/-- Between two rounds: the modulus, the base and the power in their cells. -/
def PGo (w : World) (g5 g8 g : Nat) (mo : Option Addr) (lm cm : Nat) (ms : List Int) (a1 : Option Addr) (l1 c1 : Nat) (zs : List Int) (M X : Int) (pre : List (Int × Bool)) (W : World) : Prop :=
  (Kc W g5 (.slice mo lm cm) ∧ Kc W g8 (.slice a1 l1 c1) ∧ NumIn .u64 B64 W a1 l1 c1 zs ∧ ∃ a l c xs, Kc W g (.slice a l c) ∧ NumIn .u64 B64 W a l c xs ∧ Canon xs ∧ val B64 xs = pfold M X pre ∧ l ≤ lm) ∧ Below w.heap.size w W
theorem PGo.kept {w : World} {g5 g8 g : Nat} {mo : Option Addr} {lm cm : Nat} {ms : List Int} {a1 : Option Addr} {l1 c1 : Nat} {zs : List Int} {M X : Int} {B : Nat} (hB : w.heap.size ≤ B) : OwnFrom B (PGo w g5 g8 g mo lm cm ms a1 l1 c1 zs M X) := by
  rintro pre A A' row ⟨⟨h1, h2, h3, a, l, c, xs, h4, h5, h6⟩, h7⟩ hg hr
  have hr2 := fun r e => (hr r e).2
  exact ⟨⟨h1.kept hg hr2, h2.kept hg hr2, h3.keptc hg hr2, a, l, c, xs, h4.kept hg hr2, h5.keptc hg hr2, h6⟩, ownFrom_below (β := Unit) (Nat.le_refl _) hB () A A' row h7 hg hr⟩

theorem wpIn_noPanic {F : Fence} {n : Nat} {P : Program} {c : Code} {Q : Exit → Act → World → Prop} {a : Act} {w : World} (h : c.wpIn F n P (NoPanic Q) a w) : c.wpIn F n P Q a w :=
  Code.wpIn_mono NoPanic.imp h

set_option maxRecDepth 100000 in
set_option maxHeartbeats 4000000 in
/-- modular.Pow. -/
theorem mPow_any (ao no mo : Option Addr) (la ca ln cn lm cm : Nat) (xs ns ms : List Int) (w : World) (h : NumIn .u64 B64 w ao la ca xs) (hn : NumIn .u64 B64 w no ln cn ns) (h' : NumIn .u64 B64 w mo lm cm ms) (h0 : val B64 ms ≠ 0) (hln : ln ≤ 70) (hsm : la + lm < 100000000) :
    Calls Try.prog 46 #[.slice ao la ca, .slice no ln cn, .slice mo lm cm] w fun e w' => ∃ v, e = .returned (.tuple #[v, .int .i64 0]) ∧ NumOut .u64 B64 w w' v (val B64 xs ^ (val B64 ns).toNat % val B64 ms) lm := by
  obtain ⟨w1, hw1⟩ : ∃ w1, w.alloc (.cells #[.slice mo lm cm] 23) = w1 := ⟨_, rfl⟩
  have hb1 : Below w.heap.size w (w.alloc (.cells #[.slice mo lm cm] 23)) := (Below.refl _ _).alloc (Nat.le_refl _) _
  have K5 : Hid (Kc (w.alloc (.cells #[.slice mo lm cm] 23)) w.heap.size (.slice mo lm cm)) := Kc.new _ _ _ _ rfl
  have c5a := K5.out.1
  have HO := mOf_any ao mo la ca lm cm xs ms (w.alloc (.cells #[.slice mo lm cm] 23)) (h.old hb1) (h'.old hb1) h0 (by omega)
  have NN : Hid (NumIn .u64 B64 (w.alloc (.cells #[.slice mo lm cm] 23)) no ln cn ns) := hn.old hb1
  have NM : Hid (NumIn .u64 B64 w mo lm cm ms) := h'
  have hM := val_nonneg B64_pos h'.dg
  have HZ : Hid (val B64 ms ≠ 0 ∧ 0 < val B64 ms ∧ lm < 100000000) := ⟨h0, by omega, by omega⟩
  have HVN : Hid (0 ≤ val B64 ns) := val_nonneg B64_pos hn.dg
  rw [hw1] at hb1 c5a HO NN K5
  have B1 : Hid (Below w.heap.size w w1) := hb1
  clear h hn h' hb1 h0 hM
  refine (callsIn_wide (n := 4)).1 ?_
  refine callsIn_of_wp_marks Try.func46 rfl trivial ?_ rfl
  simp only [Try.ntmps46, List.size_toArray, List.length_cons, List.length_nil, Nat.reduceAdd, Nat.reduceSub, Array.replicate_succ, Array.replicate_zero, List.push_toArray, List.append_toArray, List.nil_append, List.cons_append]
  gi_wp2_with fail
  refine ⟨trivial, ?_⟩
  refine (callsIn_wide.2 HO).mono ?_
  rintro e w2 ⟨v, rfl, a1, l1, c1, zs, rfl, n1, n2, n3, n4, n5⟩
  clear hw1
  have NX : Hid (NumIn .u64 B64 w2 a1 l1 c1 zs ∧ Canon zs ∧ val B64 zs = val B64 xs % val B64 ms ∧ l1 ≤ lm) := ⟨n1, n2, n3, n4⟩
  replace K5 : Hid (Kc w2 w.heap.size (.slice mo lm cm)) := K5.out.old n5
  replace NN : Hid (NumIn .u64 B64 w2 no ln cn ns) := NN.out.old n5
  replace B1 : Hid (Below w.heap.size w w2) := B1.out.trans (n5.mono B1.out.size)
  clear HO c5a n1 n2 n3 n4 n5
  gi_wp2_with fail
  rename_i K0 a0
  have HA0 : Hid _ := a0
  have K8 : Hid (Kc (w2.alloc (.cells #[.slice a1 l1 c1] 23)) w2.heap.size (.slice a1 l1 c1)) := Kc.new _ _ _ _ rfl
  have hb3 : Below w2.heap.size w2 (w2.alloc (.cells #[.slice a1 l1 c1] 23)) := (Below.refl _ _).alloc (Nat.le_refl _) _
  replace NX : Hid (NumIn .u64 B64 (w2.alloc (.cells #[.slice a1 l1 c1] 23)) a1 l1 c1 zs ∧ Canon zs ∧ val B64 zs = val B64 xs % val B64 ms ∧ l1 ≤ lm) := ⟨NX.out.1.old hb3, NX.out.2⟩
  replace K5 : Hid (Kc (w2.alloc (.cells #[.slice a1 l1 c1] 23)) w.heap.size (.slice mo lm cm)) := K5.out.old hb3
  replace NN : Hid (NumIn .u64 B64 (w2.alloc (.cells #[.slice a1 l1 c1] 23)) no ln cn ns) := NN.out.old hb3
  replace B1 : Hid (Below w.heap.size w (w2.alloc (.cells #[.slice a1 l1 c1] 23))) := B1.out.trans (hb3.mono B1.out.size)
  clear hb3 a0
  generalize w2.alloc (.cells #[.slice a1 l1 c1] 23) = w3 at *
  have HREST : Hid (∀ (v24 : Value) (a5 : Option Addr) (l5 c5 : Nat) (x5 : List Int) (g : Nat) (W : World), Below w3.heap.size w3 W → w3.heap.size ≤ g → Kc W g (.slice a5 l5 c5) → NumIn .u64 B64 W a5 l5 c5 x5 → Canon x5 → val B64 x5 = 1 % val B64 ms → l5 ≤ lm → K0 { tmps := #[.slice ao la ca, .slice no ln cn, .slice mo lm cm, undef, undef, .pointer (some ⟨w.heap.size, 0, none⟩), .slice none 0 0, .int .i64 0, .pointer (some ⟨w2.heap.size, 0, none⟩), .int .i64 0, .pointer (some ⟨g, 0, none⟩), .int .i64 0, undef, undef, .tuple #[.slice a1 l1 c1, .int .i64 0], .slice ao la ca, .slice mo lm cm, .tuple #[.slice a1 l1 c1, .int .i64 0], .slice a1 l1 c1, .int .i64 0, .int .i64 0, .bool false, undef, .tuple #[.slice a5 l5 c5, .int .i64 0], v24, .slice mo lm cm, .tuple #[.slice a5 l5 c5, .int .i64 0], .slice a5 l5 c5, .int .i64 0, undef, undef, undef, undef, undef, undef, undef, undef, undef, undef, undef, undef, undef, undef, undef, undef, undef, undef, undef, undef], defers := [] } W) := by
    intro v24 a5 l5 c5 x5 g W hW hgw hk hx5 hcx hvx hlx
    refine HA0.out _ _ ?_
    clear HA0
    have HBITS := Bits_new no ln cn ns W (NN.out.old hW) hln
    have KW5 : Hid (Kc W w.heap.size (.slice mo lm cm)) := K5.out.old hW
    have KW8 : Hid (Kc W w2.heap.size (.slice a1 l1 c1)) := K8.out.old hW
    have HG : Hid (g < W.heap.size ∧ w.heap.size < w3.heap.size ∧ w2.heap.size < w3.heap.size ∧ w3.heap.size ≤ g) := ⟨hk.lt, K5.out.lt, K8.out.lt, hgw⟩
    have KWg : Hid (Kc W g (.slice a5 l5 c5)) := hk
    have BW : Hid (Below w.heap.size w W) := B1.out.trans (hW.mono B1.out.size)
    have NXW : Hid (NumIn .u64 B64 W a1 l1 c1 zs ∧ Canon zs ∧ val B64 zs = val B64 xs % val B64 ms ∧ l1 ≤ lm) := ⟨NX.out.1.old hW, NX.out.2⟩
    have NPW : Hid (NumIn .u64 B64 W a5 l5 c5 x5 ∧ Canon x5 ∧ val B64 x5 = 1 % val B64 ms ∧ l5 ≤ lm) := ⟨hx5, hcx, hvx, hlx⟩
    clear hk hW hgw hx5 hcx hvx hlx K5 K8 NX NN B1
    gi_wp2_with fail
    refine ⟨trivial, ?_⟩
    refine (callsIn_wide.2 HBITS).mono ?_
    rintro e W6 ⟨g3, g4, rfl, hBA, hbl, hg3⟩
    have KL : Hid (val B64 ns < 2 ^ blen (val B64 ns).toNat) := by
      unfold Hid
      have := blen_lt (val B64 ns).toNat
      have h1 := HVN.out
      have e : ((2 ^ blen (val B64 ns).toNat : Nat) : Int) = 2 ^ blen (val B64 ns).toNat := by rw [Int.natCast_pow]; rfl
      omega
    generalize blen (val B64 ns).toNat = L at *
    have HGI : Hid (PGo w w.heap.size w2.heap.size g mo lm cm ms a1 l1 c1 zs (val B64 ms) (val B64 xs % val B64 ms) [] W6) :=
      ⟨⟨KW5.out.old hbl, KW8.out.old hbl, NXW.out.1.old hbl, a5, l5, c5, x5, KWg.out.old hbl, NPW.out.1.old hbl, NPW.out.2.1, NPW.out.2.2.1, NPW.out.2.2.2⟩, BW.out.trans (hbl.mono BW.out.size)⟩
    have HNE : Hid (g ≠ g3) := by unfold Hid; have := HG.out; omega
    have HW6 : Hid (w.heap.size ≤ W6.heap.size) := HGI.out.2.size
    have HXV : Hid (val B64 zs = val B64 xs % val B64 ms ∧ l1 ≤ lm) := NXW.out.2.2
    have HGS : Hid (w.heap.size ≤ g ∧ w.heap.size ≠ g ∧ w2.heap.size ≠ g) := by unfold Hid; have := HG.out; omega
    clear KW5 KW8 KWg NXW NPW BW hbl HBITS hg3 HG
    gi_wp2
    refine wpIn_rangeFunc_ownF rfl (by omega) (gf := 73) (lb := #[.pointer (some ⟨g4, 0, none⟩), .pointer (some ⟨g3, 0, none⟩)]) rfl trivial (enters_of Try.func73 (by kernel_rfl) rfl)
      (bits_stopsI (4 - 1) (by omega) W6 g3 g4 (val B64 ns) L hBA) (fun h k hB => k (h hB)) (fun W l o o' _ hl hc _ hB => hB.keptc (grownBy_putObj' W l o') (fun r e => by cases e; exact ⟨o, hl, hc⟩)) (Below.refl _ _) (fun _ => rfl)
      (PGo w w.heap.size w2.heap.size g mo lm cm ms a1 l1 c1 zs (val B64 ms) (val B64 xs % val B64 ms)) (fun _ _ _ => False)
      (PGo.kept HW6.out) (fun _ _ _ _ _ hs _ _ => hs) HGI.out
      (fun x => { tmps := #[.slice ao la ca, .slice no ln cn, .slice mo lm cm, undef, undef, .pointer (some ⟨w.heap.size, 0, none⟩), .slice none 0 0, .int .i64 0, .pointer (some ⟨w2.heap.size, 0, none⟩), .int .i64 0, .pointer (some ⟨g, 0, none⟩), .int .i64 0, undef, .bool x.2, .tuple #[.slice a1 l1 c1, .int .i64 0], .slice ao la ca, .slice mo lm cm, .tuple #[.slice a1 l1 c1, .int .i64 0], .slice a1 l1 c1, .int .i64 0, .int .i64 0, .bool false, undef, .tuple #[.slice a5 l5 c5, .int .i64 0], v24, .slice mo lm cm, .tuple #[.slice a5 l5 c5, .int .i64 0], .slice a5 l5 c5, .int .i64 0, .slice no ln cn, .func (.func 73) #[] #[.pointer (some ⟨g4, 0, none⟩), .pointer (some ⟨g3, 0, none⟩)], .int .i64 x.1, .bool x.2, undef, undef, undef, undef, undef, undef, undef, undef, undef, undef, undef, undef, undef, undef, undef, undef], defers := [] }) ?assign ?body ?done ?stop
    case assign =>
      intro l x W' K hK
      gi_wp2
      exact hK
    case body =>
      rintro l pre ⟨x1, x2⟩ W' ⟨⟨h5, h8, hz, a, lp, cp, ps, hg, hp, hcp, hvp, hlp⟩, hbW⟩ hlen
      have HM1 := mMul_any a a mo lp cp lp cp lm cm ps ps ms W' hp hp (NM.out.old hbW) HZ.out.1 (by have := HZ.out.2.2; omega)
      rw [hvp] at HM1
      have k10 := hg.1
      have k5 := h5.1
      have H5 : Hid (Kc W' w.heap.size (.slice mo lm cm)) := h5
      have H8 : Hid (Kc W' w2.heap.size (.slice a1 l1 c1)) := h8
      have HGc : Hid (Kc W' g (.slice a lp cp)) := hg
      have HNz : Hid (NumIn .u64 B64 W' a1 l1 c1 zs) := hz
      have HBW : Hid (Below w.heap.size w W') := hbW
      clear h5 h8 hg hz hp hcp hvp hlp hbW hBA HGI
      generalize hpf : pfold (val B64 ms) (val B64 xs % val B64 ms) pre = pf at *
      have HPF : Hid (pfold (val B64 ms) (val B64 xs % val B64 ms) pre = pf) := hpf
      clear hpf
      gi_wp2_with fail
      refine ⟨trivial, ?_⟩
      refine (CallsIn.inRound l (callsIn_wide.2 HM1)).mono ?_
      rintro e W2 ⟨v, rfl, a2, l2, c2, qs, rfl, q1, q2, q3, q4, q5⟩
      have g2 := HGc.out.old q5
      have k10b := g2.1
      have f10b := g2.2
      have HG2 : Hid (Kc W2 g (.slice a lp cp)) := g2
      have HQ : Hid (NumIn .u64 B64 W2 a2 l2 c2 qs ∧ Canon qs ∧ val B64 qs = pf * pf % val B64 ms ∧ l2 ≤ lm) := ⟨q1, q2, q3, q4⟩
      replace H5 : Hid (Kc W2 w.heap.size (.slice mo lm cm)) := H5.out.old q5
      replace H8 : Hid (Kc W2 w2.heap.size (.slice a1 l1 c1)) := H8.out.old q5
      replace HNz : Hid (NumIn .u64 B64 W2 a1 l1 c1 zs) := HNz.out.old q5
      replace HBW : Hid (Below w.heap.size w W2) := HBW.out.trans (q5.mono HBW.out.size)
      have HQ5 : Hid (Below W'.heap.size W' W2) := q5
      clear g2 q1 q2 q3 q4 q5 HM1 k10 k5 HGc
      have P3 : Hid (Kc (W2.setCell ⟨g, 0, none⟩ (.slice a2 l2 c2)) w.heap.size (.slice mo lm cm) ∧ Kc (W2.setCell ⟨g, 0, none⟩ (.slice a2 l2 c2)) w2.heap.size (.slice a1 l1 c1) ∧ Kc (W2.setCell ⟨g, 0, none⟩ (.slice a2 l2 c2)) g (.slice a2 l2 c2)) :=
        ⟨H5.out.other (fun e => HGS.out.2.1 e.symm) _, H8.out.other (fun e => HGS.out.2.2 e.symm) _, HG2.out.set _⟩
      have N3 : Hid (NumIn .u64 B64 (W2.setCell ⟨g, 0, none⟩ (.slice a2 l2 c2)) a1 l1 c1 zs ∧ NumIn .u64 B64 (W2.setCell ⟨g, 0, none⟩ (.slice a2 l2 c2)) a2 l2 c2 qs ∧ Below w.heap.size w (W2.setCell ⟨g, 0, none⟩ (.slice a2 l2 c2))) :=
        ⟨HNz.out.setSlice HG2.out _, HQ.out.1.setSlice HG2.out _, HBW.out.setCell (p := ⟨g, 0, none⟩) HGS.out.1 _⟩
      have KP : Hid (BitsAt W' g3 g4 (val B64 ns) L → BitsAt (W2.setCell ⟨g, 0, none⟩ (.slice a2 l2 c2)) g3 g4 (val B64 ns) L) := fun hB => (hB.old HQ5.out).setSlice HG2.out HNE.out _
      have KO : Hid (KeepsOthers W' (W2.setCell ⟨g, 0, none⟩ (.slice a2 l2 c2))) := (KeepsOthers.of_below HQ5.out).trans (KeepsOthers.setCell _ _ _)
      clear H5 H8 HG2 HNz HBW HQ5
      cases x2 with
      | false =>
        gi_wp2
        exact ⟨KO.out, KP.out, ⟨P3.out.1, P3.out.2.1, N3.out.1, a2, l2, c2, qs, P3.out.2.2, N3.out.2.1, HQ.out.2.1, by rw [pfold_snoc, HPF.out]; exact HQ.out.2.2.1, HQ.out.2.2.2⟩, N3.out.2.2⟩
      | true =>
        have HM2 := mMul_any a2 a1 mo l2 c2 l1 c1 lm cm qs zs ms (W2.setCell ⟨g, 0, none⟩ (.slice a2 l2 c2)) N3.out.2.1 N3.out.1 (NM.out.old N3.out.2.2) HZ.out.1 (by have := HZ.out.2.2; have := HXV.out.2; have := HQ.out.2.2.2; omega)
        rw [HQ.out.2.2.1, HXV.out.1] at HM2
        have k5 := P3.out.1.1
        have k8 := P3.out.2.1.1
        have k10 := P3.out.2.2.1
        clear HQ
        gi_wp2_with fail
        refine ⟨trivial, ?_⟩
        refine (CallsIn.inRound l (callsIn_wide.2 HM2)).mono ?_
        rintro e W4 ⟨v, rfl, a3, l3, c3, rs, rfl, q1, q2, q3, q4, q5⟩
        have g5 := P3.out.2.2.old q5
        have k10c := g5.1
        have f10c := g5.2
        have HFIN : Hid (KeepsOthers W' (W4.setCell ⟨g, 0, none⟩ (.slice a3 l3 c3)) ∧ (BitsAt W' g3 g4 (val B64 ns) L → BitsAt (W4.setCell ⟨g, 0, none⟩ (.slice a3 l3 c3)) g3 g4 (val B64 ns) L) ∧ PGo w w.heap.size w2.heap.size g mo lm cm ms a1 l1 c1 zs (val B64 ms) (val B64 xs % val B64 ms) (pre ++ [(x1, true)]) (W4.setCell ⟨g, 0, none⟩ (.slice a3 l3 c3))) := by
          refine ⟨KO.out.trans ((KeepsOthers.of_below q5).trans (KeepsOthers.setCell _ _ _)), fun hB => ((KP.out hB).old q5).setSlice g5 HNE.out _, ⟨(P3.out.1.old q5).other (fun e => HGS.out.2.1 e.symm) _, (P3.out.2.1.old q5).other (fun e => HGS.out.2.2 e.symm) _, (N3.out.1.old q5).setSlice g5 _, a3, l3, c3, rs, g5.set _, q1.setSlice g5 _, q2, ?_, q4⟩, (N3.out.2.2.trans (q5.mono N3.out.2.2.size)).setCell (p := ⟨g, 0, none⟩) HGS.out.1 _⟩
          rw [pfold_snoc, HPF.out]; exact q3
        clear q1 q2 q3 q4 q5 g5 HM2 k5 k8 k10 P3 N3 KP KO k10b f10b
        gi_wp2
        exact HFIN.out
    case done =>
      rintro D ys W' hD hys ⟨⟨h5, h8, hz, a, lp, cp, ps, hg, hp, hcp, hvp, hlp⟩, hbW⟩ hK
      have k10 := hg.1
      have HV : Hid (val B64 ps = val B64 xs ^ (val B64 ns).toNat % val B64 ms) := by
        unfold Hid
        rw [hvp, hys, pfold_all _ _ _ HVN.out HZ.out.2.1 L KL.out (pfold_range _ _ HZ.out.2.1)]
      have HP : Hid (NumIn .u64 B64 W' a lp cp ps ∧ Canon ps ∧ lp ≤ lm ∧ Below w.heap.size w W') := ⟨hp, hcp, hlp, hbW⟩
      have HK : Hid (W'.heap[D]? = some (.deferred (some [])) ∧ W6.heap.size ≤ D) := ⟨hK, hD⟩
      clear h5 h8 hg hz hp hcp hvp hlp hbW hBA HGI hys hK hD
      gi_wp2
      refine ⟨by simp, .inl ⟨_, _, rfl, run_takeDeferred HK.out.1, ?_⟩⟩
      refine ⟨_, results_tmp2 rfl _ _ _, _, rfl, a, lp, cp, ps, rfl, HP.out.1.keptc (grownBy_putObj' _ D (.deferred none)) (fun r e => by cases e; exact ⟨_, HK.out.1, rfl⟩), HP.out.2.1, HV.out, HP.out.2.2.1, HP.out.2.2.2.trans (belowK_b (w := w) (Nat.le_refl _) _ D _ _ (by have := HK.out.2; have := HW6.out; omega) HK.out.1 rfl rfl)⟩
    case stop =>
      rintro D c pre W' _ _ h _
      exact h.elim
  have c5 : w3.cell? ⟨w.heap.size, 0, none⟩ = some (.slice mo lm cm) := K5.out.1
  have bD : Hid (Below w3.heap.size w3 w3.drew) := (Below.refl _ _).drew
  have bA : Hid (Below w3.heap.size w3 (w3.drew.alloc (.cells #[.slice none 0 0] 23))) := bD.out.alloc (Nat.le_refl _) _
  have hlt5 := K5.out.lt
  have cA5 := (K5.out.old bA.out).1
  clear HA0 HVN
  refine wpIn_noPanic ?_
  gi_region_with (first
    | (refine ⟨trivial, ?_⟩; gi_at_call 54; refine (callsIn_wide.2 (Of_any 1 _ (by decide) (by decide))).mono ?_; rintro e w4 ⟨v4, rfl, a4, l4, c4, x4, rfl, o1, o2, o3, o4, o5⟩
       have b4 : Below w3.heap.size w3 w4 := (by first | exact bD.out.trans (o5.mono (Nat.le_refl _)) | exact bA.out.trans (o5.mono bA.out.size))
       have c4m : w4.cell? ⟨w.heap.size, 0, none⟩ = some (.slice mo lm cm) := (b4.cell (p := ⟨w.heap.size, 0, none⟩) K5.out.lt).trans K5.out.1
       try (have kA : Kc w4 w3.heap.size (.slice none 0 0) := (Kc.new w3.drew _ _ _ rfl).old o5
            have kA1 := kA.1
            have kA2 := kA.2)
       have c4A : (w4.alloc (.cells #[.slice none 0 0] 23)).cell? ⟨w.heap.size, 0, none⟩ = some (.slice mo lm cm) := more_cell _ c4m
       have O1 : Hid (NumIn .u64 B64 w4 a4 l4 c4 x4 ∧ val B64 x4 = 1 ∧ l4 ≤ 1) := ⟨o1, o3, o4⟩
       have B4 : Hid (Below w3.heap.size w3 w4) := b4
       clear o1 o2 o3 o4 o5 b4)
    | (refine ⟨trivial, ?_⟩; gi_at_call 63; refine (callsIn_wide.2 (mOf_any a4 mo l4 c4 lm cm x4 ms _ (by first | exact O1.out.1 | exact O1.out.1.old ((Below.refl _ _).alloc (Nat.le_refl _) _)) (NM.out.old (B1.out.trans ((by first | exact B4.out | exact B4.out.alloc B4.out.size _ : Below w3.heap.size w3 _).mono B1.out.size))) HZ.out.1 (by have := O1.out.2.2; have := HZ.out.2.2; omega))).mono ?_; rintro e w5 ⟨v5, rfl, a5, l5, c5', x5, rfl, s1, s2, s3, s4, s5⟩
       have b5 : Below w3.heap.size w3 w5 := (by first | exact B4.out.trans (s5.mono B4.out.size) | exact (B4.out.alloc B4.out.size _).trans (s5.mono (B4.out.alloc B4.out.size _).size))
       try (have kB : Kc w5 w3.heap.size (.slice none 0 0) := kA.old s5
            have kB1 := kB.1
            have kB2 := kB.2)
       try (have kB : Kc w5 w4.heap.size (.slice none 0 0) := (Kc.new w4 _ _ _ rfl).old s5
            have kB1 := kB.1
            have kB2 := kB.2)
       have O5 : Hid (NumIn .u64 B64 w5 a5 l5 c5' x5 ∧ Canon x5 ∧ val B64 x5 = 1 % val B64 ms ∧ l5 ≤ lm) := ⟨s1, s2, (by rw [s3, O1.out.2.1]), s4⟩
       have B5 : Hid (Below w3.heap.size w3 w5) := b5
       clear s1 s2 s3 s4 s5 b5))
  all_goals (refine NoPanic.normal ?_; go_simp)
  all_goals first
    | exact HREST.out _ a5 l5 c5' x5 w5.heap.size _ (B5.out.alloc B5.out.size _) B5.out.size (Kc.new _ _ _ _ rfl) (O5.out.1.old ((Below.refl _ _).alloc (Nat.le_refl _) _)) O5.out.2.1 O5.out.2.2.1 O5.out.2.2.2
    | exact HREST.out _ a5 l5 c5' x5 w4.heap.size _ (B5.out.setCell (p := ⟨w4.heap.size, 0, none⟩) B4.out.size _) B4.out.size (kB.set _) (O5.out.1.setSlice kB _) O5.out.2.1 O5.out.2.2.1 O5.out.2.2.2
    | exact HREST.out _ a5 l5 c5' x5 w3.heap.size _ (B5.out.setCell (p := ⟨w3.heap.size, 0, none⟩) (Nat.le_refl _) _) (Nat.le_refl _) (kB.set _) (O5.out.1.setSlice kB _) O5.out.2.1 O5.out.2.2.1 O5.out.2.2.2

set_option maxHeartbeats 1000000 in
/-- modular.Pow: of a modulus of 0. -/
theorem mPow_zero (ao no mo : Option Addr) (la ca ln cn lm cm : Nat) (xs ms : List Int) (w : World) (h : NumIn .u64 B64 w ao la ca xs) (h' : NumIn .u64 B64 w mo lm cm ms) (h0 : val B64 ms = 0) :
    Calls Try.prog 46 #[.slice ao la ca, .slice no ln cn, .slice mo lm cm] w fun e w' => e = .returned (.tuple #[.slice none 0 0, .int .i64 4]) ∧ Below w.heap.size w w' := by
  obtain ⟨w1, hw1⟩ : ∃ w1, w.alloc (.cells #[.slice mo lm cm] 23) = w1 := ⟨_, rfl⟩
  have hb1 : Below w.heap.size w (w.alloc (.cells #[.slice mo lm cm] 23)) := (Below.refl _ _).alloc (Nat.le_refl _) _
  have c5a := (Kc.new w (.slice mo lm cm) 23 _ rfl).1
  have HO := mOf_zero ao mo la ca lm cm xs ms (w.alloc (.cells #[.slice mo lm cm] 23)) (h.old hb1) (h'.old hb1) h0
  rw [hw1] at hb1 c5a HO
  have B1 : Hid (Below w.heap.size w w1) := hb1
  clear h h' hb1 h0
  refine (callsIn_wide (n := 4)).1 ?_
  refine callsIn_of_wp_marks Try.func46 rfl trivial ?_ rfl
  simp only [Try.ntmps46, List.size_toArray, List.length_cons, List.length_nil, Nat.reduceAdd, Nat.reduceSub, Array.replicate_succ, Array.replicate_zero, List.push_toArray, List.append_toArray, List.nil_append, List.cons_append]
  gi_wp2_with fail
  refine ⟨trivial, ?_⟩
  refine (callsIn_wide.2 HO).mono ?_
  rintro e w2 ⟨rfl, rfl⟩
  clear hw1 HO c5a
  gi_wp2
  exact ⟨_, results_tmp2 rfl _ _ _, rfl, B1.out.trans (((Below.refl _ w2).alloc (Nat.le_refl _) _).mono B1.out.size)⟩
end Go.Proofs.Ytnacgkkklmlhaaa
/-
  The code's field: sums, differences, products, quotients of numbers in memory.
-/
namespace Go.Proofs.Ytnacgkkklmlhaaa
open Go.Shelf Go.RowKit
set_option linter.unusedVariables false
set_option linter.unusedSimpArgs false

/-- A value that is a number in memory. -/
def Nv (w : World) (v : Value) (n : Int) (L : Nat) : Prop := ∃ ao len cap xs, v = .slice ao len cap ∧ NumIn .u64 B64 w ao len cap xs ∧ val B64 xs = n ∧ len ≤ L
theorem Nv.old {w w' : World} {v : Value} {n : Int} {L : Nat} (h : Nv w v n L) (hb : Below w.heap.size w w') : Nv w' v n L := by
  obtain ⟨ao, len, cap, xs, e, h1, h2, h3⟩ := h
  exact ⟨ao, len, cap, xs, e, h1.old hb, h2, h3⟩
theorem Nv.up {w : World} {v : Value} {n : Int} {L L' : Nat} (h : Nv w v n L) (hl : L ≤ L') : Nv w v n L' := by
  obtain ⟨ao, len, cap, xs, e, h1, h2, h3⟩ := h
  exact ⟨ao, len, cap, xs, e, h1, h2, by omega⟩
theorem Nv.nonneg {w : World} {v : Value} {n : Int} {L : Nat} (h : Nv w v n L) : 0 ≤ n := by
  obtain ⟨ao, len, cap, xs, e, h1, h2, h3⟩ := h
  rw [← h2]
  exact val_nonneg B64_pos h1.dg
/-- A number that was answered. -/
def Na (w w' : World) (v : Value) (n : Int) (L : Nat) : Prop := Nv w' v n L ∧ Below w.heap.size w w'
theorem NumOut.na {w w' : World} {v : Value} {n : Int} {L : Nat} (h : NumOut .u64 B64 w w' v n L) : Na w w' v n L := by
  obtain ⟨ao, len, cap, xs, e, h1, _, h2, h3, h4⟩ := h
  exact ⟨⟨ao, len, cap, xs, e, h1, h2, h3⟩, h4⟩
theorem alloc_sz7 (w : World) (o : Obj) : (w.alloc o).heap.size = w.heap.size + 1 := by
  show (w.heap.push o).size = _
  simp
theorem box_cell (w : World) (v : Value) (t : TypeId) : (w.alloc (.cells #[v] t)).cell? ⟨w.heap.size, 0, none⟩ = some v := by
  rw [cell_of_row _ _ _ _ _ _ (heap_alloc_new w _)]
  rfl
theorem box_keep {w W : World} {v : Value} {t : TypeId} (hb : Below (w.alloc (.cells #[v] t)).heap.size (w.alloc (.cells #[v] t)) W) : W.cell? ⟨w.heap.size, 0, none⟩ = some v := (hb.cell (p := ⟨w.heap.size, 0, none⟩) (by rw [alloc_sz7]; show w.heap.size < _; omega)).trans (box_cell w v t)
theorem mul_nv (a b m : Value) (x y M : Int) (L Lm : Nat) (w : World) (ha : Nv w a x L) (hb : Nv w b y L) (hm : Nv w m M Lm) (h0 : M ≠ 0) (hs : L + L + Lm < 100000000) :
    Calls Try.prog 65 #[a, b, m] w fun e w' => ∃ v, e = .returned (.tuple #[v, .int .i64 0]) ∧ Na w w' v ((x * y) % M) Lm := by
  obtain ⟨ao, la, ca, xs, rfl, h1, rfl, h2⟩ := ha
  obtain ⟨bo, lb, cb, ys, rfl, k1, rfl, k2⟩ := hb
  obtain ⟨mo, lm, cm, ms, rfl, m1, rfl, m2⟩ := hm
  refine (mMul_any ao bo mo la ca lb cb lm cm xs ys ms w h1 k1 m1 h0 (by omega)).mono ?_
  rintro e w' ⟨v, rfl, h⟩
  exact ⟨v, rfl, h.na.1.up m2, h.na.2⟩
theorem drew7 (w : World) : ∀ k, Below w.heap.size w (w.drewN k)
  | 0 => Below.refl _ _
  | k + 1 => (drew7 w k).drew
/-- A curve's numbers; a point's. -/
structure Cz where
  p : Int
  a : Int
  b : Int
  gx : Int
  gy : Int
  n : Int
structure Pz where
  x : Int
  y : Int
  inf : Bool
/-- A curve in memory. -/
def Cu (w : World) (c : Value) (K : Cz) (L : Nat) : Prop := ∃ (g1 g2 : Int) (oo : Option Addr) (lo co : Nat) (vp va vb vx vy vn : Value), c = .agg #[.int .i64 g1, .int .i64 g2, .slice oo lo co, vp, va, vb, vx, vy, vn] ∧ Nv w vp K.p L ∧ Nv w va K.a L ∧ Nv w vb K.b L ∧ Nv w vx K.gx L ∧ Nv w vy K.gy L ∧ Nv w vn K.n L
/-- A point in memory. -/
def Pv (w : World) (c : Value) (p : Pz) (L : Nat) : Prop := ∃ vx vy, c = .agg #[vx, vy, .bool p.inf] ∧ Nv w vx p.x L ∧ Nv w vy p.y L
theorem Cu.old {w w' : World} {c : Value} {K : Cz} {L : Nat} (h : Cu w c K L) (hb : Below w.heap.size w w') : Cu w' c K L := by
  obtain ⟨g1, g2, oo, lo, co, vp, va, vb, vx, vy, vn, e, h1, h2, h3, h4, h5, h6⟩ := h
  exact ⟨g1, g2, oo, lo, co, vp, va, vb, vx, vy, vn, e, h1.old hb, h2.old hb, h3.old hb, h4.old hb, h5.old hb, h6.old hb⟩
theorem Pv.old {w w' : World} {c : Value} {p : Pz} {L : Nat} (h : Pv w c p L) (hb : Below w.heap.size w w') : Pv w' c p L := by
  obtain ⟨vx, vy, e, h1, h2⟩ := h
  exact ⟨vx, vy, e, h1.old hb, h2.old hb⟩
theorem Pv.up {w : World} {c : Value} {p : Pz} {L L' : Nat} (h : Pv w c p L) (hl : L ≤ L') : Pv w c p L' := by
  obtain ⟨vx, vy, e, h1, h2⟩ := h
  exact ⟨vx, vy, e, h1.up hl, h2.up hl⟩
theorem heap_new {w : World} {o : Obj} {k : Nat} {x : Option Obj} (h : w.heap[k]? = x) (hx : k < w.heap.size) : (w.alloc o).heap[k]? = x := by
  rw [← h]
  exact heap_alloc_old _ _ hx
/-- What is divided by what. -/
def riseZ (K : Cz) (p q : Pz) : Int := if (q.x - p.x) % K.p ≠ 0 then (q.y - p.y) % K.p else ((3 * ((p.x * p.x) % K.p)) % K.p + K.a) % K.p
def runZ (K : Cz) (p q : Pz) : Int := if (q.x - p.x) % K.p ≠ 0 then (q.x - p.x) % K.p else (p.y + q.y) % K.p
end Go.Proofs.Ytnacgkkklmlhaaa
