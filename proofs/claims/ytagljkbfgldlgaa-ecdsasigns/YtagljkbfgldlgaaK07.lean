import Derived.Test.YtagljkbfgldlgaaK06
import Derived.Test.YtagljkbfgldlgaaK03
import Derived.Test.YtagljkbfgldlgaaK04
/-
  The document's Digest.
-/
namespace Go.Proofs.Ytagljkbfgldlgaa
open Go.RowKit Go.Shelf
set_option linter.unusedVariables false
set_option linter.unusedSimpArgs false

theorem div2_step (V : Int) (h0 : 0 ≤ V) (p : Nat) : V / 2 ^ p = 2 * (V / 2 ^ (p + 1)) + bitAt V p := half_step V p
theorem getD_rev (bs : List Int) (n k : Nat) (hl : bs.length = n) (hk : k < n) : bs.reverse.getD (n - 1 - k) 0 = bs.getD k 0 := by
  simp only [List.getD_eq_getElem?_getD]
  rw [List.getElem?_reverse (by omega)]
  congr 2
  omega
/-- A bit of bytes, the greatest first. -/
theorem bit_byte (bs : List Int) (n i : Nat) (hl : bs.length = n) (hd : Dg 256 bs) (hi : i < 8 * n) : bs.getD (i / 8) 0 / 2 ^ (7 - i % 8) % 2 = bitAt (val 256 bs.reverse) (8 * n - 1 - i) := by
  have h := bit_of_digit (B := 256) (m := 8) rfl (by decide) bs.reverse (fun x hx => hd x (List.mem_reverse.1 hx)) (8 * n - 1 - i)
  rw [← h, show (8 * n - 1 - i) / 8 = n - 1 - i / 8 by omega, show (8 * n - 1 - i) % 8 = 7 - i % 8 by omega, getD_rev bs n (i / 8) hl (by omega)]
set_option maxRecDepth 100000 in
set_option maxHeartbeats 4000000 in
theorem rDigest_any (K : Cz) (ao : Option Addr) (n ca : Nat) (bs : List Int) (w : World) (h : NumIn .u8 256 w ao n ca bs) (hn : n ≤ 1000) (hK : S31 K.n) :
    Calls Try.prog 21 #[rcv K, .slice ao n ca] w fun e w' => e = .returned (.int .i64 (digZ K.n n bs)) ∧ Below w.heap.size w w' := by
  have hl := h.len
  obtain ⟨V, hV⟩ : ∃ V, val 256 bs.reverse = V := ⟨_, rfl⟩
  have hV0 : 0 ≤ V := by rw [← hV]; exact val_nonneg (by decide) (fun x hx => h.dg x (List.mem_reverse.1 hx))
  have hVl : V < 2 ^ (8 * n) := by
    have := val_lt (B := 256) (by decide) (xs := bs.reverse) (fun x hx => h.dg x (List.mem_reverse.1 hx))
    rw [hV, List.length_reverse, hl] at this
    rw [Int.pow_mul]
    exact this
  rw [digZ_eq K.n n bs hl h.dg, hV]
  obtain ⟨N, hN⟩ : ∃ N, blen K.n.toNat = N := ⟨_, rfl⟩
  rw [hN]
  obtain ⟨kp, ka, kb, kx, ky, kn⟩ := K
  unfold rcv
  simp only at hK hN ⊢
  have hN31 : N ≤ 31 := by rw [← hN]; exact blen_le _ _ (by have := hK.2; have := hK.1; omega)
  have b0 := (Below.refl w.heap.size w).alloc (Nat.le_refl _) (.cells #[.int .i64 kp, .int .i64 ka, .int .i64 kb, .int .i64 kx, .int .i64 ky, .int .i64 kn] 35)
  have h1 := h.old b0
  obtain ⟨W, hW⟩ : ∃ W, w.alloc (.cells #[.int .i64 kp, .int .i64 ka, .int .i64 kb, .int .i64 kx, .int .i64 ky, .int .i64 kn] 35) = W := ⟨_, rfl⟩
  rw [hW] at h1 b0
  have HH : Hid (NumIn .u8 256 W ao n ca bs ∧ Below w.heap.size w W) := ⟨h1, b0⟩
  have HW : Hid (_ = W) := hW
  have HVV : Hid (val 256 bs.reverse = V ∧ V < 2 ^ (8 * n) ∧ 0 ≤ V) := ⟨hV, hVl, hV0⟩
  have HB : Hid (bs.length = n ∧ Dg 256 bs) := ⟨hl, h.dg⟩
  have HNN : Hid (blen kn.toNat = N) := hN
  have hkn0 := hK.1
  have hkn1 := hK.2
  clear hV hVl hV0 h1 b0 hW hN hl h hK
  go_enter Try.func21, Try.ntmps21
  go_wp2_with fail
  rw [HW.out]
  go_loopw [6, 7] (fun vb vn wr => ∃ (c : Nat) (m : Int), vb = .int .i64 (c : Int) ∧ vn = .int .i64 m ∧ 0 ≤ m ∧ m ≤ kn ∧ c + blen m.toNat = N ∧ wr = W) (fun _ vn _ => (intOf vn).toNat)
  case atStart => exact ⟨0, kn, rfl, rfl, hkn0, Int.le_refl _, by rw [HNN.out]; omega, rfl⟩
  case round =>
    obtain ⟨c, m, rfl, rfl, hm0, hm1, hc, hwr⟩ := hrel
    subst hwr
    generalize wr = wr0 at *
    by_cases hz : m = 0
    · subst hz
      have hcN : c = N := by rw [← hc]; rfl
      subst hcN
      clear hm0 hm1 hc
      go_wp2
      go_loopw [5, 8] (fun vz vi ws => ∃ (i : Nat), i ≤ 8 * n ∧ i ≤ c ∧ vi = .int .i64 (i : Int) ∧ vz = .int .i64 (V / 2 ^ (8 * n - i)) ∧ Below wr0.heap.size wr0 ws) (fun _ vi _ => 8 * n - (intOf vi).toNat)
      case atStart => exact ⟨0, by omega, by omega, rfl, by rw [Nat.sub_zero, Int.ediv_eq_zero_of_lt HVV.out.2.2 HVV.out.2.1], Below.refl _ _⟩
      case round =>
        obtain ⟨i, hi, hic, rfl, rfl, hb⟩ := hrel
        have HBB : Hid (Below w.heap.size w wr) := HH.out.2.trans (hb.mono HH.out.2.size)
        have HR : Hid (Below wr0.heap.size wr0 wr) := hb
        have HI := HH.out.1.old hb
        have hz0 : 0 ≤ V / 2 ^ (8 * n - i) := Int.ediv_nonneg HVV.out.2.2 (Int.le_of_lt (Int.pow_pos (by decide)))
        have hz1 : V / 2 ^ (8 * n - i) < 2147483648 := by
          have h1 : V / 2 ^ (8 * n - i) < 2 ^ i := by
            refine Int.ediv_lt_of_lt_mul (Int.pow_pos (by decide)) ?_
            rw [← Int.pow_add, show i + (8 * n - i) = 8 * n by omega]
            exact HVV.out.2.1
          have h2 := pow_mono (B := (2 : Int)) (by decide) (show i ≤ 31 by omega)
          have h3 : (2 : Int) ^ 31 = 2147483648 := by decide
          omega
        obtain ⟨Z, hZ⟩ : ∃ Z, V / 2 ^ (8 * n - i) = Z := ⟨_, rfl⟩
        rw [hZ] at hz0 hz1 ⊢
        by_cases q1 : i < 8 * n
        · by_cases q2 : i < c
          · have hbit := bit_byte bs n i HB.out.1 HB.out.2 q1
            rw [HVV.out.1] at hbit
            have hst := div2_step V HVV.out.2.2 (8 * n - 1 - i)
            rw [show 8 * n - 1 - i + 1 = 8 * n - i by omega, hZ, ← hbit] at hst
            obtain ⟨b, off, rfl, hblk, hcs⟩ := HI.lies.at (by omega)
            have hcell := hcs (i / 8) (by omega)
            have hx := HI.dg.getD (by decide) (i / 8)
            obtain ⟨q, hq⟩ : ∃ q, i / 8 = q := ⟨_, rfl⟩
            obtain ⟨r, hr⟩ : ∃ r, 7 - i % 8 = r := ⟨_, rfl⟩
            rw [hq, hr] at hst
            rw [hq] at hcell hx
            obtain ⟨x, hxx⟩ : ∃ x, bs.getD q 0 = x := ⟨_, rfl⟩
            rw [hxx] at hst hcell hx
            have hqI : (i : Int) / 8 = (q : Int) := by omega
            have hrI : 7 - (i : Int) % 8 = (r : Int) := by omega
            have hr8 : r < 8 := by omega
            have hqn : q < n := by omega
            have x0 := hx.1
            have x1 : x < 256 := hx.2
            have hy0 : 0 ≤ x / 2 ^ r := Int.ediv_nonneg x0 (Int.le_of_lt (Int.pow_pos (by decide)))
            have hy1 : x / 2 ^ r ≤ x := Int.ediv_le_self _ x0
            obtain ⟨y, hy⟩ : ∃ y, x / 2 ^ r = y := ⟨_, rfl⟩
            rw [hy] at hst hy0 hy1
            have wy : IntKind.u8.wrap y = y := by simp [IntKind.wrap, IntKind.bits, IntKind.signed]; omega
            have HE : Hid (2 * Z + y % 2 = V / 2 ^ (8 * n - (i + 1))) := by unfold Hid; rw [show 8 * n - (i + 1) = 8 * n - 1 - i by omega]; exact hst.symm
            have hin : (i : Int) < 8 * (n : Int) := by omega
            have hic2 : (i : Int) < (c : Int) := by omega
            have HII : Hid (i < 8 * n ∧ i < c) := ⟨q1, q2⟩
            clear hst hcs hx hxx hZ hq hr hbit HI hi hic hb q1 q2
            have hZ2 : IntKind.i64.wrap (2 * Z) = 2 * Z := IntWalk.i64_in _ (by omega)
            have hym : (y : Int).tmod 2 = y % 2 := Int.tmod_eq_emod_of_nonneg hy0
            have hqi : (q : Int) < (n : Int) := by omega
            have hi2 : (i : Int) < 100 := by omega
            go_wp2
            go_roundw
            case rel => exact ⟨i + 1, by have := HII.out; omega, by have := HII.out; omega, by go_num, by rw [← HE.out], HR.out⟩
            case measure => simp [intOf]; have := HII.out; omega
          · have hE : Hid (8 * n - i = 8 * n - c) := by unfold Hid; omega
            have hin : (i : Int) < 8 * (n : Int) := by omega
            have hic2 : ¬ (i : Int) < (c : Int) := by omega
            have HZ : Hid (V / 2 ^ (8 * n - i) = Z) := hZ
            clear hZ hi hic hb q1 q2 HI
            go_wp2
            go_ret
            exact ⟨by rw [← hE.out, HZ.out]; rfl, HBB.out⟩
        · have hE : Hid (8 * n - i = 8 * n - c) := by unfold Hid; omega
          have hin : ¬ (i : Int) < 8 * (n : Int) := by omega
          have HZ : Hid (V / 2 ^ (8 * n - i) = Z) := hZ
          clear hZ hi hic hb q1 HI
          go_wp2
          go_ret
          exact ⟨by rw [← hE.out, HZ.out]; rfl, HBB.out⟩
    · have hb := blen_half m.toNat (by omega)
      have e1 : (m / 2).toNat = m.toNat / 2 := by omega
      rw [← e1] at hb
      have HE : Hid (c + 1 + blen (m / 2).toNat = N) := by unfold Hid; omega
      have hcs : (c : Int) < 100 := by omega
      clear hb e1 hc
      go_wp2
      go_roundw
      case rel => exact ⟨c + 1, m / 2, by go_num, by go_num, by omega, by omega, HE.out, trivial⟩
      case measure => simp [intOf]; omega
end Go.Proofs.Ytagljkbfgldlgaa
/-
  The document's numbers of layer 7: number.
-/
namespace Go.Proofs.Ytagljkbfgldlgaa
open Go.Shelf Go.RowKit
set_option linter.unusedVariables false
set_option linter.unusedSimpArgs false

theorem low_leP {xs : List Int} (hd : Dg B64 xs) : ∀ (d k : Nat), low B64 xs k ≤ low B64 xs (k + d)
  | 0, k => Int.le_refl _
  | d + 1, k => by
    rw [← Nat.add_assoc, low_succ]
    have h1 := low_leP hd d k
    have h2 := (hd.getD B64_pos (k + d)).1
    have h3 : (0 : Int) ≤ B64 ^ (k + d) * xs.getD (k + d) 0 := Int.mul_nonneg (Int.le_of_lt (Int.pow_pos B64_pos)) h2
    omega
theorem low_val {xs : List Int} (hd : Dg B64 xs) (k : Nat) (hk : k ≤ xs.length) : low B64 xs k ≤ val B64 xs := by
  rw [← low_len]
  have := low_leP hd (xs.length - k) k
  rwa [show k + (xs.length - k) = xs.length by omega] at this
set_option maxRecDepth 100000 in
set_option maxHeartbeats 4000000 in
theorem number_any (ao : Option Addr) (len cap : Nat) (xs : List Int) (w : World) (h : NumIn .u64 B64 w ao len cap xs) :
    Calls Try.prog 17 #[.slice ao len cap] w fun e w' => e = .returned (.tuple #[.int .i64 (if val B64 xs < 2147483648 then val B64 xs else 0), .bool (decide (val B64 xs < 2147483648))]) ∧ Below w.heap.size w w' := by
  have hl := h.len
  obtain ⟨V, hV⟩ : ∃ V, val B64 xs = V := ⟨_, rfl⟩
  have HV : Hid (val B64 xs = V) := hV
  rw [hV]
  clear hV
  have hsm := h.sm
  obtain ⟨r1, hr1⟩ : ∃ r, (if V < 2147483648 then V else 0) = r := ⟨_, rfl⟩
  obtain ⟨r2, hr2⟩ : ∃ r, decide (V < 2147483648) = r := ⟨_, rfl⟩
  rw [hr1, hr2]
  have HNO : Hid (2147483648 ≤ V → r1 = 0 ∧ r2 = false) := fun hv => ⟨by rw [← hr1, if_neg (by omega)], by rw [← hr2]; simp; omega⟩
  have HYES : Hid (V < 2147483648 → r1 = V ∧ r2 = true) := fun hv => ⟨by rw [← hr1, if_pos hv], by rw [← hr2]; simp [hv]⟩
  clear hr1 hr2
  go_enter Try.func17, Try.ntmps17
  go_wp2_with fail
  go_loopw [4, 5] (fun vn vi wr => ∃ (k : Nat) (n : Int), k ≤ len ∧ vi = .int .i64 k ∧ vn = .int .i64 n ∧ (low B64 xs k = n ∧ 0 ≤ n ∧ n < 2147483648) ∧ Drew w wr) (fun _ vi _ => len - (intOf vi).toNat)
  case atStart => exact ⟨0, 0, by omega, rfl, rfl, ⟨low_zero _ _, by omega, by omega⟩, Drew.refl _⟩
  case round =>
    obtain ⟨k, n, hk, rfl, rfl, hn, hdr⟩ := hrel
    have HN : Hid (low B64 xs k = n ∧ 0 ≤ n ∧ n < 2147483648) := hn
    have HDR : Hid (Drew w wr) := hdr
    by_cases hlt : k < len
    · have hx := h.lies.old (hdr.below _)
      obtain ⟨b, off, rfl, hblk, hc⟩ := hx.at (by omega)
      have hcell := hc k hlt
      have gx := h.dg.getD B64_pos k
      have hs := low_succ B64 xs k
      have hle := low_val h.dg (k + 1) (by omega)
      rw [HV.out] at hle
      obtain ⟨x, hxx⟩ : ∃ x, xs.getD k 0 = x := ⟨_, rfl⟩
      rw [hxx] at hcell gx hs
      rw [hs, HN.out.1] at hle
      unfold B64 at gx
      have HS : Hid (low B64 xs (k + 1) = n + B64 ^ k * x) := by unfold Hid; rw [hs, HN.out.1]
      have HX : Hid (0 ≤ x ∧ x < 18446744073709551616) := gx
      have hgx : (0 : Int) ≤ x := gx.1
      have hgx2 : x < 18446744073709551616 := gx.2
      clear hs hc hx hxx gx hdr hn
      by_cases h0 : k = 0
      · subst h0
        have hn0 : n = 0 := by rw [← HN.out.1, low_zero]
        subst hn0
        rw [Int.pow_zero, Int.one_mul, Int.zero_add] at hle
        have hcell0 : wr.cell? ⟨b, off, none⟩ = some (.int .u64 x) := hcell
        clear hcell
        by_cases hx31 : x < 2147483648
        · have HE : Hid (low B64 xs 1 = x) := by unfold Hid; rw [HS.out, Int.pow_zero, Int.one_mul, Int.zero_add]
          clear hle HS HX
          go_wp2
          go_roundw
          case rel => exact ⟨1, x, by omega, by go_num, rfl, ⟨HE.out, hgx, hx31⟩, HDR.out⟩
          case measure => simp [intOf]; omega
        · have HE : Hid (2147483648 ≤ V) := by unfold Hid; omega
          clear hle HS HX
          go_wp2
          go_ret2
          obtain ⟨q1, q2⟩ := HNO.out HE.out
          exact ⟨by rw [q1, q2]; rfl, HDR.out.below _⟩
      · by_cases hx0 : x = 0
        · subst hx0
          have HE : Hid (low B64 xs (k + 1) = n) := by unfold Hid; rw [HS.out, Int.mul_zero, Int.add_zero]
          clear hle HS HX
          go_wp2
          go_roundw
          case rel => exact ⟨k + 1, n, by omega, by go_num, rfl, ⟨HE.out, HN.out.2⟩, HDR.out⟩
          case measure => simp [intOf]; omega
        · have HE : Hid (2147483648 ≤ V) := by
            unfold Hid
            have h1 := pow_mono (B := B64) (by decide) (show 1 ≤ k by omega)
            rw [Int.pow_one] at h1
            have h2 : B64 ^ k * 1 ≤ B64 ^ k * x := Int.mul_le_mul_of_nonneg_left (by omega) (Int.le_of_lt (Int.pow_pos B64_pos))
            have h3 := HN.out.2.1
            unfold B64 at h1 h2 hle
            omega
          clear hle HS HX
          go_wp2
          go_ret2
          obtain ⟨q1, q2⟩ := HNO.out HE.out
          exact ⟨by rw [q1, q2]; rfl, HDR.out.below _⟩
    · obtain rfl : k = len := by omega
      have HE : Hid (V = n) := by unfold Hid; rw [← HN.out.1, ← HV.out, ← hl, low_len]
      have HN2 : Hid (n < 2147483648) := HN.out.2.2
      clear hn hdr
      go_wp2
      go_ret2
      obtain ⟨q1, q2⟩ := HYES.out (by rw [HE.out]; exact HN2.out)
      exact ⟨by rw [q1, q2, HE.out]; rfl, HDR.out.below _⟩
theorem number_nv (a : Value) (x : Int) (L : Nat) (w : World) (ha : Nv w a x L) :
    Calls Try.prog 17 #[a] w fun e w' => e = .returned (.tuple #[.int .i64 (if x < 2147483648 then x else 0), .bool (decide (x < 2147483648))]) ∧ Below w.heap.size w w' := by
  obtain ⟨ao, la, ca, xs, rfl, h1, rfl, h2⟩ := ha
  exact number_any ao la ca xs w h1
end Go.Proofs.Ytagljkbfgldlgaa
/-
  The document's Base, Of, value.
-/
namespace Go.Proofs.Ytagljkbfgldlgaa
open Go.RowKit Go.Shelf
set_option linter.unusedVariables false
set_option linter.unusedSimpArgs false

theorem ret_pd1 {fn : Func} {p : Tmp} (h : fn.results = #[.cell p 52]) (tmps : Array Value) (w : World) (g : Nat) (c0 c1 c2 : Value) (hp : tmps.getD p undef = .pointer (some ⟨g, 0, none⟩)) (hg : PSd w g c0 c1 c2) :
    (results fn tmps).run Try.prog w = .ok (.agg #[c0, c1, c2]) w :=
  results_cell_row h tmps w g 52 _ (0, 0) _ hp hg Try.underlying52 rfl sizePd
theorem two_blk (w : World) (o : Obj) (c0 c1 c2 : Value) : PSd ((w.alloc o).alloc (.cells #[c0, c1, c2] 52)) (w.heap.size + 1) c0 c1 c2 ∧ Below w.heap.size w ((w.alloc o).alloc (.cells #[c0, c1, c2] 52)) := by
  have n2 := heap_alloc_new (w.alloc o) (.cells #[c0, c1, c2] 52)
  rw [alloc_sz7] at n2
  exact ⟨n2, ((Below.refl w.heap.size w).alloc (Nat.le_refl _) _).alloc (by rw [alloc_sz7]; omega) _⟩
set_option maxHeartbeats 1000000 in
theorem rBase_any (K : Cz) (w : World) : Calls Try.prog 19 #[rcv K] w fun e w' => e = .returned (rpv (baseZ K)) ∧ Below w.heap.size w w' := by
  obtain ⟨kp, ka, kb, kx, ky, kn⟩ := K
  unfold rcv rpv baseZ
  simp only
  obtain ⟨n2, b2⟩ := two_blk w (.cells #[.int .i64 kp, .int .i64 ka, .int .i64 kb, .int .i64 kx, .int .i64 ky, .int .i64 kn] 35) (.int .i64 kx) (.int .i64 ky) (.bool false)
  have HF : Hid (_ ∧ _) := ⟨n2, b2⟩
  clear n2 b2
  go_enter Try.func19, Try.ntmps19
  go_wp2
  refine bodyPost_ret (ret_pd1 rfl _ _ _ _ _ _ rfl HF.out.1) rfl ?_
  exact ⟨rfl, HF.out.2⟩
/-- A number below 2^31, or 0. -/
def n31 (x : Int) : Int := if x < 2147483648 then x else 0
theorem n31_s {x : Int} (h : 0 ≤ x) : S31 (n31 x) := by
  unfold n31
  split
  · exact ⟨h, by omega⟩
  · exact ⟨by decide, by decide⟩
/-- A point of small numbers. -/
def ofZ (P : Pz) : Pz := if P.inf then noZ else ⟨n31 P.x, n31 P.y, false⟩
def ofB (P : Pz) : Bool := P.inf || (decide (P.x < 2147483648) && decide (P.y < 2147483648))
set_option maxRecDepth 100000 in
set_option maxHeartbeats 2000000 in
theorem rPof_any (p : Value) (P : Pz) (L : Nat) (w : World) (hp : Pv w p P L) : Calls Try.prog 12 #[p] w fun e w' => e = .returned (.tuple #[rpv (ofZ P), .bool (ofB P)]) ∧ Below w.heap.size w w' := by
  obtain ⟨px, py, rfl, p1, p2⟩ := hp
  have HX := fun W (hW : Below w.heap.size w W) => number_nv px P.x L W (p1.old hW)
  have HY := fun W (hW : Below w.heap.size w W) => number_nv py P.y L W (p2.old hW)
  obtain ⟨k1, k2, k3, k4, rfl, k5⟩ := p1
  obtain ⟨l1, l2, l3, l4, rfl, l5⟩ := p2
  obtain ⟨x, y, pi⟩ := P
  simp only at HX HY
  unfold ofZ ofB rpv
  cases pi with
  | true =>
    simp only [if_pos, Bool.true_or]
    obtain ⟨n2, b2⟩ := two_blk w (.cells #[.slice k1 k2 k3, .slice l1 l2 l3, .bool true] 42) (.int .i64 0) (.int .i64 0) (.bool true)
    have HF : Hid (_ ∧ _) := ⟨n2, b2⟩
    clear n2 b2 HX HY
    go_enter Try.func12, Try.ntmps12
    go_wp2
    refine bodyPost_ret (ret_pd rfl _ _ _ _ _ _ rfl HF.out.1) rfl ?_
    exact ⟨rfl, HF.out.2⟩
  | false =>
    simp only [Bool.false_or, Bool.false_eq_true, if_false]
    have ex : (if x < 2147483648 then x else 0) = n31 x := rfl
    have ey : (if y < 2147483648 then y else 0) = n31 y := rfl
    rw [ex] at HX
    rw [ey] at HY
    obtain ⟨X, hX⟩ : ∃ X, n31 x = X := ⟨_, rfl⟩
    obtain ⟨Y, hY⟩ : ∃ Y, n31 y = Y := ⟨_, rfl⟩
    obtain ⟨bx, hbx⟩ : ∃ b, decide (x < 2147483648) = b := ⟨_, rfl⟩
    obtain ⟨bY, hby⟩ : ∃ b, decide (y < 2147483648) = b := ⟨_, rfl⟩
    rw [hX, hbx] at HX
    rw [hY, hby] at HY
    rw [hX, hY, hbx, hby]
    clear hX hY hbx hby ex ey
    obtain ⟨n2, b2⟩ := two_blk w (.cells #[.slice k1 k2 k3, .slice l1 l2 l3, .bool false] 42) (.int .i64 0) (.int .i64 0) (.bool false)
    have n1 : ((w.alloc (.cells #[.slice k1 k2 k3, .slice l1 l2 l3, .bool false] 42)).alloc (.cells #[.int .i64 0, .int .i64 0, .bool false] 52)).heap[w.heap.size]? = some (.cells #[.slice k1 k2 k3, .slice l1 l2 l3, .bool false] 42 (0, 0)) := heap_new (heap_alloc_new w _) (by rw [alloc_sz7]; omega)
    obtain ⟨W, hW⟩ : ∃ W, (w.alloc (.cells #[.slice k1 k2 k3, .slice l1 l2 l3, .bool false] 42)).alloc (.cells #[.int .i64 0, .int .i64 0, .bool false] 52) = W := ⟨_, rfl⟩
    rw [hW] at n1 n2 b2
    have HF : Hid (PSd W (w.heap.size + 1) (.int .i64 0) (.int .i64 0) (.bool false) ∧ Below w.heap.size w W ∧ W.heap[w.heap.size]? = some (.cells #[.slice k1 k2 k3, .slice l1 l2 l3, .bool false] 42 (0, 0))) := ⟨n2, b2, n1⟩
    have HX2 := HX W b2
    have HW : Hid (_ = W) := hW
    clear n1 n2 b2 hW HX
    go_enter Try.func12, Try.ntmps12
    go_wp2_with fail
    rw [HW.out]
    refine HX2.mono ?_
    rintro e w1 ⟨rfl, hb1⟩
    have B1 := HF.out.2.1.trans (hb1.mono HF.out.2.1.size)
    have HY2 := HY w1 B1
    have n1 := blk_old HF.out.2.2 hb1
    have q1 : w1.cell? ⟨w.heap.size, 1, none⟩ = some (.slice l1 l2 l3) := by rw [cell_of_row _ _ _ _ _ _ n1]; rfl
    go_wp2_with fail
    refine HY2.mono ?_
    rintro e w2 ⟨rfl, hb2⟩
    have n2 := (HF.out.1.keep hb1).keep hb2
    have B2 := B1.trans (hb2.mono B1.size)
    obtain ⟨y0, y1, y2, y3, y4, y5⟩ := n2.facts
    clear HX2 HY2 HY hb1 hb2 n1 q1 B1
    have HF2 : Hid (_ ∧ _) := ⟨n2, B2⟩
    clear n2 B2
    have fin : ∀ b, b = (bx && bY) → (fun (e : Ending) (w' : World) => e = .returned (.tuple #[.agg #[.int .i64 X, .int .i64 Y, .bool false], .bool (bx && bY)]) ∧ Below w.heap.size w w') (.returned (.tuple #[.agg #[.int .i64 X, .int .i64 Y, .bool false], .bool b])) (((w2.setCell ⟨w.heap.size + 1, 0, none⟩ (.int .i64 X)).setCell ⟨w.heap.size + 1, 1, none⟩ (.int .i64 Y)).setCell ⟨w.heap.size + 1, 2, none⟩ (.bool false)) := fun b hb => ⟨by rw [hb], HF2.out.2.trans ((Bt.set3 w2 (w.heap.size + 1) (.int .i64 X) (.int .i64 Y) (.bool false)).below (by omega) HF2.out.2.size)⟩
    have HFIN : Hid _ := fin
    clear fin
    cases bx
    · go_wp2
      refine bodyPost_ret (ret_pd rfl _ _ _ _ _ _ rfl (HF2.out.1.set3 (.int .i64 X) (.int .i64 Y) (.bool false))) rfl ?_
      exact HFIN.out false rfl
    · go_wp2
      refine bodyPost_ret (ret_pd rfl _ _ _ _ _ _ rfl (HF2.out.1.set3 (.int .i64 X) (.int .i64 Y) (.bool false))) rfl ?_
      exact HFIN.out bY rfl
theorem val_dropU (ds : List Int) (hd : Dg D16 ds) (j : Nat) (hj : j < ds.length) : val D16 (ds.drop j) = val D16 (ds.drop (j + 1)) * 65536 + ds.getD j 0 ∧ 0 ≤ ds.getD j 0 ∧ 0 ≤ val D16 (ds.drop (j + 1)) := by
  have h1 := hd.getD D16_pos j
  refine ⟨?_, h1.1, val_nonneg D16_pos (fun x hx => hd x (List.mem_of_mem_drop hx))⟩
  have e : ds.getD j 0 = ds[j] := by simp [List.getD, hj]
  rw [List.drop_eq_getElem_cons hj, val_cons, e]
  show _ + 65536 * _ = _
  omega
theorem val_drop_leU (ds : List Int) (hd : Dg D16 ds) : ∀ j, j ≤ ds.length → val D16 (ds.drop j) ≤ val D16 ds
  | 0, _ => by rw [List.drop_zero]; exact Int.le_refl _
  | j + 1, hj => by
    have ih := val_drop_leU ds hd j (by omega)
    obtain ⟨h1, h2, h3⟩ := val_dropU ds hd j (by omega)
    omega
set_option maxRecDepth 100000 in
set_option maxHeartbeats 2000000 in
/-- A small number's value. -/
theorem rvalue_any (v : Value) (n : Int) (L : Nat) (w : World) (h : Rv w v n L) (hL : L ≤ 1000000) (hn : n < 2147483648) : Calls Try.prog 35 #[v] w fun e w' => e = .returned (.int .i64 n) ∧ w' = w := by
  obtain ⟨ao, la, ca, ds, rfl, h1, h2, rfl, h4⟩ := h
  have hl := h1.len
  have hsm := h1.sm
  obtain ⟨V, hV⟩ : ∃ V, val D16 ds = V := ⟨_, rfl⟩
  have HV : Hid (val D16 ds = V ∧ V < 2147483648) := ⟨hV, by omega⟩
  rw [hV]
  have HD : Hid (Dg D16 ds ∧ ds.length = la) := ⟨h1.dg, hl⟩
  have HL : Hid (NumIn .i64 D16 w ao la ca ds) := h1
  have hla : (la : Int) ≤ 1000000 := by omega
  clear hV hn hl h1 hsm h2
  go_enter Try.func35, Try.ntmps35
  go_wp2
  go_loopw [3, 4] (fun vn vi wr => ∃ (j : Nat) (z m : Int), j ≤ la ∧ z + 1 = (j : Int) ∧ vi = .int .i64 z ∧ vn = .int .i64 m ∧ m = val D16 (ds.drop j) ∧ wr = w) (fun _ vi _ => (intOf vi + 1).toNat)
  case atStart => exact ⟨la, (la : Int) - 1, 0, Nat.le_refl _, by omega, by go_num, rfl, by rw [List.drop_eq_nil_of_le (by rw [HD.out.2]; exact Nat.le_refl _)]; rfl, rfl⟩
  case round =>
    obtain ⟨j, z, m, hj, hz, rfl, rfl, hm, rfl⟩ := hrel
    by_cases hj0 : j = 0
    · subst hj0
      have hz1 : z = -1 := by omega
      subst hz1
      have HE : Hid (m = V) := by unfold Hid; rw [hm, List.drop_zero, HV.out.1]
      clear hz hj hm
      go_wp2
      go_ret
      exact ⟨by rw [HE.out]; rfl, rfl⟩
    · obtain ⟨i, rfl⟩ : ∃ i, j = i + 1 := ⟨j - 1, by omega⟩
      obtain rfl : z = (i : Int) := by omega
      obtain ⟨b, off, rfl, _, hc⟩ := HL.out.lies.at (by omega)
      have hcell := hc i (by omega)
      obtain ⟨q1, q2, q3⟩ := val_dropU ds HD.out.1 i (by rw [HD.out.2]; omega)
      have q4 := val_drop_leU ds HD.out.1 i (by rw [HD.out.2]; omega)
      rw [HV.out.1] at q4
      have q5 := HV.out.2
      rw [← hm] at q1 q3
      obtain ⟨x, hx⟩ : ∃ x, ds.getD i 0 = x := ⟨_, rfl⟩
      rw [hx] at hcell q1 q2
      have w1 : IntKind.i64.wrap (m * 65536) = m * 65536 := IntWalk.i64_in _ (by omega)
      have w2 : IntKind.i64.wrap (m * 65536 + x) = m * 65536 + x := IntWalk.i64_in _ (by omega)
      have HE : Hid (m * 65536 + x = val D16 (ds.drop i)) := q1.symm
      have HJ : Hid (i + 1 ≤ la) := hj
      have hil : i < la := by omega
      clear q1 q2 q3 q4 q5 hx hc hz hj hj0 hm
      go_wp2
      go_roundw
      case rel => exact ⟨i, (i : Int) - 1, m * 65536 + x, by have := HJ.out; omega, by omega, by go_num, rfl, HE.out, trivial⟩
      case measure => simp [intOf]
end Go.Proofs.Ytagljkbfgldlgaa
/-
  A region that draws its order, whatever it does: facts on slots and the world, one an operation, told once for all orders. No program in sight.
-/
namespace Go.Proofs.Ytagljkbfgldlgaa
open Go.Shelf Go.RowKit
set_option linter.unusedVariables false
set_option linter.unusedSimpArgs false

/-- What operation i must come behind. -/
def needsOf (md : Region.Mode) (ops : Array Oper) (i : Nat) : List Nat := ((ops[i]?).map (fun o => (o.after.toList.filter (Region.binds md)).map (·.on))).getD []
def reachN (md : Region.Mode) (ops : Array Oper) : Nat → List Nat → List Nat
  | 0, S => S
  | n + 1, S => reachN md ops n ((S ++ S.flatMap (needsOf md ops)).eraseDups)
/-- What operation i stands on. -/
def reachOf (md : Region.Mode) (ops : Array Oper) (n i : Nat) : List Nat := reachN md ops n (needsOf md ops i)
def dstIs (ops : Array Oper) (i s : Nat) : Bool := match ops[i]? with
  | some o => o.dst == some s
  | none => false
/-- What is asked of the text. -/
def framesOk (md : Region.Mode) (ops : Array Oper) (n : Nat) (rd : List (List Nat)) : Bool :=
  (List.range ops.size).all fun i => (needsOf md ops i).all (fun e => decide (e < i) || !decide (e < ops.size) || (needsOf md ops e).all (fun x => decide (x ≠ i))) && (List.range ops.size).all fun j => (rd.getD j []).all fun s => !dstIs ops i s || decide (i = j) || (reachOf md ops n j).contains i
/-- There is a way: the operations in this order. -/
def orderOk (md : Region.Mode) (ops : Array Oper) : List Nat → List Nat → Bool
  | [], seen => (List.range ops.size).all fun i => seen.contains i
  | i :: l, seen => decide (i < ops.size) && (needsOf md ops i).all (fun e => seen.contains e) && orderOk md ops l (i :: seen)
section
variable {P : Program} {ops : Array Oper} {Q : Exit → Act → World → Prop} {md : Region.Mode}
theorem reachN_sound {T : Nat → Prop} (dc : ∀ i, T i → ∀ j ∈ needsOf md ops i, T j) : ∀ (n : Nat) (S : List Nat), (∀ i ∈ S, T i) → ∀ i ∈ reachN md ops n S, T i
  | 0, S, h, i, hi => h i hi
  | n + 1, S, h, i, hi => by
    refine reachN_sound dc n _ ?_ i hi
    intro j hj
    rw [List.mem_eraseDups] at hj
    rcases List.mem_append.1 hj with hj | hj
    · exact h j hj
    · obtain ⟨k, hk, hj⟩ := List.mem_flatMap.1 hj
      exact dc k (h k hk) j hj
/-- What holds while some have come. -/
structure GInv (md : Region.Mode) (ops : Array Oper) (rd : List (List Nat)) (Fs : List (List Value → World → Prop)) (a0 : Act) (w0 : World) (listed : Array Bool) (a : Act) (w : World) : Prop where
  size : listed.size = ops.size
  defers : a.defers = a0.defers
  slots : a.tmps.size = a0.tmps.size
  old : ∀ s, (∀ j, listed.getD j false = true → dstIs ops j s = false) → a.tmps.getD s undef = a0.tmps.getD s undef
  below : Below w0.heap.size w0 w
  facts : ∀ j, listed.getD j false = true → Fs.getD j (fun _ _ => True) ((rd.getD j []).map fun s => a.tmps.getD s undef) w
  down : ∀ j, listed.getD j false = true → ∀ e ∈ needsOf md ops j, listed.getD e false = true
/-- All that stands behind operation i. -/
theorem GInv.deep {rd : List (List Nat)} {Fs : List (List Value → World → Prop)} {a0 : Act} {w0 : World} {listed : Array Bool} {a : Act} {w : World} (h : GInv md ops rd Fs a0 w0 listed a w) {i : Nat} (hr : ∀ e ∈ needsOf md ops i, listed.getD e false = true) (n e : Nat) (he : e ∈ reachOf md ops n i) : Fs.getD e (fun _ _ => True) ((rd.getD e []).map fun s => a.tmps.getD s undef) w :=
  h.facts e (reachN_sound (T := fun j => listed.getD j false = true) (fun x hx j hj => h.down x hx j hj) n _ hr e he)
theorem GInv.stays {rd : List (List Nat)} {Fs : List (List Value → World → Prop)} {a0 : Act} {w0 : World} {listed : Array Bool} {a : Act} {w : World} (h : GInv md ops rd Fs a0 w0 listed a w) {i : Nat} (hi : listed.getD i false = false) (n s : Nat) (hs : (List.range ops.size).all (fun j => !dstIs ops j s || (reachOf md ops n j).contains i || decide (i = j)) = true) : a.tmps.getD s undef = a0.tmps.getD s undef := by
  refine h.old s fun j hj => ?_
  rw [List.all_eq_true] at hs
  by_cases hjs : j < ops.size
  · have := hs j (List.mem_range.2 hjs)
    rw [Bool.or_eq_true, Bool.or_eq_true] at this
    rcases this with (this | this) | this
    · simpa using this
    · have hm : i ∈ reachOf md ops n j := by simpa using this
      have := reachN_sound (md := md) (ops := ops) (T := fun j => listed.getD j false = true) (fun x hx j hj => h.down x hx j hj) n _ (h.down j hj) i hm
      rw [hi] at this
      cases this
    · have : i = j := by simpa using this
      rw [this, hj] at hi
      cases hi
  · unfold dstIs
    rw [Array.getElem?_eq_none (by omega)]
theorem needs_mem (i : Nat) (o : Oper) (ho : ops[i]? = some o) (j : Nat) : j ∈ needsOf md ops i ↔ ∃ e ∈ o.after, Region.binds md e = true ∧ e.on = j := by
  unfold needsOf
  rw [ho]
  simp [and_assoc]
theorem order_all : ∀ (l seen : List Nat) (listed : Array Bool), orderOk md ops l seen = true → (∀ i ∈ seen, listed.getD i false = true) → listed.size = ops.size → (∀ i, i < ops.size → listed.getD i false = true) ∨ ∃ i, i ∈ Region.ready md ops listed
  | [], seen, listed, h, hs, hz => by
    left
    intro i hi
    unfold orderOk at h
    rw [List.all_eq_true] at h
    exact hs i (by simpa using h i (List.mem_range.2 hi))
  | i :: l, seen, listed, h, hs, hz => by
    unfold orderOk at h
    simp only [Bool.and_eq_true, decide_eq_true_eq, List.all_eq_true] at h
    obtain ⟨⟨h1, h2⟩, h3⟩ := h
    cases hl : listed.getD i false with
    | true =>
      refine order_all l (i :: seen) listed h3 ?_ hz
      intro j hj
      rcases List.mem_cons.1 hj with rfl | hj
      · exact hl
      · exact hs j hj
    | false =>
      right
      refine ⟨i, ?_⟩
      unfold Region.ready
      rw [List.mem_filter, List.mem_range]
      refine ⟨h1, ?_⟩
      rw [Bool.and_eq_true]
      refine ⟨by rw [getD_or _ _ (by omega), hl]; rfl, ?_⟩
      rw [Array.getElem?_eq_getElem h1]
      simp only [Option.map_some, Option.getD_some]
      rw [Array.all_eq_true']
      intro e he
      by_cases hb : Region.binds md e = true
      · have := h2 e.on ((needs_mem i _ (Array.getElem?_eq_getElem h1) e.on).2 ⟨e, he, hb, rfl⟩)
        rw [hs e.on (by simpa using this)]
        simp
      · simp [hb]
/-- One step, and what is then asked. -/
def GStep (P : Program) (Q : Exit → Act → World → Prop) (ops : Array Oper) (rd : List (List Nat)) (Fs : List (List Value → World → Prop)) (w0 : World) (i : Nat) (o : Oper) (listed : Array Bool) (a : Act) (w : World) : Prop :=
  ∀ KK : Act → World → Prop,
    (∀ v w', Below w0.heap.size w0 w' → (∀ j vs, listed.getD j false = true → Fs.getD j (fun _ _ => True) vs w → Fs.getD j (fun _ _ => True) vs w') → Fs.getD i (fun _ _ => True) ((rd.getD i []).map fun s => (a.put o.dst v).tmps.getD s undef) w' → KK (a.put o.dst v) w') →
    if Region.wanted o (yielded ops a.tmps) = true then o.wp P a w KK Q else KK (a.put o.dst undef) w
theorem wpAny_frames (n : Nat) (rd : List (List Nat)) (Fs : List (List Value → World → Prop)) (ord : List Nat) (a0 : Act) (w0 : World) (hok : framesOk md ops n rd = true) (hord : orderOk md ops ord [] = true)
    (step : ∀ i o, ops[i]? = some o → ∀ listed a w, GInv md ops rd Fs a0 w0 listed a w → listed.getD i false = false → (∀ e ∈ needsOf md ops i, listed.getD e false = true) → GStep P Q ops rd Fs w0 i o listed a w)
    (done : ∀ listed a w, GInv md ops rd Fs a0 w0 listed a w → (∀ i, i < ops.size → listed.getD i false = true) → Q .normal a w) :
    ∀ k listed a w, GInv md ops rd Fs a0 w0 listed a w → unl ops.size listed = k → wpAny P md ops Q k listed a w
  | 0, listed, a, w, h, hk => by
    have hall : ∀ i, i < ops.size → listed.getD i false = true := fun i hi => by
      have h1 : (List.range ops.size).filter (fun j => !listed.getD j false) = [] := List.length_eq_zero_iff.1 hk
      rw [List.filter_eq_nil_iff] at h1
      have := h1 i (List.mem_range.2 hi)
      simpa using this
    refine ⟨?_, done listed a w h hall⟩
    cases hr : Region.ready md ops listed with
    | nil => rfl
    | cons i l =>
      obtain ⟨h1, h2, _⟩ := ready_mem (md := md) (ops := ops) (listed := listed) (i := i) (by rw [hr]; exact List.mem_cons_self)
      rw [getD_or _ _ (by rw [h.size]; exact h1), hall i h1] at h2
      cases h2
  | k + 1, listed, a, w, h, hk => by
    refine ⟨fun hr => ?_, fun i hi => ?_⟩
    · rcases order_all ord [] listed hord (fun i hi => by cases hi) h.size with h1 | ⟨i, hi⟩
      · exact done listed a w h h1
      · rw [hr] at hi; cases hi
    · obtain ⟨hi1, hi2, o, ho, hd⟩ := ready_mem hi
      rw [getD_or _ _ (by rw [h.size]; omega)] at hi2
      have hneed : ∀ e ∈ needsOf md ops i, listed.getD e false = true := fun e he => by
        obtain ⟨e', h1, h2, rfl⟩ := (needs_mem i o ho e).1 he
        exact hd e' h1 h2
      unfold wpOp
      rw [ho]
      simp only
      have hs := step i o ho listed a w h hi2 hneed (wpAny P md ops Q k (listed.setIfInBounds i true)) (by
        intro v w' hb hkeep hnew
        refine wpAny_frames n rd Fs ord a0 w0 hok hord step done k _ _ _ ?_ ?_
        · have hput : ∀ s, dstIs ops i s = false → (a.put o.dst v).tmps.getD s undef = a.tmps.getD s undef := fun s hs => by
            unfold dstIs at hs
            rw [ho] at hs
            cases hdst : o.dst with
            | none => rfl
            | some d =>
              refine put_get _ _ _ _ ?_
              rintro rfl
              simp [hdst] at hs
          refine ⟨by simp [h.size], ?_, ?_, ?_, hb, ?_, ?_⟩
          · cases hdst : o.dst <;> exact h.defers
          · rw [← h.slots]
            cases hdst : o.dst with
            | none => rfl
            | some d => simp [Act.put]
          · intro s hs
            have h1 := hs i (by rw [lget_set _ _ _ (by rw [h.size]; omega), if_pos rfl])
            rw [hput s h1]
            refine h.old s fun j hj => hs j ?_
            rw [lget_set _ _ _ (by rw [h.size]; omega)]
            split
            · rfl
            · exact hj
          · intro j hj
            rw [lget_set _ _ _ (by rw [h.size]; omega)] at hj
            by_cases hij : i = j
            · subst hij
              exact hnew
            · rw [if_neg hij] at hj
              have h5 := hkeep j _ hj (h.facts j hj)
              have e : ((rd.getD j []).map fun s => (a.put o.dst v).tmps.getD s undef) = ((rd.getD j []).map fun s => a.tmps.getD s undef) := by
                apply List.map_congr_left
                intro s hs
                refine hput s ?_
                unfold framesOk at hok
                rw [List.all_eq_true] at hok
                have h6 := hok i (List.mem_range.2 hi1)
                rw [Bool.and_eq_true, List.all_eq_true, List.all_eq_true] at h6
                by_cases hjs : j < ops.size
                · have h7 := h6.2 j (List.mem_range.2 hjs)
                  rw [List.all_eq_true] at h7
                  have h8 := h7 s hs
                  rw [Bool.or_eq_true, Bool.or_eq_true] at h8
                  rcases h8 with (h8 | h8) | h8
                  · simpa using h8
                  · exact absurd (by simpa using h8) hij
                  · have hm : i ∈ reachOf md ops n j := by simpa using h8
                    have := reachN_sound (md := md) (ops := ops) (T := fun j => listed.getD j false = true) (fun x hx j hj => h.down x hx j hj) n _ (h.down j hj) i hm
                    rw [hi2] at this
                    cases this
                · have : listed.getD j false = false := by
                    simp only [Array.getD_eq_getD_getElem?]
                    rw [Array.getElem?_eq_none (by rw [h.size]; omega)]
                    rfl
                  rw [this] at hj
                  cases hj
              rw [e]
              exact h5
          · intro j hj e he
            rw [lget_set _ _ _ (by rw [h.size]; omega)] at hj ⊢
            by_cases hie : i = e
            · rw [if_pos hie]
            · rw [if_neg hie]
              by_cases hij : i = j
              · subst hij
                exact hneed e he
              · rw [if_neg hij] at hj
                exact h.down j hj e he
        · have := unl_set ops.size listed i hi1 (by rw [h.size]; omega) hi2
          omega)
      by_cases hw : Region.wanted o (yielded ops a.tmps) = true
      · rw [if_pos hw] at hs ⊢
        exact .inl hs
      · rw [if_neg hw] at hs ⊢
        exact hs
/-- The rule. -/
theorem wp_region_frames {id : Nat} {a0 : Act} {w0 : World} (n : Nat) (rd : List (List Nat)) (Fs : List (List Value → World → Prop)) (ord : List Nat) (hmx : P.follows .mixedOrders = true) (hok : framesOk .any ops n rd = true) (hord : orderOk .any ops ord [] = true)
    (step : ∀ i o, ops[i]? = some o → ∀ listed a w, GInv .any ops rd Fs a0 w0.drew listed a w → listed.getD i false = false → (∀ e ∈ needsOf .any ops i, listed.getD e false = true) → GStep P Q ops rd Fs w0.drew i o listed a w)
    (done : ∀ listed a w, GInv .any ops rd Fs a0 w0.drew listed a w → (∀ i, i < ops.size → listed.getD i false = true) → Q .normal a w) : (Code.region id ops true).wp P Q a0 w0 := by
  have hrep : ∀ i, (Array.replicate ops.size false).getD i false = false := fun i => by
    simp only [Array.getD_eq_getD_getElem?]
    by_cases h : i < ops.size
    · rw [Array.getElem?_eq_getElem (by simpa using h)]; simp
    · rw [Array.getElem?_eq_none (by simpa using Nat.le_of_not_lt h)]; rfl
  refine wp_region_any hmx ?_
  have hu : unl ops.size (Array.replicate ops.size false) = ops.size := by
    unfold unl
    have : (List.range ops.size).filter (fun j => !(Array.replicate ops.size false).getD j false) = List.range ops.size := by
      rw [List.filter_eq_self]
      intro j _
      rw [hrep]
      rfl
    rw [this, List.length_range]
  exact wpAny_frames (P := P) (Q := Q) (md := .any) n rd Fs ord a0 w0.drew hok hord step done ops.size (Array.replicate ops.size false) a0 w0.drew ⟨by simp, rfl, rfl, fun _ _ => rfl, Below.refl _ _, fun i hl => (by rw [hrep] at hl; cases hl), fun i hl => (by rw [hrep] at hl; cases hl)⟩ hu
end
end Go.Proofs.Ytagljkbfgldlgaa
/-
  The code's Check.
-/
namespace Go.Proofs.Ytagljkbfgldlgaa
open Go.Shelf Go.RowKit
set_option linter.unusedVariables false
set_option linter.unusedSimpArgs false

theorem of_nv (n : Int) (w : World) (h0 : 0 ≤ n) (h1 : n < 18446744073709551616) : Calls Try.prog 11 #[.int .u64 n] w fun e w' => ∃ v, e = .returned v ∧ Na w w' v n 1 := by
  refine (Of_any n w (by omega) (by omega)).mono ?_
  rintro e w' ⟨v, rfl, h⟩
  exact ⟨v, rfl, h.na⟩
def reducedB (K : Cz) : Bool := decide (K.a < K.p) && (decide (K.b < K.p) && (decide (K.gx < K.p) && decide (K.gy < K.p)))
end Go.Proofs.Ytagljkbfgldlgaa
/-
  The code's discriminant; what isSized asks.
-/
namespace Go.Proofs.Ytagljkbfgldlgaa
open Go.Shelf Go.RowKit
set_option linter.unusedVariables false
set_option linter.unusedSimpArgs false

def discZ (K : Cz) : Int := ((4 * ((K.a * ((K.a * K.a) % K.p)) % K.p)) % K.p + (27 * ((K.b * K.b) % K.p)) % K.p) % K.p
/-- Are the sizes right? -/
def sizedB (K : Cz) : Bool := decide (blen K.p.toNat ≤ 256) && (decide (blen K.n.toNat ≤ 257) && (decide (3 < K.p) && (decide (K.p % 2 = 1) && decide (1 < K.n))))
theorem len_nv (a : Value) (x : Int) (L : Nat) (w : World) (ha : Nv w a x L) (hL : L ≤ 1000) : Calls Try.prog 37 #[a] w fun e w' => (e = .returned (.int .i64 (blen x.toNat : Nat)) ∧ blen x.toNat ≤ 64000) ∧ w' = w := by
  obtain ⟨ao, la, ca, xs, rfl, h1, rfl, h2⟩ := ha
  refine (Len_any ao la ca xs w h1).mono ?_
  rintro e w' ⟨rfl, rfl⟩
  have := lenOf_le h1.dg 1000 (by have := h1.len; omega)
  rw [lenOf_eq xs h1.dg] at this ⊢
  exact ⟨⟨rfl, this⟩, rfl⟩
end Go.Proofs.Ytagljkbfgldlgaa
