/-
  b64.Encode.
-/
import Derived.Test.YtbhjidmbihkppaaB64C
import Derived.RangeFuncRecord
namespace Go.Proofs.Ytbhjidmbihkppaa
open Go.RowKit
set_option linter.unusedVariables false
set_option linter.unusedSimpArgs false

def nats (xs : List Int) : List Nat := xs.map Int.toNat
def encT (bs : List Nat) : List UInt8 := (encL bs).map fun v => (sg v).toUInt8
theorem nats_length (xs : List Int) : (nats xs).length = xs.length := by simp [nats]
theorem nats_lt {xs : List Int} (h : Dg 256 xs) : ∀ x ∈ nats xs, x < 256 := by
  intro x hx
  obtain ⟨y, hy, rfl⟩ := List.mem_map.1 hx
  have := h y hy
  omega

/-- The first m signs. -/
def encP (bs : List Nat) (m : Nat) : List UInt8 := (List.range m).map fun j => (sg (sx bs j)).toUInt8
theorem encP_zero (bs : List Nat) : encP bs 0 = [] := rfl
theorem encP_length (bs : List Nat) (m : Nat) : (encP bs m).length = m := by simp [encP]
theorem encP_succ (bs : List Nat) (m : Nat) : encP bs (m + 1) = encP bs m ++ [(sg (sx bs m)).toUInt8] := by simp [encP, List.range_succ]
theorem encP_full (bs : List Nat) : encP bs ((8 * bs.length + 5) / 6) = encT bs := by simp [encP, encT, encL, Function.comp_def]
theorem byte_one {a : Nat} (h : a < 256) : Lib.byteCells [a.toUInt8] = [Value.int .u8 (a : Int)] := by
  simp [Lib.byteCells, Nat.toUInt8, UInt8.toNat_ofNat']
  omega
theorem encP_cells (bs : List Nat) (m : Nat) : Lib.byteCells (encP bs (m + 1)) = Lib.byteCells (encP bs m) ++ [.int .u8 ((sg (sx bs m) : Nat) : Int)] := by
  rw [encP_succ, Lib.byteCells_append, byte_one]
  have := (sg_facts (sx bs m) (Nat.mod_lt _ (by decide))).2.2
  omega
/-- The bits behind the last 2^32 don't matter. -/
theorem low_mid (Y d : Nat) (h : d + 6 ≤ 32) : Y % 4294967296 / 2 ^ d % 64 = Y / 2 ^ d % 64 := by
  have e : (4294967296 : Nat) = 2 ^ d * 2 ^ (32 - d) := by rw [← Nat.pow_add, show d + (32 - d) = 32 by omega]
  rw [e, Nat.mod_mul_right_div_self, Nat.mod_mod_of_dvd]
  exact (Nat.pow_dvd_pow 2 (show 6 ≤ 32 - d by omega))
theorem sx_early {bs : List Nat} (h : ∀ x ∈ bs, x < 256) (k m d : Nat) (hk : k ≤ bs.length) (hd : d + 6 * (m + 1) = 8 * k) (hd6 : d ≤ 26) : be 256 (bs.take k) % 4294967296 / 2 ^ d % 64 = sx bs m := by
  rw [low_mid _ _ (by omega), be_take h k hk, p256, Nat.div_div_eq_div_mul, ← Nat.pow_add]
  unfold sx
  rw [show 8 * bs.length - 6 * m = (8 * (bs.length - k) + d) + 6 by omega, Nat.pow_add (n := 6)]
  rw [show (64 : Nat) = 2 ^ 6 by rfl, Nat.mul_div_mul_right _ _ (by decide : 0 < 2 ^ 6)]
theorem sx_last {bs : List Nat} (h : ∀ x ∈ bs, x < 256) (m d : Nat) (hd : d + 6 * m = 8 * bs.length) (hd6 : d < 6) : be 256 bs % 4294967296 * 2 ^ (6 - d) % 4294967296 % 64 = sx bs m := by
  unfold sx
  rw [show 8 * bs.length - 6 * m = d by omega]
  have e : be 256 bs * 64 / 2 ^ d = be 256 bs * 2 ^ (6 - d) := by
    rw [show (64 : Nat) = 2 ^ (6 - d) * 2 ^ d by rw [← Nat.pow_add, show 6 - d + d = 6 by omega], ← Nat.mul_assoc, Nat.mul_div_cancel _ (Nat.two_pow_pos d)]
  rw [e, Nat.mod_mod_of_dvd _ (by decide : 64 ∣ 4294967296)]
  rw [Nat.mul_mod, Nat.mod_mod_of_dvd _ (by decide : 64 ∣ 4294967296), ← Nat.mul_mod]

set_option maxHeartbeats 2000000 in
/-- b64.Encode. -/
theorem Enc_any (ao : Option Addr) (len cap : Nat) (xs : List Int) (w : World) (h : NumIn .u8 256 w ao len cap xs) (hl : len ≤ 100000) :
    Calls Try.prog 9 #[.slice ao len cap] w fun e w' => e = .returned (.string ⟨(encT (nats xs)).toArray⟩) ∧ Below w.heap.size w w' := by
  have hg : ((len : Int) * 8 + 6 - 1) / 6 = (((8 * len + 5) / 6 : Nat) : Int) := by omega
  obtain ⟨n, hn⟩ : ∃ n, (8 * len + 5) / 6 = n := ⟨_, rfl⟩
  rw [hn] at hg
  have hn2 : n ≤ 281474976710656 := by omega
  have HN : Hid ((8 * len + 5) / 6 = n) := hn
  clear hn
  obtain ⟨bs, hbs⟩ : ∃ bs, nats xs = bs := ⟨_, rfl⟩
  have HB : Hid ((∀ x ∈ bs, x < 256) ∧ bs.length = len ∧ ∀ i, i < len → xs.getD i 0 = ((bs.getD i 0 : Nat) : Int)) := by
    subst hbs
    refine ⟨nats_lt h.dg, by rw [nats_length, h.len], fun i hi => ?_⟩
    have hi' : i < xs.length := by rw [h.len]; exact hi
    have := h.dg xs[i] (List.getElem_mem hi')
    simp [nats, List.getD, hi']
    omega
  have HS : Hid (nats xs = bs) := hbs
  rw [hbs]
  clear hbs
  have HG := fun w' (hb : w'.heap[w.heap.size]? = some (.cells #[.pointer none, .slice none 0 0] 39 (0, 0))) => bGrow w.heap.size n w' hb hn2
  go_enter Try.func9, Try.ntmps9
  go_wp2_with (go_at_call 13; refine (HG _ (World.alloc_heap_new _ _)).mono ?_; rintro e w1 ⟨rfl, hI, hb1⟩)
  have HI : Hid (Lib.IsBuilderF 39 5 w.heap.size w.heap.size (Lib.byteCells []) w1 ∧ Below w.heap.size w w1) := ⟨Or.inr (Lib.BuilderAtF.of hI), ((Below.refl _ w).alloc (Nat.le_refl _) _).trans hb1⟩
  clear hI hb1 HG
  go_loopw [4, 5, 17] (fun vb vh vi wr => ∃ k : Nat, k ≤ len ∧ vi = .int .i64 k ∧ vb = .int .u32 ((be 256 (bs.take k) % 4294967296 : Nat) : Int) ∧ vh = .int .i64 ((8 * k % 6 : Nat) : Int) ∧ Lib.IsBuilderF 39 5 w.heap.size w.heap.size (Lib.byteCells (encP bs (8 * k / 6))) wr ∧ Below w.heap.size w wr) (fun _ _ vi _ => len - (intOf vi).toNat)
  case atStart => exact ⟨0, by omega, rfl, by simp [be], rfl, HI.out.1, HI.out.2⟩
  case round =>
    obtain ⟨k, hk, rfl, rfl, rfl, hI, hbw⟩ := hrel
    clear HI
    by_cases hlt : k < len
    · obtain ⟨bq, off, rfl, hbq, hc⟩ := h.lies.at (by omega)
      have hck := (hbw.cell (p := ⟨bq, off + k, none⟩) hbq).trans (hc k hlt)
      rw [HB.out.2.2 k hlt] at hck
      obtain ⟨y, hy⟩ : ∃ y, bs.getD k 0 = y := ⟨_, rfl⟩
      rw [hy] at hck
      obtain ⟨X, hX⟩ : ∃ X, be 256 (bs.take k) % 4294967296 = X := ⟨_, rfl⟩
      obtain ⟨d, hd⟩ : ∃ d, 8 * k % 6 = d := ⟨_, rfl⟩
      rw [hX, hd]
      have hd6 : d < 6 := by omega
      have hyb : y < 256 := by
        rw [← hy]
        have hi' : k < bs.length := by rw [HB.out.2.1]; exact hlt
        have := HB.out.1 bs[k] (List.getElem_mem hi')
        simpa [List.getD, hi'] using this
      obtain ⟨Z, hZ⟩ : ∃ Z, be 256 (bs.take (k + 1)) % 4294967296 = Z := ⟨_, rfl⟩
      have hor : bits .or .u32 ((X : Int) * 256 % 4294967296) (y : Int) = (Z : Int) := by
        have e := or_behind X y 8 (by decide) hyb
        rw [show (X * 2 ^ 8 + y) % 4294967296 = Z by rw [← hZ, take_succ_nat bs k (by rw [HB.out.2.1]; exact hlt), be_snoc, hy, ← hX]; omega] at e
        rw [← e]
        congr 1
      have hyw : (y : Int) % 4294967296 = (y : Int) := by omega
      have hZb : Z < 4294967296 := by rw [← hZ]; exact Nat.mod_lt _ (by decide)
      have HBW : Hid (Below w.heap.size w wr ∧ be 256 (bs.take (k + 1)) % 4294967296 = Z ∧ 8 * k % 6 = d) := ⟨hbw, hZ, hd⟩
      have HI : Hid (Lib.IsBuilderF 39 5 w.heap.size w.heap.size (Lib.byteCells (encP bs (8 * k / 6))) wr) := hI
      clear hbw hX hd hy hI hc hZ
      go_wp2
      clear hck
      generalize wr = wo at *
      go_loopw [5] (fun vh wr => ∃ d m : Nat, vh = .int .i64 d ∧ d + 6 * m = 8 * (k + 1) ∧ d < 14 ∧ Lib.IsBuilderF 39 5 w.heap.size w.heap.size (Lib.byteCells (encP bs m)) wr ∧ Below w.heap.size w wr) (fun vh _ => (intOf vh).toNat)
      case atStart => exact ⟨d + 8, 8 * k / 6, by go_num, by have := HBW.out.2.2; omega, by omega, HI.out, HBW.out.1⟩
      case round =>
        clear HI hd6 hor
        obtain ⟨e, m, rfl, hem, he, hI, hbw⟩ := hrel
        have hsz := hbw.size
        by_cases h6 : 6 ≤ e
        · obtain ⟨f, hf⟩ : ∃ f, e - 6 = f := ⟨_, rfl⟩
          have hfI : (e : Int) - 6 = (f : Int) := by omega
          have hf64 : f < 32 := by omega
          have hZf : Z / 2 ^ f < 4294967296 := Nat.lt_of_le_of_lt (Nat.div_le_self _ _) hZb
          have HC := fun w' => signOf_any (Z / 2 ^ f) w' hZf
          rw [show Z / 2 ^ f % 64 = sx bs m by rw [← HBW.out.2.1]; exact sx_early HB.out.1 (k + 1) m f (by rw [HB.out.2.1]; omega) (by omega) (by omega)] at HC
          have hs := sg_facts (sx bs m) (Nat.mod_lt _ (by decide))
          have HW := fun w' (hw' : w' = wr) => bRune w.heap.size (Lib.byteCells (encP bs m)) ((sg (sx bs m) : Nat) : Int) (by omega) (by omega) w' (by rw [hw']; exact hI) (by rw [Lib.byteCells_length, encP_length]; omega) (by rw [hw']; exact hsz)
          rw [← encP_cells] at HW
          obtain ⟨r, hr⟩ : ∃ r, sg (sx bs m) = r := ⟨_, rfl⟩
          rw [hr] at HC HW
          obtain ⟨q, hq⟩ : ∃ q, Z / 2 ^ f = q := ⟨_, rfl⟩
          have hZI : (Z : Int) / 2 ^ f = (q : Int) := by rw [← hq]; simp
          rw [hq] at HC
          have HF : Hid (e - 6 = f ∧ d + 6 * m = d + 6 * m ∧ e + 6 * m = 8 * (k + 1)) := ⟨hf, rfl, hem⟩
          have HBB : Hid (Below w.heap.size w wr) := hbw
          clear hr hs hem hf hbw hI hq hZf
          go_wp2_with (first
            | (go_at_call 15; refine (HC _).mono ?_; rintro e' w' ⟨rfl, rfl⟩)
            | (go_at_call 14; refine (HW _ rfl).mono ?_; rintro e' w2 ⟨rfl, hI2, hb2⟩))
          go_roundw
          case rel => exact ⟨f, m + 1, rfl, by have := HF.out; omega, by omega, hI2, HBB.out.trans (hb2.mono (by omega))⟩
          case measure => simp [intOf]; omega
        · have HE : Hid (8 * (k + 1) % 6 = e ∧ 8 * (k + 1) / 6 = m) := ⟨by omega, by omega⟩
          clear hem
          have h6' : (e : Int) < 6 := by omega
          go_wp2
          go_roundw
          case rel =>
            refine ⟨k + 1, by omega, by go_num, by rw [HBW.out.2.1], by rw [HE.out.1], ?_, hbw⟩
            rw [HE.out.2]; exact hI
          case measure => simp [intOf] <;> omega
    · obtain rfl : k = len := by omega
      have hbl : bs.take k = bs := List.take_of_length_le (by rw [HB.out.2.1]; omega)
      rw [hbl]
      obtain ⟨m, hm⟩ : ∃ m, 8 * k / 6 = m := ⟨_, rfl⟩
      obtain ⟨d, hd⟩ : ∃ d, 8 * k % 6 = d := ⟨_, rfl⟩
      obtain ⟨X, hX⟩ : ∃ X, be 256 bs % 4294967296 = X := ⟨_, rfl⟩
      rw [hd, hX]
      rw [hm] at hI
      have hsz := hbw.size
      have hXb : X < 4294967296 := by rw [← hX]; exact Nat.mod_lt _ (by decide)
      have HE : Hid (d + 6 * m = 8 * bs.length ∧ be 256 bs % 4294967296 = X ∧ n = (8 * bs.length + 5) / 6) := ⟨by rw [HB.out.2.1]; omega, hX, by rw [← HN.out, HB.out.2.1]⟩
      have hm5 : m ≤ 200000 := by omega
      have hd6 : d < 6 := by omega
      have HBW : Hid (Below w.heap.size w wr) := hbw
      clear hbw hm hd hX hbl h
      by_cases hd0 : d = 0
      · subst hd0
        have HS2 := fun w' (hw' : w' = wr) => bString w.heap.size (encP bs m) w' (by rw [hw']; exact hI) (by rw [hw']; exact hsz)
        rw [show encP bs m = encT bs by rw [← encP_full]; congr 1; have := HE.out; omega] at HS2
        clear hI
        go_wp2_with (go_at_call 16; refine (HS2 _ rfl).mono ?_; rintro e w3 ⟨rfl, hb3⟩)
        go_ret
        exact ⟨rfl, HBW.out.trans hb3⟩
      · obtain ⟨f, hf⟩ : ∃ f, 6 - d = f := ⟨_, rfl⟩
        have hfI : 6 - (d : Int) = (f : Int) := by omega
        have hf6 : f < 6 := by omega
        obtain ⟨q, hq⟩ : ∃ q, X * 2 ^ f % 4294967296 = q := ⟨_, rfl⟩
        have hq2 : q < 4294967296 := by rw [← hq]; exact Nat.mod_lt _ (by decide)
        have hqI : (X : Int) * 2 ^ f % 4294967296 = (q : Int) := by rw [← hq]; simp
        have HC := fun w' => signOf_any q w' hq2
        rw [show q % 64 = sx bs m by rw [← hq, ← HE.out.2.1, ← hf]; exact sx_last HB.out.1 m d HE.out.1 hd6] at HC
        have hs := sg_facts (sx bs m) (Nat.mod_lt _ (by decide))
        have HW := fun w' (hw' : w' = wr) => bRune w.heap.size (Lib.byteCells (encP bs m)) ((sg (sx bs m) : Nat) : Int) (by omega) (by omega) w' (by rw [hw']; exact hI) (by rw [Lib.byteCells_length, encP_length]; omega) (by rw [hw']; exact hsz)
        rw [← encP_cells, show encP bs (m + 1) = encT bs by rw [← encP_full]; congr 1; have := HE.out; omega] at HW
        obtain ⟨r, hr⟩ : ∃ r, sg (sx bs m) = r := ⟨_, rfl⟩
        rw [hr] at HC HW
        have hd0' : 0 < (d : Int) := by omega
        clear hr hs hI hq hf hd0 hg
        go_wp2_with (first
            | (go_at_call 15; refine (HC _).mono ?_; rintro e' w' ⟨rfl, rfl⟩)
            | (go_at_call 14; refine (HW _ rfl).mono ?_; rintro e' w2 ⟨rfl, hI2, hb2⟩)
            | (go_at_call 16; refine (bString w.heap.size (encT bs) w2 hI2 (Nat.le_trans hsz hb2.size)).mono ?_; rintro e w3 ⟨rfl, hb3⟩))
        go_ret
        exact ⟨rfl, (HBW.out.trans hb2).trans hb3⟩
end Go.Proofs.Ytbhjidmbihkppaa
