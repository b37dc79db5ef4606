/-
  CborNumbers.
-/
import Derived.Test.YtdknjjpbcmeclabDoorDC
import Derived.Test.YtdknjjpbcmeclabDoorDM
namespace Go.Proofs.YtdknjjpbcmeclabDoor
open Go.Shelf Go.RowKit
set_option linter.unusedVariables false
set_option linter.unusedSimpArgs false

theorem tabs_laidN {w : World} (h : laidMet Tryd.prog [("unicode/utf8.acceptRanges", Rows.laid_unicode_utf8_acceptRanges), ("unicode/utf8.first", Rows.laid_unicode_utf8_first)] w) : Tabs w :=
  Tabs.of_reads (by have := Lib.laidMet.reads h (.tail _ (.head _)); rwa [show Rows.laid_unicode_utf8_first = Lib.firstData from Pinned.utf8First_eq] at this) (by have := Lib.laidMet.reads h (.head _); rwa [show (Rows.laid_unicode_utf8_acceptRanges : DataW Unit) = Lib.acceptData by kernel_rfl] at this)
theorem bat_one (W : World) (x : UInt8) (v : Int) (h : (x.toNat : Int) = v) : BAt (W.alloc (.cells #[.int .u8 v] 5)) (some ⟨W.heap.size, 0, none⟩) 1 [x] := fun _ => ⟨W.heap.size, 0, rfl, fun i hi => by
  have : i = 0 := by omega
  subst this
  rw [Nat.zero_add, cell_of_row _ W.heap.size 0 _ _ _ (heap_alloc_new W _), ← h]
  rfl⟩
theorem beF_mod (s n : Nat) : beF s n = beF s (n % 256 ^ s) := by
  have := beF_add s (n / 256 ^ s) (n % 256 ^ s)
  rw [← this]
  congr 1
  rw [Nat.mul_comm]
  exact (Nat.div_add_mod n (256 ^ s)).symm
theorem grown_below {w wr w' : World} {base : Nat} {v : Value} {n : Nat} {xs : List Value} {o : Obj} (hb : Below w.heap.size w wr) (hown : wr.ownsRow base 5 1 v n xs) (hbase : w.heap.size ≤ base) (gr : (wr.alloc o).grownBy w' v.ownBlock) : Below w.heap.size w w' ∧ wr.heap.size ≤ w'.heap.size := by
  have b1 := hb.alloc hb.size o
  have hsz := alloc_sz wr o
  have h1 := gr.size
  have h2 := hb.size
  refine ⟨⟨gr.os.trans b1.os, gr.tape.trans b1.tape, gr.output.trans b1.output, by omega, fun k hk => (gr.block k (by omega) (fun e => by have := (owns_lt hown e.symm).1; omega)).trans (b1.block k hk)⟩, by omega⟩
theorem owns_push {w' : World} {base m : Nat} {v' : Value} {l : Bs} {x : UInt8} {l' : Bs} {m' : Nat} (h : w'.ownsRow base 5 1 v' (m + 1) (Lib.byteCells (l ++ [x]))) (hl : l ++ [x] = l') (hm : m + 1 = m') : w'.ownsRow base 5 1 v' m' (Lib.byteCells l') := by
  subst hl hm
  exact h

set_option maxRecDepth 100000 in
set_option maxHeartbeats 2000000 in
theorem cnum_00 (n x z : Nat) (hn : n < 18446744073709551616) (hx : x < 256) (hz : z < 256) (hq : x % 2 = 0) (hk : z % 4 = 0) (w : World) (hT : Tabs w) :
    Calls Tryd.prog 3 #[.int .u64 (n : Int), .int .u8 (x : Int), .int .u8 (z : Int)] w fun e w' => e = .returned (.bool true) ∧ Below w.heap.size w w' := by
  have hxq : (x : Int).tmod 2 = 0 := by rw [Int.tmod_eq_emod_of_nonneg (by omega)]; omega
  have hzk : (z : Int).tmod 4 = 0 := by rw [Int.tmod_eq_emod_of_nonneg (by omega)]; omega
  have hxq' : (x : Int) % 2 = 0 := by omega
  have hzk' : (z : Int) % 4 = 0 := by omega
  have hnI : (n : Int) < 18446744073709551616 := by omega
  have HA := CAwake_any w hT
  go_enter Tryd.func3, Tryd.ntmps3
  go_wp2_with (go_at_call 7; refine HA.mono ?_; rintro e w1 ⟨rfl, hb1⟩)
  have hor : bits .or .u8 0 24 = 24 := by decide
  try rw [hor]
  have hown0 : (w1.alloc (.cells #[.int .u8 24] 5)).ownsRow w1.heap.size 5 1 (.slice (some ⟨w1.heap.size, 0, none⟩) 1 1) 1 (Lib.byteCells [24]) := World.ownsRow_lit w1 #[.int .u8 24] 1 (Nat.le_refl _) (by decide) (by simp)
  have HB1 : Hid (Below w.heap.size w w1 ∧ Tabs w ∧ n < 18446744073709551616) := ⟨hb1, hT, hn⟩
  go_loopw [8, 9] (fun v8 v9 wr => ∃ j : Nat, j ≤ 1 ∧ v9 = .int .i64 ((j : Int) - 1) ∧ wr.ownsRow w1.heap.size 5 1 v8 (1 + (1 - j)) (Lib.byteCells (24 :: (beF 1 n).take (1 - j))) ∧ Below w.heap.size w wr ∧ w1.heap.size ≤ wr.heap.size) (fun _ v9 _ => (intOf v9 + 1).toNat)
  case atStart => exact ⟨1, by omega, rfl, hown0, hb1.alloc hb1.size _, by rw [alloc_sz]; omega⟩
  case round =>
    obtain ⟨j, hj, rfl, hown, hbr, hsz⟩ := hrel
    have hbase : w.heap.size ≤ w1.heap.size := hb1.size
    clear hown0 HA hT
    rcases (by omega : j = 0 ∨ j = 1) with rfl | rfl
    · have hown' : wr.ownsRow w1.heap.size 5 1 u8 (24 :: beF 1 n).length (Lib.byteCells (24 :: beF 1 n)) := hown
      obtain ⟨pb, cb, rfl, hv⟩ := own_byv hown'
      have hm : n % 256 < 256 ^ 2 ^ 0 := Nat.mod_lt _ (by decide)
      have hW := whole_num 0 0 (n % 256) (by decide) (by decide) hm
      have hbm := beF_mod 1 n
      rw [show (256 : Nat) ^ 1 = 256 from by decide] at hbm
      rw [show (2 : Nat) ^ 0 = 1 from rfl, ← hbm, show UInt8.ofNat (32 * 0 + 24 + 0) = 24 from rfl] at hW
      have HWh := Whole_any pb (24 :: beF 1 n).length cb (24 :: beF 1 n) wr rfl (hv.mono (fun k hk hlt => hlt)) (HB1.out.2.1.below hbr)
      rw [hW] at HWh
      have hlen : (24 :: beF 1 n).length = 2 := by rw [List.length_cons, beF_len]
      rw [hlen] at HWh ⊢
      obtain ⟨m, hmm⟩ : ∃ m, n % 256 = m := ⟨_, rfl⟩
      have hand : bits .and .u64 (n : Int) 255 = (m : Int) := by
        have h1 := u64_and_nat n 255 hn (by omega)
        rw [← hmm]
        refine h1.trans ?_
        congr 1
        exact Nat.and_two_pow_sub_one_eq_mod n 8
      rw [hmm] at HWh
      have hmI : (m : Int) < 256 := by omega
      have HBr : Hid (Below w.heap.size w wr) := hbr
      clear hW hbm hm hlen hown hown' hv hbr
      by_cases hs : m < leastC 0
      · have hs2 : m < 24 := hs
        have hsI : (m : Int) < 24 := by omega
        have hsd : decide ((m : Int) < 24) = true := by simpa using hsI
        rw [if_pos hs] at HWh
        go_wp2_with (go_at_call 8; refine HWh.mono ?_; intro e w3 hp; obtain ⟨hb3, _, _, rfl⟩ := hp.errx; clear hp)
        try (go_quiet (fail); go_wp2)
        go_ret
        exact ⟨rfl, by first | exact (HBr.out.trans (hb3.mono HBr.out.size)).alloc (Nat.le_trans HBr.out.size hb3.size) _ | exact below_drews ((HBr.out.trans (hb3.mono HBr.out.size)).alloc (Nat.le_trans HBr.out.size hb3.size) _) _⟩
      · have hs2 : ¬ m < 24 := hs
        have hsI : ¬ ((m : Int) < 24) := by omega
        have hsd : decide ((m : Int) < 24) = false := by simpa using hsI
        rw [if_neg hs] at HWh
        go_wp2_with (go_at_call 8; refine HWh.mono ?_; intro e w3 hp; obtain ⟨hb3, pp, cc, qq, cc', he, hi⟩ := hp.okx; have he' : e = .returned (.tuple #[.agg #[.int .u8 1, .int .u64 (m : Int), .slice pp 0 cc, .slice qq 0 cc'], .int .i64 0]) := he; subst he'; clear hp he)
        try (go_quiet (fail); go_wp2)
        go_ret
        exact ⟨rfl, by first | exact (HBr.out.trans (hb3.mono HBr.out.size)).alloc (Nat.le_trans HBr.out.size hb3.size) _ | exact below_drews ((HBr.out.trans (hb3.mono HBr.out.size)).alloc (Nat.le_trans HBr.out.size hb3.size) _) _⟩
    · have hx1 : ((UInt8.ofNat (n / 256 ^ 0 % 256)).toNat : Int) = (n : Int) % 256 := by
        have : (UInt8.ofNat (n / 256 ^ 0 % 256)).toNat = n / 1 % 256 := by simp
        rw [this]
        omega
      go_wp2_with (at_builtin; refine wpList_append_bat rfl (.tmp 34) (.tmp 40) rfl w1.heap.size u8 rfl _ _ rfl (hown.alloc _) ⟨wr.heap.size, 0, none⟩ 1 1 [UInt8.ofNat (n / 256 ^ 0 % 256)] rfl rfl (bat_one wr _ _ hx1) (by simp [beF]) (Nat.le_trans hsz (by rw [alloc_sz]; omega)) ?_; intro v1 w2 o1 gr1)
      obtain ⟨gb, gs⟩ := grown_below hbr hown hbase gr1
      exact ⟨⟨0, by omega, by rfl, owns_push o1 rfl (by rfl), gb, by omega⟩, by decide⟩
set_option maxRecDepth 100000 in
set_option maxHeartbeats 2000000 in
theorem cnum_01 (n x z : Nat) (hn : n < 18446744073709551616) (hx : x < 256) (hz : z < 256) (hq : x % 2 = 1) (hk : z % 4 = 0) (w : World) (hT : Tabs w) :
    Calls Tryd.prog 3 #[.int .u64 (n : Int), .int .u8 (x : Int), .int .u8 (z : Int)] w fun e w' => e = .returned (.bool true) ∧ Below w.heap.size w w' := by
  have hxq : (x : Int).tmod 2 = 1 := by rw [Int.tmod_eq_emod_of_nonneg (by omega)]; omega
  have hzk : (z : Int).tmod 4 = 0 := by rw [Int.tmod_eq_emod_of_nonneg (by omega)]; omega
  have hxq' : (x : Int) % 2 = 1 := by omega
  have hzk' : (z : Int) % 4 = 0 := by omega
  have hnI : (n : Int) < 18446744073709551616 := by omega
  have HA := CAwake_any w hT
  go_enter Tryd.func3, Tryd.ntmps3
  go_wp2_with (go_at_call 7; refine HA.mono ?_; rintro e w1 ⟨rfl, hb1⟩)
  have hor : bits .or .u8 32 24 = 56 := by decide
  try rw [hor]
  have hown0 : (w1.alloc (.cells #[.int .u8 56] 5)).ownsRow w1.heap.size 5 1 (.slice (some ⟨w1.heap.size, 0, none⟩) 1 1) 1 (Lib.byteCells [56]) := World.ownsRow_lit w1 #[.int .u8 56] 1 (Nat.le_refl _) (by decide) (by simp)
  have HB1 : Hid (Below w.heap.size w w1 ∧ Tabs w ∧ n < 18446744073709551616) := ⟨hb1, hT, hn⟩
  go_loopw [8, 9] (fun v8 v9 wr => ∃ j : Nat, j ≤ 1 ∧ v9 = .int .i64 ((j : Int) - 1) ∧ wr.ownsRow w1.heap.size 5 1 v8 (1 + (1 - j)) (Lib.byteCells (56 :: (beF 1 n).take (1 - j))) ∧ Below w.heap.size w wr ∧ w1.heap.size ≤ wr.heap.size) (fun _ v9 _ => (intOf v9 + 1).toNat)
  case atStart => exact ⟨1, by omega, rfl, hown0, hb1.alloc hb1.size _, by rw [alloc_sz]; omega⟩
  case round =>
    obtain ⟨j, hj, rfl, hown, hbr, hsz⟩ := hrel
    have hbase : w.heap.size ≤ w1.heap.size := hb1.size
    clear hown0 HA hT
    rcases (by omega : j = 0 ∨ j = 1) with rfl | rfl
    · have hown' : wr.ownsRow w1.heap.size 5 1 u8 (56 :: beF 1 n).length (Lib.byteCells (56 :: beF 1 n)) := hown
      obtain ⟨pb, cb, rfl, hv⟩ := own_byv hown'
      have hm : n % 256 < 256 ^ 2 ^ 0 := Nat.mod_lt _ (by decide)
      have hW := whole_num 1 0 (n % 256) (by decide) (by decide) hm
      have hbm := beF_mod 1 n
      rw [show (256 : Nat) ^ 1 = 256 from by decide] at hbm
      rw [show (2 : Nat) ^ 0 = 1 from rfl, ← hbm, show UInt8.ofNat (32 * 1 + 24 + 0) = 56 from rfl] at hW
      have HWh := Whole_any pb (56 :: beF 1 n).length cb (56 :: beF 1 n) wr rfl (hv.mono (fun k hk hlt => hlt)) (HB1.out.2.1.below hbr)
      rw [hW] at HWh
      have hlen : (56 :: beF 1 n).length = 2 := by rw [List.length_cons, beF_len]
      rw [hlen] at HWh ⊢
      obtain ⟨m, hmm⟩ : ∃ m, n % 256 = m := ⟨_, rfl⟩
      have hand : bits .and .u64 (n : Int) 255 = (m : Int) := by
        have h1 := u64_and_nat n 255 hn (by omega)
        rw [← hmm]
        refine h1.trans ?_
        congr 1
        exact Nat.and_two_pow_sub_one_eq_mod n 8
      rw [hmm] at HWh
      have hmI : (m : Int) < 256 := by omega
      have HBr : Hid (Below w.heap.size w wr) := hbr
      clear hW hbm hm hlen hown hown' hv hbr
      by_cases hs : m < leastC 0
      · have hs2 : m < 24 := hs
        have hsI : (m : Int) < 24 := by omega
        have hsd : decide ((m : Int) < 24) = true := by simpa using hsI
        rw [if_pos hs] at HWh
        go_wp2_with (go_at_call 8; refine HWh.mono ?_; intro e w3 hp; obtain ⟨hb3, _, _, rfl⟩ := hp.errx; clear hp)
        try (go_quiet (fail); go_wp2)
        go_ret
        exact ⟨rfl, by first | exact (HBr.out.trans (hb3.mono HBr.out.size)).alloc (Nat.le_trans HBr.out.size hb3.size) _ | exact below_drews ((HBr.out.trans (hb3.mono HBr.out.size)).alloc (Nat.le_trans HBr.out.size hb3.size) _) _⟩
      · have hs2 : ¬ m < 24 := hs
        have hsI : ¬ ((m : Int) < 24) := by omega
        have hsd : decide ((m : Int) < 24) = false := by simpa using hsI
        rw [if_neg hs] at HWh
        go_wp2_with (go_at_call 8; refine HWh.mono ?_; intro e w3 hp; obtain ⟨hb3, pp, cc, qq, cc', he, hi⟩ := hp.okx; have he' : e = .returned (.tuple #[.agg #[.int .u8 2, .int .u64 (m : Int), .slice pp 0 cc, .slice qq 0 cc'], .int .i64 0]) := he; subst he'; clear hp he)
        try (go_quiet (fail); go_wp2)
        go_ret
        exact ⟨rfl, by first | exact (HBr.out.trans (hb3.mono HBr.out.size)).alloc (Nat.le_trans HBr.out.size hb3.size) _ | exact below_drews ((HBr.out.trans (hb3.mono HBr.out.size)).alloc (Nat.le_trans HBr.out.size hb3.size) _) _⟩
    · have hx1 : ((UInt8.ofNat (n / 256 ^ 0 % 256)).toNat : Int) = (n : Int) % 256 := by
        have : (UInt8.ofNat (n / 256 ^ 0 % 256)).toNat = n / 1 % 256 := by simp
        rw [this]
        omega
      go_wp2_with (at_builtin; refine wpList_append_bat rfl (.tmp 34) (.tmp 40) rfl w1.heap.size u8 rfl _ _ rfl (hown.alloc _) ⟨wr.heap.size, 0, none⟩ 1 1 [UInt8.ofNat (n / 256 ^ 0 % 256)] rfl rfl (bat_one wr _ _ hx1) (by simp [beF]) (Nat.le_trans hsz (by rw [alloc_sz]; omega)) ?_; intro v1 w2 o1 gr1)
      obtain ⟨gb, gs⟩ := grown_below hbr hown hbase gr1
      exact ⟨⟨0, by omega, by rfl, owns_push o1 rfl (by rfl), gb, by omega⟩, by decide⟩
set_option maxRecDepth 100000 in
set_option maxHeartbeats 2000000 in
theorem cnum_10 (n x z : Nat) (hn : n < 18446744073709551616) (hx : x < 256) (hz : z < 256) (hq : x % 2 = 0) (hk : z % 4 = 1) (w : World) (hT : Tabs w) :
    Calls Tryd.prog 3 #[.int .u64 (n : Int), .int .u8 (x : Int), .int .u8 (z : Int)] w fun e w' => e = .returned (.bool true) ∧ Below w.heap.size w w' := by
  have hxq : (x : Int).tmod 2 = 0 := by rw [Int.tmod_eq_emod_of_nonneg (by omega)]; omega
  have hzk : (z : Int).tmod 4 = 1 := by rw [Int.tmod_eq_emod_of_nonneg (by omega)]; omega
  have hxq' : (x : Int) % 2 = 0 := by omega
  have hzk' : (z : Int) % 4 = 1 := by omega
  have hnI : (n : Int) < 18446744073709551616 := by omega
  have HA := CAwake_any w hT
  go_enter Tryd.func3, Tryd.ntmps3
  go_wp2_with (go_at_call 7; refine HA.mono ?_; rintro e w1 ⟨rfl, hb1⟩)
  have hor : bits .or .u8 0 25 = 25 := by decide
  try rw [hor]
  have hown0 : (w1.alloc (.cells #[.int .u8 25] 5)).ownsRow w1.heap.size 5 1 (.slice (some ⟨w1.heap.size, 0, none⟩) 1 1) 1 (Lib.byteCells [25]) := World.ownsRow_lit w1 #[.int .u8 25] 1 (Nat.le_refl _) (by decide) (by simp)
  have HB1 : Hid (Below w.heap.size w w1 ∧ Tabs w ∧ n < 18446744073709551616) := ⟨hb1, hT, hn⟩
  go_loopw [8, 9] (fun v8 v9 wr => ∃ j : Nat, j ≤ 2 ∧ v9 = .int .i64 ((j : Int) - 1) ∧ wr.ownsRow w1.heap.size 5 1 v8 (1 + (2 - j)) (Lib.byteCells (25 :: (beF 2 n).take (2 - j))) ∧ Below w.heap.size w wr ∧ w1.heap.size ≤ wr.heap.size) (fun _ v9 _ => (intOf v9 + 1).toNat)
  case atStart => exact ⟨2, by omega, rfl, hown0, hb1.alloc hb1.size _, by rw [alloc_sz]; omega⟩
  case round =>
    obtain ⟨j, hj, rfl, hown, hbr, hsz⟩ := hrel
    have hbase : w.heap.size ≤ w1.heap.size := hb1.size
    clear hown0 HA hT
    rcases (by omega : j = 0 ∨ j = 1 ∨ j = 2) with rfl | rfl | rfl
    · have hown' : wr.ownsRow w1.heap.size 5 1 u8 (25 :: beF 2 n).length (Lib.byteCells (25 :: beF 2 n)) := hown
      obtain ⟨pb, cb, rfl, hv⟩ := own_byv hown'
      have hm : n % 65536 < 256 ^ 2 ^ 1 := Nat.mod_lt _ (by decide)
      have hW := whole_num 0 1 (n % 65536) (by decide) (by decide) hm
      have hbm := beF_mod 2 n
      rw [show (256 : Nat) ^ 2 = 65536 from by decide] at hbm
      rw [show (2 : Nat) ^ 1 = 2 from rfl, ← hbm, show UInt8.ofNat (32 * 0 + 24 + 1) = 25 from rfl] at hW
      have HWh := Whole_any pb (25 :: beF 2 n).length cb (25 :: beF 2 n) wr rfl (hv.mono (fun k hk hlt => hlt)) (HB1.out.2.1.below hbr)
      rw [hW] at HWh
      have hlen : (25 :: beF 2 n).length = 3 := by rw [List.length_cons, beF_len]
      rw [hlen] at HWh ⊢
      obtain ⟨m, hmm⟩ : ∃ m, n % 65536 = m := ⟨_, rfl⟩
      have hand : bits .and .u64 (n : Int) 65535 = (m : Int) := by
        have h1 := u64_and_nat n 65535 hn (by omega)
        rw [← hmm]
        refine h1.trans ?_
        congr 1
        exact Nat.and_two_pow_sub_one_eq_mod n 16
      rw [hmm] at HWh
      have hmI : (m : Int) < 65536 := by omega
      have HBr : Hid (Below w.heap.size w wr) := hbr
      clear hW hbm hm hlen hown hown' hv hbr
      by_cases hs : m < leastC 1
      · have hs2 : m < 256 := hs
        have hsI : (m : Int) / 256 = 0 := by omega
        have hsb : ((m : Int) / 256 == 0) = true := by simp [hsI]
        rw [if_pos hs] at HWh
        go_wp2_with (go_at_call 8; refine HWh.mono ?_; intro e w3 hp; obtain ⟨hb3, _, _, rfl⟩ := hp.errx; clear hp)
        try (go_quiet (fail); go_wp2)
        go_ret
        exact ⟨rfl, by first | exact (HBr.out.trans (hb3.mono HBr.out.size)).alloc (Nat.le_trans HBr.out.size hb3.size) _ | exact below_drews ((HBr.out.trans (hb3.mono HBr.out.size)).alloc (Nat.le_trans HBr.out.size hb3.size) _) _⟩
      · have hs2 : ¬ m < 256 := hs
        have hsI : ¬ ((m : Int) / 256 = 0) := by omega
        have hsb : ((m : Int) / 256 == 0) = false := by simpa using hsI
        rw [if_neg hs] at HWh
        go_wp2_with (go_at_call 8; refine HWh.mono ?_; intro e w3 hp; obtain ⟨hb3, pp, cc, qq, cc', he, hi⟩ := hp.okx; have he' : e = .returned (.tuple #[.agg #[.int .u8 1, .int .u64 (m : Int), .slice pp 0 cc, .slice qq 0 cc'], .int .i64 0]) := he; subst he'; clear hp he)
        try (go_quiet (fail); go_wp2)
        go_ret
        exact ⟨rfl, by first | exact (HBr.out.trans (hb3.mono HBr.out.size)).alloc (Nat.le_trans HBr.out.size hb3.size) _ | exact below_drews ((HBr.out.trans (hb3.mono HBr.out.size)).alloc (Nat.le_trans HBr.out.size hb3.size) _) _⟩
    · have hx1 : ((UInt8.ofNat (n / 256 ^ 0 % 256)).toNat : Int) = (n : Int) % 256 := by
        have : (UInt8.ofNat (n / 256 ^ 0 % 256)).toNat = n / 1 % 256 := by simp
        rw [this]
        omega
      go_wp2_with (at_builtin; refine wpList_append_bat rfl (.tmp 34) (.tmp 40) rfl w1.heap.size u8 rfl _ _ rfl (hown.alloc _) ⟨wr.heap.size, 0, none⟩ 1 1 [UInt8.ofNat (n / 256 ^ 0 % 256)] rfl rfl (bat_one wr _ _ hx1) (by simp [beF]) (Nat.le_trans hsz (by rw [alloc_sz]; omega)) ?_; intro v1 w2 o1 gr1)
      obtain ⟨gb, gs⟩ := grown_below hbr hown hbase gr1
      exact ⟨⟨0, by omega, by rfl, owns_push o1 rfl (by rfl), gb, by omega⟩, by decide⟩
    · have hx1 : ((UInt8.ofNat (n / 256 ^ 1 % 256)).toNat : Int) = (n : Int) / 256 % 256 := by
        have : (UInt8.ofNat (n / 256 ^ 1 % 256)).toNat = n / 256 % 256 := by simp
        rw [this]
        omega
      go_wp2_with (at_builtin; refine wpList_append_bat rfl (.tmp 34) (.tmp 40) rfl w1.heap.size u8 rfl _ _ rfl (hown.alloc _) ⟨wr.heap.size, 0, none⟩ 1 1 [UInt8.ofNat (n / 256 ^ 1 % 256)] rfl rfl (bat_one wr _ _ hx1) (by simp [beF]) (Nat.le_trans hsz (by rw [alloc_sz]; omega)) ?_; intro v1 w2 o1 gr1)
      obtain ⟨gb, gs⟩ := grown_below hbr hown hbase gr1
      exact ⟨⟨1, by omega, by rfl, owns_push o1 rfl (by rfl), gb, by omega⟩, by decide⟩
set_option maxRecDepth 100000 in
set_option maxHeartbeats 2000000 in
theorem cnum_11 (n x z : Nat) (hn : n < 18446744073709551616) (hx : x < 256) (hz : z < 256) (hq : x % 2 = 1) (hk : z % 4 = 1) (w : World) (hT : Tabs w) :
    Calls Tryd.prog 3 #[.int .u64 (n : Int), .int .u8 (x : Int), .int .u8 (z : Int)] w fun e w' => e = .returned (.bool true) ∧ Below w.heap.size w w' := by
  have hxq : (x : Int).tmod 2 = 1 := by rw [Int.tmod_eq_emod_of_nonneg (by omega)]; omega
  have hzk : (z : Int).tmod 4 = 1 := by rw [Int.tmod_eq_emod_of_nonneg (by omega)]; omega
  have hxq' : (x : Int) % 2 = 1 := by omega
  have hzk' : (z : Int) % 4 = 1 := by omega
  have hnI : (n : Int) < 18446744073709551616 := by omega
  have HA := CAwake_any w hT
  go_enter Tryd.func3, Tryd.ntmps3
  go_wp2_with (go_at_call 7; refine HA.mono ?_; rintro e w1 ⟨rfl, hb1⟩)
  have hor : bits .or .u8 32 25 = 57 := by decide
  try rw [hor]
  have hown0 : (w1.alloc (.cells #[.int .u8 57] 5)).ownsRow w1.heap.size 5 1 (.slice (some ⟨w1.heap.size, 0, none⟩) 1 1) 1 (Lib.byteCells [57]) := World.ownsRow_lit w1 #[.int .u8 57] 1 (Nat.le_refl _) (by decide) (by simp)
  have HB1 : Hid (Below w.heap.size w w1 ∧ Tabs w ∧ n < 18446744073709551616) := ⟨hb1, hT, hn⟩
  go_loopw [8, 9] (fun v8 v9 wr => ∃ j : Nat, j ≤ 2 ∧ v9 = .int .i64 ((j : Int) - 1) ∧ wr.ownsRow w1.heap.size 5 1 v8 (1 + (2 - j)) (Lib.byteCells (57 :: (beF 2 n).take (2 - j))) ∧ Below w.heap.size w wr ∧ w1.heap.size ≤ wr.heap.size) (fun _ v9 _ => (intOf v9 + 1).toNat)
  case atStart => exact ⟨2, by omega, rfl, hown0, hb1.alloc hb1.size _, by rw [alloc_sz]; omega⟩
  case round =>
    obtain ⟨j, hj, rfl, hown, hbr, hsz⟩ := hrel
    have hbase : w.heap.size ≤ w1.heap.size := hb1.size
    clear hown0 HA hT
    rcases (by omega : j = 0 ∨ j = 1 ∨ j = 2) with rfl | rfl | rfl
    · have hown' : wr.ownsRow w1.heap.size 5 1 u8 (57 :: beF 2 n).length (Lib.byteCells (57 :: beF 2 n)) := hown
      obtain ⟨pb, cb, rfl, hv⟩ := own_byv hown'
      have hm : n % 65536 < 256 ^ 2 ^ 1 := Nat.mod_lt _ (by decide)
      have hW := whole_num 1 1 (n % 65536) (by decide) (by decide) hm
      have hbm := beF_mod 2 n
      rw [show (256 : Nat) ^ 2 = 65536 from by decide] at hbm
      rw [show (2 : Nat) ^ 1 = 2 from rfl, ← hbm, show UInt8.ofNat (32 * 1 + 24 + 1) = 57 from rfl] at hW
      have HWh := Whole_any pb (57 :: beF 2 n).length cb (57 :: beF 2 n) wr rfl (hv.mono (fun k hk hlt => hlt)) (HB1.out.2.1.below hbr)
      rw [hW] at HWh
      have hlen : (57 :: beF 2 n).length = 3 := by rw [List.length_cons, beF_len]
      rw [hlen] at HWh ⊢
      obtain ⟨m, hmm⟩ : ∃ m, n % 65536 = m := ⟨_, rfl⟩
      have hand : bits .and .u64 (n : Int) 65535 = (m : Int) := by
        have h1 := u64_and_nat n 65535 hn (by omega)
        rw [← hmm]
        refine h1.trans ?_
        congr 1
        exact Nat.and_two_pow_sub_one_eq_mod n 16
      rw [hmm] at HWh
      have hmI : (m : Int) < 65536 := by omega
      have HBr : Hid (Below w.heap.size w wr) := hbr
      clear hW hbm hm hlen hown hown' hv hbr
      by_cases hs : m < leastC 1
      · have hs2 : m < 256 := hs
        have hsI : (m : Int) / 256 = 0 := by omega
        have hsb : ((m : Int) / 256 == 0) = true := by simp [hsI]
        rw [if_pos hs] at HWh
        go_wp2_with (go_at_call 8; refine HWh.mono ?_; intro e w3 hp; obtain ⟨hb3, _, _, rfl⟩ := hp.errx; clear hp)
        try (go_quiet (fail); go_wp2)
        go_ret
        exact ⟨rfl, by first | exact (HBr.out.trans (hb3.mono HBr.out.size)).alloc (Nat.le_trans HBr.out.size hb3.size) _ | exact below_drews ((HBr.out.trans (hb3.mono HBr.out.size)).alloc (Nat.le_trans HBr.out.size hb3.size) _) _⟩
      · have hs2 : ¬ m < 256 := hs
        have hsI : ¬ ((m : Int) / 256 = 0) := by omega
        have hsb : ((m : Int) / 256 == 0) = false := by simpa using hsI
        rw [if_neg hs] at HWh
        go_wp2_with (go_at_call 8; refine HWh.mono ?_; intro e w3 hp; obtain ⟨hb3, pp, cc, qq, cc', he, hi⟩ := hp.okx; have he' : e = .returned (.tuple #[.agg #[.int .u8 2, .int .u64 (m : Int), .slice pp 0 cc, .slice qq 0 cc'], .int .i64 0]) := he; subst he'; clear hp he)
        try (go_quiet (fail); go_wp2)
        go_ret
        exact ⟨rfl, by first | exact (HBr.out.trans (hb3.mono HBr.out.size)).alloc (Nat.le_trans HBr.out.size hb3.size) _ | exact below_drews ((HBr.out.trans (hb3.mono HBr.out.size)).alloc (Nat.le_trans HBr.out.size hb3.size) _) _⟩
    · have hx1 : ((UInt8.ofNat (n / 256 ^ 0 % 256)).toNat : Int) = (n : Int) % 256 := by
        have : (UInt8.ofNat (n / 256 ^ 0 % 256)).toNat = n / 1 % 256 := by simp
        rw [this]
        omega
      go_wp2_with (at_builtin; refine wpList_append_bat rfl (.tmp 34) (.tmp 40) rfl w1.heap.size u8 rfl _ _ rfl (hown.alloc _) ⟨wr.heap.size, 0, none⟩ 1 1 [UInt8.ofNat (n / 256 ^ 0 % 256)] rfl rfl (bat_one wr _ _ hx1) (by simp [beF]) (Nat.le_trans hsz (by rw [alloc_sz]; omega)) ?_; intro v1 w2 o1 gr1)
      obtain ⟨gb, gs⟩ := grown_below hbr hown hbase gr1
      exact ⟨⟨0, by omega, by rfl, owns_push o1 rfl (by rfl), gb, by omega⟩, by decide⟩
    · have hx1 : ((UInt8.ofNat (n / 256 ^ 1 % 256)).toNat : Int) = (n : Int) / 256 % 256 := by
        have : (UInt8.ofNat (n / 256 ^ 1 % 256)).toNat = n / 256 % 256 := by simp
        rw [this]
        omega
      go_wp2_with (at_builtin; refine wpList_append_bat rfl (.tmp 34) (.tmp 40) rfl w1.heap.size u8 rfl _ _ rfl (hown.alloc _) ⟨wr.heap.size, 0, none⟩ 1 1 [UInt8.ofNat (n / 256 ^ 1 % 256)] rfl rfl (bat_one wr _ _ hx1) (by simp [beF]) (Nat.le_trans hsz (by rw [alloc_sz]; omega)) ?_; intro v1 w2 o1 gr1)
      obtain ⟨gb, gs⟩ := grown_below hbr hown hbase gr1
      exact ⟨⟨1, by omega, by rfl, owns_push o1 rfl (by rfl), gb, by omega⟩, by decide⟩
set_option maxRecDepth 100000 in
set_option maxHeartbeats 2000000 in
theorem cnum_20 (n x z : Nat) (hn : n < 18446744073709551616) (hx : x < 256) (hz : z < 256) (hq : x % 2 = 0) (hk : z % 4 = 2) (w : World) (hT : Tabs w) :
    Calls Tryd.prog 3 #[.int .u64 (n : Int), .int .u8 (x : Int), .int .u8 (z : Int)] w fun e w' => e = .returned (.bool true) ∧ Below w.heap.size w w' := by
  have hxq : (x : Int).tmod 2 = 0 := by rw [Int.tmod_eq_emod_of_nonneg (by omega)]; omega
  have hzk : (z : Int).tmod 4 = 2 := by rw [Int.tmod_eq_emod_of_nonneg (by omega)]; omega
  have hxq' : (x : Int) % 2 = 0 := by omega
  have hzk' : (z : Int) % 4 = 2 := by omega
  have hnI : (n : Int) < 18446744073709551616 := by omega
  have HA := CAwake_any w hT
  go_enter Tryd.func3, Tryd.ntmps3
  go_wp2_with (go_at_call 7; refine HA.mono ?_; rintro e w1 ⟨rfl, hb1⟩)
  have hor : bits .or .u8 0 26 = 26 := by decide
  try rw [hor]
  have hown0 : (w1.alloc (.cells #[.int .u8 26] 5)).ownsRow w1.heap.size 5 1 (.slice (some ⟨w1.heap.size, 0, none⟩) 1 1) 1 (Lib.byteCells [26]) := World.ownsRow_lit w1 #[.int .u8 26] 1 (Nat.le_refl _) (by decide) (by simp)
  have HB1 : Hid (Below w.heap.size w w1 ∧ Tabs w ∧ n < 18446744073709551616) := ⟨hb1, hT, hn⟩
  go_loopw [8, 9] (fun v8 v9 wr => ∃ j : Nat, j ≤ 4 ∧ v9 = .int .i64 ((j : Int) - 1) ∧ wr.ownsRow w1.heap.size 5 1 v8 (1 + (4 - j)) (Lib.byteCells (26 :: (beF 4 n).take (4 - j))) ∧ Below w.heap.size w wr ∧ w1.heap.size ≤ wr.heap.size) (fun _ v9 _ => (intOf v9 + 1).toNat)
  case atStart => exact ⟨4, by omega, rfl, hown0, hb1.alloc hb1.size _, by rw [alloc_sz]; omega⟩
  case round =>
    obtain ⟨j, hj, rfl, hown, hbr, hsz⟩ := hrel
    have hbase : w.heap.size ≤ w1.heap.size := hb1.size
    clear hown0 HA hT
    rcases (by omega : j = 0 ∨ j = 1 ∨ j = 2 ∨ j = 3 ∨ j = 4) with rfl | rfl | rfl | rfl | rfl
    · have hown' : wr.ownsRow w1.heap.size 5 1 u8 (26 :: beF 4 n).length (Lib.byteCells (26 :: beF 4 n)) := hown
      obtain ⟨pb, cb, rfl, hv⟩ := own_byv hown'
      have hm : n % 4294967296 < 256 ^ 2 ^ 2 := Nat.mod_lt _ (by decide)
      have hW := whole_num 0 2 (n % 4294967296) (by decide) (by decide) hm
      have hbm := beF_mod 4 n
      rw [show (256 : Nat) ^ 4 = 4294967296 from by decide] at hbm
      rw [show (2 : Nat) ^ 2 = 4 from rfl, ← hbm, show UInt8.ofNat (32 * 0 + 24 + 2) = 26 from rfl] at hW
      have HWh := Whole_any pb (26 :: beF 4 n).length cb (26 :: beF 4 n) wr rfl (hv.mono (fun k hk hlt => hlt)) (HB1.out.2.1.below hbr)
      rw [hW] at HWh
      have hlen : (26 :: beF 4 n).length = 5 := by rw [List.length_cons, beF_len]
      rw [hlen] at HWh ⊢
      obtain ⟨m, hmm⟩ : ∃ m, n % 4294967296 = m := ⟨_, rfl⟩
      have hand : bits .and .u64 (n : Int) 4294967295 = (m : Int) := by
        have h1 := u64_and_nat n 4294967295 hn (by omega)
        rw [← hmm]
        refine h1.trans ?_
        congr 1
        exact Nat.and_two_pow_sub_one_eq_mod n 32
      rw [hmm] at HWh
      have hmI : (m : Int) < 4294967296 := by omega
      have HBr : Hid (Below w.heap.size w wr) := hbr
      clear hW hbm hm hlen hown hown' hv hbr
      by_cases hs : m < leastC 2
      · have hs2 : m < 65536 := hs
        have hsI : (m : Int) / 65536 = 0 := by omega
        have hsb : ((m : Int) / 65536 == 0) = true := by simp [hsI]
        rw [if_pos hs] at HWh
        go_wp2_with (go_at_call 8; refine HWh.mono ?_; intro e w3 hp; obtain ⟨hb3, _, _, rfl⟩ := hp.errx; clear hp)
        try (go_quiet (fail); go_wp2)
        go_ret
        exact ⟨rfl, by first | exact (HBr.out.trans (hb3.mono HBr.out.size)).alloc (Nat.le_trans HBr.out.size hb3.size) _ | exact below_drews ((HBr.out.trans (hb3.mono HBr.out.size)).alloc (Nat.le_trans HBr.out.size hb3.size) _) _⟩
      · have hs2 : ¬ m < 65536 := hs
        have hsI : ¬ ((m : Int) / 65536 = 0) := by omega
        have hsb : ((m : Int) / 65536 == 0) = false := by simpa using hsI
        rw [if_neg hs] at HWh
        go_wp2_with (go_at_call 8; refine HWh.mono ?_; intro e w3 hp; obtain ⟨hb3, pp, cc, qq, cc', he, hi⟩ := hp.okx; have he' : e = .returned (.tuple #[.agg #[.int .u8 1, .int .u64 (m : Int), .slice pp 0 cc, .slice qq 0 cc'], .int .i64 0]) := he; subst he'; clear hp he)
        try (go_quiet (fail); go_wp2)
        go_ret
        exact ⟨rfl, by first | exact (HBr.out.trans (hb3.mono HBr.out.size)).alloc (Nat.le_trans HBr.out.size hb3.size) _ | exact below_drews ((HBr.out.trans (hb3.mono HBr.out.size)).alloc (Nat.le_trans HBr.out.size hb3.size) _) _⟩
    · have hx1 : ((UInt8.ofNat (n / 256 ^ 0 % 256)).toNat : Int) = (n : Int) % 256 := by
        have : (UInt8.ofNat (n / 256 ^ 0 % 256)).toNat = n / 1 % 256 := by simp
        rw [this]
        omega
      go_wp2_with (at_builtin; refine wpList_append_bat rfl (.tmp 34) (.tmp 40) rfl w1.heap.size u8 rfl _ _ rfl (hown.alloc _) ⟨wr.heap.size, 0, none⟩ 1 1 [UInt8.ofNat (n / 256 ^ 0 % 256)] rfl rfl (bat_one wr _ _ hx1) (by simp [beF]) (Nat.le_trans hsz (by rw [alloc_sz]; omega)) ?_; intro v1 w2 o1 gr1)
      obtain ⟨gb, gs⟩ := grown_below hbr hown hbase gr1
      exact ⟨⟨0, by omega, by rfl, owns_push o1 rfl (by rfl), gb, by omega⟩, by decide⟩
    · have hx1 : ((UInt8.ofNat (n / 256 ^ 1 % 256)).toNat : Int) = (n : Int) / 256 % 256 := by
        have : (UInt8.ofNat (n / 256 ^ 1 % 256)).toNat = n / 256 % 256 := by simp
        rw [this]
        omega
      go_wp2_with (at_builtin; refine wpList_append_bat rfl (.tmp 34) (.tmp 40) rfl w1.heap.size u8 rfl _ _ rfl (hown.alloc _) ⟨wr.heap.size, 0, none⟩ 1 1 [UInt8.ofNat (n / 256 ^ 1 % 256)] rfl rfl (bat_one wr _ _ hx1) (by simp [beF]) (Nat.le_trans hsz (by rw [alloc_sz]; omega)) ?_; intro v1 w2 o1 gr1)
      obtain ⟨gb, gs⟩ := grown_below hbr hown hbase gr1
      exact ⟨⟨1, by omega, by rfl, owns_push o1 rfl (by rfl), gb, by omega⟩, by decide⟩
    · have hx1 : ((UInt8.ofNat (n / 256 ^ 2 % 256)).toNat : Int) = (n : Int) / 65536 % 256 := by
        have : (UInt8.ofNat (n / 256 ^ 2 % 256)).toNat = n / 65536 % 256 := by simp
        rw [this]
        omega
      go_wp2_with (at_builtin; refine wpList_append_bat rfl (.tmp 34) (.tmp 40) rfl w1.heap.size u8 rfl _ _ rfl (hown.alloc _) ⟨wr.heap.size, 0, none⟩ 1 1 [UInt8.ofNat (n / 256 ^ 2 % 256)] rfl rfl (bat_one wr _ _ hx1) (by simp [beF]) (Nat.le_trans hsz (by rw [alloc_sz]; omega)) ?_; intro v1 w2 o1 gr1)
      obtain ⟨gb, gs⟩ := grown_below hbr hown hbase gr1
      exact ⟨⟨2, by omega, by rfl, owns_push o1 rfl (by rfl), gb, by omega⟩, by decide⟩
    · have hx1 : ((UInt8.ofNat (n / 256 ^ 3 % 256)).toNat : Int) = (n : Int) / 16777216 % 256 := by
        have : (UInt8.ofNat (n / 256 ^ 3 % 256)).toNat = n / 16777216 % 256 := by simp
        rw [this]
        omega
      go_wp2_with (at_builtin; refine wpList_append_bat rfl (.tmp 34) (.tmp 40) rfl w1.heap.size u8 rfl _ _ rfl (hown.alloc _) ⟨wr.heap.size, 0, none⟩ 1 1 [UInt8.ofNat (n / 256 ^ 3 % 256)] rfl rfl (bat_one wr _ _ hx1) (by simp [beF]) (Nat.le_trans hsz (by rw [alloc_sz]; omega)) ?_; intro v1 w2 o1 gr1)
      obtain ⟨gb, gs⟩ := grown_below hbr hown hbase gr1
      exact ⟨⟨3, by omega, by rfl, owns_push o1 rfl (by rfl), gb, by omega⟩, by decide⟩
set_option maxRecDepth 100000 in
set_option maxHeartbeats 2000000 in
theorem cnum_21 (n x z : Nat) (hn : n < 18446744073709551616) (hx : x < 256) (hz : z < 256) (hq : x % 2 = 1) (hk : z % 4 = 2) (w : World) (hT : Tabs w) :
    Calls Tryd.prog 3 #[.int .u64 (n : Int), .int .u8 (x : Int), .int .u8 (z : Int)] w fun e w' => e = .returned (.bool true) ∧ Below w.heap.size w w' := by
  have hxq : (x : Int).tmod 2 = 1 := by rw [Int.tmod_eq_emod_of_nonneg (by omega)]; omega
  have hzk : (z : Int).tmod 4 = 2 := by rw [Int.tmod_eq_emod_of_nonneg (by omega)]; omega
  have hxq' : (x : Int) % 2 = 1 := by omega
  have hzk' : (z : Int) % 4 = 2 := by omega
  have hnI : (n : Int) < 18446744073709551616 := by omega
  have HA := CAwake_any w hT
  go_enter Tryd.func3, Tryd.ntmps3
  go_wp2_with (go_at_call 7; refine HA.mono ?_; rintro e w1 ⟨rfl, hb1⟩)
  have hor : bits .or .u8 32 26 = 58 := by decide
  try rw [hor]
  have hown0 : (w1.alloc (.cells #[.int .u8 58] 5)).ownsRow w1.heap.size 5 1 (.slice (some ⟨w1.heap.size, 0, none⟩) 1 1) 1 (Lib.byteCells [58]) := World.ownsRow_lit w1 #[.int .u8 58] 1 (Nat.le_refl _) (by decide) (by simp)
  have HB1 : Hid (Below w.heap.size w w1 ∧ Tabs w ∧ n < 18446744073709551616) := ⟨hb1, hT, hn⟩
  go_loopw [8, 9] (fun v8 v9 wr => ∃ j : Nat, j ≤ 4 ∧ v9 = .int .i64 ((j : Int) - 1) ∧ wr.ownsRow w1.heap.size 5 1 v8 (1 + (4 - j)) (Lib.byteCells (58 :: (beF 4 n).take (4 - j))) ∧ Below w.heap.size w wr ∧ w1.heap.size ≤ wr.heap.size) (fun _ v9 _ => (intOf v9 + 1).toNat)
  case atStart => exact ⟨4, by omega, rfl, hown0, hb1.alloc hb1.size _, by rw [alloc_sz]; omega⟩
  case round =>
    obtain ⟨j, hj, rfl, hown, hbr, hsz⟩ := hrel
    have hbase : w.heap.size ≤ w1.heap.size := hb1.size
    clear hown0 HA hT
    rcases (by omega : j = 0 ∨ j = 1 ∨ j = 2 ∨ j = 3 ∨ j = 4) with rfl | rfl | rfl | rfl | rfl
    · have hown' : wr.ownsRow w1.heap.size 5 1 u8 (58 :: beF 4 n).length (Lib.byteCells (58 :: beF 4 n)) := hown
      obtain ⟨pb, cb, rfl, hv⟩ := own_byv hown'
      have hm : n % 4294967296 < 256 ^ 2 ^ 2 := Nat.mod_lt _ (by decide)
      have hW := whole_num 1 2 (n % 4294967296) (by decide) (by decide) hm
      have hbm := beF_mod 4 n
      rw [show (256 : Nat) ^ 4 = 4294967296 from by decide] at hbm
      rw [show (2 : Nat) ^ 2 = 4 from rfl, ← hbm, show UInt8.ofNat (32 * 1 + 24 + 2) = 58 from rfl] at hW
      have HWh := Whole_any pb (58 :: beF 4 n).length cb (58 :: beF 4 n) wr rfl (hv.mono (fun k hk hlt => hlt)) (HB1.out.2.1.below hbr)
      rw [hW] at HWh
      have hlen : (58 :: beF 4 n).length = 5 := by rw [List.length_cons, beF_len]
      rw [hlen] at HWh ⊢
      obtain ⟨m, hmm⟩ : ∃ m, n % 4294967296 = m := ⟨_, rfl⟩
      have hand : bits .and .u64 (n : Int) 4294967295 = (m : Int) := by
        have h1 := u64_and_nat n 4294967295 hn (by omega)
        rw [← hmm]
        refine h1.trans ?_
        congr 1
        exact Nat.and_two_pow_sub_one_eq_mod n 32
      rw [hmm] at HWh
      have hmI : (m : Int) < 4294967296 := by omega
      have HBr : Hid (Below w.heap.size w wr) := hbr
      clear hW hbm hm hlen hown hown' hv hbr
      by_cases hs : m < leastC 2
      · have hs2 : m < 65536 := hs
        have hsI : (m : Int) / 65536 = 0 := by omega
        have hsb : ((m : Int) / 65536 == 0) = true := by simp [hsI]
        rw [if_pos hs] at HWh
        go_wp2_with (go_at_call 8; refine HWh.mono ?_; intro e w3 hp; obtain ⟨hb3, _, _, rfl⟩ := hp.errx; clear hp)
        try (go_quiet (fail); go_wp2)
        go_ret
        exact ⟨rfl, by first | exact (HBr.out.trans (hb3.mono HBr.out.size)).alloc (Nat.le_trans HBr.out.size hb3.size) _ | exact below_drews ((HBr.out.trans (hb3.mono HBr.out.size)).alloc (Nat.le_trans HBr.out.size hb3.size) _) _⟩
      · have hs2 : ¬ m < 65536 := hs
        have hsI : ¬ ((m : Int) / 65536 = 0) := by omega
        have hsb : ((m : Int) / 65536 == 0) = false := by simpa using hsI
        rw [if_neg hs] at HWh
        go_wp2_with (go_at_call 8; refine HWh.mono ?_; intro e w3 hp; obtain ⟨hb3, pp, cc, qq, cc', he, hi⟩ := hp.okx; have he' : e = .returned (.tuple #[.agg #[.int .u8 2, .int .u64 (m : Int), .slice pp 0 cc, .slice qq 0 cc'], .int .i64 0]) := he; subst he'; clear hp he)
        try (go_quiet (fail); go_wp2)
        go_ret
        exact ⟨rfl, by first | exact (HBr.out.trans (hb3.mono HBr.out.size)).alloc (Nat.le_trans HBr.out.size hb3.size) _ | exact below_drews ((HBr.out.trans (hb3.mono HBr.out.size)).alloc (Nat.le_trans HBr.out.size hb3.size) _) _⟩
    · have hx1 : ((UInt8.ofNat (n / 256 ^ 0 % 256)).toNat : Int) = (n : Int) % 256 := by
        have : (UInt8.ofNat (n / 256 ^ 0 % 256)).toNat = n / 1 % 256 := by simp
        rw [this]
        omega
      go_wp2_with (at_builtin; refine wpList_append_bat rfl (.tmp 34) (.tmp 40) rfl w1.heap.size u8 rfl _ _ rfl (hown.alloc _) ⟨wr.heap.size, 0, none⟩ 1 1 [UInt8.ofNat (n / 256 ^ 0 % 256)] rfl rfl (bat_one wr _ _ hx1) (by simp [beF]) (Nat.le_trans hsz (by rw [alloc_sz]; omega)) ?_; intro v1 w2 o1 gr1)
      obtain ⟨gb, gs⟩ := grown_below hbr hown hbase gr1
      exact ⟨⟨0, by omega, by rfl, owns_push o1 rfl (by rfl), gb, by omega⟩, by decide⟩
    · have hx1 : ((UInt8.ofNat (n / 256 ^ 1 % 256)).toNat : Int) = (n : Int) / 256 % 256 := by
        have : (UInt8.ofNat (n / 256 ^ 1 % 256)).toNat = n / 256 % 256 := by simp
        rw [this]
        omega
      go_wp2_with (at_builtin; refine wpList_append_bat rfl (.tmp 34) (.tmp 40) rfl w1.heap.size u8 rfl _ _ rfl (hown.alloc _) ⟨wr.heap.size, 0, none⟩ 1 1 [UInt8.ofNat (n / 256 ^ 1 % 256)] rfl rfl (bat_one wr _ _ hx1) (by simp [beF]) (Nat.le_trans hsz (by rw [alloc_sz]; omega)) ?_; intro v1 w2 o1 gr1)
      obtain ⟨gb, gs⟩ := grown_below hbr hown hbase gr1
      exact ⟨⟨1, by omega, by rfl, owns_push o1 rfl (by rfl), gb, by omega⟩, by decide⟩
    · have hx1 : ((UInt8.ofNat (n / 256 ^ 2 % 256)).toNat : Int) = (n : Int) / 65536 % 256 := by
        have : (UInt8.ofNat (n / 256 ^ 2 % 256)).toNat = n / 65536 % 256 := by simp
        rw [this]
        omega
      go_wp2_with (at_builtin; refine wpList_append_bat rfl (.tmp 34) (.tmp 40) rfl w1.heap.size u8 rfl _ _ rfl (hown.alloc _) ⟨wr.heap.size, 0, none⟩ 1 1 [UInt8.ofNat (n / 256 ^ 2 % 256)] rfl rfl (bat_one wr _ _ hx1) (by simp [beF]) (Nat.le_trans hsz (by rw [alloc_sz]; omega)) ?_; intro v1 w2 o1 gr1)
      obtain ⟨gb, gs⟩ := grown_below hbr hown hbase gr1
      exact ⟨⟨2, by omega, by rfl, owns_push o1 rfl (by rfl), gb, by omega⟩, by decide⟩
    · have hx1 : ((UInt8.ofNat (n / 256 ^ 3 % 256)).toNat : Int) = (n : Int) / 16777216 % 256 := by
        have : (UInt8.ofNat (n / 256 ^ 3 % 256)).toNat = n / 16777216 % 256 := by simp
        rw [this]
        omega
      go_wp2_with (at_builtin; refine wpList_append_bat rfl (.tmp 34) (.tmp 40) rfl w1.heap.size u8 rfl _ _ rfl (hown.alloc _) ⟨wr.heap.size, 0, none⟩ 1 1 [UInt8.ofNat (n / 256 ^ 3 % 256)] rfl rfl (bat_one wr _ _ hx1) (by simp [beF]) (Nat.le_trans hsz (by rw [alloc_sz]; omega)) ?_; intro v1 w2 o1 gr1)
      obtain ⟨gb, gs⟩ := grown_below hbr hown hbase gr1
      exact ⟨⟨3, by omega, by rfl, owns_push o1 rfl (by rfl), gb, by omega⟩, by decide⟩
set_option maxRecDepth 100000 in
set_option maxHeartbeats 2000000 in
theorem cnum_30 (n x z : Nat) (hn : n < 18446744073709551616) (hx : x < 256) (hz : z < 256) (hq : x % 2 = 0) (hk : z % 4 = 3) (w : World) (hT : Tabs w) :
    Calls Tryd.prog 3 #[.int .u64 (n : Int), .int .u8 (x : Int), .int .u8 (z : Int)] w fun e w' => e = .returned (.bool true) ∧ Below w.heap.size w w' := by
  have hxq : (x : Int).tmod 2 = 0 := by rw [Int.tmod_eq_emod_of_nonneg (by omega)]; omega
  have hzk : (z : Int).tmod 4 = 3 := by rw [Int.tmod_eq_emod_of_nonneg (by omega)]; omega
  have hxq' : (x : Int) % 2 = 0 := by omega
  have hzk' : (z : Int) % 4 = 3 := by omega
  have hnI : (n : Int) < 18446744073709551616 := by omega
  have HA := CAwake_any w hT
  go_enter Tryd.func3, Tryd.ntmps3
  go_wp2_with (go_at_call 7; refine HA.mono ?_; rintro e w1 ⟨rfl, hb1⟩)
  have hor : bits .or .u8 0 27 = 27 := by decide
  try rw [hor]
  have hown0 : (w1.alloc (.cells #[.int .u8 27] 5)).ownsRow w1.heap.size 5 1 (.slice (some ⟨w1.heap.size, 0, none⟩) 1 1) 1 (Lib.byteCells [27]) := World.ownsRow_lit w1 #[.int .u8 27] 1 (Nat.le_refl _) (by decide) (by simp)
  have HB1 : Hid (Below w.heap.size w w1 ∧ Tabs w ∧ n < 18446744073709551616) := ⟨hb1, hT, hn⟩
  go_loopw [8, 9] (fun v8 v9 wr => ∃ j : Nat, j ≤ 8 ∧ v9 = .int .i64 ((j : Int) - 1) ∧ wr.ownsRow w1.heap.size 5 1 v8 (1 + (8 - j)) (Lib.byteCells (27 :: (beF 8 n).take (8 - j))) ∧ Below w.heap.size w wr ∧ w1.heap.size ≤ wr.heap.size) (fun _ v9 _ => (intOf v9 + 1).toNat)
  case atStart => exact ⟨8, by omega, rfl, hown0, hb1.alloc hb1.size _, by rw [alloc_sz]; omega⟩
  case round =>
    obtain ⟨j, hj, rfl, hown, hbr, hsz⟩ := hrel
    have hbase : w.heap.size ≤ w1.heap.size := hb1.size
    clear hown0 HA hT
    rcases (by omega : j = 0 ∨ j = 1 ∨ j = 2 ∨ j = 3 ∨ j = 4 ∨ j = 5 ∨ j = 6 ∨ j = 7 ∨ j = 8) with rfl | rfl | rfl | rfl | rfl | rfl | rfl | rfl | rfl
    · have hown' : wr.ownsRow w1.heap.size 5 1 u8 (27 :: beF 8 n).length (Lib.byteCells (27 :: beF 8 n)) := hown
      obtain ⟨pb, cb, rfl, hv⟩ := own_byv hown'
      have hm : n % 18446744073709551616 < 256 ^ 2 ^ 3 := Nat.mod_lt _ (by decide)
      have hW := whole_num 0 3 (n % 18446744073709551616) (by decide) (by decide) hm
      have hbm := beF_mod 8 n
      rw [show (256 : Nat) ^ 8 = 18446744073709551616 from by decide] at hbm
      rw [show (2 : Nat) ^ 3 = 8 from rfl, ← hbm, show UInt8.ofNat (32 * 0 + 24 + 3) = 27 from rfl] at hW
      have HWh := Whole_any pb (27 :: beF 8 n).length cb (27 :: beF 8 n) wr rfl (hv.mono (fun k hk hlt => hlt)) (HB1.out.2.1.below hbr)
      rw [hW] at HWh
      have hlen : (27 :: beF 8 n).length = 9 := by rw [List.length_cons, beF_len]
      rw [hlen] at HWh ⊢
      obtain ⟨m, hmm⟩ : ∃ m, n % 18446744073709551616 = m := ⟨_, rfl⟩
      have hnm : n = m := by omega
      subst hnm
      rw [hmm] at HWh
      have hmI : (n : Int) < 18446744073709551616 := by omega
      have HBr : Hid (Below w.heap.size w wr) := hbr
      clear hW hbm hm hlen hown hown' hv hbr
      by_cases hs : n < leastC 3
      · have hs2 : n < 4294967296 := hs
        have hsI : (n : Int) / 4294967296 = 0 := by omega
        have hsb : ((n : Int) / 4294967296 == 0) = true := by simp [hsI]
        rw [if_pos hs] at HWh
        go_wp2_with (go_at_call 8; refine HWh.mono ?_; intro e w3 hp; obtain ⟨hb3, _, _, rfl⟩ := hp.errx; clear hp)
        try (go_quiet (fail); go_wp2)
        go_ret
        exact ⟨rfl, by first | exact (HBr.out.trans (hb3.mono HBr.out.size)).alloc (Nat.le_trans HBr.out.size hb3.size) _ | exact below_drews ((HBr.out.trans (hb3.mono HBr.out.size)).alloc (Nat.le_trans HBr.out.size hb3.size) _) _⟩
      · have hs2 : ¬ n < 4294967296 := hs
        have hsI : ¬ ((n : Int) / 4294967296 = 0) := by omega
        have hsb : ((n : Int) / 4294967296 == 0) = false := by simpa using hsI
        rw [if_neg hs] at HWh
        go_wp2_with (go_at_call 8; refine HWh.mono ?_; intro e w3 hp; obtain ⟨hb3, pp, cc, qq, cc', he, hi⟩ := hp.okx; have he' : e = .returned (.tuple #[.agg #[.int .u8 1, .int .u64 (n : Int), .slice pp 0 cc, .slice qq 0 cc'], .int .i64 0]) := he; subst he'; clear hp he)
        try (go_quiet (fail); go_wp2)
        go_ret
        exact ⟨rfl, by first | exact (HBr.out.trans (hb3.mono HBr.out.size)).alloc (Nat.le_trans HBr.out.size hb3.size) _ | exact below_drews ((HBr.out.trans (hb3.mono HBr.out.size)).alloc (Nat.le_trans HBr.out.size hb3.size) _) _⟩
    · have hx1 : ((UInt8.ofNat (n / 256 ^ 0 % 256)).toNat : Int) = (n : Int) % 256 := by
        have : (UInt8.ofNat (n / 256 ^ 0 % 256)).toNat = n / 1 % 256 := by simp
        rw [this]
        omega
      go_wp2_with (at_builtin; refine wpList_append_bat rfl (.tmp 34) (.tmp 40) rfl w1.heap.size u8 rfl _ _ rfl (hown.alloc _) ⟨wr.heap.size, 0, none⟩ 1 1 [UInt8.ofNat (n / 256 ^ 0 % 256)] rfl rfl (bat_one wr _ _ hx1) (by simp [beF]) (Nat.le_trans hsz (by rw [alloc_sz]; omega)) ?_; intro v1 w2 o1 gr1)
      obtain ⟨gb, gs⟩ := grown_below hbr hown hbase gr1
      exact ⟨⟨0, by omega, by rfl, owns_push o1 rfl (by rfl), gb, by omega⟩, by decide⟩
    · have hx1 : ((UInt8.ofNat (n / 256 ^ 1 % 256)).toNat : Int) = (n : Int) / 256 % 256 := by
        have : (UInt8.ofNat (n / 256 ^ 1 % 256)).toNat = n / 256 % 256 := by simp
        rw [this]
        omega
      go_wp2_with (at_builtin; refine wpList_append_bat rfl (.tmp 34) (.tmp 40) rfl w1.heap.size u8 rfl _ _ rfl (hown.alloc _) ⟨wr.heap.size, 0, none⟩ 1 1 [UInt8.ofNat (n / 256 ^ 1 % 256)] rfl rfl (bat_one wr _ _ hx1) (by simp [beF]) (Nat.le_trans hsz (by rw [alloc_sz]; omega)) ?_; intro v1 w2 o1 gr1)
      obtain ⟨gb, gs⟩ := grown_below hbr hown hbase gr1
      exact ⟨⟨1, by omega, by rfl, owns_push o1 rfl (by rfl), gb, by omega⟩, by decide⟩
    · have hx1 : ((UInt8.ofNat (n / 256 ^ 2 % 256)).toNat : Int) = (n : Int) / 65536 % 256 := by
        have : (UInt8.ofNat (n / 256 ^ 2 % 256)).toNat = n / 65536 % 256 := by simp
        rw [this]
        omega
      go_wp2_with (at_builtin; refine wpList_append_bat rfl (.tmp 34) (.tmp 40) rfl w1.heap.size u8 rfl _ _ rfl (hown.alloc _) ⟨wr.heap.size, 0, none⟩ 1 1 [UInt8.ofNat (n / 256 ^ 2 % 256)] rfl rfl (bat_one wr _ _ hx1) (by simp [beF]) (Nat.le_trans hsz (by rw [alloc_sz]; omega)) ?_; intro v1 w2 o1 gr1)
      obtain ⟨gb, gs⟩ := grown_below hbr hown hbase gr1
      exact ⟨⟨2, by omega, by rfl, owns_push o1 rfl (by rfl), gb, by omega⟩, by decide⟩
    · have hx1 : ((UInt8.ofNat (n / 256 ^ 3 % 256)).toNat : Int) = (n : Int) / 16777216 % 256 := by
        have : (UInt8.ofNat (n / 256 ^ 3 % 256)).toNat = n / 16777216 % 256 := by simp
        rw [this]
        omega
      go_wp2_with (at_builtin; refine wpList_append_bat rfl (.tmp 34) (.tmp 40) rfl w1.heap.size u8 rfl _ _ rfl (hown.alloc _) ⟨wr.heap.size, 0, none⟩ 1 1 [UInt8.ofNat (n / 256 ^ 3 % 256)] rfl rfl (bat_one wr _ _ hx1) (by simp [beF]) (Nat.le_trans hsz (by rw [alloc_sz]; omega)) ?_; intro v1 w2 o1 gr1)
      obtain ⟨gb, gs⟩ := grown_below hbr hown hbase gr1
      exact ⟨⟨3, by omega, by rfl, owns_push o1 rfl (by rfl), gb, by omega⟩, by decide⟩
    · have hx1 : ((UInt8.ofNat (n / 256 ^ 4 % 256)).toNat : Int) = (n : Int) / 4294967296 % 256 := by
        have : (UInt8.ofNat (n / 256 ^ 4 % 256)).toNat = n / 4294967296 % 256 := by simp
        rw [this]
        omega
      go_wp2_with (at_builtin; refine wpList_append_bat rfl (.tmp 34) (.tmp 40) rfl w1.heap.size u8 rfl _ _ rfl (hown.alloc _) ⟨wr.heap.size, 0, none⟩ 1 1 [UInt8.ofNat (n / 256 ^ 4 % 256)] rfl rfl (bat_one wr _ _ hx1) (by simp [beF]) (Nat.le_trans hsz (by rw [alloc_sz]; omega)) ?_; intro v1 w2 o1 gr1)
      obtain ⟨gb, gs⟩ := grown_below hbr hown hbase gr1
      exact ⟨⟨4, by omega, by rfl, owns_push o1 rfl (by rfl), gb, by omega⟩, by decide⟩
    · have hx1 : ((UInt8.ofNat (n / 256 ^ 5 % 256)).toNat : Int) = (n : Int) / 1099511627776 % 256 := by
        have : (UInt8.ofNat (n / 256 ^ 5 % 256)).toNat = n / 1099511627776 % 256 := by simp
        rw [this]
        omega
      go_wp2_with (at_builtin; refine wpList_append_bat rfl (.tmp 34) (.tmp 40) rfl w1.heap.size u8 rfl _ _ rfl (hown.alloc _) ⟨wr.heap.size, 0, none⟩ 1 1 [UInt8.ofNat (n / 256 ^ 5 % 256)] rfl rfl (bat_one wr _ _ hx1) (by simp [beF]) (Nat.le_trans hsz (by rw [alloc_sz]; omega)) ?_; intro v1 w2 o1 gr1)
      obtain ⟨gb, gs⟩ := grown_below hbr hown hbase gr1
      exact ⟨⟨5, by omega, by rfl, owns_push o1 rfl (by rfl), gb, by omega⟩, by decide⟩
    · have hx1 : ((UInt8.ofNat (n / 256 ^ 6 % 256)).toNat : Int) = (n : Int) / 281474976710656 % 256 := by
        have : (UInt8.ofNat (n / 256 ^ 6 % 256)).toNat = n / 281474976710656 % 256 := by simp
        rw [this]
        omega
      go_wp2_with (at_builtin; refine wpList_append_bat rfl (.tmp 34) (.tmp 40) rfl w1.heap.size u8 rfl _ _ rfl (hown.alloc _) ⟨wr.heap.size, 0, none⟩ 1 1 [UInt8.ofNat (n / 256 ^ 6 % 256)] rfl rfl (bat_one wr _ _ hx1) (by simp [beF]) (Nat.le_trans hsz (by rw [alloc_sz]; omega)) ?_; intro v1 w2 o1 gr1)
      obtain ⟨gb, gs⟩ := grown_below hbr hown hbase gr1
      exact ⟨⟨6, by omega, by rfl, owns_push o1 rfl (by rfl), gb, by omega⟩, by decide⟩
    · have hx1 : ((UInt8.ofNat (n / 256 ^ 7 % 256)).toNat : Int) = (n : Int) / 72057594037927936 := by
        have : (UInt8.ofNat (n / 256 ^ 7 % 256)).toNat = n / 72057594037927936 % 256 := by simp
        rw [this]
        omega
      go_wp2_with (at_builtin; refine wpList_append_bat rfl (.tmp 34) (.tmp 40) rfl w1.heap.size u8 rfl _ _ rfl (hown.alloc _) ⟨wr.heap.size, 0, none⟩ 1 1 [UInt8.ofNat (n / 256 ^ 7 % 256)] rfl rfl (bat_one wr _ _ hx1) (by simp [beF]) (Nat.le_trans hsz (by rw [alloc_sz]; omega)) ?_; intro v1 w2 o1 gr1)
      obtain ⟨gb, gs⟩ := grown_below hbr hown hbase gr1
      exact ⟨⟨7, by omega, by rfl, owns_push o1 rfl (by rfl), gb, by omega⟩, by decide⟩
set_option maxRecDepth 100000 in
set_option maxHeartbeats 2000000 in
theorem cnum_31 (n x z : Nat) (hn : n < 18446744073709551616) (hx : x < 256) (hz : z < 256) (hq : x % 2 = 1) (hk : z % 4 = 3) (w : World) (hT : Tabs w) :
    Calls Tryd.prog 3 #[.int .u64 (n : Int), .int .u8 (x : Int), .int .u8 (z : Int)] w fun e w' => e = .returned (.bool true) ∧ Below w.heap.size w w' := by
  have hxq : (x : Int).tmod 2 = 1 := by rw [Int.tmod_eq_emod_of_nonneg (by omega)]; omega
  have hzk : (z : Int).tmod 4 = 3 := by rw [Int.tmod_eq_emod_of_nonneg (by omega)]; omega
  have hxq' : (x : Int) % 2 = 1 := by omega
  have hzk' : (z : Int) % 4 = 3 := by omega
  have hnI : (n : Int) < 18446744073709551616 := by omega
  have HA := CAwake_any w hT
  go_enter Tryd.func3, Tryd.ntmps3
  go_wp2_with (go_at_call 7; refine HA.mono ?_; rintro e w1 ⟨rfl, hb1⟩)
  have hor : bits .or .u8 32 27 = 59 := by decide
  try rw [hor]
  have hown0 : (w1.alloc (.cells #[.int .u8 59] 5)).ownsRow w1.heap.size 5 1 (.slice (some ⟨w1.heap.size, 0, none⟩) 1 1) 1 (Lib.byteCells [59]) := World.ownsRow_lit w1 #[.int .u8 59] 1 (Nat.le_refl _) (by decide) (by simp)
  have HB1 : Hid (Below w.heap.size w w1 ∧ Tabs w ∧ n < 18446744073709551616) := ⟨hb1, hT, hn⟩
  go_loopw [8, 9] (fun v8 v9 wr => ∃ j : Nat, j ≤ 8 ∧ v9 = .int .i64 ((j : Int) - 1) ∧ wr.ownsRow w1.heap.size 5 1 v8 (1 + (8 - j)) (Lib.byteCells (59 :: (beF 8 n).take (8 - j))) ∧ Below w.heap.size w wr ∧ w1.heap.size ≤ wr.heap.size) (fun _ v9 _ => (intOf v9 + 1).toNat)
  case atStart => exact ⟨8, by omega, rfl, hown0, hb1.alloc hb1.size _, by rw [alloc_sz]; omega⟩
  case round =>
    obtain ⟨j, hj, rfl, hown, hbr, hsz⟩ := hrel
    have hbase : w.heap.size ≤ w1.heap.size := hb1.size
    clear hown0 HA hT
    rcases (by omega : j = 0 ∨ j = 1 ∨ j = 2 ∨ j = 3 ∨ j = 4 ∨ j = 5 ∨ j = 6 ∨ j = 7 ∨ j = 8) with rfl | rfl | rfl | rfl | rfl | rfl | rfl | rfl | rfl
    · have hown' : wr.ownsRow w1.heap.size 5 1 u8 (59 :: beF 8 n).length (Lib.byteCells (59 :: beF 8 n)) := hown
      obtain ⟨pb, cb, rfl, hv⟩ := own_byv hown'
      have hm : n % 18446744073709551616 < 256 ^ 2 ^ 3 := Nat.mod_lt _ (by decide)
      have hW := whole_num 1 3 (n % 18446744073709551616) (by decide) (by decide) hm
      have hbm := beF_mod 8 n
      rw [show (256 : Nat) ^ 8 = 18446744073709551616 from by decide] at hbm
      rw [show (2 : Nat) ^ 3 = 8 from rfl, ← hbm, show UInt8.ofNat (32 * 1 + 24 + 3) = 59 from rfl] at hW
      have HWh := Whole_any pb (59 :: beF 8 n).length cb (59 :: beF 8 n) wr rfl (hv.mono (fun k hk hlt => hlt)) (HB1.out.2.1.below hbr)
      rw [hW] at HWh
      have hlen : (59 :: beF 8 n).length = 9 := by rw [List.length_cons, beF_len]
      rw [hlen] at HWh ⊢
      obtain ⟨m, hmm⟩ : ∃ m, n % 18446744073709551616 = m := ⟨_, rfl⟩
      have hnm : n = m := by omega
      subst hnm
      rw [hmm] at HWh
      have hmI : (n : Int) < 18446744073709551616 := by omega
      have HBr : Hid (Below w.heap.size w wr) := hbr
      clear hW hbm hm hlen hown hown' hv hbr
      by_cases hs : n < leastC 3
      · have hs2 : n < 4294967296 := hs
        have hsI : (n : Int) / 4294967296 = 0 := by omega
        have hsb : ((n : Int) / 4294967296 == 0) = true := by simp [hsI]
        rw [if_pos hs] at HWh
        go_wp2_with (go_at_call 8; refine HWh.mono ?_; intro e w3 hp; obtain ⟨hb3, _, _, rfl⟩ := hp.errx; clear hp)
        try (go_quiet (fail); go_wp2)
        go_ret
        exact ⟨rfl, by first | exact (HBr.out.trans (hb3.mono HBr.out.size)).alloc (Nat.le_trans HBr.out.size hb3.size) _ | exact below_drews ((HBr.out.trans (hb3.mono HBr.out.size)).alloc (Nat.le_trans HBr.out.size hb3.size) _) _⟩
      · have hs2 : ¬ n < 4294967296 := hs
        have hsI : ¬ ((n : Int) / 4294967296 = 0) := by omega
        have hsb : ((n : Int) / 4294967296 == 0) = false := by simpa using hsI
        rw [if_neg hs] at HWh
        go_wp2_with (go_at_call 8; refine HWh.mono ?_; intro e w3 hp; obtain ⟨hb3, pp, cc, qq, cc', he, hi⟩ := hp.okx; have he' : e = .returned (.tuple #[.agg #[.int .u8 2, .int .u64 (n : Int), .slice pp 0 cc, .slice qq 0 cc'], .int .i64 0]) := he; subst he'; clear hp he)
        try (go_quiet (fail); go_wp2)
        go_ret
        exact ⟨rfl, by first | exact (HBr.out.trans (hb3.mono HBr.out.size)).alloc (Nat.le_trans HBr.out.size hb3.size) _ | exact below_drews ((HBr.out.trans (hb3.mono HBr.out.size)).alloc (Nat.le_trans HBr.out.size hb3.size) _) _⟩
    · have hx1 : ((UInt8.ofNat (n / 256 ^ 0 % 256)).toNat : Int) = (n : Int) % 256 := by
        have : (UInt8.ofNat (n / 256 ^ 0 % 256)).toNat = n / 1 % 256 := by simp
        rw [this]
        omega
      go_wp2_with (at_builtin; refine wpList_append_bat rfl (.tmp 34) (.tmp 40) rfl w1.heap.size u8 rfl _ _ rfl (hown.alloc _) ⟨wr.heap.size, 0, none⟩ 1 1 [UInt8.ofNat (n / 256 ^ 0 % 256)] rfl rfl (bat_one wr _ _ hx1) (by simp [beF]) (Nat.le_trans hsz (by rw [alloc_sz]; omega)) ?_; intro v1 w2 o1 gr1)
      obtain ⟨gb, gs⟩ := grown_below hbr hown hbase gr1
      exact ⟨⟨0, by omega, by rfl, owns_push o1 rfl (by rfl), gb, by omega⟩, by decide⟩
    · have hx1 : ((UInt8.ofNat (n / 256 ^ 1 % 256)).toNat : Int) = (n : Int) / 256 % 256 := by
        have : (UInt8.ofNat (n / 256 ^ 1 % 256)).toNat = n / 256 % 256 := by simp
        rw [this]
        omega
      go_wp2_with (at_builtin; refine wpList_append_bat rfl (.tmp 34) (.tmp 40) rfl w1.heap.size u8 rfl _ _ rfl (hown.alloc _) ⟨wr.heap.size, 0, none⟩ 1 1 [UInt8.ofNat (n / 256 ^ 1 % 256)] rfl rfl (bat_one wr _ _ hx1) (by simp [beF]) (Nat.le_trans hsz (by rw [alloc_sz]; omega)) ?_; intro v1 w2 o1 gr1)
      obtain ⟨gb, gs⟩ := grown_below hbr hown hbase gr1
      exact ⟨⟨1, by omega, by rfl, owns_push o1 rfl (by rfl), gb, by omega⟩, by decide⟩
    · have hx1 : ((UInt8.ofNat (n / 256 ^ 2 % 256)).toNat : Int) = (n : Int) / 65536 % 256 := by
        have : (UInt8.ofNat (n / 256 ^ 2 % 256)).toNat = n / 65536 % 256 := by simp
        rw [this]
        omega
      go_wp2_with (at_builtin; refine wpList_append_bat rfl (.tmp 34) (.tmp 40) rfl w1.heap.size u8 rfl _ _ rfl (hown.alloc _) ⟨wr.heap.size, 0, none⟩ 1 1 [UInt8.ofNat (n / 256 ^ 2 % 256)] rfl rfl (bat_one wr _ _ hx1) (by simp [beF]) (Nat.le_trans hsz (by rw [alloc_sz]; omega)) ?_; intro v1 w2 o1 gr1)
      obtain ⟨gb, gs⟩ := grown_below hbr hown hbase gr1
      exact ⟨⟨2, by omega, by rfl, owns_push o1 rfl (by rfl), gb, by omega⟩, by decide⟩
    · have hx1 : ((UInt8.ofNat (n / 256 ^ 3 % 256)).toNat : Int) = (n : Int) / 16777216 % 256 := by
        have : (UInt8.ofNat (n / 256 ^ 3 % 256)).toNat = n / 16777216 % 256 := by simp
        rw [this]
        omega
      go_wp2_with (at_builtin; refine wpList_append_bat rfl (.tmp 34) (.tmp 40) rfl w1.heap.size u8 rfl _ _ rfl (hown.alloc _) ⟨wr.heap.size, 0, none⟩ 1 1 [UInt8.ofNat (n / 256 ^ 3 % 256)] rfl rfl (bat_one wr _ _ hx1) (by simp [beF]) (Nat.le_trans hsz (by rw [alloc_sz]; omega)) ?_; intro v1 w2 o1 gr1)
      obtain ⟨gb, gs⟩ := grown_below hbr hown hbase gr1
      exact ⟨⟨3, by omega, by rfl, owns_push o1 rfl (by rfl), gb, by omega⟩, by decide⟩
    · have hx1 : ((UInt8.ofNat (n / 256 ^ 4 % 256)).toNat : Int) = (n : Int) / 4294967296 % 256 := by
        have : (UInt8.ofNat (n / 256 ^ 4 % 256)).toNat = n / 4294967296 % 256 := by simp
        rw [this]
        omega
      go_wp2_with (at_builtin; refine wpList_append_bat rfl (.tmp 34) (.tmp 40) rfl w1.heap.size u8 rfl _ _ rfl (hown.alloc _) ⟨wr.heap.size, 0, none⟩ 1 1 [UInt8.ofNat (n / 256 ^ 4 % 256)] rfl rfl (bat_one wr _ _ hx1) (by simp [beF]) (Nat.le_trans hsz (by rw [alloc_sz]; omega)) ?_; intro v1 w2 o1 gr1)
      obtain ⟨gb, gs⟩ := grown_below hbr hown hbase gr1
      exact ⟨⟨4, by omega, by rfl, owns_push o1 rfl (by rfl), gb, by omega⟩, by decide⟩
    · have hx1 : ((UInt8.ofNat (n / 256 ^ 5 % 256)).toNat : Int) = (n : Int) / 1099511627776 % 256 := by
        have : (UInt8.ofNat (n / 256 ^ 5 % 256)).toNat = n / 1099511627776 % 256 := by simp
        rw [this]
        omega
      go_wp2_with (at_builtin; refine wpList_append_bat rfl (.tmp 34) (.tmp 40) rfl w1.heap.size u8 rfl _ _ rfl (hown.alloc _) ⟨wr.heap.size, 0, none⟩ 1 1 [UInt8.ofNat (n / 256 ^ 5 % 256)] rfl rfl (bat_one wr _ _ hx1) (by simp [beF]) (Nat.le_trans hsz (by rw [alloc_sz]; omega)) ?_; intro v1 w2 o1 gr1)
      obtain ⟨gb, gs⟩ := grown_below hbr hown hbase gr1
      exact ⟨⟨5, by omega, by rfl, owns_push o1 rfl (by rfl), gb, by omega⟩, by decide⟩
    · have hx1 : ((UInt8.ofNat (n / 256 ^ 6 % 256)).toNat : Int) = (n : Int) / 281474976710656 % 256 := by
        have : (UInt8.ofNat (n / 256 ^ 6 % 256)).toNat = n / 281474976710656 % 256 := by simp
        rw [this]
        omega
      go_wp2_with (at_builtin; refine wpList_append_bat rfl (.tmp 34) (.tmp 40) rfl w1.heap.size u8 rfl _ _ rfl (hown.alloc _) ⟨wr.heap.size, 0, none⟩ 1 1 [UInt8.ofNat (n / 256 ^ 6 % 256)] rfl rfl (bat_one wr _ _ hx1) (by simp [beF]) (Nat.le_trans hsz (by rw [alloc_sz]; omega)) ?_; intro v1 w2 o1 gr1)
      obtain ⟨gb, gs⟩ := grown_below hbr hown hbase gr1
      exact ⟨⟨6, by omega, by rfl, owns_push o1 rfl (by rfl), gb, by omega⟩, by decide⟩
    · have hx1 : ((UInt8.ofNat (n / 256 ^ 7 % 256)).toNat : Int) = (n : Int) / 72057594037927936 := by
        have : (UInt8.ofNat (n / 256 ^ 7 % 256)).toNat = n / 72057594037927936 % 256 := by simp
        rw [this]
        omega
      go_wp2_with (at_builtin; refine wpList_append_bat rfl (.tmp 34) (.tmp 40) rfl w1.heap.size u8 rfl _ _ rfl (hown.alloc _) ⟨wr.heap.size, 0, none⟩ 1 1 [UInt8.ofNat (n / 256 ^ 7 % 256)] rfl rfl (bat_one wr _ _ hx1) (by simp [beF]) (Nat.le_trans hsz (by rw [alloc_sz]; omega)) ?_; intro v1 w2 o1 gr1)
      obtain ⟨gb, gs⟩ := grown_below hbr hown hbase gr1
      exact ⟨⟨7, by omega, by rfl, owns_push o1 rfl (by rfl), gb, by omega⟩, by decide⟩
theorem CborNumbers_walk (w : World) (a0 : Int) (w0 : (Lit.int .u64 a0).wf = true) (a1 : Int) (w1 : (Lit.int .u8 a1).wf = true) (a2 : Int) (w2 : (Lit.int .u8 a2).wf = true) (hL : laidMet Tryd.prog Rows.cborNumbersRow.laid w) :
    Calls Tryd.prog 3 #[.int .u64 a0, .int .u8 a1, .int .u8 a2] w fun e w' => e = .returned (.bool true) ∧ Below w.heap.size w w' := by
  have h0 : 0 ≤ a0 ∧ a0 < 18446744073709551616 := by simp [Lit.wf, IntKind.min, IntKind.max, IntKind.signed, IntKind.bits] at w0; omega
  have h1 : 0 ≤ a1 ∧ a1 < 256 := by simp [Lit.wf, IntKind.min, IntKind.max, IntKind.signed, IntKind.bits] at w1; omega
  have h2 : 0 ≤ a2 ∧ a2 < 256 := by simp [Lit.wf, IntKind.min, IntKind.max, IntKind.signed, IntKind.bits] at w2; omega
  obtain ⟨n, rfl⟩ : ∃ n : Nat, a0 = n := ⟨a0.toNat, by omega⟩
  obtain ⟨x, rfl⟩ : ∃ n : Nat, a1 = n := ⟨a1.toNat, by omega⟩
  obtain ⟨z, rfl⟩ : ∃ n : Nat, a2 = n := ⟨a2.toNat, by omega⟩
  have hT := tabs_laidN hL
  rcases (by omega : x % 2 = 0 ∨ x % 2 = 1) with hq | hq <;> rcases (by omega : z % 4 = 0 ∨ z % 4 = 1 ∨ z % 4 = 2 ∨ z % 4 = 3) with hk | hk | hk | hk
  · exact cnum_00 n x z (by omega) (by omega) (by omega) hq hk w hT
  · exact cnum_10 n x z (by omega) (by omega) (by omega) hq hk w hT
  · exact cnum_20 n x z (by omega) (by omega) (by omega) hq hk w hT
  · exact cnum_30 n x z (by omega) (by omega) (by omega) hq hk w hT
  · exact cnum_01 n x z (by omega) (by omega) (by omega) hq hk w hT
  · exact cnum_11 n x z (by omega) (by omega) (by omega) hq hk w hT
  · exact cnum_21 n x z (by omega) (by omega) (by omega) hq hk w hT
  · exact cnum_31 n x z (by omega) (by omega) (by omega) hq hk w hT
end Go.Proofs.YtdknjjpbcmeclabDoor
