/-
  b64.Decode.
-/
import Derived.Test.YtbhjidmbihkppaaB64E
import Derived.Laws.RangeAny
import Derived.Lib.OthersKept
import Derived.OwnWalk
namespace Go.Proofs.Ytbhjidmbihkppaa
open Go.RowKit
set_option linter.unusedVariables false
set_option linter.unusedSimpArgs false

/-- A text's bytes. -/
def cods (s : ByteArray) : List Nat := s.data.toList.map fun x => x.toNat
theorem cods_length (s : ByteArray) : (cods s).length = s.size := by simp [cods]
theorem cods_at (s : ByteArray) (i : Nat) (h : i < s.size) : (cods s).getD i 0 = (s[i]'h).toNat := by
  have h' : i < s.data.toList.length := by simpa using h
  simp [cods, List.getD, h']
  rw [Array.getElem?_eq_getElem (by simpa using h)]
  rfl
def ints (bs : List Nat) : List Int := bs.map fun (x : Nat) => (x : Int)
theorem ints_length (bs : List Nat) : (ints bs).length = bs.length := by simp [ints]
theorem ints_nats {xs : List Int} (h : Dg 256 xs) : ints (nats xs) = xs := by
  unfold ints nats
  rw [List.map_map]
  conv => rhs; rw [← List.map_id xs]
  apply List.map_congr_left
  intro x hx
  have := (h x hx).1
  simp
  omega
theorem ints_dg {bs : List Nat} (h : ∀ x ∈ bs, x < 256) : Dg 256 (ints bs) := by
  intro x hx
  obtain ⟨y, hy, rfl⟩ := List.mem_map.1 hx
  have := h y hy
  omega
theorem nats_ints (bs : List Nat) : nats (ints bs) = bs := by simp [nats, ints, Function.comp_def]

/-- The text is that of some bytes. -/
abbrev Good (cs : List Nat) : Prop := (∀ c ∈ cs, isS c = true) ∧ Full (cs.map vS)

/-- The values of the first p signs, as a number. -/
def tw (cs : List Nat) (p : Nat) : Nat := be 64 ((cs.take p).map vS)
/-- The bytes that are at hand behind p signs. -/
def tb (cs : List Nat) (p : Nat) : List Nat := byt ((cs.take p).map vS)
theorem tw_succ (cs : List Nat) (p : Nat) (h : p < cs.length) : tw cs (p + 1) = tw cs p * 64 + vS (cs.getD p 0) := by
  unfold tw
  rw [take_succ_nat cs p h, List.map_append, List.map_cons, List.map_nil, be_snoc]
theorem tb_length (cs : List Nat) (p : Nat) (h : p ≤ cs.length) : (tb cs p).length = 6 * p / 8 := by
  unfold tb
  rw [byt_length, List.length_map, List.length_take, Nat.min_eq_left h]
theorem tb_succ (cs : List Nat) (p : Nat) (h : p < cs.length) : tb cs (p + 1) = if 2 ≤ 6 * p % 8 then tb cs p ++ [tw cs (p + 1) / 2 ^ (6 * p % 8 - 2) % 256] else tb cs p := by
  have e1 : ((cs.take p).map vS).length = p := by rw [List.length_map, List.length_take]; omega
  have e2 : ((cs.take (p + 1)).map vS).length = p + 1 := by rw [List.length_map, List.length_take]; omega
  have hs := tw_succ cs p h
  have hv := vS_lt (cs.getD p 0)
  have old : ∀ c, c < 6 * p / 8 → tw cs (p + 1) / 2 ^ (6 * (p + 1) - 8 * c - 8) % 256 = tw cs p / 2 ^ (6 * p - 8 * c - 8) % 256 := by
    intro c hc
    rw [hs, show 6 * (p + 1) - 8 * c - 8 = 6 + (6 * p - 8 * c - 8) by omega, Nat.pow_add, ← Nat.div_div_eq_div_mul, show (2 : Nat) ^ 6 = 64 by rfl, div_of_lt_add hv]
  have hl : (List.range (6 * p / 8)).map (fun c => tw cs (p + 1) / 2 ^ (6 * (p + 1) - 8 * c - 8) % 256) = tb cs p := by
    unfold tb byt
    rw [e1]
    apply List.map_congr_left
    intro c hc
    exact old c (List.mem_range.1 hc)
  split
  · rename_i h2
    show (List.range (6 * ((cs.take (p + 1)).map vS).length / 8)).map _ = _
    rw [e2, show 6 * (p + 1) / 8 = 6 * p / 8 + 1 by omega, List.range_succ, List.map_append]
    congr 1
    simp only [List.map_cons, List.map_nil]
    rw [show 6 * (p + 1) - 8 * (6 * p / 8) - 8 = 6 * p % 8 - 2 by omega]
    rfl
  · rename_i h2
    show (List.range (6 * ((cs.take (p + 1)).map vS).length / 8)).map _ = _
    rw [e2, show 6 * (p + 1) / 8 = 6 * p / 8 by omega]
    exact hl
theorem mid_bits (Y e : Nat) : Y % 2 ^ (8 + e) / 2 ^ e % 256 = Y / 2 ^ e % 256 := by
  rw [Nat.pow_add, Nat.mul_comm (2 ^ 8), Nat.mod_mul_right_div_self, show (2 : Nat) ^ 8 = 256 by rfl, Nat.mod_mod]

/-- A row of one's own while an iterator moves on. -/
theorem Own.iterAt {e : TypeId} {k : IntKind} {w : World} {base : Nat} {v : Value} {xs : List Int} (h : Own e k w base v xs) {it : Nat} {s : ByteArray} {pos : Nat} (hit : w.heap[it]? = some (.stringIter s pos)) (pos' : Nat) : Own e k (w.iterAt it s pos') base v xs := by
  refine ⟨h.1, ?_⟩
  rcases h.2 with h0 | ⟨g, cap, cur, rfl, hg, hrow, r⟩
  · exact .inl h0
  · refine .inr ⟨g, cap, cur, rfl, hg, ?_, r⟩
    rw [Lib.iterAt_other w it g s pos' (fun e => by subst e; rw [hit] at hrow; simp at hrow)]
    exact hrow
theorem Own.notIter {e : TypeId} {k : IntKind} {w : World} {base : Nat} {v : Value} {xs : List Int} (h : Own e k w base v xs) {it : Nat} {s : ByteArray} {pos : Nat} (hit : w.heap[it]? = some (.stringIter s pos)) : v.ownBlock ≠ some it := by
  rcases h.2 with ⟨rfl, _⟩ | ⟨g, cap, cur, rfl, hg, hrow, r⟩
  · simp [Value.ownBlock]
  · intro e
    simp [Value.ownBlock] at e
    subst e
    rw [hit] at hrow
    simp at hrow
/-- append(out, x), an iterator beside it. -/
theorem wpList_append_iter {P : Program} {w : World} {ops : Array Oper} {rest : List Oper} {o : Oper} {a : Act} {Q : Exit → Act → World → Prop} (hgd : o.guard = none) (s x : Operand) (t : TypeId)
    (ho : o.op = .call { callee := .builtin .append, args := #[s, x], argTypes := #[t, t] }) (e : TypeId) (k : IntKind) (bytes : Nat) (ht : P.underlying t = some (.slice e))
    (h2 : (P.info? e).map (fun i => (i.zero, i.size, i.bytes)) = some (some (.int k 0), 1, bytes)) (base : Nat) (v : Value) (xs : List Int) (y : Int) (hs : a.eval s = v) (hown : Own e k w base v xs)
    (hx : a.eval x = .slice (some ⟨w.heap.size, 0, none⟩) 1 1) (hb1 : xs.length < 1073741824) (hb2 : bytes ≤ 8) (w0 : World) (hb : Below base w0 w) (hbase : base ≤ w.heap.size)
    (it : Nat) (tx : ByteArray) (pos : Nat) (hit : w.heap[it]? = some (.stringIter tx pos))
    (h : ∀ v' w', Own e k w' base v' (xs ++ [y]) → Below base w0 w' → w'.heap[it]? = some (.stringIter tx pos) → wpList P ops Q rest (a.put o.dst v') w') : wpList P ops Q (o :: rest) a (w.alloc (.cells #[.int k y] e)) := by
  refine wpList_append_nums hgd s x t ho e k bytes ht h2 base v xs hs (hown.alloc _) (some ⟨w.heap.size, 0, none⟩) 1 1 [y] hx ((row_alloc w e k y).lies 0 1 (by simp)) (fun h => by cases h) (by omega) hb2 w0 (hb.alloc hbase _) (by simp; omega) ?_
  intro v' w' h1 h2 h3 _
  have hlt := (Array.getElem?_eq_some_iff.1 hit).1
  refine h v' w' h1 h2 ?_
  rw [h3 it (hown.notIter hit) (by simp; omega), Below.heap_alloc _ _ _ hlt]
  exact hit

/-- make with room. -/
theorem wpList_make_cap {P : Program} (w : World) {ops : Array Oper} {rest : List Oper} {o : Oper} {a : Act} {Q : Exit → Act → World → Prop}
    (hg : o.guard = none) (l c : Operand) (t : TypeId) (hop : o.op = Op.makeSlice t l c) (e : TypeId) (k : IntKind) (bytes : Nat)
    (h1 : P.underlying t = some (.slice e)) (h2 : (P.info? e).map (fun i => (i.zero, i.size, i.bytes)) = some (some (.int k 0), 1, bytes))
    (kl kc : IntKind) (C : Int) (n : Nat) (hl : a.eval l = .int kl 0) (hc : a.eval c = .int kc C) (hC : C = (n : Int)) (b2 : bytes * n ≤ 281474976710656) (b3 : n ≤ maxLen)
    (hK : ∀ w', Own e k w' w.heap.size (.slice (some ⟨w.heap.size, 0, none⟩) 0 n) [] → Below w.heap.size w w' → wpList P ops Q rest (a.put o.dst (.slice (some ⟨w.heap.size, 0, none⟩) 0 n)) w') :
    wpList P ops Q (o :: rest) a w := by
  obtain ⟨i, hi, hz0, hz1, hz2⟩ := info_parts h2
  refine wpList_make_own w hg l c t hop w.heap.size e i (.int k 0) 1 h1 hi hz0 hz1 kl kc C n hl hc hC (by rw [hz2]; exact b2) b3 (Nat.le_refl _) ?_
  intro w' hown hgr
  exact hK w' hown ((Below.refl _ _).grown hgr (Nat.le_refl _) (fun k h => by cases h))

/-- What Decode says of a text that isn't too long. -/
def DecSaid (e : TypeId) (cs : List Nat) (w w' : World) (r : Ending) : Prop :=
  (Good cs ∧ ∃ v, r = .returned (.tuple #[v, .int .i64 0]) ∧ Own e .u8 w' w.heap.size v (ints (byt (cs.map vS)))) ∨ (¬ Good cs ∧ r = .returned (.tuple #[.slice none 0 0, .int .i64 10]))

set_option maxHeartbeats 2000000 in
/-- b64.Decode. -/
theorem Dec_any (s : ByteArray) (w : World) (hl : s.size ≤ 16384) :
    Calls Try.prog 11 #[.string s] w fun e w' => DecSaid 5 (cods s) w w' e ∧ Below w.heap.size w w' := by
  obtain ⟨cs, hcs⟩ : ∃ cs, cods s = cs := ⟨_, rfl⟩
  have HC : Hid (cs.length = s.size ∧ ∀ i (h : i < s.size), cs.getD i 0 = (s[i]'h).toNat) := by rw [← hcs]; exact ⟨cods_length s, cods_at s⟩
  rw [hcs]
  clear hcs
  have hl' : ¬ (16384 : Int) < (s.size : Int) := by omega
  obtain ⟨n, hn⟩ : ∃ n, s.size * 6 / 8 = n := ⟨_, rfl⟩
  have hnI : (s.size : Int) * 6 / 8 = (n : Int) := by omega
  have hn1 : n ≤ 16384 := by omega
  clear hn
  go_enter Try.func11, Try.ntmps11
  go_wp2_with (at_make; refine wpList_make_cap _ rfl _ _ 22 rfl 5 .u8 1 Try.underlying22 Try.infoB _ _ _ n rfl rfl (by first | rfl | omega) (by omega) (by unfold maxLen; omega) ?_; intro w1 hown1 hb1)
  have hit1 := World.iter_heap w1 s 0
  obtain ⟨it, hitn⟩ : ∃ it, w1.heap.size = it := ⟨_, rfl⟩
  rw [hitn] at hit1 ⊢
  have hitb : w.heap.size ≤ it := by rw [← hitn]; exact hb1.size
  have HS : Hid (Own 5 .u8 (w1.iter s 0) w.heap.size (.slice (some ⟨w.heap.size, 0, none⟩) 0 n) (ints (tb cs 0)) ∧ (w1.iter s 0).heap[it]? = some (.stringIter s 0) ∧ Below w.heap.size w (w1.iter s 0)) := by
    refine ⟨?_, hit1, ?_⟩
    · have : ints (tb cs 0) = [] := by simp [tb, byt, ints]
      rw [this]
      exact hown1.alloc _
    · exact hb1.alloc hb1.size _
  clear hown1 hb1 hit1 hitn
  go_loopw [4, 5, 6] (fun vb vx vh wr => ∃ p : Nat, p ≤ s.size ∧ vx = .int .u32 ((tw cs p % 2 ^ (6 * p % 8) : Nat) : Int) ∧ vh = .int .i64 ((6 * p % 8 : Nat) : Int) ∧ Own 5 .u8 wr w.heap.size vb (ints (tb cs p)) ∧ wr.heap[it]? = some (.stringIter s p) ∧ Below w.heap.size w wr ∧ ∀ i, i < p → isS (cs.getD i 0) = true) (fun _ _ _ wr => s.size - wr.iterPos it)
  case atStart => exact ⟨0, by omega, by simp [tw, be], rfl, HS.out.1, HS.out.2.1, HS.out.2.2, fun i h => by omega⟩
  case round =>
    obtain ⟨p, hp, rfl, rfl, hown, hit, hbw, hsg⟩ := hrel
    clear HS
    by_cases hlt : p < s.size
    · have hcp := HC.out.2 p hlt
      have hd8 : 6 * p % 8 = 0 ∨ 6 * p % 8 = 2 ∨ 6 * p % 8 = 4 ∨ 6 * p % 8 = 6 := by omega
      by_cases ha : (s[p]'hlt).toNat < 128
      · have hnx : ∀ ty, (Instr.next (.pointer (some ⟨it, 0, none⟩)) true ty).run Try.prog wr = _ := fun ty => Lib.run_next_ascii_at wr it s p ty hit hlt ha
        obtain ⟨c, hc⟩ : ∃ c, (s[p]'hlt).toNat = c := ⟨_, rfl⟩
        rw [hc] at hnx hcp ha
        have HV := fun w' => valueOf_any c w' (by omega)
        have hown2 := hown.iterAt hit (p + 1)
        have hit2 := Lib.iterAt_heap wr it s p (p + 1) hit
        have hbw2 := Lib.below_iterAt hbw hitb s (p + 1)
        obtain ⟨w2, hw2⟩ : ∃ w2, wr.iterAt it s (p + 1) = w2 := ⟨_, rfl⟩
        rw [hw2] at hown2 hit2 hbw2 hnx
        have HIT : Hid (wr.heap[it]? = some (.stringIter s p)) := hit
        clear hw2 hc hown hit hbw
        by_cases hS : isS c = true
        · rw [hS] at HV
          have hv := vS_lt c
          have hts := tw_succ cs p (by rw [HC.out.1]; exact hlt)
          have htb := tb_succ cs p (by rw [HC.out.1]; exact hlt)
          have htl := tb_length cs p (by rw [HC.out.1]; omega)
          rw [hcp] at hts
          obtain ⟨v, hvv⟩ : ∃ v, vS c = v := ⟨_, rfl⟩
          rw [hvv] at hts hv HV
          obtain ⟨T, hT⟩ : ∃ T, tw cs p = T := ⟨_, rfl⟩
          rw [hT] at hts ⊢
          have HSG : Hid (∀ i, i < p + 1 → isS (cs.getD i 0) = true) := fun i hi => by
            by_cases e : i = p
            · subst e; rw [hcp]; exact hS
            · exact hsg i (by omega)
          have HOWN : Hid (Own 5 .u8 w2 w.heap.size u4 (ints (tb cs p)) ∧ w2.heap[it]? = some (.stringIter s (p + 1)) ∧ Below w.heap.size w w2) := ⟨hown2, hit2, hbw2⟩
          clear hown2 hit2 hbw2 hsg hcp hS hvv hT
          rcases hd8 with hd | hd | hd | hd
          · rw [hd]
            obtain ⟨X, hX⟩ : ∃ X, T % 2 ^ 0 = X := ⟨_, rfl⟩
            obtain ⟨Y, hY⟩ : ∃ Y, X * 64 + v = Y := ⟨_, rfl⟩
            rw [hX]
            have hXb : X < 1 := by rw [← hX]; omega
            have hYb : Y < 4096 := by omega
            have hor : bits .or .u32 ((X : Int) * 64) (v : Int) = (Y : Int) := by
              have e := or_behind X v 6 (by decide) hv
              rw [show (X * 2 ^ 6 + v) % 4294967296 = Y by omega, show X * 2 ^ 6 % 4294967296 = X * 64 by omega] at e
              rw [← e]
              congr 1
            have HT : Hid (tw cs (p + 1) % 64 = Y ∧ tb cs (p + 1) = tb cs p ∧ 6 * (p + 1) % 8 = 6) := ⟨by rw [hts]; omega, by rw [htb, hd]; rfl, by omega⟩
            clear hX hY hts htb htl hd
            go_wp2_with (go_at_call 17; refine (HV _).mono ?_; rintro e' w' ⟨rfl, rfl⟩)
            go_roundw
            case rel =>
              refine ⟨p + 1, by omega, by rw [HT.out.2.2, show (2 : Nat) ^ 6 = 64 by rfl, HT.out.1], by rw [HT.out.2.2]; rfl, ?_, HOWN.out.2.1, HOWN.out.2.2, HSG.out⟩
              rw [HT.out.2.1]; exact HOWN.out.1
            case measure =>
              simp only [World.iterPos, HOWN.out.2.1, HIT.out]
              omega
          · rw [hd]
            obtain ⟨X, hX⟩ : ∃ X, T % 2 ^ 2 = X := ⟨_, rfl⟩
            obtain ⟨Y, hY⟩ : ∃ Y, X * 64 + v = Y := ⟨_, rfl⟩
            rw [hX]
            have hXb : X < 4 := by rw [← hX]; omega
            have hYb : Y < 4096 := by omega
            have hor : bits .or .u32 ((X : Int) * 64) (v : Int) = (Y : Int) := by
              have e := or_behind X v 6 (by decide) hv
              rw [show (X * 2 ^ 6 + v) % 4294967296 = Y by omega, show X * 2 ^ 6 % 4294967296 = X * 64 by omega] at e
              rw [← e]
              congr 1
            obtain ⟨R, hR⟩ : ∃ R, Y % 1 = R := ⟨_, rfl⟩
            obtain ⟨Z, hZ⟩ : ∃ Z, Y / 1 % 256 = Z := ⟨_, rfl⟩
            have hand : bits .and .u32 (Y : Int) 0 = (R : Int) := by rw [← hR]; exact and_low Y 0 (by omega) (by decide)
            have hZI : (Y : Int) % 256 = (Z : Int) := by rw [← hZ]; simp
            have HT : Hid (tw cs (p + 1) % 1 = R ∧ tb cs (p + 1) = tb cs p ++ [Z] ∧ 6 * (p + 1) % 8 = 0) := by
              refine ⟨by rw [hts]; omega, ?_, by omega⟩
              rw [htb, hd, if_pos (by decide), show 2 ^ (2 - 2) = 1 by rfl, show tw cs (p + 1) / 1 % 256 = Z by rw [hts]; omega]
            have hZ2 : Z < 256 := by rw [← hZ]; exact Nat.mod_lt _ (by decide)
            have hlb : (ints (tb cs p)).length < 1073741824 := by rw [ints_length, htl]; omega
            clear hX hY hts htb htl hd hR hZ
            go_wp2_with (first
              | (go_at_call 17; refine (HV _).mono ?_; rintro e' w' ⟨rfl, rfl⟩)
              | (at_builtin; refine wpList_append_iter rfl _ _ 22 rfl 5 .u8 1 Try.underlying22 Try.infoB w.heap.size u4 (ints (tb cs p)) (Z : Int) (by rfl) HOWN.out.1 (by rfl) hlb (by decide) w HOWN.out.2.2 HOWN.out.2.2.size it s (p + 1) HOWN.out.2.1 ?_; intro v' w' hown' hb' hit'))
            go_roundw
            case rel =>
              refine ⟨p + 1, by omega, by rw [HT.out.2.2, show (2 : Nat) ^ 0 = 1 by rfl, HT.out.1], by rw [HT.out.2.2]; rfl, ?_, hit', hb', HSG.out⟩
              rw [HT.out.2.1]; simpa [ints] using hown'
            case measure =>
              simp only [World.iterPos, hit', HIT.out]
              omega
          · rw [hd]
            obtain ⟨X, hX⟩ : ∃ X, T % 2 ^ 4 = X := ⟨_, rfl⟩
            obtain ⟨Y, hY⟩ : ∃ Y, X * 64 + v = Y := ⟨_, rfl⟩
            rw [hX]
            have hXb : X < 16 := by rw [← hX]; omega
            have hYb : Y < 4096 := by omega
            have hor : bits .or .u32 ((X : Int) * 64) (v : Int) = (Y : Int) := by
              have e := or_behind X v 6 (by decide) hv
              rw [show (X * 2 ^ 6 + v) % 4294967296 = Y by omega, show X * 2 ^ 6 % 4294967296 = X * 64 by omega] at e
              rw [← e]
              congr 1
            obtain ⟨R, hR⟩ : ∃ R, Y % 4 = R := ⟨_, rfl⟩
            obtain ⟨Z, hZ⟩ : ∃ Z, Y / 4 % 256 = Z := ⟨_, rfl⟩
            have hand : bits .and .u32 (Y : Int) 3 = (R : Int) := by rw [← hR]; exact and_low Y 2 (by omega) (by decide)
            have hZI : (Y : Int) / 4 % 256 = (Z : Int) := by rw [← hZ]; simp
            have HT : Hid (tw cs (p + 1) % 4 = R ∧ tb cs (p + 1) = tb cs p ++ [Z] ∧ 6 * (p + 1) % 8 = 2) := by
              refine ⟨by rw [hts]; omega, ?_, by omega⟩
              rw [htb, hd, if_pos (by decide), show 2 ^ (4 - 2) = 4 by rfl, show tw cs (p + 1) / 4 % 256 = Z by rw [hts]; omega]
            have hZ2 : Z < 256 := by rw [← hZ]; exact Nat.mod_lt _ (by decide)
            have hlb : (ints (tb cs p)).length < 1073741824 := by rw [ints_length, htl]; omega
            clear hX hY hts htb htl hd hR hZ
            go_wp2_with (first
              | (go_at_call 17; refine (HV _).mono ?_; rintro e' w' ⟨rfl, rfl⟩)
              | (at_builtin; refine wpList_append_iter rfl _ _ 22 rfl 5 .u8 1 Try.underlying22 Try.infoB w.heap.size u4 (ints (tb cs p)) (Z : Int) (by rfl) HOWN.out.1 (by rfl) hlb (by decide) w HOWN.out.2.2 HOWN.out.2.2.size it s (p + 1) HOWN.out.2.1 ?_; intro v' w' hown' hb' hit'))
            go_roundw
            case rel =>
              refine ⟨p + 1, by omega, by rw [HT.out.2.2, show (2 : Nat) ^ 2 = 4 by rfl, HT.out.1], by rw [HT.out.2.2]; rfl, ?_, hit', hb', HSG.out⟩
              rw [HT.out.2.1]; simpa [ints] using hown'
            case measure =>
              simp only [World.iterPos, hit', HIT.out]
              omega
          · rw [hd]
            obtain ⟨X, hX⟩ : ∃ X, T % 2 ^ 6 = X := ⟨_, rfl⟩
            obtain ⟨Y, hY⟩ : ∃ Y, X * 64 + v = Y := ⟨_, rfl⟩
            rw [hX]
            have hXb : X < 64 := by rw [← hX]; omega
            have hYb : Y < 4096 := by omega
            have hor : bits .or .u32 ((X : Int) * 64) (v : Int) = (Y : Int) := by
              have e := or_behind X v 6 (by decide) hv
              rw [show (X * 2 ^ 6 + v) % 4294967296 = Y by omega, show X * 2 ^ 6 % 4294967296 = X * 64 by omega] at e
              rw [← e]
              congr 1
            obtain ⟨R, hR⟩ : ∃ R, Y % 16 = R := ⟨_, rfl⟩
            obtain ⟨Z, hZ⟩ : ∃ Z, Y / 16 % 256 = Z := ⟨_, rfl⟩
            have hand : bits .and .u32 (Y : Int) 15 = (R : Int) := by rw [← hR]; exact and_low Y 4 (by omega) (by decide)
            have hZI : (Y : Int) / 16 = (Z : Int) := by omega
            have HT : Hid (tw cs (p + 1) % 16 = R ∧ tb cs (p + 1) = tb cs p ++ [Z] ∧ 6 * (p + 1) % 8 = 4) := by
              refine ⟨by rw [hts]; omega, ?_, by omega⟩
              rw [htb, hd, if_pos (by decide), show 2 ^ (6 - 2) = 16 by rfl, show tw cs (p + 1) / 16 % 256 = Z by rw [hts]; omega]
            have hZ2 : Z < 256 := by rw [← hZ]; exact Nat.mod_lt _ (by decide)
            have hlb : (ints (tb cs p)).length < 1073741824 := by rw [ints_length, htl]; omega
            clear hX hY hts htb htl hd hR hZ
            go_wp2_with (first
              | (go_at_call 17; refine (HV _).mono ?_; rintro e' w' ⟨rfl, rfl⟩)
              | (at_builtin; refine wpList_append_iter rfl _ _ 22 rfl 5 .u8 1 Try.underlying22 Try.infoB w.heap.size u4 (ints (tb cs p)) (Z : Int) (by rfl) HOWN.out.1 (by rfl) hlb (by decide) w HOWN.out.2.2 HOWN.out.2.2.size it s (p + 1) HOWN.out.2.1 ?_; intro v' w' hown' hb' hit'))
            go_roundw
            case rel =>
              refine ⟨p + 1, by omega, by rw [HT.out.2.2, show (2 : Nat) ^ 4 = 16 by rfl, HT.out.1], by rw [HT.out.2.2]; rfl, ?_, hit', hb', HSG.out⟩
              rw [HT.out.2.1]; simpa [ints] using hown'
            case measure =>
              simp only [World.iterPos, hit', HIT.out]
              omega
        · have hS' : isS c = false := by simpa using hS
          rw [hS'] at HV
          have HB : Hid (¬ Good cs) := fun g => by
            have hp' : p < cs.length := by rw [HC.out.1]; exact hlt
            have := g.1 (cs.getD p 0) (by simp [List.getD, hp'])
            rw [hcp, hS'] at this
            cases this
          clear hd8 hS
          go_wp2_with (go_at_call 17; refine (HV _).mono ?_; rintro e' w' ⟨rfl, rfl⟩)
          go_ret2
          exact ⟨.inr ⟨HB.out, rfl⟩, hbw2⟩
      · have hnx : ∀ ty, (Instr.next (.pointer (some ⟨it, 0, none⟩)) true ty).run Try.prog wr = _ := fun ty => Lib.run_next_any_at wr it s p ty hit hlt
        have hge := (decode_high s p hlt (by omega)).1
        have hle := decode_le s p
        have hbw2 := Lib.below_iterAt hbw hitb s (p + (Utf8.decode s p).2)
        generalize wr.iterAt it s (p + (Utf8.decode s p).2) = w2 at *
        generalize (Utf8.decode s p).1 = c at *
        have HV := fun w' => valueOf_any c w' (by omega)
        have hS' : isS c = false := by
          cases e : isS c with
          | false => rfl
          | true => have := isS_lt e; omega
        rw [hS'] at HV
        have HB : Hid (¬ Good cs) := fun g => by
          have hp' : p < cs.length := by rw [HC.out.1]; exact hlt
          have := isS_lt (g.1 (cs.getD p 0) (by simp [List.getD, hp']))
          rw [hcp] at this
          omega
        clear hd8 hown hit hbw
        go_wp2_with (go_at_call 17; refine (HV _).mono ?_; rintro e' w' ⟨rfl, rfl⟩)
        go_ret2
        exact ⟨.inr ⟨HB.out, rfl⟩, hbw2⟩
    · obtain rfl : p = s.size := by omega
      have hnx : ∀ ty, (Instr.next (.pointer (some ⟨it, 0, none⟩)) true ty).run Try.prog wr = _ := fun ty => Lib.run_next_end_at wr it s s.size ty hit hlt
      have htk : cs.take s.size = cs := List.take_of_length_le (by rw [HC.out.1]; omega)
      have hall : ∀ c ∈ cs, isS c = true := by
        intro c hc
        obtain ⟨i, hi, rfl⟩ := List.mem_iff_getElem.1 hc
        have := hsg i (by rw [← HC.out.1]; exact hi)
        simpa [List.getD, hi] using this
      have hfull : Full (cs.map vS) ↔ (6 * s.size % 8 ≠ 6 ∧ tw cs s.size % 2 ^ (6 * s.size % 8) = 0) := by
        unfold Full tw
        rw [htk, List.length_map, HC.out.1]
      have HO : Hid (Own 5 .u8 wr w.heap.size u4 (ints (byt (cs.map vS))) ∧ Below w.heap.size w wr) := by
        refine ⟨?_, hbw⟩
        have := hown
        unfold tb at this
        rw [htk] at this
        exact this
      have HF : Hid (Good cs ↔ (6 * s.size % 8 ≠ 6 ∧ tw cs s.size % 2 ^ (6 * s.size % 8) = 0)) := ⟨fun g => hfull.1 g.2, fun g => ⟨hall, hfull.2 g⟩⟩
      clear hown hbw hsg hfull hall htk hit
      obtain ⟨d, hd⟩ : ∃ d, 6 * s.size % 8 = d := ⟨_, rfl⟩
      obtain ⟨X, hX⟩ : ∃ X, tw cs s.size % 2 ^ d = X := ⟨_, rfl⟩
      rw [hd, hX] at HF ⊢
      clear hd hX
      by_cases h6 : d = 6
      · subst h6
        go_wp2
        go_ret2
        exact ⟨.inr ⟨fun g => (HF.out.1 g).1 rfl, rfl⟩, HO.out.2⟩
      · have h6' : (d : Int) ≠ 6 := by omega
        by_cases hX0 : X = 0
        · subst hX0
          go_wp2
          go_ret2
          exact ⟨.inl ⟨HF.out.2 ⟨h6, by simp⟩, _, rfl, HO.out.1⟩, HO.out.2⟩
        · have hX0' : ((X : Int) != 0) = true := by simp; omega
          have h6b : ((d : Int) == 6) = false := by simp; omega
          go_wp2
          go_ret2
          exact ⟨.inr ⟨fun g => hX0 (HF.out.1 g).2, rfl⟩, HO.out.2⟩
end Go.Proofs.Ytbhjidmbihkppaa
