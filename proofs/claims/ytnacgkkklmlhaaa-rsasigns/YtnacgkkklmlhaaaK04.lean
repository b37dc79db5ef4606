import Derived.Test.YtnacgkkklmlhaaaK03
import Derived.Deep.MidRow
import Derived.Deep.WholeRow
import Derived.Test.YtnacgkkklmlhaaaK02
import Derived.Deep.LoopGhost
import Derived.Laws.CopyRow
import Derived.WideShapes
import Derived.OpenShut
import Derived.ChangeSame
/-
  SHA-256 as plain mathematics: words of 32 bits as numbers, in the spelling that the walk leaves. No program in sight.
-/
namespace Go.Proofs.Ytnacgkkklmlhaaa
open Go.RowKit
set_option linter.unusedVariables false
set_option linter.unusedSimpArgs false

abbrev M32 : Int := 4294967296
def sg0 (x : Int) : Int := bits .xor .u32 (bits .xor .u32 (rot x 7) (rot x 18)) (x / 8)
def sg1 (x : Int) : Int := bits .xor .u32 (bits .xor .u32 (rot x 17) (rot x 19)) (x / 1024)
/-- The next word behind i words. -/
def wNext (l : List Int) (i : Nat) : Int :=
  (((l.getD (i - 16) 0 + sg0 (l.getD (i - 15) 0)) % M32 + l.getD (i - 7) 0) % M32 + sg1 (l.getD (i - 2) 0)) % M32
def schedGo : Nat → List Int → List Int
  | 0, l => l
  | n + 1, l => schedGo n (l ++ [wNext l l.length])
/-- A word's first k bytes. -/
def pw (b : List Int) (i : Nat) : Nat → Int
  | 0 => 0
  | k + 1 => pw b i k * 256 + b.getD (4 * i + k) 0
def words16 (b : List Int) : List Int := (List.range 16).map fun i => pw b i 4
def sched (b : List Int) : List Int := schedGo 48 (words16 b)

structure S8 where
  a : Int
  b : Int
  c : Int
  d : Int
  e : Int
  f : Int
  g : Int
  h : Int

def big1 (e : Int) : Int := bits .xor .u32 (bits .xor .u32 (rot e 6) (rot e 11)) (rot e 25)
def big0 (a : Int) : Int := bits .xor .u32 (bits .xor .u32 (rot a 2) (rot a 13)) (rot a 22)
def chI (e f g : Int) : Int := bits .xor .u32 (bits .and .u32 e f) (bits .and .u32 (bits .xor .u32 4294967295 e) g)
def majI (a b c : Int) : Int := bits .xor .u32 (bits .xor .u32 (bits .and .u32 a b) (bits .and .u32 a c)) (bits .and .u32 b c)
def t1 (e f g h k w : Int) : Int := ((((h + big1 e) % M32 + chI e f g) % M32 + k) % M32 + w) % M32
def t2 (a b c : Int) : Int := (big0 a + majI a b c) % M32
def rnd (s : S8) (k w : Int) : S8 :=
  ⟨(t1 s.e s.f s.g s.h k w + t2 s.a s.b s.c) % M32, s.a, s.b, s.c, (s.d + t1 s.e s.f s.g s.h k w) % M32, s.e, s.f, s.g⟩
def runS (K W : List Int) (s : S8) : Nat → S8
  | 0 => s
  | n + 1 => rnd (runS K W s n) (K.getD n 0) (W.getD n 0)
def s8 (l : List Int) : S8 := ⟨l.getD 0 0, l.getD 1 0, l.getD 2 0, l.getD 3 0, l.getD 4 0, l.getD 5 0, l.getD 6 0, l.getD 7 0⟩
def addS (l : List Int) (s : S8) : List Int :=
  [(l.getD 0 0 + s.a) % M32, (l.getD 1 0 + s.b) % M32, (l.getD 2 0 + s.c) % M32, (l.getD 3 0 + s.d) % M32, (l.getD 4 0 + s.e) % M32, (l.getD 5 0 + s.f) % M32, (l.getD 6 0 + s.g) % M32, (l.getD 7 0 + s.h) % M32]
/-- The words behind a block. -/
def mixS (K : List Int) (l blk : List Int) : List Int := addS l (runS K (sched blk) (s8 l) 64)

def KS : List Int := [0x428a2f98,0x71374491,0xb5c0fbcf,0xe9b5dba5,0x3956c25b,0x59f111f1,0x923f82a4,0xab1c5ed5,0xd807aa98,0x12835b01,0x243185be,0x550c7dc3,0x72be5d74,0x80deb1fe,0x9bdc06a7,0xc19bf174,0xe49b69c1,0xefbe4786,0x0fc19dc6,0x240ca1cc,0x2de92c6f,0x4a7484aa,0x5cb0a9dc,0x76f988da,0x983e5152,0xa831c66d,0xb00327c8,0xbf597fc7,0xc6e00bf3,0xd5a79147,0x06ca6351,0x14292967,0x27b70a85,0x2e1b2138,0x4d2c6dfc,0x53380d13,0x650a7354,0x766a0abb,0x81c2c92e,0x92722c85,0xa2bfe8a1,0xa81a664b,0xc24b8b70,0xc76c51a3,0xd192e819,0xd6990624,0xf40e3585,0x106aa070,0x19a4c116,0x1e376c08,0x2748774c,0x34b0bcb5,0x391c0cb3,0x4ed8aa4a,0x5b9cca4f,0x682e6ff3,0x748f82ee,0x78a5636f,0x84c87814,0x8cc70208,0x90befffa,0xa4506ceb,0xbef9a3f7,0xc67178f2]
def HS : List Int := [0x6a09e667,0xbb67ae85,0x3c6ef372,0xa54ff53a,0x510e527f,0x9b05688c,0x1f83d9ab,0x5be0cd19]

/-- The words behind the first n blocks. -/
def hb (bs : List Int) : Nat → List Int
  | 0 => HS
  | n + 1 => mixS KS (hb bs n) ((bs.drop (64 * n)).take 64)
/-- How many bytes 0 there are between. -/
def gapN (n : Nat) : Nat := (119 - n % 64) % 64
def pad8 (n : Nat) : List Int := (List.range 8).map fun i => (8 * n : Int) / 2 ^ (56 - 8 * i) % 256
def ending (n : Nat) : List Int := 128 :: (List.replicate (gapN n) 0 ++ pad8 n)
def spreadS (l : List Int) : List Int := (List.range 32).map fun i => l.getD (i / 4) 0 / 2 ^ (24 - 8 * (i % 4)) % 256
/-- The hash. -/
def shaS (bs : List Int) : List Int := spreadS (hb (bs ++ ending bs.length) ((bs ++ ending bs.length).length / 64))

theorem sha_nil : (shaS []).take 8 = [0xe3, 0xb0, 0xc4, 0x42, 0x98, 0xfc, 0x1c, 0x14] := by decide +kernel
theorem sha_abc : (shaS [97, 98, 99]).take 8 = [0xba, 0x78, 0x16, 0xbf, 0x8f, 0x01, 0xcf, 0xea] := by decide +kernel
end Go.Proofs.Ytnacgkkklmlhaaa
/-
  Laws for whole arrays of numbers: made, boxed, read and written at once; answers that lie in a cell.
-/
namespace Go.Proofs.Ytnacgkkklmlhaaa
open Go.RowKit
set_option linter.unusedVariables false
set_option linter.unusedSimpArgs false

/-- An array of numbers, as a value. -/
def ag (k : IntKind) (xs : List Int) : Value := .agg ((xs.map (Value.int k)).toArray)
theorem ints_all (k : IntKind) (xs : List Int) : ((xs.map (Value.int k)).toArray).all (·.oneCell') = true :=
  Array.all_eq_true_iff_forall_mem.2 fun v hv => by
    obtain ⟨x, _, rfl⟩ := List.mem_map.1 (by simpa using hv)
    rfl

theorem Row.alloc (e : TypeId) (k : IntKind) (w : World) (xs : List Int) : Row e k (w.alloc (.cells ((xs.map (Value.int k)).toArray) e)) w.heap.size xs := heap_alloc_new w _
theorem below_alloc (w : World) (o : Obj) : Below w.heap.size w (w.alloc o) := (Below.refl _ _).alloc (Nat.le_refl _) o
theorem size_alloc' (w : World) (o : Obj) : (w.alloc o).heap.size = w.heap.size + 1 := by simp

/-- var x [n]T. -/
theorem wpList_alloc_row {P : Program} {w : World} {ops : Array Oper} {rest : List Oper} {o : Oper} {a : Act} {Q : Exit → Act → World → Prop} (hgd : o.guard = none) (t : TypeId) (hop : o.op = Op.alloc t) (k : IntKind) (n : Nat)
    (hz : (P.info? t).map (fun i => (i.zero, i.size)) = some (some (ag k (List.replicate n 0)), n))
    (hK : ∀ w', Row t k w' w.heap.size (List.replicate n 0) → Below w.heap.size w w' → w'.heap.size = w.heap.size + 1 → wpList P ops Q rest (a.put o.dst (.pointer (some ⟨w.heap.size, 0, none⟩))) w') :
    wpList P ops Q (o :: rest) a w := by
  refine wpList_plain hgd fun K hK' => ?_
  have hr := (zero_of_info hz).1 w
  unfold Oper.wp
  simp only [execOp, hop, Instr.alloc, Sem.run_bind, hr, Result.andThen_ok]
  exact hK' _ _ (hK (w.alloc (.cells (((List.replicate n (0 : Int)).map (Value.int k)).toArray) t)) (Row.alloc t k w _) (below_alloc w _) (size_alloc' w _))

/-- A parameter of such a type. -/
theorem wpList_box_row {P : Program} {w : World} {ops : Array Oper} {rest : List Oper} {o : Oper} {a : Act} {Q : Exit → Act → World → Prop} (hgd : o.guard = none) (t : TypeId) (x : Operand) (hop : o.op = Op.box t x) (k : IntKind) (xs : List Int)
    (hx : a.eval x = ag k xs)
    (hK : ∀ w', Row t k w' w.heap.size xs → Below w.heap.size w w' → w'.heap.size = w.heap.size + 1 → wpList P ops Q rest (a.put o.dst (.pointer (some ⟨w.heap.size, 0, none⟩))) w') :
    wpList P ops Q (o :: rest) a w := by
  refine wpList_plain hgd fun K hK' => ?_
  unfold Oper.wp
  simp only [execOp, hop, hx, ag, Instr.box, Sem.run_bind, Result.andThen_ok]
  exact hK' _ _ (hK (w.alloc (.cells ((xs.map (Value.int k)).toArray) t)) (Row.alloc t k w _) (below_alloc w _) (size_alloc' w _))

/-- The whole array is read. -/
theorem wpList_load_nums {P : Program} {w : World} {ops : Array Oper} {rest : List Oper} {o : Oper} {a : Act} {Q : Exit → Act → World → Prop} (hgd : o.guard = none) (ty : TypeId) (x : Operand) (hop : o.op = Op.load ty x) (k : IntKind) (t e : TypeId) (n : Nat)
    (hu : P.underlying ty = some (.array n e)) (hi : (P.info? ty).map (·.size) = some n) (g : Nat) (xs : List Int) (hx : a.eval x = .pointer (some ⟨g, 0, none⟩)) (hr : Row t k w g xs) (hl : xs.length = n)
    (h : wpList P ops Q rest (a.put o.dst (ag k xs)) w) : wpList P ops Q (o :: rest) a w :=
  wpList_load_row hgd ty x hop g hx t _ (0, 0) (.array n e) hr hu rfl (by rw [hi]; simp [hl]) h

theorem below_setRow' {B g : Nat} {w0 w : World} (hb : Below B w0 w) (hBg : B ≤ g) (cs : Array Value) : Below B w0 (w.setRow g cs) :=
  hb.trans ⟨rfl, rfl, rfl, by simp, fun k hk => setRow_other w g k cs (by omega)⟩
/-- The whole array is written. -/
theorem wpList_store_nums {P : Program} {w : World} {ops : Array Oper} {rest : List Oper} {o : Oper} {a : Act} {Q : Exit → Act → World → Prop} (hgd : o.guard = none) (ty : TypeId) (x y : Operand) (hop : o.op = Op.store ty x y) (k : IntKind) (t : TypeId) (n : Nat)
    (hi : (P.info? ty).map (·.size) = some n) (g : Nat) (old xs : List Int) (hx : a.eval x = .pointer (some ⟨g, 0, none⟩)) (hy : a.eval y = ag k xs) (hr : Row t k w g old) (ho : old.length = n) (hl : xs.length = n)
    (hK : ∀ w', Row t k w' g xs → Below g w w' → w'.heap.size = w.heap.size → (∀ j, j ≠ g → w'.heap[j]? = w.heap[j]?) → wpList P ops Q rest (a.put o.dst undef) w') : wpList P ops Q (o :: rest) a w :=
  wpList_store_row hgd ty x y hop g _ hx hy t _ hr (by rw [hi]; simp [hl]) (by simp [hl, ho]) (ints_all k xs)
    (hK _ (setRow_heap w g _ _ t (0, 0) hr) (below_setRow' (Below.refl _ _) (Nat.le_refl _) _) (by simp) (fun j hj => setRow_other w g j _ hj))

/-- An answer that lies in a cell. -/
theorem results_nums {P : Program} {fn : Func} {p : Tmp} {ty : TypeId} (h : fn.results = #[.cell p ty]) (tmps : Array Value) (w : World) (g : Nat) (t e : TypeId) (k : IntKind) (n : Nat) (xs : List Int)
    (hp : tmps.getD p undef = .pointer (some ⟨g, 0, none⟩)) (hr : Row t k w g xs) (hu : P.underlying ty = some (.array n e)) (hi : (P.info? ty).map (·.size) = some n) (hl : xs.length = n) :
    (results fn tmps).run P w = .ok (ag k xs) w :=
  results_cell_row h tmps w g t _ (0, 0) (.array n e) hp hr hu rfl (by rw [hi]; simp [hl])

theorem Try.infoB32 : (Try.prog.info? 47).map (fun i => (i.zero, i.size)) = some (some (ag .u8 (List.replicate 32 0)), 32) := by kernel_rfl
theorem Try.sizeB32 : (Try.prog.info? 47).map (·.size) = some 32 := (zero_of_info Try.infoB32).2
theorem Try.infoW : (Try.prog.info? 108).map (fun i => (i.zero, i.size, i.bytes)) = some (some (.int .u32 0), 1, 4) := by kernel_rfl
end Go.Proofs.Ytnacgkkklmlhaaa
/-
  Contracts of the document's answer: bytes as a number (Read), a number as bytes (Bytes).
-/
namespace Go.Proofs.Ytnacgkkklmlhaaa
open Go.RowKit
set_option linter.unusedVariables false
set_option linter.unusedSimpArgs false

theorem pow256_2 (m : Nat) : (256 : Int) ^ (2 * m) = D16 ^ m := by rw [Int.pow_mul]; rfl

/-- Where a slice of the call's own lies: it is read there, and written. -/
theorem Own.spot {e : TypeId} {k : IntKind} {w : World} {base : Nat} {v : Value} {xs : List Int} (h : Own e k w base v xs) (h0 : 0 < xs.length) :
    ∃ g cap, v = .slice (some ⟨g, 0, none⟩) xs.length cap ∧ base ≤ g ∧ g < w.heap.size ∧ xs.length ≤ cap ∧ cap ≤ maxLen ∧ (∀ j, j < xs.length → w.cell? ⟨g, j, none⟩ = some (.int k (xs.getD j 0))) ∧ (∀ j, w.frozen? ⟨g, j, none⟩ = false) ∧
      ∀ j y, j < xs.length → Own e k (w.setCell ⟨g, j, none⟩ (.int k y)) base v (xs.set j y) := by
  rcases h.2 with ⟨rfl, h1⟩ | ⟨g, cap, cur, rfl, hg, hrow, h1, h2, h3, h4⟩
  · omega
  · refine ⟨g, cap, rfl, hg, (Array.getElem?_eq_some_iff.1 hrow).1, h1, h2, fun j hj => ?_, fun j => frozen_of_row w g j cur e hrow, fun j y hj => ⟨by simp, .inr ⟨g, cap, cur.set! j (.int k y), ?_, hg, heap_setCell_same w g j _ e _ hrow, ?_, h2, ?_, ?_⟩⟩⟩
    · rw [cell_of_row w g j cur e (0, 0) hrow]
      have : (cur.toList.take (xs.length * 1))[j]? = (xs.map (Value.int k))[j]? := by rw [h4]
      rw [List.getElem?_take, if_pos (by omega)] at this
      rw [← Array.getElem?_toList, this]
      simp [hj]
    · simp
    · simpa using h1
    · simpa using h3
    · have e1 : (cur.set! j (Value.int k y)).toList = cur.toList.set j (.int k y) := by simp
      rw [e1, List.length_set, List.take_set, h4, List.map_set]

/-- What Read has gathered when i bytes have been gone over, the last first. -/
def RReads (rb : List Int) (i : Nat) (ds : List Int) : Prop :=
  ds.length = (i + 1) / 2 ∧ Dg D16 ds ∧ (i % 2 = 1 → ds.getD (i / 2) 0 < 256) ∧ val D16 ds = low 256 rb i
theorem RReads.even {rb : List Int} {m : Nat} {ds : List Int} (h : RReads rb (2 * m) ds) (hd : 0 ≤ rb.getD (2 * m) 0 ∧ rb.getD (2 * m) 0 < 256) : RReads rb (2 * m + 1) (ds ++ [rb.getD (2 * m) 0]) := by
  obtain ⟨h1, h2, h3, h4⟩ := h
  have hl : ds.length = m := by omega
  refine ⟨by simp [hl]; omega, h2.append (Dg.cons (by unfold D16; omega) (Dg.nil _)), fun _ => ?_, ?_⟩
  · rw [show (2 * m + 1) / 2 = m by omega]
    have : (ds ++ [rb.getD (2 * m) 0]).getD m 0 = rb.getD (2 * m) 0 := by simp [List.getD, List.getElem?_append, hl]
    rw [this]; exact hd.2
  · rw [val_snoc, low_succ, h4, hl, pow256_2]
theorem RReads.odd {rb : List Int} {m : Nat} {ds : List Int} (h : RReads rb (2 * m + 1) ds) (hd : 0 ≤ rb.getD (2 * m + 1) 0 ∧ rb.getD (2 * m + 1) 0 < 256) : RReads rb (2 * m + 1 + 1) (ds.set m (ds.getD m 0 + 256 * rb.getD (2 * m + 1) 0)) := by
  obtain ⟨h1, h2, h3, h4⟩ := h
  have hl : ds.length = m + 1 := by omega
  have h3' := h3 (by omega)
  rw [show (2 * m + 1) / 2 = m by omega] at h3'
  have g := h2.getD D16_pos m
  refine ⟨by simp [hl]; omega, h2.set _ ⟨by omega, by unfold D16; omega⟩, fun e => by omega, ?_⟩
  rw [val_set _ _ _ _ (by omega), low_succ, h4, Int.pow_succ, pow256_2]
  generalize D16 ^ m = p at *
  grind

set_option maxHeartbeats 2000000 in
/-- the document's Read. -/
theorem rRead_any (ao : Option Addr) (n ca : Nat) (bs : List Int) (w : World) (h : NumIn .u8 256 w ao n ca bs) (hn : n ≤ 2000) :
    Calls Try.prog 40 #[.slice ao n ca] w fun e w' => ∃ v, e = .returned v ∧ NumOut .i64 D16 w w' v (val 256 bs.reverse) 1001 := by
  have hl := h.len
  go_enter Try.func40, Try.ntmps40
  go_wp2
  go_loopw [3, 4] (fun vo vi wr => ∃ (i : Nat) (ds : List Int), i ≤ n ∧ vi = .int .i64 i ∧ Own 3 .i64 wr w.heap.size vo ds ∧ RReads bs.reverse i ds ∧ Below w.heap.size w wr) (fun _ vi _ => n - (intOf vi).toNat)
  case atStart => exact ⟨0, [], Nat.zero_le _, rfl, Own.nil _ _ _ _, ⟨rfl, Dg.nil _, fun e => by omega, by simp [val, low_zero]⟩, Below.refl _ _⟩
  case round =>
    obtain ⟨i, ds, hi, rfl, hown, hs, hb⟩ := hrel
    by_cases hlt : i < n
    · have hx := h.lies.old hb
      obtain ⟨b, off, rfl, hblk, hcs⟩ := hx.at (by omega)
      have hcell := hcs (n - 1 - i) (by omega)
      have gx := h.dg.getD (by decide) (n - 1 - i)
      have er := getD_reverse bs i (by omega)
      rw [hl] at er
      have hlen := hs.1
      have hbs := hb.size
      obtain ⟨p, hp⟩ : ∃ p, n - 1 - i = p := ⟨_, rfl⟩
      rw [hp] at hcell gx er
      have hpn : p < n := by omega
      have hpe : n = p + 1 + i := by omega
      clear hp
      rw [← er] at gx hcell
      rcases (show i % 2 = 0 ∨ i % 2 = 1 by omega) with hpar | hpar
      · obtain ⟨m, rfl⟩ : ∃ m, i = 2 * m := ⟨i / 2, by omega⟩
        have HS : Hid (RReads bs.reverse (2 * m + 1) (ds ++ [bs.reverse.getD (2 * m) 0])) := hs.even gx
        have HLB : Hid (ds.length < 1073741824) := by unfold Hid; omega
        generalize bs.reverse.getD (2 * m) 0 = x at *
        obtain ⟨i, hie⟩ : ∃ i, 2 * m = i := ⟨_, rfl⟩
        rw [hie] at hlt hi hpe HS hlen ⊢
        have hev : (i : Int) % 2 = 0 := by omega
        have ek : (n : Int) - 1 - (i : Int) = (p : Int) := by omega
        clear hs hx hcs h hl er hpar hlen hie hpe
        go_wp2_with (at_builtin; refine wpList_append_one rfl _ _ 41 rfl 3 .i64 8 Try.underlying41 Try.infoI w.heap.size u3 ds x (by rfl) hown (by rfl) HLB.out (by decide) w hb hbs ?_)
        intro v' w' hown' hb'
        clear hown hb hbs
        go_wp2
        go_roundw
        case rel => exact ⟨i + 1, _, by omega, by go_num, hown', HS.out, hb'⟩
        case measure => simp [intOf] <;> omega
      · obtain ⟨m, rfl⟩ : ∃ m, i = 2 * m + 1 := ⟨i / 2, by omega⟩
        have HS : Hid (RReads bs.reverse (2 * m + 1 + 1) (ds.set m (ds.getD m 0 + 256 * bs.reverse.getD (2 * m + 1) 0))) := hs.odd gx
        obtain ⟨g, cap, hv, hg1, hg2, hg3, hg4, hcl, hfz, hset⟩ := hown.spot (by omega)
        have hm : m < ds.length := by omega
        have hcg := hcl m hm
        have hfr := hfz m
        have gd := hs.2.1.getD D16_pos m
        have gd0 := gd.1
        have gd1 : ds.getD m 0 < 65536 := gd.2
        have hbne : b < w.heap.size := by
          obtain ⟨b', off', e, hlt', _⟩ := h.lies.at (by omega)
          injection e with e
          injection e with e
          omega
        have hne : b ≠ g := by omega
        have HO : Hid (Own 3 .i64 (wr.setCell ⟨g, m, none⟩ (.int .i64 (ds.getD m 0 + 256 * bs.reverse.getD (2 * m + 1) 0))) w.heap.size (.slice (some ⟨g, 0, none⟩) ds.length cap) (ds.set m (ds.getD m 0 + 256 * bs.reverse.getD (2 * m + 1) 0))) := by have := hset m (ds.getD m 0 + 256 * bs.reverse.getD (2 * m + 1) 0) hm; rw [hv] at this; exact this
        have HB : Hid (Below w.heap.size w wr) := hb
        subst hv
        generalize bs.reverse.getD (2 * m + 1) 0 = x at *
        generalize ds.getD m 0 = y at *
        obtain ⟨i, hie⟩ : ∃ i, 2 * m + 1 = i := ⟨_, rfl⟩
        rw [hie] at hlt hi hpe HS hlen ⊢
        have hev : (i : Int) % 2 = 1 := by omega
        have ehalf : (i : Int) / 2 = (m : Int) := by omega
        have ek : (n : Int) - 1 - (i : Int) = (p : Int) := by omega
        have hmi : (m : Int) < (ds.length : Int) := by omega
        generalize ds.length = L at *
        clear hs hx hcs h hl er hpar hlen hie hpe hset hcl hfz hown hb gd
        go_wp2
        go_region
        all_goals
          go_wp2
          go_roundw
          case rel => exact ⟨i + 1, _, by omega, by go_num, HO.out, HS.out, (HB.out.setCell (by assumption) _).drew⟩
          case measure => simp [intOf] <;> omega
    · obtain rfl : i = n := by omega
      have hlen := hs.1
      obtain ⟨a2, c2, hv, hnum⟩ := hown.num hs.2.1 (by omega)
      have HV : Hid (val D16 ds = val 256 bs.reverse) := by
        unfold Hid
        have e : bs.reverse.length = i := by simp [hl]
        rw [hs.2.2.2, ← e, low_len]
      have HN : Hid (NumIn .i64 D16 wr a2 ds.length c2 ds) := hnum
      have HB : Hid (Below w.heap.size w wr) := hb
      have HL : Hid (ds.length ≤ 1001) := by unfold Hid; omega
      subst hv
      clear hown hs hnum hb h hlen
      go_wp2_with fail
      refine (rtrim_any a2 ds.length c2 ds wr HN.out).mono ?_
      rintro e w4 ⟨rfl, rfl⟩
      go_wp2
      go_ret
      exact ⟨_, rfl, HN.out.out HB.out _ HV.out _ HL.out⟩

theorem byte_even (ds : List Int) (hd : Dg D16 ds) (m : Nat) : ds.getD m 0 % 256 = byteAt (val D16 ds) (2 * m) := by
  unfold byteAt
  rw [digit_at D16_pos ds hd m, pow256_2]
  generalize val D16 ds / D16 ^ m = Y
  unfold D16
  omega
theorem byte_odd (ds : List Int) (hd : Dg D16 ds) (m : Nat) : ds.getD m 0 / 256 % 256 = byteAt (val D16 ds) (2 * m + 1) := by
  unfold byteAt
  have hp : (0 : Int) < D16 ^ m := Int.pow_pos D16_pos
  rw [digit_at D16_pos ds hd m, Int.pow_succ, pow256_2, ← Int.ediv_ediv_of_nonneg (by omega)]
  generalize val D16 ds / D16 ^ m = Y
  unfold D16
  omega

set_option maxHeartbeats 2000000 in
/-- the document's Bytes. -/
theorem rBytes_any (ao : Option Addr) (la ca : Nat) (ds : List Int) (n : Nat) (w : World) (h : NumIn .i64 D16 w ao la ca ds) (hn : n ≤ 512) (hV : val D16 ds < 256 ^ n) :
    Calls Try.prog 41 #[.slice ao la ca, .int .i64 n] w fun e w' => ∃ v, e = .returned v ∧ BytesOut w w' v n (val D16 ds) := by
  have hl := h.len
  have HV : Hid (0 ≤ val D16 ds ∧ val D16 ds < 256 ^ n) := ⟨val_nonneg D16_pos h.dg, hV⟩
  clear hV
  go_enter Try.func41, Try.ntmps41
  go_wp2_with (at_make; refine wpList_make_row _ rfl _ _ 48 rfl 5 .u8 1 Try.underlying48 Try.infoB _ _ _ _ n rfl rfl rfl rfl (by omega) (by unfold maxLen; omega) ?_)
  intro w3 hrow hbel
  go_wp2
  go_loopw [6] (fun vi wr => ∃ (k : Nat) (cur : List Int), k ≤ n ∧ vi = .int .i64 k ∧ Row 5 .u8 wr w.heap.size cur ∧ Wrts (val D16 ds) n k cur ∧ Below w.heap.size w wr) (fun vi _ => n - (intOf vi).toNat)
  case atStart => exact ⟨0, _, Nat.zero_le _, rfl, hrow, Wrts.zero _ _, hbel⟩
  case round =>
    obtain ⟨k, cur, hk, rfl, hrw, ha, hb⟩ := hrel
    clear hrow hbel
    by_cases hlt : k < n
    · have hx := h.lies.old hb
      have hln := ha.1
      have HS : Hid (Wrts (val D16 ds) n (k + 1) (cur.set (n - 1 - k) (byteAt (val D16 ds) k))) := ha.step hlt
      have HR : Hid (Row 5 .u8 (wr.setCell ⟨w.heap.size, n - 1 - k, none⟩ (.int .u8 (byteAt (val D16 ds) k))) w.heap.size (cur.set (n - 1 - k) (byteAt (val D16 ds) k))) := hrw.set (n - 1 - k) (byteAt (val D16 ds) k)
      have HB : Hid (Below w.heap.size w wr) := hb
      obtain ⟨m, hm⟩ : ∃ m, k / 2 = m := ⟨_, rfl⟩
      have hx0 := h.dg.getD D16_pos m
      have x0 := hx0.1
      have x1 : ds.getD m 0 < 65536 := hx0.2
      have heven : k % 2 = 0 → byteAt (val D16 ds) k = ds.getD m 0 % 256 := fun e => by rw [byte_even ds h.dg m]; congr 1; omega
      have hodd : k % 2 = 1 → byteAt (val D16 ds) k = ds.getD m 0 / 256 % 256 := fun e => by rw [byte_odd ds h.dg m]; congr 1; omega
      have hfr := hrw.frozen (n - 1 - k)
      have hcl := hrw.cell (n - 1 - k) (by omega)
      have ehalf : (k : Int) / 2 = (m : Int) := by omega
      obtain ⟨p, hp⟩ : ∃ p, n - 1 - k = p := ⟨_, rfl⟩
      have ek : (n : Int) - 1 - (k : Int) = (p : Int) := by omega
      have hpn : p < n := by omega
      rw [hp] at hfr hcl HS HR
      generalize cur.getD p 0 = y at *
      have hout : ¬ m < la → ds.getD m 0 = 0 := fun hk => by simp [List.getD, List.getElem?_eq_none (show ds.length ≤ m by omega)]
      have hin : m < la → ∃ b2 off2, ao = some ⟨b2, off2, none⟩ ∧ wr.cell? ⟨b2, off2 + m, none⟩ = some (.int .i64 (ds.getD m 0)) := fun hk => by
        obtain ⟨b2, off2, e, _, hc2⟩ := hx.at (by omega)
        exact ⟨b2, off2, e, hc2 m hk⟩
      clear h hrw ha hln hb hx HV hl hp hx0
      generalize ds.getD m 0 = x at *
      rcases (show k % 2 = 0 ∨ k % 2 = 1 by omega) with hpar | hpar
      · have hb8 := heven hpar
        rw [hb8] at HS HR
        have hev : (k : Int) % 2 = 0 := by omega
        clear heven hodd hb8 hpar hm
        by_cases hma : m < la
        · obtain ⟨b2, off2, rfl, hc2⟩ := hin hma
          clear hin hout
          go_wp2
          go_roundw
          case rel => exact ⟨k + 1, _, by omega, by go_num, HR.out, HS.out, HB.out.setCell (Nat.le_refl _) _⟩
          case measure => simp [intOf] <;> omega
        · obtain rfl := hout hma
          clear hin hout
          rw [show (0 : Int) % 256 = 0 from rfl] at HR HS
          go_wp2
          go_roundw
          case rel => exact ⟨k + 1, _, by omega, by go_num, HR.out, HS.out, HB.out.setCell (Nat.le_refl _) _⟩
          case measure => simp [intOf] <;> omega
      · have hb8 := hodd hpar
        rw [hb8] at HS HR
        have hev : (k : Int) % 2 = 1 := by omega
        clear heven hodd hb8 hpar hm
        by_cases hma : m < la
        · obtain ⟨b2, off2, rfl, hc2⟩ := hin hma
          clear hin hout
          go_wp2
          go_roundw
          case rel => exact ⟨k + 1, _, by omega, by go_num, HR.out, HS.out, HB.out.setCell (Nat.le_refl _) _⟩
          case measure => simp [intOf] <;> omega
        · obtain rfl := hout hma
          clear hin hout
          rw [show (0 : Int) / 256 % 256 = 0 from rfl] at HR HS
          go_wp2
          go_roundw
          case rel => exact ⟨k + 1, _, by omega, by go_num, HR.out, HS.out, HB.out.setCell (Nat.le_refl _) _⟩
          case measure => simp [intOf] <;> omega
    · obtain rfl : k = n := by omega
      have HF : Hid (BytesOut w wr (.slice (some ⟨w.heap.size, 0, none⟩) k k) k (val D16 ds)) := ⟨_, cur, rfl, hrw, ha.1, ha.2.1, ha.done HV.out.1 HV.out.2, hb⟩
      clear hrw ha hb h HV
      go_wp2
      go_ret
      exact ⟨_, rfl, HF.out⟩
end Go.Proofs.Ytnacgkkklmlhaaa
/-
  rsa's Pad, and the document's.
-/
namespace Go.Proofs.Ytnacgkkklmlhaaa
open Go.RowKit
set_option linter.unusedVariables false
set_option linter.unusedSimpArgs false

/-- What stands ahead of a hash. -/
def hashN : List Int := [48, 49, 48, 13, 6, 9, 96, 134, 72, 1, 101, 3, 4, 2, 1, 5, 0, 4, 32]
/-- What a power must give. -/
def padL (n : Nat) (hs : List Int) : List Int := 0 :: 1 :: (List.replicate (n - 54) 255 ++ (0 :: (hashN ++ hs)))
theorem padL_len (n : Nat) (hs : List Int) (h : hs.length = 32) (hn : 54 ≤ n) : (padL n hs).length = n := by simp [padL, hashN, h]; omega
theorem padL_dg (n : Nat) (hs : List Int) (h : Dg 256 hs) : Dg 256 (padL n hs) := by
  intro x hx
  simp only [padL, hashN, List.mem_cons, List.mem_append, List.mem_replicate, List.not_mem_nil, or_false] at hx
  rcases hx with rfl | rfl | ⟨_, rfl⟩ | rfl | h0 | h0
  · omega
  · omega
  · omega
  · omega
  · omega
  · exact h x h0

theorem Own.openR {e : TypeId} {k : IntKind} {w : World} {base : Nat} {v : Value} {xs : List Int} (h : Own e k w base v xs) : ∃ ao cap, v = .slice ao xs.length cap ∧ xs.length ≤ cap ∧ cap ≤ maxLen := by
  rcases h.2 with ⟨rfl, h0⟩ | ⟨g, cap, cur, rfl, hg, hrow, h1, h2, h3, h4⟩
  · exact ⟨none, 0, by rw [h0], by omega, by simp [maxLen]⟩
  · exact ⟨_, cap, rfl, h1, h2⟩
theorem Own.lenR {e : TypeId} {k : IntKind} {w : World} {base : Nat} {ao : Option Addr} {n c : Nat} {xs : List Int} (h : Own e k w base (.slice ao n c) xs) : xs.length = n := by
  obtain ⟨ao', c', e', _⟩ := h.openR
  injection e' with _ h2 _
  exact h2.symm
theorem Own.baseR {e : TypeId} {k : IntKind} {w : World} {b b' : Nat} {v : Value} {xs : List Int} (h : Own e k w b v xs) (hb : b' ≤ b) : Own e k w b' v xs := by
  refine ⟨h.1, ?_⟩
  rcases h.2 with h0 | ⟨g, cap, cur, e1, hg, r⟩
  · exact .inl h0
  · exact .inr ⟨g, cap, cur, e1, by omega, r⟩
theorem lies_all {e : TypeId} {k : IntKind} {w : World} {g n : Nat} {xs : List Int} (h : Row e k w g xs) (hn : xs.length = n) : Lies k w (some ⟨g, 0, none⟩) n xs := by
  have := h.lies 0 n (by omega)
  rwa [List.drop_zero, List.take_of_length_le (by omega)] at this
theorem Row.keepOther {e : TypeId} {k : IntKind} {w : World} {g : Nat} {xs : List Int} (h : Row e k w g xs) {p : Addr} (hp : g ≠ p.block) (v : Value) : Row e k (w.setCell p v) g xs := by
  unfold Row at *
  rw [heap_setCell_other w p g v hp]
  exact h
/-- copy(out[k:], "..."). -/
theorem wpList_copy_text {P : Program} {w : World} {ops : Array Oper} {rest : List Oper} {o : Oper} {a : Act} {Q : Exit → Act → World → Prop} (hgd : o.guard = none) (d s : Operand) (dT sT : TypeId)
    (ho : o.op = .call { callee := .builtin .copy, args := #[d, s], argTypes := #[dT, sT] }) (e : TypeId) (hu : P.underlying dT = some (.slice e)) (hsz : (P.info? e).map (·.size) = some 1)
    (g off dl dc : Nat) (b : ByteArray) (hd : a.eval d = .slice (some ⟨g, off, none⟩) dl dc) (hs : a.eval s = .string b) (xs ys : List Int) (hr : Row e .u8 w g xs) (hb : b.data.toList.map (fun x => Value.int .u8 x.toNat) = ys.map (Value.int .u8)) (hn : b.size ≤ dl) (hfit : off + ys.length ≤ xs.length)
    (B : Nat) (w0 : World) (hbel : Below B w0 w) (hB : B ≤ g)
    (h : ∀ w', Row e .u8 w' g (xs.take off ++ ys ++ xs.drop (off + ys.length)) → Below B w0 w' → (∀ j, j ≠ g → w'.heap[j]? = w.heap[j]?) → wpList P ops Q rest (a.put o.dst (goInt ys.length)) w') : wpList P ops Q (o :: rest) a w := by
  refine wpList_plain hgd fun K hK => ?_
  have hlen : b.size = ys.length := by
    have := congrArg List.length hb
    rw [List.length_map, List.length_map, Array.length_toList] at this
    exact this
  have hst := run_storeCells_at P g off e (ys.map (Value.int .u8)) 0 ((xs.map (Value.int .u8)).toArray) w hr (by simpa using hfit) (ints_oneCell _ _)
  have hmin : Nat.min b.size dl = b.size := Nat.min_eq_left hn
  have hex : b.extract 0 b.size = b := ByteArray.extract_zero_size
  have hcs : (b.data.map fun x => Value.int .u8 x.toNat).toList = ys.map (Value.int .u8) := by rw [Array.toList_map]; exact hb
  clear hb
  have hrun : (Builtin.copy_ #[dT, sT] o.type #[.slice (some ⟨g, off, none⟩) dl dc, .string b]).run P w = .ok (goInt b.size) (w.setRow g ((xs.map (Value.int .u8)).take off ++ ys.map (Value.int .u8) ++ (xs.map (Value.int .u8)).drop (off + ys.length)).toArray) := by
    cases hq : P.info? e with
    | none => simp [hq] at hsz
    | some i =>
      have hi : i.size = 1 := by simpa [hq] using hsz
      simp only [List.length_map, Nat.add_zero] at hst
      simp [Builtin.copy_, run_underlying hu, Builtin.lenOf, Builtin.firstCells, sizeOf, typeInfo, hq, hi, hmin, hex, -Array.toList_map, hcs, hst]
      rw [List.take_of_length_le (by simp; omega), hst]
      simp [List.append_assoc]
  unfold Oper.wp
  simp [execOp, ho, resolve, invoke, builtin, hd, hs, hrun, Result.andThen]
  refine hK _ _ ?_
  rw [hlen]
  have hrow := setRow_heap w g ((xs.map (Value.int .u8)).toArray) ((xs.map (Value.int .u8)).take off ++ ys.map (Value.int .u8) ++ (xs.map (Value.int .u8)).drop (off + ys.length)).toArray e (0, 0) hr
  have hgo := h _ (by unfold Row; rw [hrow]; simp) (below_setRow hbel hB _) (fun j hj => setRow_other w g j _ hj)
  simpa using hgo

set_option maxRecDepth 100000 in
set_option maxHeartbeats 4000000 in
/-- rsa.Pad. -/
theorem Pad_yes (n : Nat) (hs : List Int) (w : World) (h1 : 62 ≤ n) (h2 : n ≤ 512) (hl : hs.length = 32) :
    Calls Try.prog 16 #[.int .i64 n, ag .u8 hs] w fun e w' => ∃ g, e = .returned (.slice (some ⟨g, 0, none⟩) n n) ∧ Row 5 .u8 w' g (padL n hs) ∧ w.heap.size ≤ g ∧ Below w.heap.size w w' := by
  have hlt1 : ¬ ((n : Int) < 62) := by omega
  have hgt1 : ¬ ((512 : Int) < n) := by omega
  go_enter Try.func16, Try.ntmps16
  go_wp2_with (first
    | ((with_reducible show wpList _ _ _ (Oper.mk _ (Op.box _ _) _ _ _ _ :: _) _ _); refine wpList_box_row (w := w) (by with_reducible rfl) 47 _ (by with_reducible rfl) .u8 hs rfl ?_; intro w1 hr1 hb1 hs1)
    | (at_make; refine wpList_make_row _ rfl _ _ 48 rfl 5 .u8 1 Try.underlying48 Try.infoB _ _ _ _ n rfl rfl rfl rfl (by omega) (by unfold maxLen; omega) ?_))
  intro w2 hrow hbel
  obtain ⟨g, hg⟩ : ∃ g, w.heap.size + 1 = g := ⟨_, rfl⟩
  rw [hg] at hrow hbel
  have HH : Hid (Row 47 .u8 w2 w.heap.size hs ∧ Below w.heap.size w w2) := ⟨hr1.below hbel (by omega), hb1.trans (hbel.mono (by omega))⟩
  rw [hg]
  have hg2 : w.heap.size < g := by omega
  clear hr1 hb1 hs1 hbel hg
  go_wp2
  go_loopw [18] (fun i wr => ∃ k : Nat, k ≤ n ∧ i = .int .i64 k ∧ Row 5 .u8 wr g (List.replicate k 255 ++ List.replicate (n - k) 0) ∧ Row 47 .u8 wr w.heap.size hs ∧ Below w.heap.size w wr) (fun i _ => n - (intOf i).toNat)
  case atStart => exact ⟨0, Nat.zero_le _, rfl, by simpa using hrow, HH.out⟩
  case round =>
    obtain ⟨k, hk, rfl, hrw, hh, hb⟩ := hrel
    clear hrow HH
    by_cases hlt : k < n
    · have hcl := hrw.cell k (by simp; omega)
      have hfr := hrw.frozen k
      have HR : Hid (Row 5 .u8 (wr.setCell ⟨g, k, none⟩ (.int .u8 255)) g (List.replicate (k + 1) 255 ++ List.replicate (n - (k + 1)) 0)) := by
        have h0 := hrw.set k 255
        have e : (List.replicate k (255 : Int) ++ List.replicate (n - k) 0).set k 255 = List.replicate (k + 1) 255 ++ List.replicate (n - (k + 1)) 0 := by
          rw [List.set_append_right _ _ (by simp), List.length_replicate, Nat.sub_self, show n - k = (n - (k + 1)) + 1 by omega, List.replicate_succ (n := n - (k + 1)), List.set_cons_zero, List.replicate_succ' (n := k)]
          simp
        rw [e] at h0
        exact h0
      have HH : Hid (Row 47 .u8 (wr.setCell ⟨g, k, none⟩ (.int .u8 255)) w.heap.size hs ∧ Below w.heap.size w (wr.setCell ⟨g, k, none⟩ (.int .u8 255))) := ⟨hh.keepOther (by simp; omega) _, hb.setCell (by simp; omega) _⟩
      generalize (List.replicate k (255 : Int) ++ List.replicate (n - k) 0).getD k 0 = y at *
      clear hrw hh hb
      go_wp2
      go_roundw
      case rel => exact ⟨k + 1, by omega, by go_num, HR.out, HH.out⟩
      case measure => simp [intOf]; omega
    · obtain rfl : k = n := by omega
      rw [Nat.sub_self, List.replicate_zero, List.append_nil] at hrw
      obtain ⟨m, hm⟩ : ∃ m, k - 52 = m := ⟨_, rfl⟩
      have hm1 : (k : Int) - 32 - 19 - 1 = (m : Int) := by omega
      have hm2 : k - m = 52 := by omega
      have hm3 : m < k := by omega
      have hm4 : ¬ (k = m) := by omega
      have r1 := hrw.set 0 0
      have r2 := r1.set 1 1
      have r3 := r2.set m 0
      have l1 : (List.replicate k (255 : Int)).length = k := by simp
      have l2 : ((List.replicate k (255 : Int)).set 0 0).length = k := by simp
      have l3 : (((List.replicate k (255 : Int)).set 0 0).set 1 1).length = k := by simp
      have c0 := hrw.cell 0 (by omega)
      have f0 := hrw.frozen 0
      have c1 := r1.cell 1 (by omega)
      have f1 := r1.frozen 1
      have c2 := r2.cell m (by omega)
      have f2 := r2.frozen m
      have q3 := ((hh.keepOther (p := ⟨g, 0, none⟩) (by simp; omega) (.int .u8 0)).keepOther (p := ⟨g, 1, none⟩) (by simp; omega) (.int .u8 1)).keepOther (p := ⟨g, m, none⟩) (by simp; omega) (.int .u8 0)
      have b3 := ((hb.setCell (p := ⟨g, 0, none⟩) (by simp; omega) (.int .u8 0)).setCell (p := ⟨g, 1, none⟩) (by simp; omega) (.int .u8 1)).setCell (p := ⟨g, m, none⟩) (by simp; omega) (.int .u8 0)
      have HR : Hid _ := r3
      have HQ : Hid _ := And.intro q3 b3
      generalize (List.replicate k (255 : Int)).getD 0 0 = y0 at *
      generalize ((List.replicate k (255 : Int)).set 0 0).getD 1 0 = y1 at *
      generalize (((List.replicate k (255 : Int)).set 0 0).set 1 1).getD m 0 = y2 at *
      clear hrw r1 r2 r3 q3 b3 hh hb l1 l2 l3
      have HB : Hid (([48, 49, 48, 13, 6, 9, 96, 134, 72, 1, 101, 3, 4, 2, 1, 5, 0, 4, 32] : List UInt8).map (fun x => Value.int .u8 x.toNat) = hashN.map (Value.int .u8)) := by unfold Hid; rfl
      go_wp2_with ((with_reducible show wpList _ _ _ (Oper.mk _ (Op.call { callee := .builtin .copy, args := #[_, .const _], argTypes := _ }) _ _ _ _ :: _) _ _); refine wpList_copy_text rfl _ _ 48 9 rfl 5 Try.underlying48 (by kernel_rfl) g (m + 1) 51 51 ⟨#[48, 49, 48, 13, 6, 9, 96, 134, 72, 1, 101, 3, 4, 2, 1, 5, 0, 4, 32]⟩ rfl rfl _ hashN HR.out HB.out (by decide) (by simp [hashN]; omega) w.heap.size w HQ.out.2 (by omega) ?_; intro w3 hr3 hb3 hk3)
      have hq3 : Row 47 .u8 w3 w.heap.size hs := by
        unfold Row
        rw [hk3 _ (by omega)]
        exact HQ.out.1
      obtain ⟨L, hL⟩ : ∃ L, List.take (m + 1) ((((List.replicate k (255 : Int)).set 0 0).set 1 1).set m 0) ++ hashN ++ List.drop (m + 1 + hashN.length) ((((List.replicate k 255).set 0 0).set 1 1).set m 0) = L := ⟨_, rfl⟩
      have HL : Hid (L.length = k ∧ L.take (m + 20) = 0 :: 1 :: (List.replicate (k - 54) 255 ++ (0 :: hashN))) := by
        unfold Hid
        have e0 : (((List.replicate k (255 : Int)).set 0 0).set 1 1).set m 0 = (0 :: 1 :: (List.replicate (k - 54) 255 ++ [0])) ++ List.replicate 51 255 := by
          rw [show List.replicate k (255 : Int) = 255 :: 255 :: (List.replicate (k - 54) 255 ++ 255 :: List.replicate 51 255) by
            rw [show k = (k - 54) + (51 + 1) + 1 + 1 by omega, List.replicate_succ, List.replicate_succ]
            congr 2
            rw [← List.replicate_succ, ← List.replicate_append_replicate]
            congr 2]
          rw [List.set_cons_zero, List.set_cons_succ, List.set_cons_zero, show m = (k - 54) + 1 + 1 by omega, List.set_cons_succ, List.set_cons_succ, List.set_append_right _ _ (by simp)]
          simp
        have el : (0 :: 1 :: (List.replicate (k - 54) (255 : Int) ++ [0])).length = m + 1 := by simp; omega
        rw [e0, List.take_left' el] at hL
        rw [← hL]
        constructor
        · simp [hashN]; omega
        · rw [List.take_append_of_le_length (by simp [hashN]; omega), List.take_of_length_le (by simp [hashN]; omega)]
          simp
      rw [hL] at hr3
      clear hL HR HQ HB c0 c1 c2 f0 f1 f2
      have HG : Hid (Row 5 .u8 w3 g L ∧ Row 47 .u8 w3 w.heap.size hs ∧ Below w.heap.size w w3) := ⟨hr3, hq3, hb3⟩
      clear hr3 hq3 hb3 hk3
      have hrun := run_copy_row Try.prog w3.drew 48 48 3 5 g (m + 20) 32 32 ⟨w.heap.size, 0, none⟩ 32 32 ((L.map (Value.int .u8)).toArray) 5 (hs.map (Value.int .u8)) Try.underlying48 (by kernel_rfl) HG.out.1 (by simp [hl]) (fun j v hj => by
        rw [List.getElem?_map] at hj
        have hlt : j < hs.length := by
          rcases Nat.lt_or_ge j hs.length with h | h
          · exact h
          · rw [List.getElem?_eq_none h] at hj; cases hj
        have h5 : w3.drew.cell? ⟨w.heap.size, j, none⟩ = _ := HG.out.2.1.cell j hlt
        rw [add_none, Nat.zero_add, h5, ← hj, List.getElem?_eq_getElem hlt, List.getD_eq_getElem?_getD, List.getElem?_eq_getElem hlt]
        rfl) (by have := HL.out.1; simp; omega) (ints_oneCell _ _)
      rw [List.length_map, hl] at hrun
      have HX : Hid (Row 5 .u8 (w3.drew.setRow g ((L.map (Value.int .u8)).toArray.toList.take (m + 20) ++ hs.map (Value.int .u8) ++ (L.map (Value.int .u8)).toArray.toList.drop (m + 20 + 32)).toArray) g (padL k hs) ∧ Below w.heap.size w (w3.drew.setRow g ((L.map (Value.int .u8)).toArray.toList.take (m + 20) ++ hs.map (Value.int .u8) ++ (L.map (Value.int .u8)).toArray.toList.drop (m + 20 + 32)).toArray)) := by
        refine ⟨?_, below_setRow HG.out.2.2.drew (by omega) _⟩
        unfold Row
        rw [setRow_heap w3.drew g _ _ 5 (0, 0) HG.out.1]
        congr 2
        rw [List.drop_of_length_le (by have := HL.out.1; simp; omega), List.append_nil, List.toList_toArray, ← List.map_take, HL.out.2, ← List.map_append]
        simp [padL]
      generalize w3.drew.setRow g ((L.map (Value.int .u8)).toArray.toList.take (m + 20) ++ hs.map (Value.int .u8) ++ (L.map (Value.int .u8)).toArray.toList.drop (m + 20 + 32)).toArray = w5 at *
      go_region
      all_goals
        go_wp2
        go_ret
        exact ⟨g, rfl, HX.out.1, by omega, HX.out.2⟩

set_option maxRecDepth 100000 in
set_option maxHeartbeats 1000000 in
theorem Pad_no (n : Int) (hs : List Int) (w : World) (h1 : n < 62 ∨ 512 < n) :
    Calls Try.prog 16 #[.int .i64 n, ag .u8 hs] w fun e w' => e = .returned (.slice none 0 0) ∧ Below w.heap.size w w' := by
  go_enter Try.func16, Try.ntmps16
  by_cases h2 : n < 62
  · go_wp2_with (first
      | ((with_reducible show wpList _ _ _ (Oper.mk _ (Op.box _ _) _ _ _ _ :: _) _ _); refine wpList_box_row (w := w) (by with_reducible rfl) 47 _ (by with_reducible rfl) .u8 hs rfl ?_; intro w1 hr1 hb1 hs1))
    go_ret
    exact ⟨rfl, hb1⟩
  · have h3 : 512 < n := by omega
    go_wp2_with (first
      | ((with_reducible show wpList _ _ _ (Oper.mk _ (Op.box _ _) _ _ _ _ :: _) _ _); refine wpList_box_row (w := w) (by with_reducible rfl) 47 _ (by with_reducible rfl) .u8 hs rfl ?_; intro w1 hr1 hb1 hs1))
    go_ret
    exact ⟨rfl, hb1⟩

set_option maxRecDepth 100000 in
set_option maxHeartbeats 1000000 in
theorem rPad_no (n : Int) (hs : List Int) (w : World) (h1 : n < 62 ∨ 512 < n) :
    Calls Try.prog 17 #[.int .i64 n, ag .u8 hs] w fun e w' => e = .returned (.slice none 0 0) ∧ Below w.heap.size w w' := by
  go_enter Try.func17, Try.ntmps17
  by_cases h2 : n < 62
  · go_wp2_with (first
      | ((with_reducible show wpList _ _ _ (Oper.mk _ (Op.box _ _) _ _ _ _ :: _) _ _); refine wpList_box_row (w := w) (by with_reducible rfl) 47 _ (by with_reducible rfl) .u8 hs rfl ?_; intro w1 hr1 hb1 hs1))
    go_ret
    exact ⟨rfl, hb1⟩
  · have h3 : 512 < n := by omega
    go_wp2_with (first
      | ((with_reducible show wpList _ _ _ (Oper.mk _ (Op.box _ _) _ _ _ _ :: _) _ _); refine wpList_box_row (w := w) (by with_reducible rfl) 47 _ (by with_reducible rfl) .u8 hs rfl ?_; intro w1 hr1 hb1 hs1))
    go_ret
    exact ⟨rfl, hb1⟩

set_option maxRecDepth 100000 in
set_option maxHeartbeats 4000000 in
/-- The document's Pad. -/
theorem rPad_yes (n : Nat) (hs : List Int) (w : World) (h1 : 62 ≤ n) (h2 : n ≤ 512) (hl : hs.length = 32) :
    Calls Try.prog 17 #[.int .i64 n, ag .u8 hs] w fun e w' => ∃ v, e = .returned v ∧ Own 5 .u8 w' w.heap.size v (padL n hs) ∧ Below w.heap.size w w' := by
  have hlt1 : ¬ ((n : Int) < 62) := by omega
  have hgt1 : ¬ ((512 : Int) < n) := by omega
  go_enter Try.func17, Try.ntmps17
  go_wp2_with (first
    | ((with_reducible show wpList _ _ _ (Oper.mk _ (Op.box _ _) _ _ _ _ :: _) _ _); refine wpList_box_row (w := w) (by with_reducible rfl) 47 _ (by with_reducible rfl) .u8 hs rfl ?_; intro w1 hr1 hb1 hs1))
  obtain ⟨gap, hgap⟩ : ∃ gap, n - 54 = gap := ⟨_, rfl⟩
  have h0 : Own 5 .u8 (w1.alloc (.cells #[.int .u8 0, .int .u8 1] 5)) (w.heap.size + 1) (.slice (some ⟨w1.heap.size, 0, none⟩) 2 2) ([0, 1] ++ List.replicate 0 255) := (Row.alloc 5 .u8 w1 [0, 1]).own (by omega) (by decide)
  have HB0 : Hid (Row 47 .u8 w1 w.heap.size hs ∧ Below w.heap.size w w1 ∧ w1.heap.size = w.heap.size + 1) := ⟨hr1, hb1, hs1⟩
  have HH0 : Hid (Own 5 .u8 (w1.alloc (.cells #[.int .u8 0, .int .u8 1] 5)) (w.heap.size + 1) (.slice (some ⟨w1.heap.size, 0, none⟩) 2 2) ([0, 1] ++ List.replicate 0 255) ∧ Below (w.heap.size + 1) w1 (w1.alloc (.cells #[.int .u8 0, .int .u8 1] 5))) := ⟨h0, (Below.refl _ _).alloc (by omega) _⟩
  have HGAP : Hid (n - 54 = gap) := hgap
  have hsz1 := hs1
  clear h0 hr1 hb1 hs1 hgap
  go_loopg [5] gap (fun k v wr => ∃ j, j + k = gap ∧ Own 5 .u8 wr (w.heap.size + 1) v ([0, 1] ++ List.replicate j 255) ∧ Below (w.heap.size + 1) w1 wr)
  case atStart => exact ⟨0, by omega, by have := HH0.out; rwa [hsz1] at this⟩
  case round =>
    obtain ⟨j, hjk, hown, hb⟩ := hrel
    clear HH0
    obtain ⟨a5, c5, hv5, hlc5, hcm5⟩ := hown.openR
    have hL : ([0, 1] ++ List.replicate j (255 : Int)).length = 2 + j := by simp; omega
    obtain ⟨M, hM⟩ : ∃ M, 2 + j = M := ⟨_, rfl⟩
    rw [hL, hM] at hv5 hlc5
    subst hv5
    have hgp := HGAP.out
    have HO : Hid (Own 5 .u8 wr (w.heap.size + 1) (.slice a5 M c5) ([0, 1] ++ List.replicate j 255) ∧ Below (w.heap.size + 1) w1 wr ∧ ([0, 1] ++ List.replicate j (255 : Int)).length < 1073741824 ∧ w.heap.size + 1 ≤ wr.heap.size) := ⟨hown, hb, by omega, by have := hb.size; omega⟩
    unfold maxLen at hcm5
    have HL : Hid (2 + j = M) := hM
    clear hown hb hL
    cases gk with
    | succ k' =>
      have hlt : (M : Int) < (n : Int) - 52 := by omega
      clear hM hgp
      generalize hXs : [0, 1] ++ List.replicate j (255 : Int) = Xs at HO
      have HXS : Hid (Xs ++ [255] = [0, 1] ++ List.replicate (j + 1) 255) := by unfold Hid; rw [← hXs, List.replicate_succ', List.append_assoc]
      clear hXs
      go_wp2_with (at_builtin; refine wpList_append_one rfl _ _ 48 rfl 5 .u8 1 Try.underlying48 Try.infoB (w.heap.size + 1) (.slice a5 M c5) Xs 255 (by rfl) HO.out.1 (by rfl) HO.out.2.2.1 (by decide) w1 HO.out.2.1 HO.out.2.2.2 ?_; intro v6 w6 hown6 hb6)
      go_roundg k'
      case measure => omega
      case rel => exact ⟨j + 1, by omega, by rw [← HXS.out]; exact hown6, hb6⟩
    | zero =>
      have hge : ¬ ((M : Int) < (n : Int) - 52) := by omega
      have hM5 : M ≤ 512 := by omega
      obtain rfl : j = gap := by omega
      clear hM hgp
      have HXS : Hid ([0, 1] ++ List.replicate j (255 : Int) ++ (0 :: hashN) ++ hs = padL n hs) := by unfold Hid padL; rw [HGAP.out]; simp
      generalize [0, 1] ++ List.replicate j (255 : Int) = Xs at *
      have hn8 : Xs.length + 20 ≤ 1073741824 := by have := HO.out.2.2.1; have h9 : Xs.length = M := HO.out.1.lenR; omega
      have hn9 : (Xs ++ (0 :: hashN)).length + 32 ≤ 1073741824 := by have h9 : Xs.length = M := HO.out.1.lenR; simp [hashN]; omega
      have ha : Row 5 .u8 (wr.alloc (.cells (((0 :: hashN).map (Value.int .u8)).toArray) 5)) wr.heap.size (0 :: hashN) := Row.alloc 5 .u8 wr (0 :: hashN)
      have HA : Hid (Lies .u8 (wr.alloc (.cells #[.int .u8 0, .int .u8 48, .int .u8 49, .int .u8 48, .int .u8 13, .int .u8 6, .int .u8 9, .int .u8 96, .int .u8 134, .int .u8 72, .int .u8 1, .int .u8 101, .int .u8 3, .int .u8 4, .int .u8 2, .int .u8 1, .int .u8 5, .int .u8 0, .int .u8 4, .int .u8 32] 5)) (some ⟨wr.heap.size, 0, none⟩) 20 (0 :: hashN)) := ha.lies 0 20 (by decide)
      go_wp2_with (first
        | (at_builtin; refine wpList_append_nums rfl _ _ 48 rfl 5 .u8 1 Try.underlying48 Try.infoB (w.heap.size + 1) (.slice a5 M c5) Xs (by rfl) (HO.out.1.alloc _) (some ⟨wr.heap.size, 0, none⟩) 20 20 (0 :: hashN) (by rfl) HA.out (fun h => by cases h) hn8 (by decide) w1 (HO.out.2.1.alloc HO.out.2.2.2 _) (by have := HO.out.2.2.2; simp; omega) ?_; intro v6 w6 hown6 hb6 hk6 hs6; have H6 : Hid (Own 5 .u8 w6 (w.heap.size + 1) v6 (Xs ++ (0 :: hashN)) ∧ Below (w.heap.size + 1) w1 w6 ∧ Lies .u8 w6 (some ⟨w.heap.size, 0, none⟩) 32 hs ∧ w.heap.size + 1 ≤ w6.heap.size) := ⟨hown6, hb6, lies_all (HB0.out.1.below hb6 (by omega)) hl, by have := HO.out.2.2.2; simp at hs6; omega⟩; clear hown6 hb6 hk6 hs6 HA ha)
        | (at_builtin; refine wpList_append_nums rfl _ _ 48 rfl 5 .u8 1 Try.underlying48 Try.infoB (w.heap.size + 1) v6 (Xs ++ (0 :: hashN)) (by rfl) H6.out.1 (some ⟨w.heap.size, 0, none⟩) 32 32 hs (by rfl) H6.out.2.2.1 (fun h => by cases h) hn9 (by decide) w1 H6.out.2.1 H6.out.2.2.2 ?_; intro v7 w7 hown7 hb7 hk7 hs7))
      go_ret
      refine ⟨_, rfl, ?_, HB0.out.2.1.trans (hb7.mono (by omega))⟩
      rw [HXS.out] at hown7
      exact hown7.baseR (by omega)
end Go.Proofs.Ytnacgkkklmlhaaa
/-
  Contracts of sha.ending and sha.spread.
-/
namespace Go.Proofs.Ytnacgkkklmlhaaa
open Go.RowKit
set_option linter.unusedVariables false
set_option linter.unusedSimpArgs false

theorem getD_set_same' (l : List Int) (i : Nat) (x : Int) (h : i < l.length) : (l.set i x).getD i 0 = x := by simp [List.getD, h]
theorem getD_set_other' (l : List Int) (i j : Nat) (x : Int) (h : i ≠ j) : (l.set i x).getD j 0 = l.getD j 0 := by simp [List.getD, List.getElem?_set_ne h]
theorem ext_getD' (l m : List Int) (h : l.length = m.length) (hj : ∀ j, j < l.length → l.getD j 0 = m.getD j 0) : l = m := by
  apply List.ext_getElem h
  intro j h1 h2
  have := hj j h1
  simpa [List.getD, h1, h2] using this

theorem pad8_length (n : Nat) : (pad8 n).length = 8 := by simp [pad8]
theorem pad8_get (n j : Nat) (h : j < 8) : (pad8 n).getD j 0 = (8 * n : Int) / 2 ^ (56 - 8 * j) % 256 := by simp [pad8, List.getD, h]
theorem ending_length (n : Nat) : (ending n).length = gapN n + 9 := by simp [ending, pad8_length]
theorem ending_zero (n : Nat) : (ending n).getD 0 0 = 128 := rfl
theorem ending_mid (n j : Nat) (h0 : 0 < j) (h : j < gapN n + 1) : (ending n).getD j 0 = 0 := by
  obtain ⟨i, rfl⟩ : ∃ i, j = i + 1 := ⟨j - 1, by omega⟩
  unfold ending
  simp only [List.getD, List.getElem?_cons_succ]
  rw [List.getElem?_append_left (by simp; omega)]
  simp [List.getElem?_replicate, show i < gapN n by omega]
theorem ending_last (n j : Nat) (h0 : gapN n + 1 ≤ j) (h : j < gapN n + 9) : (ending n).getD j 0 = (8 * n : Int) / 2 ^ (8 * (gapN n + 8 - j)) % 256 := by
  obtain ⟨i, rfl⟩ : ∃ i, j = i + 1 := ⟨j - 1, by omega⟩
  have e : (ending n).getD (i + 1) 0 = (pad8 n).getD (i - gapN n) 0 := by
    unfold ending
    simp only [List.getD, List.getElem?_cons_succ]
    rw [List.getElem?_append_right (by simp; omega)]
    simp
  rw [e, pad8_get _ _ (by omega), show 56 - 8 * (i - gapN n) = 8 * (gapN n + 8 - (i + 1)) by omega]

/-- What is hashed behind, i bytes of the length in their places. -/
def EndP (n i : Nat) (cur : List Int) : Prop :=
  cur.length = gapN n + 9 ∧ cur.getD 0 0 = 128 ∧ (∀ j, 0 < j → j < gapN n + 9 - i → cur.getD j 0 = 0) ∧ ∀ j, gapN n + 9 - i ≤ j → j < gapN n + 9 → cur.getD j 0 = (8 * n : Int) / 2 ^ (8 * (gapN n + 8 - j)) % 256
theorem EndP.zero (n : Nat) : EndP n 0 ((List.replicate (gapN n + 9) 0).set 0 128) := by
  refine ⟨by simp, getD_set_same' _ _ _ (by simp), fun j h1 h2 => ?_, fun j h1 h2 => by omega⟩
  rw [getD_set_other' _ _ _ _ (by omega)]
  simp [List.getD, List.getElem?_replicate]; split <;> rfl
theorem EndP.step {n i : Nat} {cur : List Int} (h : EndP n i cur) (hi : i < 8) : EndP n (i + 1) (cur.set (gapN n + 8 - i) ((8 * n : Int) / 2 ^ (8 * i) % 256)) := by
  obtain ⟨h1, h2, h3, h4⟩ := h
  refine ⟨by simpa using h1, ?_, fun j a b => ?_, fun j a b => ?_⟩
  · rw [getD_set_other' _ _ _ _ (by omega)]; exact h2
  · rw [getD_set_other' _ _ _ _ (by omega)]; exact h3 j a (by omega)
  · by_cases e : j = gapN n + 8 - i
    · subst e
      rw [getD_set_same' _ _ _ (by omega), show gapN n + 8 - (gapN n + 8 - i) = i by omega]
    · rw [getD_set_other' _ _ _ _ (by omega)]; exact h4 j (by omega) b
theorem EndP.done {n : Nat} {cur : List Int} (h : EndP n 8 cur) : cur = ending n := by
  obtain ⟨h1, h2, h3, h4⟩ := h
  refine ext_getD' _ _ (by rw [h1, ending_length]) fun j hj => ?_
  rw [h1] at hj
  by_cases e0 : j = 0
  · subst e0; rw [h2]; rfl
  · by_cases e1 : j < gapN n + 1
    · rw [h3 j (by omega) (by omega), ending_mid n j (by omega) e1]
    · rw [h4 j (by omega) hj, ending_last n j (by omega) hj]

theorem spreadS_length (l : List Int) : (spreadS l).length = 32 := by simp [spreadS]
theorem spreadS_get (l : List Int) (j : Nat) (h : j < 32) : (spreadS l).getD j 0 = l.getD (j / 4) 0 / 2 ^ (24 - 8 * (j % 4)) % 256 := by simp [spreadS, List.getD, h]
/-- The first i bytes. -/
def SprP (l : List Int) (i : Nat) (cur : List Int) : Prop := cur.length = 32 ∧ ∀ j, j < i → cur.getD j 0 = (spreadS l).getD j 0
theorem SprP.step {l cur : List Int} {i : Nat} (h : SprP l i cur) (hi : i < 32) : SprP l (i + 1) (cur.set i ((spreadS l).getD i 0)) := by
  refine ⟨by simpa using h.1, fun j hj => ?_⟩
  by_cases e : j = i
  · subst e; exact getD_set_same' _ _ _ (by rw [h.1]; exact hi)
  · rw [getD_set_other' _ _ _ _ (by omega)]; exact h.2 j (by omega)
theorem SprP.done {l cur : List Int} (h : SprP l 32 cur) : cur = spreadS l :=
  ext_getD' _ _ (by rw [h.1, spreadS_length]) fun j hj => h.2 j (by rw [h.1] at hj; exact hj)

theorem Row.setOther2 {e : TypeId} {k : IntKind} {w : World} {g : Nat} {xs : List Int} (h : Row e k w g xs) {p : Addr} (hp : g ≠ p.block) (v : Value) : Row e k (w.setCell p v) g xs := by
  unfold Row
  rw [heap_setCell_other w p g v hp]
  exact h

end Go.Proofs.Ytnacgkkklmlhaaa
/-
  A hash in memory: its cells, what is read and written of them.
-/
namespace Go.Proofs.Ytnacgkkklmlhaaa
open Go.RowKit
set_option linter.unusedVariables false
set_option linter.unusedSimpArgs false

/-- But for block g the world w' is as w was. -/
structure But (g : Nat) (w w' : World) : Prop where
  os : w'.os = w.os
  tape : w'.tape = w.tape
  output : w'.output = w.output
  size : w.heap.size ≤ w'.heap.size
  block : ∀ k, k < w.heap.size → k ≠ g → w'.heap[k]? = w.heap[k]?
theorem But.refl (g : Nat) (w : World) : But g w w := ⟨rfl, rfl, rfl, Nat.le_refl _, fun _ _ _ => rfl⟩
theorem But.trans {g : Nat} {a b c : World} (h : But g a b) (k : But g b c) : But g a c :=
  ⟨k.os.trans h.os, k.tape.trans h.tape, k.output.trans h.output, Nat.le_trans h.size k.size, fun i hi hg => (k.block i (Nat.lt_of_lt_of_le hi h.size) hg).trans (h.block i hi hg)⟩
theorem But.ofBelow {g : Nat} {w w' : World} (h : Below w.heap.size w w') : But g w w' := ⟨h.os, h.tape, h.output, h.size, fun k hk _ => h.block k hk⟩
theorem But.below {g B : Nat} {w w' : World} (h : But g w w') (hB : B ≤ g) (hw : B ≤ w.heap.size) : Below B w w' := ⟨h.os, h.tape, h.output, h.size, fun k hk => h.block k (by omega) (by omega)⟩
theorem But.setRow (g : Nat) (w : World) (cs : Array Value) : But g w (w.setRow g cs) := ⟨rfl, rfl, rfl, by simp, fun k _ hk => setRow_other w g k cs hk⟩
theorem But.setCell (g : Nat) (w : World) (j : Nat) (v : Value) : But g w (w.setCell ⟨g, j, none⟩ v) := ⟨rfl, rfl, rfl, by simp [World.setCell], fun k _ hk => heap_setCell_other w ⟨g, j, none⟩ k v hk⟩
theorem But.drewN (g : Nat) (w : World) (n : Nat) : But g w (w.drewN n) := But.ofBelow (Drew.below ⟨n, rfl⟩ _)
theorem But.row {g : Nat} {w w' : World} (h : But g w w') {e : TypeId} {k : IntKind} {j : Nat} {xs : List Int} (hr : Row e k w j xs) (hj : j ≠ g) : Row e k w' j xs := by
  unfold Row
  rw [h.block j hr.lt hj]
  exact hr
theorem But.lies {g : Nat} {w w' : World} (h : But g w w') {k : IntKind} {ao : Option Addr} {len : Nat} {xs : List Int} (hl : Lies k w ao len xs) (hj : ∀ b off s, ao = some ⟨b, off, s⟩ → b ≠ g) : Lies k w' ao len xs := by
  refine ⟨hl.1, ?_⟩
  rcases hl.2 with h0 | ⟨b, off, e, hlt, hc⟩
  · exact .inl h0
  · refine .inr ⟨b, off, e, Nat.lt_of_lt_of_le hlt h.size, fun i hi => ?_⟩
    rw [← hc i hi]
    exact World.cell?_of_block (w := w) (h.block b hlt (hj b off none e))

/-- The cells of a hash. -/
def HC (n : Int) (ws rs : List Int) : List Value := Value.int .u64 n :: (ws.map (Value.int .u32) ++ rs.map (Value.int .u8))
theorem HC_length (n : Int) (ws rs : List Int) : (HC n ws rs).length = 1 + ws.length + rs.length := by simp [HC]; omega
theorem HC_word (n : Int) (ws rs : List Int) (j : Nat) (h : j < ws.length) : (HC n ws rs)[1 + j]? = some (.int .u32 (ws.getD j 0)) := by
  rw [Nat.add_comm]
  simp only [HC, List.getElem?_cons_succ]
  rw [List.getElem?_append_left (by simpa using h)]
  simp [List.getD, h]
theorem HC_rest (n : Int) (ws rs : List Int) (j : Nat) (h : j < rs.length) : (HC n ws rs)[1 + ws.length + j]? = some (.int .u8 (rs.getD j 0)) := by
  rw [show 1 + ws.length + j = (ws.length + j) + 1 by omega]
  simp only [HC, List.getElem?_cons_succ]
  rw [List.getElem?_append_right (by simp)]
  simp [List.getD, h]
theorem HC_words (n : Int) (ws rs vs : List Int) (h : vs.length = ws.length) : (HC n ws rs).take (1 + 0) ++ vs.map (Value.int .u32) ++ (HC n ws rs).drop (1 + 0 + (vs.map (Value.int .u32)).length) = HC n vs rs := by
  have e : 1 + 0 + (vs.map (Value.int .u32)).length = ws.length + 1 := by simp; omega
  rw [e]
  simp only [HC, Nat.add_zero, List.take_succ_cons, List.take_zero, List.drop_succ_cons]
  rw [List.drop_append_of_le_length (by simp), List.drop_eq_nil_of_le (by simp)]
  simp
theorem HC_over (n : Int) (ws rs cs : List Int) (o : Nat) (h : o + cs.length ≤ rs.length) : (HC n ws rs).take (1 + ws.length + o) ++ cs.map (Value.int .u8) ++ (HC n ws rs).drop (1 + ws.length + o + (cs.map (Value.int .u8)).length) = HC n ws (rs.take o ++ cs ++ rs.drop (o + cs.length)) := by
  rw [show 1 + ws.length + o = (ws.length + o) + 1 by omega]
  have e : ws.length + o + 1 + (cs.map (Value.int .u8)).length = (ws.length + (o + cs.length)) + 1 := by simp; omega
  rw [e]
  simp only [HC, List.take_succ_cons, List.drop_succ_cons, List.cons_append]
  congr 1
  have h1 : (ws.map (Value.int .u32)).length = ws.length := by simp
  rw [← h1, List.take_length_add_append, List.drop_length_add_append]
  simp

end Go.Proofs.Ytnacgkkklmlhaaa
/-
  Contract of sha.schedule.
-/
namespace Go.Proofs.Ytnacgkkklmlhaaa
open Go.RowKit
set_option linter.unusedVariables false
set_option linter.unusedSimpArgs false

theorem getD_set_same (l : List Int) (i : Nat) (x : Int) (h : i < l.length) : (l.set i x).getD i 0 = x := by simp [List.getD, h]
theorem getD_set_other (l : List Int) (i j : Nat) (x : Int) (h : i ≠ j) : (l.set i x).getD j 0 = l.getD j 0 := by simp [List.getD, List.getElem?_set_ne h]
theorem getD_take (l : List Int) (n j : Nat) (h : j < n) : (l.take n).getD j 0 = l.getD j 0 := by simp [List.getD, List.getElem?_take, h]
theorem ext_getD (l m : List Int) (h : l.length = m.length) (hj : ∀ j, j < l.length → l.getD j 0 = m.getD j 0) : l = m := by
  apply List.ext_getElem h
  intro j h1 h2
  have := hj j h1
  simpa [List.getD, h1, h2] using this

theorem pw_bounds (b : List Int) (hd : Dg 256 b) (i : Nat) : ∀ k, 0 ≤ pw b i k ∧ pw b i k < 256 ^ k
  | 0 => by simp [pw]
  | k + 1 => by
    have h1 := pw_bounds b hd i k
    have h2 := hd.getD (by decide) (4 * i + k)
    rw [pw, Int.pow_succ]
    omega

/-- The first words of a block, i of them whole, the next one's first k bytes. -/
def SchA (b : List Int) (i k : Nat) (cur : List Int) : Prop :=
  cur.length = 64 ∧ (∀ j, j < i → cur.getD j 0 = pw b j 4) ∧ cur.getD i 0 = pw b i k ∧ ∀ j, i < j → cur.getD j 0 = 0
theorem SchA.zero (b : List Int) : SchA b 0 0 (List.replicate 64 0) := ⟨by simp, fun j h => by omega, getD_zeros _ _, fun j _ => getD_zeros _ _⟩
theorem SchA.step {b cur : List Int} {i k : Nat} (h : SchA b i k cur) (hi : i < 16) : SchA b i (k + 1) (cur.set i (cur.getD i 0 * 256 + b.getD (4 * i + k) 0)) := by
  obtain ⟨h1, h2, h3, h4⟩ := h
  refine ⟨by simpa using h1, fun j hj => ?_, ?_, fun j hj => ?_⟩
  · rw [getD_set_other _ _ _ _ (by omega)]; exact h2 j hj
  · rw [getD_set_same _ _ _ (by omega), h3]; rfl
  · rw [getD_set_other _ _ _ _ (by omega)]; exact h4 j hj
theorem SchA.next {b cur : List Int} {i : Nat} (h : SchA b i 4 cur) : SchA b (i + 1) 0 cur := by
  obtain ⟨h1, h2, h3, h4⟩ := h
  refine ⟨h1, fun j hj => ?_, ?_, fun j hj => h4 j (by omega)⟩
  · by_cases e : j = i
    · rw [e]; exact h3
    · exact h2 j (by omega)
  · rw [h4 (i + 1) (by omega)]; rfl

theorem words16_length (b : List Int) : (words16 b).length = 16 := by simp [words16]
theorem words16_get (b : List Int) (j : Nat) (h : j < 16) : (words16 b).getD j 0 = pw b j 4 := by simp [words16, List.getD, h]
theorem schedGo_length : ∀ (n : Nat) (l : List Int), (schedGo n l).length = l.length + n
  | 0, l => by simp [schedGo]
  | n + 1, l => by rw [schedGo, schedGo_length n]; simp; omega
theorem schedGo_succ : ∀ (n : Nat) (l : List Int), schedGo (n + 1) l = schedGo n l ++ [wNext (schedGo n l) (l.length + n)]
  | 0, l => by simp [schedGo]
  | n + 1, l => by
    rw [schedGo, schedGo_succ n]
    have : (l ++ [wNext l l.length]).length + n = l.length + (n + 1) := by simp; omega
    rw [this]
    rfl
theorem wNext_take (l : List Int) (i : Nat) (h : 16 ≤ i) : wNext (l.take i) i = wNext l i := by
  unfold wNext
  rw [getD_take _ _ _ (by omega), getD_take _ _ _ (by omega), getD_take _ _ _ (by omega), getD_take _ _ _ (by omega)]

/-- The words of a block, i of them. -/
def SchB (b : List Int) (i : Nat) (cur : List Int) : Prop := cur.length = 64 ∧ cur.take i = schedGo (i - 16) (words16 b)
theorem SchA.done {b cur : List Int} (h : SchA b 16 0 cur) : SchB b 16 cur := by
  refine ⟨h.1, ?_⟩
  apply ext_getD
  · rw [schedGo_length, words16_length]; have := h.1; simp; omega
  · intro j hj
    have hj' : j < 16 := by have := h.1; simp at hj; omega
    rw [getD_take _ _ _ hj', h.2.1 j hj']
    exact (words16_get b j hj').symm
theorem take_succ_set (l : List Int) (i : Nat) (x : Int) (h : i < l.length) : (l.set i x).take (i + 1) = l.take i ++ [x] := by
  rw [List.take_succ_eq_append_getElem (by simpa using h)]
  simp [List.take_set_of_le]
theorem SchB.step {b cur : List Int} {i : Nat} (h : SchB b i cur) (h1 : 16 ≤ i) (h2 : i < 64) : SchB b (i + 1) (cur.set i (wNext cur i)) := by
  obtain ⟨hl, ht⟩ := h
  refine ⟨by simpa using hl, ?_⟩
  rw [take_succ_set _ _ _ (by omega), ht, show i + 1 - 16 = (i - 16) + 1 by omega, schedGo_succ, words16_length, show 16 + (i - 16) = i by omega, ← ht, wNext_take _ _ h1]
theorem SchB.done {b cur : List Int} (h : SchB b 64 cur) : cur = sched b := by
  obtain ⟨hl, ht⟩ := h
  rw [List.take_of_length_le (by omega)] at ht
  exact ht

theorem Row.setOther {e : TypeId} {k : IntKind} {w : World} {g : Nat} {xs : List Int} (h : Row e k w g xs) {p : Addr} (hp : g ≠ p.block) (v : Value) : Row e k (w.setCell p v) g xs := by
  unfold Row
  rw [heap_setCell_other w p g v hp]
  exact h
/-- A byte put behind a word. -/
theorem or_byte (a d : Int) (ha : 0 ≤ a) (ha' : a < 16777216) (hd : 0 ≤ d) (hd' : d < 256) : bits .or .u32 (a * 256) d = a * 256 + d := by
  obtain ⟨x, rfl⟩ := Int.eq_ofNat_of_zero_le ha
  obtain ⟨y, rfl⟩ := Int.eq_ofNat_of_zero_le hd
  show IntKind.u32.wrap ((BitVec.ofInt 32 ((x : Int) * 256) ||| BitVec.ofInt 32 (y : Int)).toNat : Int) = _
  rw [BitVec.toNat_or, show ((x : Int) * 256) = ((x * 256 : Nat) : Int) by omega, ofInt_u32 (x * 256) (by omega), ofInt_u32 y (by omega)]
  have : x * 256 ||| y = x * 256 + y := by
    have := Nat.two_pow_add_eq_or_of_lt (i := 8) (b := y) (by omega) x
    rw [Nat.mul_comm]; exact this.symm
  rw [this, IntKind.wrap_u32]
  omega

end Go.Proofs.Ytnacgkkklmlhaaa
/-
  Contract of sha.mix.
-/
namespace Go.Proofs.Ytnacgkkklmlhaaa
open Go.RowKit
set_option linter.unusedVariables false
set_option linter.unusedSimpArgs false

theorem sched_length (b : List Int) : (sched b).length = 64 := by unfold sched; rw [schedGo_length, words16_length]

theorem int_eq {k : IntKind} {x y : Int} (h : x = y) : Value.int k x = Value.int k y := by rw [h]
/-- What a round makes, in the walk's spelling. -/
theorem rnd_a (a b c d e f g h k w : Int) : ((h + bits .xor .u32 (bits .xor .u32 (rot e 6) (rot e 11)) (rot e 25) + bits .xor .u32 (bits .and .u32 e f) (bits .and .u32 (bits .xor .u32 (if IntKind.u32.signed = true then -1 else IntKind.u32.max) e) g) + k + w) % 4294967296 + (bits .xor .u32 (bits .xor .u32 (rot a 2) (rot a 13)) (rot a 22) + bits .xor .u32 (bits .xor .u32 (bits .and .u32 a b) (bits .and .u32 a c)) (bits .and .u32 b c)) % 4294967296) % 4294967296 = (rnd ⟨a, b, c, d, e, f, g, h⟩ k w).a := by
  have e0 : (if IntKind.u32.signed = true then -1 else IntKind.u32.max) = (4294967295 : Int) := rfl
  rw [e0]
  simp only [rnd, t1, t2, big0, big1, chI, majI, M32]
  omega
theorem rnd_e (a b c d e f g h k w : Int) : (d + (h + bits .xor .u32 (bits .xor .u32 (rot e 6) (rot e 11)) (rot e 25) + bits .xor .u32 (bits .and .u32 e f) (bits .and .u32 (bits .xor .u32 (if IntKind.u32.signed = true then -1 else IntKind.u32.max) e) g) + k + w) % 4294967296) % 4294967296 = (rnd ⟨a, b, c, d, e, f, g, h⟩ k w).e := by
  have e0 : (if IntKind.u32.signed = true then -1 else IntKind.u32.max) = (4294967295 : Int) := rfl
  rw [e0]
  simp only [rnd, t1, t2, big0, big1, chI, majI, M32]
  omega

end Go.Proofs.Ytnacgkkklmlhaaa
/-
  Contracts of sha's tables: squareBelow, cubeBelow, fraction, primes, constants, beginning.
-/
namespace Go.Proofs.Ytnacgkkklmlhaaa
open Go.RowKit
set_option linter.unusedVariables false
set_option linter.unusedSimpArgs false

theorem bits_u64_range (op : BinOp) (x y : Int) : 0 ≤ bits op .u64 x y ∧ bits op .u64 x y < 18446744073709551616 := by
  unfold bits
  simp only [IntKind.wrap_u64]
  omega

def sqB (r p : Int) : Bool := decide (r * r / 18446744073709551616 < p)
def cuB (r p : Int) : Bool := decide (IntKind.u64.wrap (IntKind.u64.wrap (r * r / 18446744073709551616 * r) + (r * r % 18446744073709551616) * r / 18446744073709551616) < IntKind.u64.wrap (p * 4294967296))

/-- The root, bit by bit. -/
def rootAt (f : Int → Int → Bool) (p : Int) : Nat → Int
  | 0 => 0
  | i + 1 => if f (bits .or .u64 (rootAt f p i) (2 ^ (34 - i))) p then bits .or .u64 (rootAt f p i) (2 ^ (34 - i)) else rootAt f p i

theorem int_eq' {k : IntKind} {x y : Int} (h : x = y) : Value.int k x = Value.int k y := by rw [h]
end Go.Proofs.Ytnacgkkklmlhaaa
/-
  Contracts of sha's tables: primes, constants, beginning.
-/
namespace Go.Proofs.Ytnacgkkklmlhaaa
open Go.RowKit
set_option linter.unusedVariables false
set_option linter.unusedSimpArgs false

/-- The primes below a number. -/
def pl : Nat → List Nat
  | 0 => []
  | n + 1 => if 2 ≤ n ∧ (pl n).all (fun p => n % p != 0) then pl n ++ [n] else pl n
def plI (n : Nat) : List Int := (pl n).map (fun x : Nat => (x : Int))
theorem plI_length (n : Nat) : (plI n).length = (pl n).length := by simp [plI]
theorem pl_small : ∀ (n : Nat), ∀ x ∈ pl n, 2 ≤ x ∧ x < n
  | 0, x, h => by simp [pl] at h
  | n + 1, x, h => by
    rw [pl] at h
    split at h
    · rename_i hc
      rcases List.mem_append.1 h with h | h
      · have := pl_small n x h; omega
      · simp at h; omega
    · have := pl_small n x h; omega
theorem plI_get (n j : Nat) (h : j < (pl n).length) : (plI n).getD j 0 = (((pl n).getD j 0 : Nat) : Int) := by simp [plI, List.getD, h]
theorem pl_get (n j : Nat) (h : j < (pl n).length) : 2 ≤ (pl n).getD j 0 ∧ (pl n).getD j 0 < n := by
  have : (pl n).getD j 0 = (pl n)[j] := by simp [List.getD, h]
  rw [this]
  exact pl_small n _ (List.getElem_mem h)
/-- The next one is a prime: none ahead is in it. -/
theorem pl_yes (n : Nat) (h2 : 2 ≤ n) (h : ∀ j, j < (pl n).length → n % (pl n).getD j 0 ≠ 0) : pl (n + 1) = pl n ++ [n] := by
  rw [pl, if_pos]
  refine ⟨h2, ?_⟩
  rw [List.all_eq_true]
  intro x hx
  obtain ⟨j, hj, rfl⟩ := List.getElem_of_mem hx
  have := h j hj
  simpa [List.getD, hj] using this
theorem pl_no (n j : Nat) (hj : j < (pl n).length) (h : n % (pl n).getD j 0 = 0) : pl (n + 1) = pl n := by
  rw [pl, if_neg]
  rintro ⟨_, ha⟩
  rw [List.all_eq_true] at ha
  have := ha _ (List.getElem_mem hj)
  have e : (pl n).getD j 0 = (pl n)[j] := by simp [List.getD, hj]
  rw [e] at h
  simp [h] at this

theorem Try.infoU' : (Try.prog.info? 36).map (fun i => (i.zero, i.size, i.bytes)) = some (some (.int .u64 0), 1, 8) := by kernel_rfl
/-- make(.., 0, n). -/
theorem wpList_make_none {P : Program} (w : World) {ops : Array Oper} {rest : List Oper} {o : Oper} {a : Act} {Q : Exit → Act → World → Prop}
    (hg : o.guard = none) (l c : Operand) (t : TypeId) (hop : o.op = Op.makeSlice t l c) (e : TypeId) (k : IntKind) (bytes : Nat)
    (h1 : P.underlying t = some (.slice e)) (h2 : (P.info? e).map (fun i => (i.zero, i.size, i.bytes)) = some (some (.int k 0), 1, bytes))
    (kl kc : IntKind) (C : Int) (n : Nat) (hl : a.eval l = .int kl 0) (hc : a.eval c = .int kc C) (hC : C = (n : Int)) (b2 : bytes * n ≤ 281474976710656) (b3 : n ≤ maxLen)
    (hK : ∀ w', Own e k w' w.heap.size (.slice (some ⟨w.heap.size, 0, none⟩) 0 n) [] → Below w.heap.size w w' → w.heap.size ≤ w'.heap.size → wpList P ops Q rest (a.put o.dst (.slice (some ⟨w.heap.size, 0, none⟩) 0 n)) w') :
    wpList P ops Q (o :: rest) a w := by
  obtain ⟨i, hi, hz0, hz1, hz2⟩ := info_parts h2
  refine wpList_make_own w hg l c t hop w.heap.size e i (.int k 0) 1 h1 hi hz0 hz1 kl kc C n hl hc hC (by rw [hz2]; exact b2) b3 (Nat.le_refl _) ?_
  intro w' hown hgr
  exact hK w' hown ((Below.refl _ _).grown hgr (Nat.le_refl _) (fun k h => by cases h)) hgr.size

end Go.Proofs.Ytnacgkkklmlhaaa
/-
  Contracts of sha.constants and sha.beginning.
-/
namespace Go.Proofs.Ytnacgkkklmlhaaa
open Go.RowKit
set_option linter.unusedVariables false
set_option linter.unusedSimpArgs false

theorem pl_mono1 (n : Nat) : (pl n).length ≤ (pl (n + 1)).length := by
  rw [pl]
  split
  · simp
  · exact Nat.le_refl _
theorem pl_mono {n m : Nat} (h : n ≤ m) : (pl n).length ≤ (pl m).length := by
  induction h with
  | refl => exact Nat.le_refl _
  | step _ ih => exact Nat.le_trans ih (pl_mono1 _)
def frac (f : Int → Int → Bool) (p : Int) : Int := rootAt f p 35 % 4294967296
theorem pl312 : (pl 312).length = 64 := by decide +kernel
theorem pl311 : (pl 311).length = 63 := by decide +kernel
theorem pl20 : (pl 20).length = 8 := by decide +kernel
theorem pl19 : (pl 19).length = 7 := by decide +kernel
theorem K_table : (plI 312).map (frac cuB) = KS := by decide +kernel
theorem H_table : (plI 20).map (frac sqB) = HS := by decide +kernel

/-- A table, i of its words found. -/
def Tab (g : Int → Int) (l : List Int) (n i : Nat) (cur : List Int) : Prop := cur.length = n ∧ ∀ j, j < i → cur.getD j 0 = g (l.getD j 0)
theorem Tab.zero (g : Int → Int) (l : List Int) (n : Nat) : Tab g l n 0 (List.replicate n 0) := ⟨by simp, fun j h => by omega⟩
theorem Tab.step {g : Int → Int} {l cur : List Int} {n i : Nat} (h : Tab g l n i cur) (hi : i < n) : Tab g l n (i + 1) (cur.set i (g (l.getD i 0))) := by
  refine ⟨by simpa using h.1, fun j hj => ?_⟩
  by_cases e : j = i
  · subst e; simp [List.getD, h.1, hi]
  · have : (cur.set i (g (l.getD i 0))).getD j 0 = cur.getD j 0 := by simp [List.getD, List.getElem?_set_ne (show i ≠ j by omega)]
    rw [this]; exact h.2 j (by omega)
theorem Tab.done {g : Int → Int} {l cur : List Int} {n : Nat} (h : Tab g l n n cur) (hl : l.length = n) : cur = l.map g := by
  apply List.ext_getElem
  · rw [h.1, List.length_map, hl]
  · intro j h1 h2
    have := h.2 j (by rw [h.1] at h1; exact h1)
    have e1 : cur.getD j 0 = cur[j] := by simp [List.getD, h1]
    have h3 : j < l.length := by simpa using h2
    have e2 : l.getD j 0 = l[j] := by simp [List.getD, h3]
    rw [e1, e2] at this
    rw [this]; simp
theorem Row.setOther' {e : TypeId} {k : IntKind} {w : World} {g : Nat} {xs : List Int} (h : Row e k w g xs) {p : Addr} (hp : g ≠ p.block) (v : Value) : Row e k (w.setCell p v) g xs := by
  unfold Row
  rw [heap_setCell_other w p g v hp]
  exact h

end Go.Proofs.Ytnacgkkklmlhaaa
/-
  Blocks of bytes put in: plain mathematics.
-/
namespace Go.Proofs.Ytnacgkkklmlhaaa
open Go.RowKit
set_option linter.unusedVariables false
set_option linter.unusedSimpArgs false

theorem hb_append (xs ys : List Int) : ∀ n, 64 * n ≤ xs.length → hb (xs ++ ys) n = hb xs n
  | 0, _ => rfl
  | n + 1, h => by
    rw [hb, hb, hb_append xs ys n (by omega)]
    congr 1
    rw [List.drop_append_of_le_length (by omega), List.take_append_of_le_length (by simp; omega)]
theorem hb_length (xs : List Int) : ∀ n, (hb xs n).length = 8
  | 0 => rfl
  | n + 1 => rfl
theorem hb_succ (xs : List Int) (n : Nat) : hb xs (n + 1) = mixS KS (hb xs n) ((xs.drop (64 * n)).take 64) := rfl

/-- What a hash holds of all the bytes. -/
structure Holds (all ws rs : List Int) : Prop where
  words : 64 ≤ all.length → ws = hb all (all.length / 64)
  rest : rs.take (all.length % 64) = all.drop (64 * (all.length / 64))
  bytes : Dg 256 rs
  good : Dg 256 all
  len : all.length ≤ 1000000000000000

/-- The bytes held, with those that fill the block. -/
theorem full_block {all ws rs bs : List Int} (h : Holds all ws rs) (hr : rs.length = 64) (r : Nat) (hrr : all.length % 64 = r) (m : Nat) (hm : r + m = 64) (hb : m ≤ bs.length) (h0 : 0 < r) :
    rs.take r ++ bs.take m ++ rs.drop (r + m) = ((all ++ bs).drop (64 * (all.length / 64))).take 64 := by
  have h1 := h.rest
  rw [hrr] at h1
  rw [h1, hm, List.drop_eq_nil_of_le (show rs.length ≤ 64 by omega), List.append_nil, List.drop_append_of_le_length (by omega)]
  have hl : (all.drop (64 * (all.length / 64))).length = r := by simp; omega
  rw [List.take_append, List.take_of_length_le (show (all.drop (64 * (all.length / 64))).length ≤ 64 by omega), hl, show 64 - r = m by omega]

theorem drop_after {all bs : List Int} (r : Nat) (hrr : all.length % 64 = r) (m : Nat) (hm : r + m = 64) : (all ++ bs).drop (64 * (all.length / 64 + 1)) = bs.drop m := by
  have e : 64 * (all.length / 64 + 1) = all.length + m := by omega
  rw [e, List.drop_length_add_append]
theorem drop_none {all bs : List Int} (hrr : all.length % 64 = 0) : (all ++ bs).drop (64 * (all.length / 64)) = bs := by
  have e : 64 * (all.length / 64) = all.length + 0 := by omega
  rw [e, List.drop_length_add_append, List.drop_zero]
/-- All blocks are through. -/
theorem holds_done {T ws rs1 : List Int} (D ln : Nat) (hw : ws = hb T D) (hl : (T.drop (64 * D)).length = ln) (hln : ln < 64) (hD : 64 * D ≤ T.length) (hd : Dg 256 T) (hr : Dg 256 rs1) (hT : T.length ≤ 1000000000000000) :
    Holds T ws (rs1.take 0 ++ (T.drop (64 * D)).take ln ++ rs1.drop (0 + ln)) := by
  have e1 : T.length / 64 = D := by simp at hl; omega
  have e2 : T.length % 64 = ln := by simp at hl; omega
  refine ⟨fun _ => by rw [e1]; exact hw, ?_, ?_, hd, hT⟩
  · rw [e1, e2, List.take_zero, List.nil_append, List.take_append_of_le_length (by simp at hl ⊢; omega), List.take_take, Nat.min_self, List.take_of_length_le (by omega)]
  · exact (((hr.take 0).append ((hd.drop _).take _)).append (hr.drop _))
/-- Few bytes more. -/
theorem holds_few {all ws rs bs : List Int} (h : Holds all ws rs) (hr : rs.length = 64) (r : Nat) (hrr : all.length % 64 = r) (hb : r + bs.length < 64) (hd : Dg 256 bs) (hT : all.length + bs.length ≤ 1000000000000000) :
    Holds (all ++ bs) ws (rs.take r ++ bs.take bs.length ++ rs.drop (r + bs.length)) := by
  have e1 : (all ++ bs).length / 64 = all.length / 64 := by simp; omega
  have e2 : (all ++ bs).length % 64 = r + bs.length := by simp; omega
  refine ⟨fun hh => ?_, ?_, ?_, h.good.append hd, by simpa using hT⟩
  · rw [e1, hb_append _ _ _ (by omega)]; exact h.words (by simp at hh; omega)
  · have h1 := h.rest
    rw [hrr] at h1
    rw [e1, e2, List.take_append_of_le_length (by simp; omega), List.take_of_length_le (by simp; omega), h1, List.drop_append_of_le_length (by omega), List.take_of_length_le (Nat.le_refl _)]
  · exact (((h.bytes.take _).append (hd.take _)).append (h.bytes.drop _))
end Go.Proofs.Ytnacgkkklmlhaaa
/-
  Slices of a hash's bytes.
-/
namespace Go.Proofs.Ytnacgkkklmlhaaa
open Go.RowKit
/-- A function without results. -/
theorem results_none {P : Program} {fn : Func} (h : fn.results = #[]) (tmps : Array Value) (w : World) : (results fn tmps).run P w = .ok (.tuple #[]) w := by
  simp [results, h]
/-- An array's load and store, kept whole from the walk. -/
def HLD (t : TypeId) (p : Value) : Sem Value := Instr.loadAt t p
def HST (t : TypeId) (p v : Value) : Sem Unit := Instr.storeAt t p v
theorem keep_l32 (p : Value) : Instr.loadAt 47 p = HLD 47 p := rfl
theorem keep_s32 (p v : Value) : Instr.storeAt 47 p v = HST 47 p v := rfl
end Go.Proofs.Ytnacgkkklmlhaaa
/-
  Layer 9's Awake; bytes that a region makes.
-/
namespace Go.Proofs.Ytnacgkkklmlhaaa
open Go.Shelf Go.RowKit
set_option linter.unusedVariables false
set_option linter.unusedSimpArgs false

/-- What a power must give, of any size. -/
def padA (n : Int) (hs : List Int) : List Int := if n < 62 ∨ 512 < n then [] else padL n.toNat hs
/-- A value that is bytes. -/
def By8 (W : World) (v : Value) (xs : List Int) : Prop := ∃ ao l c, v = .slice ao l c ∧ NumIn .u8 256 W ao l c xs
theorem By8.old {w w' : World} {v : Value} {xs : List Int} (h : By8 w v xs) (hb : Below w.heap.size w w') : By8 w' v xs := by
  obtain ⟨ao, l, c, e, h⟩ := h
  exact ⟨ao, l, c, e, h.old hb⟩
theorem Pad_any (n : Int) (hs : List Int) (w : World) (hl : hs.length = 32) (hd : Dg 256 hs) :
    Calls Try.prog 16 #[.int .i64 n, ag .u8 hs] w fun e w' => ∃ v, e = .returned v ∧ By8 w' v (padA n hs) ∧ Below w.heap.size w w' := by
  unfold padA
  by_cases h : n < 62 ∨ 512 < n
  · rw [if_pos h]
    refine (Pad_no n hs w h).mono ?_
    rintro e w' ⟨rfl, hb⟩
    exact ⟨_, rfl, ⟨none, 0, 0, rfl, NumIn.nil⟩, hb⟩
  · rw [if_neg h]
    obtain ⟨m, rfl⟩ : ∃ m : Nat, n = m := ⟨n.toNat, by omega⟩
    refine (Pad_yes m hs w (by omega) (by omega) hl).mono ?_
    rintro e w' ⟨g, rfl, hr, hg, hb⟩
    have hp := padL_len m hs hl (by omega)
    have h5 := hr.num (padL_dg m hs hd) (by omega)
    rw [hp] at h5
    exact ⟨_, rfl, ⟨_, m, m, rfl, h5⟩, hb⟩
theorem rPad_any (n : Int) (hs : List Int) (w : World) (hl : hs.length = 32) (hd : Dg 256 hs) :
    Calls Try.prog 17 #[.int .i64 n, ag .u8 hs] w fun e w' => ∃ v, e = .returned v ∧ By8 w' v (padA n hs) ∧ Below w.heap.size w w' := by
  unfold padA
  by_cases h : n < 62 ∨ 512 < n
  · rw [if_pos h]
    refine (rPad_no n hs w h).mono ?_
    rintro e w' ⟨rfl, hb⟩
    exact ⟨_, rfl, ⟨none, 0, 0, rfl, NumIn.nil⟩, hb⟩
  · rw [if_neg h]
    obtain ⟨m, rfl⟩ : ∃ m : Nat, n = m := ⟨n.toNat, by omega⟩
    refine (rPad_yes m hs w (by omega) (by omega) hl).mono ?_
    rintro e w' ⟨v, rfl, ho, hb⟩
    have hp := padL_len m hs hl (by omega)
    obtain ⟨ao, cap, hv, h5⟩ := ho.num (padL_dg m hs hd) (by omega)
    exact ⟨_, rfl, ⟨ao, _, cap, hv, h5⟩, hb⟩

/-- A fact that stands while memory is made. -/
def Fk.gen (S : List Value → World → Prop) (hk : ∀ vs w w', Below w.heap.size w w' → S vs w → S vs w') : Fk := ⟨S, hk, false, fun h => by cases h⟩
def Fk.by (xs : List Int) : Fk := Fk.gen (fun vs W => By8 W (vs.getD 0 undef) xs) fun vs w w' hb h => h.old hb
theorem row_ld32 {w : World} {g : Nat} {e : TypeId} {xs : List Int} (h : Row e .u8 w g xs) (hl : xs.length = 32) : (HLD 47 (.pointer (some ⟨g, 0, none⟩))).run Try.prog w = .ok (ag .u8 xs) w := by
  refine run_loadAt_mid w g 0 47 (xs.map (Value.int .u8)) (.array 32 5) (fun j v hv => ?_) Try.underlying47 rfl (by rw [Try.sizeB32, List.length_map, hl])
  have hj : j < xs.length := by have := (List.getElem?_eq_some_iff.1 hv).1; rw [List.length_map] at this; exact this
  rw [Nat.zero_add, h.cell j hj, ← hv]
  simp [List.getD, hj]

set_option maxRecDepth 100000 in
set_option maxHeartbeats 1000000 in
theorem RAwake_any (w : World) : Calls Try.prog 8 #[] w fun e w' => e = .returned (.bool true) ∧ Below w.heap.size w w' := by
  have HP := Pad_yes 62 (1 :: List.replicate 31 0) w (by decide) (by decide) rfl
  have HN := fun W => Pad_no 61 (List.replicate 32 0) W (by decide)
  go_enter Try.func8, Try.ntmps8
  go_wp2_with fail
  refine HP.mono ?_
  rintro e w1 ⟨g, rfl, hr, hg, hb⟩
  have c1 : w1.cell? ⟨g, 1, none⟩ = some (.int .u8 1) := hr.cell 1 (by decide)
  have c9 : w1.cell? ⟨g, 9, none⟩ = some (.int .u8 255) := hr.cell 9 (by decide)
  have c10 : w1.cell? ⟨g, 10, none⟩ = some (.int .u8 0) := hr.cell 10 (by decide)
  have c30 : w1.cell? ⟨g, 30, none⟩ = some (.int .u8 1) := hr.cell 30 (by decide)
  have HB : Hid (Below w.heap.size w w1) := hb
  clear HP hr hb
  go_wp2_with fail
  refine (HN _).mono ?_
  rintro e w2 ⟨rfl, hb2⟩
  go_wp2
  go_ret
  exact ⟨rfl, HB.out.trans (hb2.mono HB.out.size)⟩
end Go.Proofs.Ytnacgkkklmlhaaa
/-
  Arguments that came in, opened: an array of 32 bytes, a key of two numbers.
-/
namespace Go.Proofs.Ytnacgkkklmlhaaa
open Go.RowKit Go.ChangeShapes Go.WideShapes Go.ChangeShapes
set_option linter.unusedVariables false

theorem okWide_arr {P : Program} {w : World} {r : Reach} {base : Nat} {t : TypeId} {v : Value} {n : Nat} {e : TypeId} (ht : P.underlying t = some (.array n e)) (h : Value.okWide P w r base t v) : ∃ cs, v = .agg cs := by
  simp only [Value.okWide, ht] at h
  obtain ⟨cs, h1, _⟩ := h
  exact ⟨cs, h1⟩
theorem open_arr32 {H : Type} {enc : TypeId × Value → H} {w : World} {spare : Nat → Bool} {held : Bool} {fuel : Nat} {cs : Array Value} {x : DataW H × List MemPlace} (h : DataW.trod enc Try.prog w 0 spare held fuel 47 cs.toList = some x) :
    ∃ zs : List Int, cs = (zs.map (Value.int .u8)).toArray ∧ zs.length = 32 ∧ Dg 256 zs := by
  obtain ⟨xs, m, rfl, _, hl, hx, hf⟩ := DataW.trod_array Try.underlying47 h
  have hc : Try.prog.cellsOf 5 = 1 := by kernel_rfl
  have hc32 : Try.prog.cellsOf 47 = 32 := by kernel_rfl
  rw [hc32] at hl
  rw [hc] at hf
  have each : ∀ i, i < 32 → ∃ z : Int, cs.toList[i]? = some (.int .u8 z) ∧ 0 ≤ z ∧ z < 256 := fun i hi => by
    have h1 := hf i hi
    rw [List.getElem?_eq_getElem (by omega)] at h1
    obtain ⟨z, e0, _, hz⟩ := DataW.trod_int (k := .u8) Try.underlying5 h1
    rw [Nat.mul_one] at e0
    refine ⟨z, ?_, word_u8 hz⟩
    have h2 := congrArg (fun l => l[0]?) e0
    simpa [List.getElem?_take, List.getElem?_drop] using h2
  obtain ⟨G, hG⟩ : ∃ G : Nat → Int, ∀ i, i < 32 → cs.toList[i]? = some (.int .u8 (G i)) ∧ 0 ≤ G i ∧ G i < 256 :=
    ⟨fun i => if hi : i < 32 then (each i hi).choose else 0, fun i hi => by simp only [dif_pos hi]; exact (each i hi).choose_spec⟩
  refine ⟨(List.range 32).map G, ?_, by simp, fun y hy => ?_⟩
  · apply Array.ext'
    apply List.ext_getElem?
    intro i
    by_cases hi : i < 32
    · rw [(hG i hi).1]
      simp [List.getElem?_range hi]
    · rw [List.getElem?_eq_none (by omega), List.getElem?_eq_none (by simp; omega)]
  · obtain ⟨i, hi, rfl⟩ := List.mem_map.1 hy
    exact (hG i (List.mem_range.1 hi)).2
theorem keyFields : ∃ f0 f1 : Field, Try.prog.underlying 25 = some (.struct #[f0, f1]) ∧ f0.offset = 0 ∧ f1.offset = 1 ∧ f0.type = 23 ∧ f1.type = 23 := ⟨_, _, Try.underlying25, rfl, rfl, rfl, rfl⟩
theorem open_key {H : Type} {enc : TypeId × Value → H} {w : World} {held : Bool} {fuel : Nat} {cs : Array Value} {x : DataW H × List MemPlace} (h : DataW.trod enc Try.prog w 0 (fun _ => true) held fuel 25 cs.toList = some x) :
    ∃ (a1 : Option Addr) (l1 c1 : Nat) (z1 : List Int) (a2 : Option Addr) (l2 c2 : Nat) (z2 : List Int), cs = #[.slice a1 l1 c1, .slice a2 l2 c2] ∧ Came .u64 w a1 l1 c1 z1 ∧ Came .u64 w a2 l2 c2 z2 := by
  obtain ⟨f0, f1, hu, o0, o1, t0, t1⟩ := keyFields
  have hc : Try.prog.cellsOf 23 = 1 := by kernel_rfl
  have hc2 : Try.prog.cellsOf 25 = 2 := by kernel_rfl
  obtain ⟨y0, y1, n, _, hl, g0, g1⟩ := trod_struct2 hu h
  rw [hc2] at hl
  rw [o0, t0, hc] at g0
  rw [o1, t1, hc] at g1
  obtain ⟨v0, v1, hcs⟩ : ∃ v0 v1, cs.toList = [v0, v1] := by
    match hh : cs.toList, hl with
    | [v0, v1], _ => exact ⟨v0, v1, rfl⟩
  rw [hcs] at g0 g1
  simp only [List.drop_zero, List.drop_succ_cons, List.take_succ_cons, List.take_zero] at g0 g1
  have one : ∀ v (y : DataW H × List MemPlace), DataW.trod enc Try.prog w 0 (fun _ => true) held n 23 [v] = some y → ∃ a l c z, v = .slice a l c ∧ Came .u64 w a l c z := fun v y g => by
    rcases open_ints Try.underlying23 Try.underlying36 (by kernel_rfl) g with ⟨hcs, _⟩ | ⟨x, l, c, zs, hcs, _, hl, hm, hz, _, hcell, hwz⟩
    · cases hcs
      exact ⟨none, 0, 0, [], rfl, .inl ⟨rfl, rfl, rfl, rfl⟩⟩
    · cases hcs
      exact ⟨_, _, _, zs, rfl, .inr ⟨_, rfl, hl, hm, by simpa using hz, hcell, hwz⟩⟩
  obtain ⟨a1, l1, c1, z1, rfl, w1⟩ := one _ _ g0
  obtain ⟨a2, l2, c2, z2, rfl, w2⟩ := one _ _ g1
  exact ⟨a1, l1, c1, z1, a2, l2, c2, z2, Array.ext' hcs, w1, w2⟩
end Go.Proofs.Ytnacgkkklmlhaaa
/-
  Contracts of the document's answer: the sum (Add), the difference (Sub).
-/
namespace Go.Proofs.Ytnacgkkklmlhaaa
open Go.RowKit
set_option linter.unusedVariables false
set_option linter.unusedSimpArgs false

/-- An answer as in NumOut, whose cells are new. -/
def NumNew (k : IntKind) (B : Int) (w w' : World) (v : Value) (n : Int) (L : Nat) : Prop :=
  ∃ ao len cap xs, v = .slice ao len cap ∧ NumIn k B w' ao len cap xs ∧ Canon xs ∧ val B xs = n ∧ len ≤ L ∧ Below w.heap.size w w' ∧ ∀ b off s, ao = some ⟨b, off, s⟩ → w.heap.size ≤ b
theorem NumNew.out {k : IntKind} {B : Int} {w w' : World} {v : Value} {n : Int} {L : Nat} (h : NumNew k B w w' v n L) : NumOut k B w w' v n L := by
  obtain ⟨a, b, c, d, e1, e2, e3, e4, e5, e6, _⟩ := h
  exact ⟨a, b, c, d, e1, e2, e3, e4, e5, e6⟩
theorem Own.fresh {e : TypeId} {k : IntKind} {w : World} {base : Nat} {ao : Option Addr} {len cap : Nat} {xs : List Int} (h : Own e k w base (.slice ao len cap) xs) : ∀ b off s, ao = some ⟨b, off, s⟩ → base ≤ b := by
  intro b off s ha
  rcases h.2 with ⟨h1, _⟩ | ⟨g, cap', cur, h1, hg, _⟩
  · injection h1 with h1
    rw [h1] at ha; cases ha
  · injection h1 with h1
    rw [h1] at ha
    injection ha with ha
    injection ha with ha
    omega
theorem NumIn.fresh {k : IntKind} {B : Int} {w w' : World} {ao : Option Addr} {len cap : Nat} {xs : List Int} (h : NumIn k B w' ao len cap xs) (hb : Below w.heap.size w w') (n : Int) (hv : val B xs = n) (L : Nat) (hL : len ≤ L) (hf : ∀ b off s, ao = some ⟨b, off, s⟩ → w.heap.size ≤ b) :
    NumNew k B w w' (.slice ao (top xs) cap) n L := by
  have hl := h.len
  have ht := top_le xs
  exact ⟨ao, top xs, cap, xs.take (top xs), rfl, h.take _ (by omega), canon_take_top xs, by rw [val_take_top, hv], by omega, hb, hf⟩

/-- What Sub has gathered: i digits, and what is borrowed. -/
def RSubs (xs ys : List Int) (i : Nat) (ds : List Int) (c : Int) : Prop :=
  ds.length = i ∧ Dg D16 ds ∧ 0 ≤ c ∧ c ≤ 1 ∧ val D16 ds = low D16 xs i - low D16 ys i + D16 ^ i * c
theorem RSubs.step {xs ys : List Int} {i : Nat} {ds : List Int} {c : Int} (h : RSubs xs ys i ds c) {d c' : Int} (hd : 0 ≤ d ∧ d < D16) (hc : 0 ≤ c' ∧ c' ≤ 1) (he : d = xs.getD i 0 - c - ys.getD i 0 + 65536 * c') : RSubs xs ys (i + 1) (ds ++ [d]) c' := by
  obtain ⟨h1, h2, h3, h4, h5⟩ := h
  refine ⟨by simp [h1], h2.append (Dg.cons hd (Dg.nil _)), hc.1, hc.2, ?_⟩
  rw [val_snoc, low_succ, low_succ, h1, Int.pow_succ, h5, he]
  have hD : D16 = 65536 := rfl
  generalize D16 ^ i = p at *
  rw [hD]
  grind
theorem RSubs.done {xs ys : List Int} {ds : List Int} {c : Int} (h : RSubs xs ys xs.length ds c) (hy : ys.length ≤ xs.length) (hle : val D16 ys ≤ val D16 xs) : val D16 ds = val D16 xs - val D16 ys := by
  obtain ⟨h1, h2, h3, h4, h5⟩ := h
  rw [low_len, low_all D16 ys xs.length (by have := top_le ys; omega)] at h5
  have hc : c = 0 := by
    have a := val_lt D16_pos h2
    rw [h1] at a
    rcases (show c = 0 ∨ c = 1 by omega) with e | e
    · exact e
    · rw [e] at h5
      omega
  rw [hc] at h5
  simpa using h5

set_option maxHeartbeats 1000000 in
/-- the document's Sub, of a number that isn't less. -/
theorem rSub_new (ao bo : Option Addr) (la ca lb cb : Nat) (xs ys : List Int) (w : World) (h : NumIn .i64 D16 w ao la ca xs) (h' : NumIn .i64 D16 w bo lb cb ys) (hx : Canon xs) (hy : Canon ys) (hle : val D16 ys ≤ val D16 xs) (hla : la ≤ 1000000) (hlb : lb ≤ 1000000) :
    Calls Try.prog 76 #[.slice ao la ca, .slice bo lb cb] w fun e w' => ∃ v, e = .returned v ∧ NumNew .i64 D16 w w' v (val D16 xs - val D16 ys) la := by
  have hl := h.len
  have hl' := h'.len
  have hyx : lb ≤ la := by
    have := top_mono D16_one h'.dg h.dg hle
    unfold Canon at hx hy
    omega
  clear hx hy
  go_enter Try.func76, Try.ntmps76
  go_wp2
  go_loopw [5, 6, 7] (fun vo vc vi wr => ∃ (i : Nat) (c : Int) (ds : List Int), i ≤ la ∧ vi = .int .i64 i ∧ vc = .int .i64 c ∧ Own 3 .i64 wr w.heap.size vo ds ∧ RSubs xs ys i ds c ∧ Below w.heap.size w wr) (fun _ _ vi _ => la - (intOf vi).toNat)
  case atStart => exact ⟨0, 0, [], Nat.zero_le _, rfl, rfl, Own.nil _ _ _ _, ⟨rfl, Dg.nil _, by decide, by decide, by simp [val, low_zero]⟩, Below.refl _ _⟩
  case round =>
    obtain ⟨i, c, ds, hi, rfl, rfl, hown, hs, hb⟩ := hrel
    by_cases hlt : i < la
    · have hx := h.lies.old hb
      obtain ⟨b, off, rfl, hblk, hcs⟩ := hx.at (by omega)
      have hcx := hcs i hlt
      have hlen := hs.1
      have hc0 := hs.2.2.1
      have hc1 := hs.2.2.2.1
      have gx := h.dg.getD D16_pos i
      have gy := h'.dg.getD D16_pos i
      have HS : Hid (∀ d c', (0 ≤ d ∧ d < D16) → (0 ≤ c' ∧ c' ≤ 1) → d = xs.getD i 0 - c - ys.getD i 0 + 65536 * c' → RSubs xs ys (i + 1) (ds ++ [d]) c') := fun d c' h1 h2 h3 => hs.step h1 h2 h3
      have HLB : Hid (ds.length < 1073741824) := by unfold Hid; omega
      have hbs := hb.size
      have x0 := gx.1
      have x1 : xs.getD i 0 < 65536 := gx.2
      have y0 := gy.1
      have y1 : ys.getD i 0 < 65536 := gy.2
      have hin : i < lb → ∃ b2 off2, bo = some ⟨b2, off2, none⟩ ∧ wr.cell? ⟨b2, off2 + i, none⟩ = some (.int .i64 (ys.getD i 0)) := fun hk => by
        obtain ⟨b2, off2, e, _, hc2⟩ := (h'.lies.old hb).at (by omega)
        exact ⟨b2, off2, e, hc2 i hk⟩
      have hout : ¬ i < lb → ys.getD i 0 = 0 := fun hk => by simp [List.getD, List.getElem?_eq_none (show ys.length ≤ i by omega)]
      generalize xs.getD i 0 = x at *
      generalize ys.getD i 0 = y at *
      clear hs hx hcs h h' hle hl hl' gx gy hlen
      by_cases hk : i < lb
      · obtain ⟨b2, off2, rfl, hcy⟩ := hin hk
        clear hin hout
        by_cases hneg : x - c - y < 0
        · have HF := HS.out (x - c - y + 65536) 1 (by unfold D16; omega) (by omega) (by omega)
          replace HS : Hid (RSubs xs ys (i + 1) (ds ++ [x - c - y + 65536]) 1) := HF
          clear HF
          go_wp2_with (at_builtin; refine wpList_append_one rfl _ _ 41 rfl 3 .i64 8 Try.underlying41 Try.infoI w.heap.size u5 ds (x - c - y + 65536) (by rfl) hown (by rfl) HLB.out (by decide) w hb hbs ?_)
          intro v' w' hown' hb'
          clear hown hb hbs
          go_wp2
          go_roundw
          case rel => exact ⟨i + 1, _, _, by omega, by go_num, rfl, hown', HS.out, hb'⟩
          case measure => simp [intOf] <;> omega
        · have HF := HS.out (x - c - y) 0 (by unfold D16; omega) (by omega) (by omega)
          replace HS : Hid (RSubs xs ys (i + 1) (ds ++ [x - c - y]) 0) := HF
          clear HF
          go_wp2_with (at_builtin; refine wpList_append_one rfl _ _ 41 rfl 3 .i64 8 Try.underlying41 Try.infoI w.heap.size u5 ds (x - c - y) (by rfl) hown (by rfl) HLB.out (by decide) w hb hbs ?_)
          intro v' w' hown' hb'
          clear hown hb hbs
          go_wp2
          go_roundw
          case rel => exact ⟨i + 1, _, _, by omega, by go_num, rfl, hown', HS.out, hb'⟩
          case measure => simp [intOf] <;> omega
      · have hz := hout hk
        subst hz
        clear hin hout y0 y1
        by_cases hneg : x - c < 0
        · have HF := HS.out (x - c + 65536) 1 (by unfold D16; omega) (by omega) (by omega)
          replace HS : Hid (RSubs xs ys (i + 1) (ds ++ [x - c + 65536]) 1) := HF
          clear HF
          go_wp2_with (at_builtin; refine wpList_append_one rfl _ _ 41 rfl 3 .i64 8 Try.underlying41 Try.infoI w.heap.size u5 ds (x - c + 65536) (by rfl) hown (by rfl) HLB.out (by decide) w hb hbs ?_)
          intro v' w' hown' hb'
          clear hown hb hbs
          go_wp2
          go_roundw
          case rel => exact ⟨i + 1, _, _, by omega, by go_num, rfl, hown', HS.out, hb'⟩
          case measure => simp [intOf] <;> omega
        · have HF := HS.out (x - c) 0 (by unfold D16; omega) (by omega) (by omega)
          replace HS : Hid (RSubs xs ys (i + 1) (ds ++ [x - c]) 0) := HF
          clear HF
          go_wp2_with (at_builtin; refine wpList_append_one rfl _ _ 41 rfl 3 .i64 8 Try.underlying41 Try.infoI w.heap.size u5 ds (x - c) (by rfl) hown (by rfl) HLB.out (by decide) w hb hbs ?_)
          intro v' w' hown' hb'
          clear hown hb hbs
          go_wp2
          go_roundw
          case rel => exact ⟨i + 1, _, _, by omega, by go_num, rfl, hown', HS.out, hb'⟩
          case measure => simp [intOf] <;> omega
    · obtain rfl : i = la := by omega
      have hlen := hs.1
      obtain ⟨a2, c2, hv, hnum⟩ := hown.num hs.2.1 (by omega)
      have HV : Hid (val D16 ds = val D16 xs - val D16 ys) := by rw [← hl] at hs; exact hs.done (by omega) hle
      have HN : Hid (NumIn .i64 D16 wr a2 ds.length c2 ds) := hnum
      have HB : Hid (Below w.heap.size w wr) := hb
      have HL : Hid (ds.length = i) := hlen
      subst hv
      have HFR : Hid (∀ b off s, a2 = some ⟨b, off, s⟩ → w.heap.size ≤ b) := hown.fresh
      clear hown hs hnum hb h h' hle hlen
      go_wp2_with fail
      refine (rtrim_any a2 ds.length c2 ds wr HN.out).mono ?_
      rintro e w4 ⟨rfl, rfl⟩
      go_wp2
      go_ret
      exact ⟨_, rfl, HN.out.fresh HB.out _ HV.out _ (by have := HL.out; omega) HFR.out⟩
/-- the document's Sub. -/
theorem rSub_any (ao bo : Option Addr) (la ca lb cb : Nat) (xs ys : List Int) (w : World) (h : NumIn .i64 D16 w ao la ca xs) (h' : NumIn .i64 D16 w bo lb cb ys) (hx : Canon xs) (hy : Canon ys) (hle : val D16 ys ≤ val D16 xs) (hla : la ≤ 1000000) (hlb : lb ≤ 1000000) :
    Calls Try.prog 76 #[.slice ao la ca, .slice bo lb cb] w fun e w' => ∃ v, e = .returned v ∧ NumOut .i64 D16 w w' v (val D16 xs - val D16 ys) la := by
  refine (rSub_new ao bo la ca lb cb xs ys w h h' hx hy hle hla hlb).mono ?_
  rintro e w' ⟨v, rfl, hv⟩
  exact ⟨v, rfl, hv.out⟩

end Go.Proofs.Ytnacgkkklmlhaaa
/-
  Contracts of the document's answer: a small number (Small), the quotient and what is left (Div).
-/
namespace Go.Proofs.Ytnacgkkklmlhaaa
open Go.RowKit
set_option linter.unusedVariables false
set_option linter.unusedSimpArgs false

/-- What Small has gathered, and what is left. -/
def Smls (n : Int) (ds : List Int) (x : Int) : Prop :=
  Dg D16 ds ∧ 0 ≤ x ∧ val D16 ds + D16 ^ ds.length * x = n ∧ ∀ j, ds.length = j + 1 → D16 ^ j ≤ n
theorem Smls.step {n : Int} {ds : List Int} {x : Int} (h : Smls n ds x) (hx : 0 < x) : Smls n (ds ++ [x % 65536]) (x / 65536) := by
  obtain ⟨h1, h2, h3, h4⟩ := h
  have hD : D16 = 65536 := rfl
  refine ⟨h1.append (Dg.cons (by rw [hD]; omega) (Dg.nil _)), by omega, ?_, fun j hj => ?_⟩
  · rw [val_snoc, List.length_append, List.length_cons, List.length_nil, Int.pow_succ, ← h3]
    have e : x = x % 65536 + 65536 * (x / 65536) := by omega
    generalize x % 65536 = r at *
    generalize x / 65536 = q at *
    rw [e]
    generalize D16 ^ ds.length = p at *
    rw [hD]
    grind
  · simp at hj
    rw [← hj, ← h3]
    have v0 := val_nonneg D16_pos h1
    have : D16 ^ ds.length * 1 ≤ D16 ^ ds.length * x := Int.mul_le_mul_of_nonneg_left (by omega) (by have : 0 < D16 ^ ds.length := Int.pow_pos D16_pos; omega)
    omega
theorem Smls.few {n : Int} {ds : List Int} {x : Int} (h : Smls n ds x) (hn : n < 9223372036854775808) : ds.length ≤ 4 := by
  cases hl : ds.length with
  | zero => omega
  | succ j =>
    have a := h.2.2.2 j hl
    by_cases hj : j < 4
    · omega
    · have b := pow_mono (B := D16) (by decide) (show 4 ≤ j by omega)
      rw [D16_4] at b
      unfold B64 at b
      omega
theorem Smls.done {n : Int} {ds : List Int} (h : Smls n ds 0) : val D16 ds = n ∧ Canon ds := by
  obtain ⟨h1, h2, h3, h4⟩ := h
  have hv : val D16 ds = n := by simpa using h3
  refine ⟨hv, ?_⟩
  cases hl : ds.length with
  | zero => rw [List.eq_nil_of_length_eq_zero hl]; exact Canon.nil
  | succ j => exact canon_of_ge D16_one h1 j hl (by rw [hv]; exact h4 j hl)

set_option maxHeartbeats 1000000 in
/-- the document's Small. -/
theorem rSmall_any (n : Int) (w : World) (h0 : 0 ≤ n) (h1 : n < 9223372036854775808) :
    Calls Try.prog 31 #[.int .i64 n] w fun e w' => ∃ v, e = .returned v ∧ NumOut .i64 D16 w w' v n 4 := by
  go_enter Try.func31, Try.ntmps31
  go_wp2
  go_loopw [0, 3] (fun vx vo wr => ∃ (x : Int) (ds : List Int), vx = .int .i64 x ∧ x ≤ n ∧ Own 3 .i64 wr w.heap.size vo ds ∧ Smls n ds x ∧ Below w.heap.size w wr) (fun vx _ _ => (intOf vx).toNat)
  case atStart => exact ⟨n, [], rfl, Int.le_refl _, Own.nil _ _ _ _, ⟨Dg.nil _, h0, by simp [val], fun j h => by simp at h⟩, Below.refl _ _⟩
  case round =>
    obtain ⟨x, ds, rfl, hxn, hown, hs, hb⟩ := hrel
    have hx0 := hs.2.1
    have hfew := hs.few h1
    by_cases hx : 0 < x
    · have HS : Hid (Smls n (ds ++ [x % 65536]) (x / 65536)) := hs.step hx
      have HLB : Hid (ds.length < 1073741824) := by unfold Hid; omega
      have hbs := hb.size
      clear hs hfew
      go_wp2_with (at_builtin; refine wpList_append_one rfl _ _ 41 rfl 3 .i64 8 Try.underlying41 Try.infoI w.heap.size u3 ds (x % 65536) (by rfl) hown (by rfl) HLB.out (by decide) w hb hbs ?_)
      intro v' w' hown' hb'
      clear hown hb hbs
      go_wp2
      go_roundw
      case rel => exact ⟨x / 65536, _, rfl, by omega, hown', HS.out, hb'⟩
      case measure => simp [intOf] <;> omega
    · obtain rfl : x = 0 := by omega
      obtain ⟨a2, c2, hv, hnum⟩ := hown.num hs.1 (by omega)
      have HF : Hid (NumOut .i64 D16 w wr (.slice a2 ds.length c2) n 4) := ⟨_, _, _, _, rfl, hnum, hs.done.2, hs.done.1, hfew, hb⟩
      subst hv
      clear hown hs hnum hb hfew
      go_wp2
      go_ret
      exact ⟨_, rfl, HF.out⟩

theorem low_le {B : Int} (hB : 0 < B) (xs : List Int) (hd : Dg B xs) (i : Nat) : low B xs i ≤ val B xs := by
  have h := val_append B (xs.take i) (xs.drop i)
  rw [List.take_append_drop] at h
  have a := val_nonneg hB (hd.drop i)
  have hp : 0 < B ^ (xs.take i).length := Int.pow_pos hB
  have b := Int.mul_nonneg (Int.le_of_lt hp) a
  unfold low
  omega
/-- As often as the first digit surely allows. -/
theorem times_ok (rs ys : List Int) (hr : Dg D16 rs) (hy : Dg D16 ys) (m : Nat) (hm : ys.length = m + 1) (s : Int) (hs0 : 0 ≤ s) (hs : s * (ys.getD m 0 + 1) ≤ rs.getD m 0 + 65536 * rs.getD (m + 1) 0) : s * val D16 ys ≤ val D16 rs := by
  have hD : D16 = 65536 := rfl
  have hp : 0 < D16 ^ m := Int.pow_pos D16_pos
  have e1 : val D16 ys = low D16 ys m + D16 ^ m * ys.getD m 0 := by rw [← low_succ, ← hm, low_len]
  have l1 : low D16 ys m < D16 ^ m := by
    have a := val_lt D16_pos (hy.take m)
    have b : (ys.take m).length = m := by simp; omega
    rw [b] at a; exact a
  have e2 : low D16 rs (m + 1 + 1) = low D16 rs m + D16 ^ m * (rs.getD m 0 + 65536 * rs.getD (m + 1) 0) := by
    rw [low_succ, low_succ, Int.pow_succ]
    generalize D16 ^ m = p at *
    rw [hD]
    grind
  have l2 := low_le D16_pos rs hr (m + 1 + 1)
  have l3 : 0 ≤ low D16 rs m := val_nonneg D16_pos (hr.take m)
  have m1 : s * val D16 ys ≤ s * (D16 ^ m * (ys.getD m 0 + 1)) := by
    refine Int.mul_le_mul_of_nonneg_left ?_ hs0
    rw [e1, Int.mul_add]
    omega
  have m2 : D16 ^ m * (s * (ys.getD m 0 + 1)) ≤ D16 ^ m * (rs.getD m 0 + 65536 * rs.getD (m + 1) 0) := Int.mul_le_mul_of_nonneg_left hs (by omega)
  have e3 : s * (D16 ^ m * (ys.getD m 0 + 1)) = D16 ^ m * (s * (ys.getD m 0 + 1)) := by grind
  omega
theorem set_zero (q : List Int) (i : Nat) (h : q.getD i 0 = 0) : q.set i 0 = q := by
  apply List.ext_getElem
  · simp
  · intro j h1 h2
    rw [List.getElem_set]
    split
    · rename_i e
      subst e
      simp only [List.getD] at h
      rw [List.getElem?_eq_getElem (by simpa using h1)] at h
      simpa using h.symm
    · rfl
/-- What Div has, digits from kk on gone over. -/
def RDivs (xs ys : List Int) (kk : Nat) (q : List Int) (R : Int) : Prop :=
  q.length = xs.length ∧ Dg D16 q ∧ (∀ j, j < kk → q.getD j 0 = 0) ∧ 0 ≤ R ∧ R < val D16 ys ∧ val D16 (xs.drop kk) = val D16 (q.drop kk) * val D16 ys + R
/-- Within the round of digit i. -/
def RDivIn (xs ys : List Int) (i : Nat) (T : Int) (q0 q : List Int) (t R : Int) : Prop :=
  q = q0.set i t ∧ 0 ≤ t ∧ t < 65536 ∧ 0 ≤ R ∧ t * val D16 ys + R = T
theorem rdrop_cons (xs : List Int) (i : Nat) (h : i < xs.length) : xs.drop i = xs.getD i 0 :: xs.drop (i + 1) := by
  rw [List.drop_eq_getElem_cons h]
  simp [List.getD, List.getElem?_eq_getElem h]
theorem RDivs.enter {xs ys : List Int} {i : Nat} {q : List Int} {R : Int} (h : RDivs xs ys (i + 1) q R) (hx : Dg D16 xs) : RDivIn xs ys i (xs.getD i 0 + D16 * R) q q 0 (xs.getD i 0 + D16 * R) := by
  obtain ⟨h1, h2, h3, h4, h5, h6⟩ := h
  have g := hx.getD D16_pos i
  refine ⟨(set_zero q i (h3 i (by omega))).symm, by omega, by omega, ?_, by omega⟩
  have : 0 ≤ D16 * R := Int.mul_nonneg (by decide) h4
  omega
theorem RDivs.top {xs ys : List Int} {i : Nat} {q : List Int} {R : Int} (h : RDivs xs ys (i + 1) q R) (hx : Dg D16 xs) : xs.getD i 0 + D16 * R < D16 * val D16 ys := by
  obtain ⟨h1, h2, h3, h4, h5, h6⟩ := h
  have g := hx.getD D16_pos i
  have : D16 * (R + 1) ≤ D16 * val D16 ys := Int.mul_le_mul_of_nonneg_left (by omega) (by decide)
  rw [Int.mul_add] at this
  omega
theorem RDivIn.step {xs ys : List Int} {i : Nat} {T : Int} {q0 q : List Int} {t R s : Int} (h : RDivIn xs ys i T q0 q t R) (hT : T < D16 * val D16 ys) (hY : 0 < val D16 ys) (hs : 1 ≤ s) (hsR : s * val D16 ys ≤ R) : RDivIn xs ys i T q0 (q.set i (t + s)) (t + s) (R - s * val D16 ys) := by
  obtain ⟨h1, h2, h3, h4, h5⟩ := h
  refine ⟨by rw [h1]; simp, by omega, ?_, by omega, by rw [Int.add_mul]; omega⟩
  by_cases e : t + s < 65536
  · exact e
  · exfalso
    have : D16 * val D16 ys ≤ (t + s) * val D16 ys := Int.mul_le_mul_of_nonneg_right (by unfold D16; omega) (by omega)
    rw [Int.add_mul] at this
    omega
theorem RDivIn.leave {xs ys : List Int} {i : Nat} {T : Int} {q0 q : List Int} {t R R0 : Int} (h : RDivIn xs ys i T q0 q t R) (hd : RDivs xs ys (i + 1) q0 R0) (hi : i < xs.length) (hT : T = xs.getD i 0 + D16 * R0) (hR : R < val D16 ys) : RDivs xs ys i q R := by
  obtain ⟨h1, h2, h3, h4, h5⟩ := h
  obtain ⟨d1, d2, d3, d4, d5, d6⟩ := hd
  subst h1
  refine ⟨by simp [d1], d2.set _ ⟨h2, by unfold D16; omega⟩, fun j hj => ?_, h4, hR, ?_⟩
  · rw [getD_set _ _ _ _ (by omega), if_neg (by omega)]
    exact d3 j (by omega)
  · rw [rdrop_cons xs i hi, rdrop_cons (q0.set i t) i (by simp; omega), val_cons, val_cons, getD_set _ _ _ _ (by omega), if_pos rfl, d6]
    have e : (q0.set i t).drop (i + 1) = q0.drop (i + 1) := by rw [List.drop_set_of_lt (by omega)]
    rw [e]
    rw [hT] at h5
    grind
theorem RDivs.done {xs ys : List Int} {q : List Int} {R : Int} (h : RDivs xs ys 0 q R) : val D16 q = val D16 xs / val D16 ys ∧ R = val D16 xs % val D16 ys := by
  obtain ⟨h1, h2, h3, h4, h5, h6⟩ := h
  simp only [List.drop_zero] at h6
  rw [h6]
  constructor
  · rw [Int.add_comm, Int.add_mul_ediv_right _ _ (by omega), Int.ediv_eq_zero_of_lt h4 h5]; omega
  · rw [Int.add_comm, Int.add_mul_emod_self_right, Int.emod_eq_of_lt h4 h5]
/-- The number that a cell holds. -/
def cellNat (w : World) (a : Addr) : Nat := (intOf ((w.cell? a).getD undef)).toNat
theorem cellNat_row {e : TypeId} {w : World} {g : Nat} {xs : List Int} (h : Row e .i64 w g xs) (j : Nat) (hj : j < xs.length) : cellNat w ⟨g, j, none⟩ = (xs.getD j 0).toNat := by
  unfold cellNat
  rw [h.cell j hj]
  rfl
theorem NumIn.kept {k : IntKind} {B : Int} {w w' : World} {ao : Option Addr} {len cap : Nat} {xs : List Int} (h : NumIn k B w ao len cap xs) {row : Option Nat} (hg : w.grownBy w' row) (hne : ∀ b off s, ao = some ⟨b, off, s⟩ → some b ≠ row) : NumIn k B w' ao len cap xs :=
  ⟨h.lies.kept hg hne, h.lc, h.cm, h.nn, h.dg, h.sm⟩
/-- What is left, as it lies: apart from the quotient's row. -/
def Rem (w : World) (g : Nat) (v : Value) (R : Int) (L : Nat) : Prop :=
  ∃ ao len cap rs, v = .slice ao len cap ∧ NumIn .i64 D16 w ao len cap rs ∧ Canon rs ∧ val D16 rs = R ∧ len ≤ L ∧ ∀ b off s, ao = some ⟨b, off, s⟩ → g < b
theorem Rem.old {w w' : World} {g : Nat} {v : Value} {R : Int} {L : Nat} (h : Rem w g v R L) (hb : Below w.heap.size w w') : Rem w' g v R L := by
  obtain ⟨ao, len, cap, rs, e1, e2, e3, e4, e5, e6⟩ := h
  exact ⟨ao, len, cap, rs, e1, e2.old hb, e3, e4, e5, e6⟩
theorem Rem.len {w : World} {g : Nat} {v : Value} {R : Int} {L : Nat} {ys : List Int} (h : Rem w g v R L) (hy : Dg D16 ys) (hR : R < val D16 ys) : Rem w g v R ys.length := by
  obtain ⟨ao, len, cap, rs, e1, e2, e3, e4, e5, e6⟩ := h
  refine ⟨ao, len, cap, rs, e1, e2, e3, e4, ?_, e6⟩
  have := top_mono D16_one e2.dg hy (by omega)
  have := top_le ys
  have := e2.len
  unfold Canon at e3
  omega
end Go.Proofs.Ytnacgkkklmlhaaa
