/-
  SHA-256 as plain mathematics: words of 32 bits as numbers, in the spelling that the walk leaves. No program in sight.
-/
import Derived.Test.YtclejcjbnmgaiaaShaW
namespace Go.Proofs.Ytclejcjbnmgaiaa
open Go.RowKit
set_option linter.unusedVariables false
set_option linter.unusedSimpArgs false

abbrev M32 : Int := 4294967296
def sg0 (x : Int) : Int := bits .xor .u32 (bits .xor .u32 (rot x 7) (rot x 18)) (x / 8)
def sg1 (x : Int) : Int := bits .xor .u32 (bits .xor .u32 (rot x 17) (rot x 19)) (x / 1024)
/-- The next word behind i words. -/
def wNext (l : List Int) (i : Nat) : Int :=
  (((l.getD (i - 16) 0 + sg0 (l.getD (i - 15) 0)) % M32 + l.getD (i - 7) 0) % M32 + sg1 (l.getD (i - 2) 0)) % M32
def schedGo : Nat → List Int → List Int
  | 0, l => l
  | n + 1, l => schedGo n (l ++ [wNext l l.length])
/-- A word's first k bytes. -/
def pw (b : List Int) (i : Nat) : Nat → Int
  | 0 => 0
  | k + 1 => pw b i k * 256 + b.getD (4 * i + k) 0
def words16 (b : List Int) : List Int := (List.range 16).map fun i => pw b i 4
def sched (b : List Int) : List Int := schedGo 48 (words16 b)

structure S8 where
  a : Int
  b : Int
  c : Int
  d : Int
  e : Int
  f : Int
  g : Int
  h : Int

def big1 (e : Int) : Int := bits .xor .u32 (bits .xor .u32 (rot e 6) (rot e 11)) (rot e 25)
def big0 (a : Int) : Int := bits .xor .u32 (bits .xor .u32 (rot a 2) (rot a 13)) (rot a 22)
def chI (e f g : Int) : Int := bits .xor .u32 (bits .and .u32 e f) (bits .and .u32 (bits .xor .u32 4294967295 e) g)
def majI (a b c : Int) : Int := bits .xor .u32 (bits .xor .u32 (bits .and .u32 a b) (bits .and .u32 a c)) (bits .and .u32 b c)
def t1 (e f g h k w : Int) : Int := ((((h + big1 e) % M32 + chI e f g) % M32 + k) % M32 + w) % M32
def t2 (a b c : Int) : Int := (big0 a + majI a b c) % M32
def rnd (s : S8) (k w : Int) : S8 :=
  ⟨(t1 s.e s.f s.g s.h k w + t2 s.a s.b s.c) % M32, s.a, s.b, s.c, (s.d + t1 s.e s.f s.g s.h k w) % M32, s.e, s.f, s.g⟩
def runS (K W : List Int) (s : S8) : Nat → S8
  | 0 => s
  | n + 1 => rnd (runS K W s n) (K.getD n 0) (W.getD n 0)
def s8 (l : List Int) : S8 := ⟨l.getD 0 0, l.getD 1 0, l.getD 2 0, l.getD 3 0, l.getD 4 0, l.getD 5 0, l.getD 6 0, l.getD 7 0⟩
def addS (l : List Int) (s : S8) : List Int :=
  [(l.getD 0 0 + s.a) % M32, (l.getD 1 0 + s.b) % M32, (l.getD 2 0 + s.c) % M32, (l.getD 3 0 + s.d) % M32, (l.getD 4 0 + s.e) % M32, (l.getD 5 0 + s.f) % M32, (l.getD 6 0 + s.g) % M32, (l.getD 7 0 + s.h) % M32]
/-- The words behind a block. -/
def mixS (K : List Int) (l blk : List Int) : List Int := addS l (runS K (sched blk) (s8 l) 64)

def KS : List Int := [0x428a2f98,0x71374491,0xb5c0fbcf,0xe9b5dba5,0x3956c25b,0x59f111f1,0x923f82a4,0xab1c5ed5,0xd807aa98,0x12835b01,0x243185be,0x550c7dc3,0x72be5d74,0x80deb1fe,0x9bdc06a7,0xc19bf174,0xe49b69c1,0xefbe4786,0x0fc19dc6,0x240ca1cc,0x2de92c6f,0x4a7484aa,0x5cb0a9dc,0x76f988da,0x983e5152,0xa831c66d,0xb00327c8,0xbf597fc7,0xc6e00bf3,0xd5a79147,0x06ca6351,0x14292967,0x27b70a85,0x2e1b2138,0x4d2c6dfc,0x53380d13,0x650a7354,0x766a0abb,0x81c2c92e,0x92722c85,0xa2bfe8a1,0xa81a664b,0xc24b8b70,0xc76c51a3,0xd192e819,0xd6990624,0xf40e3585,0x106aa070,0x19a4c116,0x1e376c08,0x2748774c,0x34b0bcb5,0x391c0cb3,0x4ed8aa4a,0x5b9cca4f,0x682e6ff3,0x748f82ee,0x78a5636f,0x84c87814,0x8cc70208,0x90befffa,0xa4506ceb,0xbef9a3f7,0xc67178f2]
def HS : List Int := [0x6a09e667,0xbb67ae85,0x3c6ef372,0xa54ff53a,0x510e527f,0x9b05688c,0x1f83d9ab,0x5be0cd19]

/-- The words behind the first n blocks. -/
def hb (bs : List Int) : Nat → List Int
  | 0 => HS
  | n + 1 => mixS KS (hb bs n) ((bs.drop (64 * n)).take 64)
/-- How many bytes 0 there are between. -/
def gapN (n : Nat) : Nat := (119 - n % 64) % 64
def pad8 (n : Nat) : List Int := (List.range 8).map fun i => (8 * n : Int) / 2 ^ (56 - 8 * i) % 256
def ending (n : Nat) : List Int := 128 :: (List.replicate (gapN n) 0 ++ pad8 n)
def spreadS (l : List Int) : List Int := (List.range 32).map fun i => l.getD (i / 4) 0 / 2 ^ (24 - 8 * (i % 4)) % 256
/-- The hash. -/
def shaS (bs : List Int) : List Int := spreadS (hb (bs ++ ending bs.length) ((bs ++ ending bs.length).length / 64))

theorem sha_nil : (shaS []).take 8 = [0xe3, 0xb0, 0xc4, 0x42, 0x98, 0xfc, 0x1c, 0x14] := by decide +kernel
theorem sha_abc : (shaS [97, 98, 99]).take 8 = [0xba, 0x78, 0x16, 0xbf, 0x8f, 0x01, 0xcf, 0xea] := by decide +kernel
end Go.Proofs.Ytclejcjbnmgaiaa
