package curve_test

import (
	"crypto/elliptic"
	"math/big"
	"math/rand"
	"testing"

	"latchkey/api"
	"latchkey/curve"
	"latchkey/nat"
)

// limbsBytes: a number's bytes, 32 at least, of it and some more.
func limbsBytes(a api.Nat, more int64) []byte {
	n := new(big.Int).Add(value(a), big.NewInt(more))
	return n.FillBytes(make([]byte, max(32, (n.BitLen()+7)/8)))
}

// multiplies: the multiple is just that point, with limbs of 0 on top as well.
func multiplies(t *testing.T, c api.Curve, k api.Nat, p, want api.Point) {
	t.Helper()
	got, ok := curve.Mul(c, k, p)
	told(t, "Mul", got, ok, want, c, k, p)
	got, ok = curve.Mul(paddedCurve(c), padded(k), paddedPoint(p))
	told(t, "Mul, padded,", got, ok, want, c, k, p)
}

// multipliesNone: the multiple can't be told.
func multipliesNone(t *testing.T, c api.Curve, k api.Nat, p api.Point) {
	t.Helper()
	got, ok := curve.Mul(c, k, p)
	untold(t, "Mul", got, ok, c, k, p)
	got, ok = curve.Mul(paddedCurve(c), padded(k), paddedPoint(p))
	untold(t, "Mul, padded,", got, ok, c, k, p)
}

func TestP73MulModuloZero(t *testing.T) {
	for _, zero := range zeros() {
		c := small()
		c.P = zero
		for _, k := range []api.Nat{nil, {0}, {1}, {2}, {271}, {5, 6}} {
			for _, p := range []api.Point{{}, nothing, at(7, 75)} {
				multipliesNone(t, c, k, p)
			}
		}
	}
}

func TestP73MulByNone(t *testing.T) {
	for _, c := range []api.Curve{small(), over(1, 0), over(15, 2), p256()} {
		for _, k := range zeros() {
			for _, p := range []api.Point{{}, nothing, {X: api.Nat{3}, Inf: true}, at(7, 75), at(1000, 2000)} {
				multiplies(t, c, k, p, nothing)
			}
		}
	}
}

// Once added to nothing, a point has its numbers as they are.
func TestP73MulByOne(t *testing.T) {
	for _, c := range []api.Curve{small(), over(1, 0), over(15, 2), p256()} {
		for _, p := range []api.Point{{}, at(7, 75), at(251, 251), at(1000, 2000), {X: api.Nat{1, 2, 3, 4, 5, 6}, Y: api.Nat{top, top, top, top, top}}} {
			multiplies(t, c, api.Nat{1}, p, p)
		}
		multiplies(t, c, api.Nat{1}, nothing, nothing)
		multiplies(t, c, api.Nat{1}, api.Point{X: api.Nat{3}, Y: api.Nat{4, 5}, Inf: true}, nothing)
	}
}

func TestP73MulOfNothing(t *testing.T) {
	for _, k := range []api.Nat{{2}, {3}, {271}, {top, top, top}} {
		multiplies(t, small(), k, nothing, nothing)
		multiplies(t, over(15, 2), k, api.Point{X: api.Nat{3}, Y: api.Nat{4}, Inf: true}, nothing)
	}
}

// Each multiple is the one ahead of it and the point once more, up to N, where nothing is left, and beyond.
func TestP73MulIsAddedSoOften(t *testing.T) {
	c := small()
	for _, p := range []api.Point{curve.Base(c), at(7, 176), *judge(c, at(7, 75), at(7, 75))} {
		want := nothing
		for k := range uint64(3*271 + 5) {
			multiplies(t, c, api.Nat{k}, p, want)
			if want.Inf != (k%271 == 0) {
				t.Fatalf("%d times: %v", k, want)
			}
			want = *judge(c, want, p)
		}
	}
}

func TestP73Examples(t *testing.T) {
	c := small()
	g := curve.Base(c)
	multiplies(t, c, api.Nat{271}, g, nothing)
	sum, ok := curve.Add(c, g, g)
	if !ok {
		t.Fatal("G + G can't be told")
	}
	multiplies(t, c, api.Nat{2}, g, sum)
}

// Beyond N it goes on from nothing.
func TestP73MulBeyondN(t *testing.T) {
	c := small()
	g := curve.Base(c)
	r := rand.New(rand.NewSource(4))
	for range 200 {
		k := random(r, 20)
		left := new(big.Int).Mod(value(k), big.NewInt(271))
		want, _ := curve.Mul(c, limbsOf(left), g)
		multiplies(t, c, k, g, want)
	}
}

func TestP73MulOnP256(t *testing.T) {
	c, library := p256(), elliptic.P256()
	g := curve.Base(c)
	r := rand.New(rand.NewSource(5))
	less, _ := nat.Sub(c.N, api.Nat{1})
	numbers := []api.Nat{{2}, {3}, {top}, {0, 1}, less, nat.Add(c.N, api.Nat{1}), nat.Add(c.N, c.N), {top, top, top, top}, {top, top, top, top, top}}
	for range 12 {
		numbers = append(numbers, random(r, 4))
	}
	for _, k := range numbers {
		left := new(big.Int).Mod(value(k), value(c.N))
		want := nothing
		if left.Sign() > 0 {
			x, y := library.ScalarBaseMult(left.FillBytes(make([]byte, 32)))
			want = api.Point{X: limbsOf(x), Y: limbsOf(y)}
		}
		got, ok := curve.Mul(c, k, g)
		told(t, "Mul", got, ok, want, k)
	}
	multiplies(t, c, c.N, g, nothing)
	x, y := library.ScalarMult(value(g.X), value(g.Y), []byte{9})
	nine := api.Point{X: limbsOf(x), Y: limbsOf(y)}
	x, y = library.ScalarMult(x, y, []byte{77})
	multiplies(t, c, api.Nat{77}, nine, api.Point{X: limbsOf(x), Y: limbsOf(y)})
}

// SEC 2's curve with an A of 0: its point doubled, as it is told in many places.
func TestP73MulOnK256(t *testing.T) {
	c := k256()
	multiplies(t, c, api.Nat{2}, curve.Base(c), api.Point{
		X: hexNat("c6047f9441ed7d6d3045406e95c07cd85c778e4b8cef3ca7abac09b95c709ee5"),
		Y: hexNat("1ae168fea63dc339a3c58419466ceaeef7f632653266d0e1236431a950cfe52a"),
	})
}

// Modulo 15, from (2, 2) on with A 2: the third multiple can't be told, nor any whose way leads over it or a step like it; those that are only doubled are told.
func TestP73MulWithAStepThatCantBeTold(t *testing.T) {
	c, p := over(15, 2), at(2, 2)
	multiplies(t, c, api.Nat{2}, p, at(12, 8))
	multiplies(t, c, api.Nat{4}, p, at(7, 2))
	multiplies(t, c, api.Nat{8}, p, at(2, 8))
	for _, k := range []api.Nat{{3}, {5}, {6}, {7}, {9}, {10}, {11}, {12}, {0xff}, {0, 3}, {top, top}} {
		multipliesNone(t, c, k, p)
	}
	multipliesNone(t, over(15, 1), api.Nat{2}, at(2, 3))
	multipliesNone(t, over(8, 0), api.Nat{2}, at(1, 1))
	multipliesNone(t, over(8, 0), api.Nat{4}, at(1, 1))
}

// Whether a multiple can be told hangs on the order of the steps: these differ if the least bit comes first.
func TestP73MulBeginsWithTheGreatestBit(t *testing.T) {
	multiplies(t, over(35, 0), api.Nat{13}, at(1, 1), at(29, 13))
	multiplies(t, over(35, 0), api.Nat{10}, at(1, 2), at(2, 19))
	multipliesNone(t, over(35, 0), api.Nat{7}, at(1, 2))
	multipliesNone(t, over(15, 0), api.Nat{6}, at(1, 2))
	multipliesNone(t, over(15, 0), api.Nat{10}, at(1, 2))
}

func TestP73MulOfSmallNumbers(t *testing.T) {
	for p := range uint64(16) {
		for _, a := range []uint64{0, 1, p, p + 2} {
			for x := range p + 1 {
				for y := range p + 1 {
					for k := range uint64(18) {
						judgedMul(t, over(p, a), api.Nat{k}, at(x, y))
					}
				}
			}
		}
	}
}

func TestP73MulOfDrawnNumbers(t *testing.T) {
	r := rand.New(rand.NewSource(6))
	for range 400 {
		p := random(r, 3)
		if r.Intn(2) == 0 {
			p = api.Nat{uint64(r.Intn(1000))}
		}
		c := api.Curve{P: p, A: random(r, 3)}
		judgedMul(t, c, random(r, 2), drawn(r, p, random(r, 3), random(r, 3)))
	}
}
