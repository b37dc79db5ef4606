package curve_test

import (
	"crypto/elliptic"
	"math/big"
	"math/rand"
	"testing"

	"latchkey/api"
	"latchkey/curve"
	"latchkey/nat"
)

func TestP72AddModuloZero(t *testing.T) {
	for _, zero := range zeros() {
		c := small()
		c.P = zero
		for _, p := range []api.Point{{}, nothing, at(7, 75), at(0, 0), at(7, 176)} {
			for _, q := range []api.Point{{}, nothing, at(7, 75), at(9, 5)} {
				addsNone(t, c, p, q)
			}
		}
	}
}

// The point beside nothing has its numbers as they are, below P or not, of the curve or not.
func TestP72AddOfNothing(t *testing.T) {
	full := api.Point{X: api.Nat{5, 6}, Y: api.Nat{7}, Inf: true} // nothing, whatever stands beside it
	for _, c := range []api.Curve{small(), over(1, 0), over(2, 0), over(15, 2), p256()} {
		for _, none := range []api.Point{nothing, full} {
			for _, p := range []api.Point{at(7, 75), at(0, 0), {}, at(251, 251), at(300, 1000), {X: api.Nat{1, 2, 3, 4, 5, 6}, Y: api.Nat{top, top, top, top, top}}} {
				adds(t, c, none, p, p)
				adds(t, c, p, none, p)
			}
			adds(t, c, none, nothing, nothing)
			adds(t, c, none, full, nothing)
			adds(t, c, nothing, none, nothing)
		}
	}
}

func TestP72AddOfOpposites(t *testing.T) {
	c := small()
	adds(t, c, at(7, 75), at(7, 176), nothing)
	adds(t, c, at(7, 176), at(7, 75), nothing)
	adds(t, c, at(7, 75), at(7+251, 176), nothing) // alike modulo P
	adds(t, c, at(7, 75+251), at(7, 176+502), nothing)
	adds(t, c, at(9, 0), at(9, 0), nothing)
	adds(t, c, at(9, 0), at(9, 251), nothing)
	adds(t, c, at(9, 251), at(260, 502), nothing)
	adds(t, over(1, 0), at(3, 4), at(5, 6), nothing) // modulo 1 all is 0
	adds(t, over(2, 1), at(1, 1), at(1, 1), nothing)
	adds(t, over(15, 1), at(2, 6), at(2, 9), nothing)
	g := p256()
	minus, _ := nat.Sub(g.P, g.Gy)
	adds(t, g, curve.Base(g), api.Point{X: g.Gx, Y: minus}, nothing)
}

func TestP72AddToItself(t *testing.T) {
	adds(t, over(7, 1), at(2, 1), at(2, 1), at(5, 4))     // s 13 / 2 is 3: X 9 - 4, Y 3 (2 - 5) - 1
	adds(t, over(7, 1), at(9, 8), at(2, 15), at(5, 4))    // alike modulo P
	adds(t, over(7, 8), at(9, 8), at(16, 22), at(5, 4))   // A isn't below P
	adds(t, over(97, 2), at(3, 6), at(3, 6), at(80, 10))  // a textbook's
	adds(t, over(17, 2), at(5, 1), at(5, 1), at(6, 3))    // another one's
	adds(t, over(23, 1), at(3, 10), at(3, 10), at(7, 12)) // and one more
}

func TestP72AddOfTwo(t *testing.T) {
	adds(t, over(97, 2), at(3, 6), at(80, 10), at(80, 87))
	adds(t, over(23, 1), at(3, 10), at(9, 7), at(17, 20))
	adds(t, over(23, 1), at(9, 7), at(3, 10), at(17, 20))
	adds(t, over(23, 1), at(3+23, 10+46), at(9+69, 7+23), at(17, 20))
	adds(t, over(17, 2), at(5, 1), at(6, 3), at(10, 6))
}

// Points whose X are alike and whose Y are neither the same nor opposite: of p the Y that is taken away.
func TestP72AddOfUnlikeYs(t *testing.T) {
	adds(t, over(7, 1), at(2, 1), at(2, 3), at(0, 2)) // s 13 / 4 is 5: X 25 - 4, Y 5 (2 - 0) - 1
	adds(t, over(7, 1), at(2, 3), at(2, 1), at(0, 0))
	adds(t, over(7, 1), at(9, 3), at(2, 8), at(0, 0))
}

// Where P is no prime a divisor may have no inverse, though it isn't 0.
func TestP72AddWithoutAnInverse(t *testing.T) {
	addsNone(t, over(15, 1), at(1, 1), at(4, 1))
	addsNone(t, over(15, 1), at(1, 1), at(4, 9))
	addsNone(t, over(15, 1), at(4, 9), at(14, 3))
	addsNone(t, over(15, 1), at(2, 3), at(2, 3))
	addsNone(t, over(15, 1), at(2, 1), at(2, 4))
	addsNone(t, over(15, 1), at(2+15, 1+30), at(2, 4))
	addsNone(t, over(9, 0), at(0, 0), at(3, 0))
	addsNone(t, over(8, 0), at(1, 1), at(1, 1))
	adds(t, over(15, 1), at(1, 1), at(3, 1), at(11, 14))
	adds(t, over(15, 1), at(2, 1), at(2, 1), at(12, 9))
	m := nat.Mul(p256().P, p256().N) // more than a limb's divisor
	c := api.Curve{P: m, A: api.Nat{1}}
	addsNone(t, c, api.Point{X: api.Nat{5}, Y: api.Nat{1}}, api.Point{X: nat.Add(api.Nat{5}, p256().N), Y: api.Nat{2}})
	addsNone(t, c, api.Point{X: api.Nat{5}, Y: p256().P}, api.Point{X: api.Nat{5}, Y: p256().P})
}

// All pairs of points modulo small numbers, primes and others, of a curve or not.
func TestP72AddOfAllSmallNumbers(t *testing.T) {
	for p := range uint64(8) {
		for a := range p + 1 {
			c := over(p, a)
			points := []api.Point{nothing}
			for x := range p + 1 {
				for y := range p + 1 {
					points = append(points, at(x, y))
				}
			}
			for _, first := range points {
				for _, second := range points {
					judged(t, c, first, second)
				}
			}
		}
	}
}

// drawn: a point of numbers drawn from a few, so that X and Y are often alike, opposite, or P apart.
func drawn(r *rand.Rand, p, x, y api.Nat) api.Point {
	if r.Intn(12) == 0 {
		return api.Point{X: random(r, 2), Inf: true}
	}
	around := func(n api.Nat) api.Nat {
		switch r.Intn(6) {
		case 0:
			return random(r, 6)
		case 1:
			return nat.Add(n, p)
		case 2:
			if minus, ok := nat.Sub(p, n); ok {
				return minus
			}
		case 3:
			return padded(n)
		}
		return n
	}
	return api.Point{X: around(x), Y: around(y)}
}

func TestP72AddOfDrawnNumbers(t *testing.T) {
	r := rand.New(rand.NewSource(2))
	for range 20000 {
		p := random(r, 5)
		if r.Intn(4) == 0 {
			p = api.Nat{uint64(r.Intn(1000))}
		}
		c := api.Curve{P: p, A: random(r, 5), B: random(r, 5)}
		x, y := random(r, 4), random(r, 4)
		judged(t, c, drawn(r, p, x, y), drawn(r, p, x, y))
	}
}

func TestP72AddOnP256(t *testing.T) {
	c, library := p256(), elliptic.P256()
	r := rand.New(rand.NewSource(3))
	draw := func() (api.Point, *big.Int, *big.Int) {
		x, y := library.ScalarBaseMult(limbsBytes(random(r, 4), 1))
		return api.Point{X: limbsOf(x), Y: limbsOf(y)}, x, y
	}
	for range 100 {
		p, px, py := draw()
		q, qx, qy := draw()
		x, y := library.Add(px, py, qx, qy)
		if px.Cmp(qx) == 0 {
			continue
		}
		adds(t, c, p, q, api.Point{X: limbsOf(x), Y: limbsOf(y)})
		x, y = library.Double(px, py)
		adds(t, c, p, p, api.Point{X: limbsOf(x), Y: limbsOf(y)})
	}
}

// What a sum of the curve's points is stands on the curve, and sums don't hang on their order.
func TestP72SumsAreOnTheCurve(t *testing.T) {
	c := small()
	points := []api.Point{nothing}
	for x := range uint64(251) {
		for y := range uint64(251) {
			if curve.On(c, at(x, y)) {
				points = append(points, at(x, y))
			}
		}
	}
	for i, p := range points {
		for _, q := range points[i:] {
			sum, ok := curve.Add(c, p, q)
			if !ok || !curve.On(c, sum) {
				t.Fatalf("Add(%v, %v): %v %v", p, q, sum, ok)
			}
			other, ok := curve.Add(c, q, p)
			told(t, "Add", other, ok, sum, q, p)
		}
	}
}

// B, the curve's point, N and its names have no part in a sum or a multiple.
func TestP72AddHangsOnPAndAAlone(t *testing.T) {
	bare := over(251, 1)
	adds(t, bare, at(7, 75), at(7, 75), *judge(small(), at(7, 75), at(7, 75)))
	other := api.Curve{Alg: 9, Crv: 9, Oid: []uint64{9}, P: api.Nat{251}, A: api.Nat{1}, B: api.Nat{250}, Gx: api.Nat{top, top}, Gy: api.Nat{3}, N: api.Nat{0}}
	for k := range uint64(30) {
		want, _ := curve.Mul(small(), api.Nat{k}, at(7, 75))
		got, ok := curve.Mul(other, api.Nat{k}, at(7, 75))
		told(t, "Mul", got, ok, want, k)
	}
}
