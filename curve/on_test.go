package curve_test

import (
	"math/rand"
	"testing"

	"latchkey/api"
	"latchkey/curve"
	"latchkey/nat"
)

// zeros: the ways in which a number may be 0.
func zeros() []api.Nat { return []api.Nat{nil, {}, {0}, {0, 0, 0}} }

func TestP71OnModuloZero(t *testing.T) {
	for _, zero := range zeros() {
		c := small()
		c.P = zero
		for _, p := range []api.Point{{}, nothing, {X: api.Nat{7}, Y: api.Nat{75}, Inf: true}, at(0, 0), at(7, 75)} {
			if curve.On(c, p) {
				t.Errorf("On of %v modulo 0", p)
			}
		}
	}
}

func TestP71OnOfNothing(t *testing.T) {
	for _, c := range []api.Curve{small(), p256(), over(1, 0), over(2, 1), over(15, 3)} {
		for _, p := range []api.Point{nothing, {X: api.Nat{3}, Y: api.Nat{5}, Inf: true}, {X: api.Nat{251, 9, 9, 9, 9}, Y: api.Nat{top, top, top, top, top}, Inf: true}} {
			if !curve.On(c, p) {
				t.Errorf("On(%v, %v): false", c, p)
			}
		}
	}
}

// All points of small numbers, those that aren't below P too, modulo primes and others; A and B needn't be below P.
func TestP71OnOfSmallNumbers(t *testing.T) {
	for _, p := range []uint64{1, 2, 3, 4, 5, 6, 7, 9, 15, 23, 25, 35} {
		for _, a := range []uint64{0, 1, p - 1, p, p + 2, 3*p + 1} {
			for _, b := range []uint64{0, 1, p - 1, p, 2*p + 3} {
				c := api.Curve{P: api.Nat{p}, A: api.Nat{a}, B: api.Nat{b}}
				for x := range p + 3 {
					for y := range p + 3 {
						want := x < p && y < p && y*y%p == (x*x*x+a*x+b)%p
						if curve.On(c, at(x, y)) != want || curve.On(paddedCurve(c), paddedPoint(at(x, y))) != want {
							t.Fatalf("On(%v, (%d, %d)): not %v", c, x, y, want)
						}
					}
				}
			}
		}
	}
}

func TestP71OnOfTheExample(t *testing.T) {
	c, points := small(), 0
	for x := range uint64(251) {
		for y := range uint64(251) {
			is := curve.On(c, at(x, y))
			if is != (y*y%251 == (x*x*x+x+4)%251) {
				t.Fatalf("On of (%d, %d): %v", x, y, is)
			}
			if is {
				points++
			}
		}
	}
	if points != 270 {
		t.Errorf("%d points, not 270 beside nothing", points)
	}
}

// Numbers that are P more than a point's mean the same modulo P, but aren't below it.
func TestP71OnOfNumbersThatAreNotBelow(t *testing.T) {
	for _, c := range []api.Curve{small(), p256(), k256()} {
		g := curve.Base(c)
		if !curve.On(c, g) || !curve.On(c, paddedPoint(g)) {
			t.Errorf("On(%v, Base): false", c)
		}
		for _, p := range []api.Point{
			{X: nat.Add(g.X, c.P), Y: g.Y},
			{X: g.X, Y: nat.Add(g.Y, c.P)},
			{X: nat.Add(g.X, c.P), Y: nat.Add(g.Y, c.P)},
			{X: append(nat.Norm(g.X), 0, 0, 0, 0, 1), Y: g.Y},
		} {
			if curve.On(c, p) {
				t.Errorf("On(%v, %v): true", c, p)
			}
		}
	}
	c := api.Curve{P: api.Nat{7}, A: api.Nat{1}}
	if !curve.On(c, at(0, 0)) || curve.On(c, at(7, 0)) || curve.On(c, at(0, 7)) || curve.On(c, at(7, 7)) {
		t.Error("On of (0, 0) modulo 7, with P in the place of 0")
	}
}

func TestP71OnOfManyLimbs(t *testing.T) {
	c := p256()
	g := curve.Base(c)
	for _, p := range []api.Point{
		{X: g.Y, Y: g.X},
		{X: nat.Add(g.X, nat.Of(1)), Y: g.Y},
		{X: g.X, Y: nat.Add(g.Y, nat.Of(1))},
		{X: g.X},
		{Y: g.Y},
		{},
	} {
		if curve.On(c, p) {
			t.Errorf("On(%v, %v): true", c, p)
		}
	}
	minus, _ := nat.Sub(c.P, g.Y)
	if !curve.On(c, api.Point{X: g.X, Y: minus}) {
		t.Error("On of Base's opposite: false")
	}
	c.A = nat.Add(c.A, nat.Mul(c.P, api.Nat{5, 6, 7}))
	c.B = nat.Add(c.B, nat.Mul(c.P, api.Nat{8, 9}))
	if !curve.On(c, g) {
		t.Error("On, with an A and a B that aren't below P: false")
	}
}

func TestP71Base(t *testing.T) {
	cases := []struct{ c, want api.Point }{
		{at(7, 75), at(7, 75)},
		{at(300, 251), at(300, 251)}, // not below P
		{api.Point{X: api.Nat{1, 2, 3, 4, 5, 6}, Y: api.Nat{top, top, top, top, top}}, api.Point{X: api.Nat{1, 2, 3, 4, 5, 6}, Y: api.Nat{top, top, top, top, top}}},
		{api.Point{}, api.Point{}},
		{api.Point{X: api.Nat{7, 0, 0}, Y: api.Nat{0, 0}}, api.Point{X: api.Nat{7}}},
	}
	for _, p := range []api.Nat{nil, {251}, {0, 1}} {
		for _, each := range cases {
			c := small()
			c.P, c.Gx, c.Gy = p, each.c.X, each.c.Y
			if got := curve.Base(c); !like(got, each.want) {
				t.Errorf("Base of (%v, %v): %v", c.Gx, c.Gy, got)
			}
		}
	}
}

func TestP71Size(t *testing.T) {
	cases := []struct {
		p    api.Nat
		want int
	}{
		{nil, 0}, {api.Nat{0}, 0}, {api.Nat{0, 0}, 0},
		{api.Nat{1}, 1}, {api.Nat{251}, 1}, {api.Nat{128}, 1}, {api.Nat{255}, 1}, {api.Nat{255, 0, 0}, 1},
		{api.Nat{256}, 2}, {api.Nat{257}, 2}, {api.Nat{511}, 2}, {api.Nat{1<<16 - 1}, 2}, {api.Nat{1 << 16}, 3},
		{api.Nat{top}, 8}, {api.Nat{0, 1}, 9},
		{api.Nat{0, 0, 0, 1 << 56}, 32}, {api.Nat{0, 0, 0, 1<<56 - 1}, 31},
		{api.Nat{0, 0, 0, 1 << 63}, 32}, {api.Nat{top, top, top, top}, 32}, {p256().P, 32},
		{api.Nat{0, 0, 0, 0, 1}, 33}, {api.Nat{0, 0, 0, 0, 255}, 33}, {api.Nat{0, 0, 0, 0, 256}, 34},
		{append(make(api.Nat, 99), 1), 793},
	}
	for _, each := range cases {
		if got := curve.Size(api.Curve{P: each.p}); got != each.want {
			t.Errorf("Size of a P of %v: %d, not %d", each.p, got, each.want)
		}
	}
	r := rand.New(rand.NewSource(1))
	for range 500 {
		p := random(r, 9)
		if got, want := curve.Size(api.Curve{P: p}), len(value(p).Bytes()); got != want {
			t.Errorf("Size of a P of %v: %d, not %d", p, got, want)
		}
	}
}
