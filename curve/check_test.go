package curve_test

import (
	"testing"

	"latchkey/api"
	"latchkey/curve"
	"latchkey/nat"
)

// power: 2 so often multiplied by itself.
func power(n int) api.Nat { return nat.Shift(api.Nat{1}, -n) }

// less: a number without another, smaller one.
func less(a api.Nat, by uint64) api.Nat {
	out, ok := nat.Sub(a, api.Nat{by})
	if !ok {
		panic("less than nothing")
	}
	return out
}

// checks: the curve is judged so, with limbs of 0 on top as well.
func checks(t *testing.T, what string, c api.Curve, want api.Errno) {
	t.Helper()
	if got := curve.Check(c); got != want {
		t.Errorf("Check of %s: %d, not %d", what, got, want)
	}
	if got := curve.Check(paddedCurve(c)); got != want {
		t.Errorf("Check of %s, padded: %d, not %d", what, got, want)
	}
}

// changed: a curve with one thing about it changed.
func changed(c api.Curve, change func(c *api.Curve)) api.Curve {
	change(&c)
	return c
}

func TestP74CheckOfRightCurves(t *testing.T) {
	checks(t, "the example", small(), api.OK)
	checks(t, "P-256", p256(), api.OK)
	checks(t, "secp256k1", k256(), api.OK)
	checks(t, "the smallest P", flat(api.Nat{5}, api.Nat{2}), api.OK)
	checks(t, "a P that is no prime", flat(api.Nat{15}, api.Nat{2}), api.OK)
	checks(t, "an N that isn't the first", changed(small(), func(c *api.Curve) { c.N = api.Nat{542} }), api.OK)
	checks(t, "a curve modulo 23", api.Curve{P: api.Nat{23}, A: api.Nat{1}, B: api.Nat{1}, Gx: api.Nat{3}, Gy: api.Nat{10}, N: api.Nat{28}}, api.OK)
	checks(t, "a curve modulo 17", api.Curve{P: api.Nat{17}, A: api.Nat{2}, B: api.Nat{2}, Gx: api.Nat{5}, Gy: api.Nat{1}, N: api.Nat{19}}, api.OK)
}

// Whatever names a curve, it isn't asked.
func TestP74CheckAsksForNoNames(t *testing.T) {
	c := small()
	c.Alg, c.Crv, c.Oid = 0, 0, nil
	checks(t, "a curve without names", c, api.OK)
	c.Alg, c.Crv, c.Oid = api.AlgRsa, -5, make([]uint64, 100)
	checks(t, "a curve with odd names", c, api.OK)
}

func TestP74CheckOfNoCurve(t *testing.T) {
	checks(t, "a zero curve", api.Curve{}, api.ErrCurve)
	for _, zero := range zeros() {
		checks(t, "a P of 0", changed(small(), func(c *api.Curve) { c.P = zero }), api.ErrCurve)
		checks(t, "a P of 0 beside a point of zeros", flat(zero, api.Nat{2}), api.ErrCurve)
	}
}

// The flat curve is right whatever P and N are, but for what the chapter says of P and N themselves.
func TestP74CheckOfPsBits(t *testing.T) {
	two := api.Nat{2}
	for _, p := range []api.Nat{less(power(256), 1), nat.Add(power(255), api.Nat{1}), less(power(255), 1), power(255)} {
		want := api.OK
		if p[0]%2 == 0 {
			want = api.ErrCurve
		}
		checks(t, "a P of 256 bits at most", flat(p, two), want)
	}
	for _, p := range []api.Nat{nat.Add(power(256), api.Nat{1}), nat.Add(power(256), api.Nat{3}), less(power(257), 1), nat.Add(power(320), api.Nat{1}), nat.Add(power(4096), api.Nat{1})} {
		checks(t, "a P of more than 256 bits", flat(p, two), api.ErrCurve)
	}
}

func TestP74CheckOfNsBits(t *testing.T) {
	p := api.Nat{251}
	for _, n := range []api.Nat{less(power(257), 2), power(256), nat.Add(power(256), api.Nat{2}), less(power(256), 2)} {
		checks(t, "an N of 257 bits at most", flat(p, n), api.OK)
	}
	for _, n := range []api.Nat{power(257), nat.Add(power(257), api.Nat{2}), less(power(258), 2), power(320), power(4096)} {
		checks(t, "an N of more than 257 bits", flat(p, n), api.ErrCurve)
	}
	c := p256()
	c.N = nat.Add(c.N, c.N) // 257 bits
	checks(t, "P-256 with twice its N", c, api.OK)
	c.N = nat.Add(c.N, c.N)
	checks(t, "P-256 with four times its N", c, api.ErrCurve)
}

func TestP74CheckOfSmallAndEvenPs(t *testing.T) {
	two := api.Nat{2}
	for p := range uint64(200) {
		want := api.OK
		if p <= 3 || p%2 == 0 {
			want = api.ErrCurve
		}
		checks(t, "a small P", flat(api.Nat{p}, two), want)
	}
	checks(t, "an even P of many limbs", flat(api.Nat{6, 0, 1}, two), api.ErrCurve)
	checks(t, "an odd P of many limbs", flat(api.Nat{7, 0, 1}, two), api.OK)
	checks(t, "an even P of 256 bits", flat(less(power(256), 2), two), api.ErrCurve)
	checks(t, "a P with a least limb of 0", flat(power(64), two), api.ErrCurve)
	checks(t, "a P with a least limb of 1", flat(nat.Add(power(64), api.Nat{1}), two), api.OK)
	checks(t, "a P with a least limb of 3", flat(nat.Add(power(64), api.Nat{3}), two), api.OK)
}

func TestP74CheckOfSmallNs(t *testing.T) {
	for _, n := range zeros() {
		checks(t, "an N of 0", changed(small(), func(c *api.Curve) { c.N = n }), api.ErrCurve)
		checks(t, "a flat curve with an N of 0", flat(api.Nat{251}, n), api.ErrCurve)
	}
	for n := range uint64(20) {
		want := api.ErrCurve
		if n > 1 && n%2 == 0 {
			want = api.OK
		}
		checks(t, "a flat curve with a small N", flat(api.Nat{251}, api.Nat{n}), want)
	}
}

// Numbers that are P more mean the same modulo P, but aren't below it.
func TestP74CheckOfNumbersThatAreNotBelow(t *testing.T) {
	for _, right := range []api.Curve{small(), flat(api.Nat{251}, api.Nat{2}), p256()} {
		for name, number := range map[string]func(c *api.Curve) *api.Nat{
			"A":  func(c *api.Curve) *api.Nat { return &c.A },
			"B":  func(c *api.Curve) *api.Nat { return &c.B },
			"Gx": func(c *api.Curve) *api.Nat { return &c.Gx },
			"Gy": func(c *api.Curve) *api.Nat { return &c.Gy },
		} {
			for _, times := range []api.Nat{{1}, {2}, {0, 1}, {0, 0, 0, 0, 1}} {
				c := changed(right, func(c *api.Curve) { *number(c) = nat.Add(*number(c), nat.Mul(c.P, times)) })
				checks(t, "a curve with a great "+name, c, api.ErrCurve)
			}
		}
	}
}

// The greatest numbers below P are taken.
func TestP74CheckOfTheGreatestBelow(t *testing.T) {
	// (-1, 0) on y y = x x x - x.
	c := api.Curve{P: api.Nat{251}, A: api.Nat{250}, Gx: api.Nat{250}, N: api.Nat{2}}
	checks(t, "an A and a Gx of P - 1", c, api.OK)
	// (1, 0) on y y = x x x - 1.
	c = api.Curve{P: api.Nat{251}, B: api.Nat{250}, Gx: api.Nat{1}, N: api.Nat{2}}
	checks(t, "a B of P - 1", c, api.OK)
	// (0, -1) on y y = x x x + 1: its slope is 0, so that twice it is its opposite.
	c = api.Curve{P: api.Nat{251}, B: api.Nat{1}, Gy: api.Nat{250}, N: api.Nat{3}}
	checks(t, "a Gy of P - 1", c, api.OK)
}

func TestP74CheckOfTheDiscriminant(t *testing.T) {
	checks(t, "A and B of 0", api.Curve{P: api.Nat{251}, N: api.Nat{2}}, api.ErrCurve)
	// (x - 1)(x - 1)(x + 2) is x x x - 3 x + 2.
	c := api.Curve{P: api.Nat{251}, A: api.Nat{248}, B: api.Nat{2}, Gx: api.Nat{249}, N: api.Nat{2}}
	checks(t, "a curve that crosses itself", c, api.ErrCurve)
	c.A, c.B, c.Gx = api.Nat{247}, nil, api.Nat{2} // x (x - 2)(x + 2)
	checks(t, "one that doesn't", c, api.OK)
	// Modulo 15 the sum is 0 only if it is modulo 3 and modulo 5.
	checks(t, "A 1 modulo 15", api.Curve{P: api.Nat{15}, A: api.Nat{1}, N: api.Nat{2}}, api.OK)
	checks(t, "A 5 modulo 15", api.Curve{P: api.Nat{15}, A: api.Nat{5}, N: api.Nat{2}}, api.OK)
	checks(t, "A 5 modulo 25", api.Curve{P: api.Nat{25}, A: api.Nat{5}, N: api.Nat{2}}, api.ErrCurve)
}

// Every A and B modulo some small P: with a point of Y 0 and an N of 2 nothing but the discriminant can be wrong.
func TestP74CheckOfAllDiscriminants(t *testing.T) {
	for _, p := range []uint64{5, 7, 9, 11, 15, 21, 23, 25, 27, 49} {
		for a := range p {
			for x := range p {
				b := (p*p*p*p - (x*x*x+a*x)%p) % p
				want := api.OK
				if (4*a*a*a+27*b*b)%p == 0 {
					want = api.ErrCurve
				}
				checks(t, "a small curve", api.Curve{P: api.Nat{p}, A: api.Nat{a}, B: api.Nat{b}, Gx: api.Nat{x}, N: api.Nat{2}}, want)
			}
		}
	}
}

// B has no part in sums, so that with another B all but On is as it was.
func TestP74CheckOfABaseThatIsNotOn(t *testing.T) {
	for b := range uint64(251) {
		want := api.ErrCurve
		if b == 4 {
			want = api.OK
		}
		checks(t, "the example with another B", changed(small(), func(c *api.Curve) { c.B = api.Nat{b} }), want)
	}
	c := p256()
	c.B = nat.Add(c.B, api.Nat{1})
	checks(t, "P-256 with another B", c, api.ErrCurve)
}

func TestP74CheckOfAnotherN(t *testing.T) {
	for n := range uint64(600) {
		want := api.ErrCurve
		if n == 271 || n == 542 {
			want = api.OK
		}
		checks(t, "the example with another N", changed(small(), func(c *api.Curve) { c.N = api.Nat{n} }), want)
	}
	for _, n := range []api.Nat{less(p256().N, 1), nat.Add(p256().N, api.Nat{1}), p256().P} {
		checks(t, "P-256 with another N", changed(p256(), func(c *api.Curve) { c.N = n }), api.ErrCurve)
	}
}

// Modulo 15, with the point (2, 2) of y y = x x x + 2 x + 7: twice and four times it can be told, three times it can't.
func TestP74CheckOfAMultipleThatCantBeTold(t *testing.T) {
	c := api.Curve{P: api.Nat{15}, A: api.Nat{2}, B: api.Nat{7}, Gx: api.Nat{2}, Gy: api.Nat{2}, N: api.Nat{3}}
	if !curve.On(c, curve.Base(c)) || (4*2*2*2+27*7*7)%15 == 0 {
		t.Fatal("the test's own numbers are wrong")
	}
	multipliesNone(t, c, c.N, curve.Base(c))
	checks(t, "a curve whose multiple can't be told", c, api.ErrCurve)
}

// Numbers of very many limbs are refused without being reckoned with.
func TestP74CheckOfHugeNumbers(t *testing.T) {
	huge := make(api.Nat, 1<<20)
	for i := range huge {
		huge[i] = top
	}
	for _, change := range []func(c *api.Curve){
		func(c *api.Curve) { c.P = huge },
		func(c *api.Curve) { c.A = huge },
		func(c *api.Curve) { c.B = huge },
		func(c *api.Curve) { c.Gx = huge },
		func(c *api.Curve) { c.Gy = huge },
		func(c *api.Curve) { c.N = huge },
	} {
		if got := curve.Check(changed(small(), change)); got != api.ErrCurve {
			t.Errorf("Check of a huge number: %d", got)
		}
	}
}
