package curve

import (
	"latchkey/api"
	"latchkey/nat"
)

// nothing: the point that changes none that it is added to.
func nothing() api.Point { return api.Point{Inf: true} }

// Add: the sum of two points; false: it can't be told.
func Add(c api.Curve, p, q api.Point) (api.Point, bool) {
	switch {
	case isZero(c.P):
		return api.Point{}, false
	case p.Inf:
		return own(q), true
	case q.Inf:
		return own(p), true
	}
	return addNumbers(c, p, q)
}

// Mul: a point, so often added; false: it can't be told.
func Mul(c api.Curve, k api.Nat, p api.Point) (api.Point, bool) {
	if isZero(c.P) {
		return api.Point{}, false
	}
	sum, ok := nothing(), true
	for _, set := range nat.Bits(k) {
		if sum, ok = Add(c, sum, sum); !ok {
			return api.Point{}, false
		}
		if !set {
			continue
		}
		if sum, ok = Add(c, sum, p); !ok {
			return api.Point{}, false
		}
	}
	return sum, true
}

// own: the point in memory of its own; of nothing no numbers, whatever stood there.
func own(p api.Point) api.Point {
	if p.Inf {
		return nothing()
	}
	return api.Point{X: nat.Norm(p.X), Y: nat.Norm(p.Y)}
}

// addNumbers: the sum of two points that have numbers, modulo a P that isn't 0.
func addNumbers(c api.Curve, p, q api.Point) (api.Point, bool) {
	f := field{c.P}
	times := f.product
	rise, run := slope(c, p, q)
	if isZero(run) {
		return nothing(), true
	}
	s, ok := f.quotient(rise, run)
	if !ok {
		return api.Point{}, false
	}
	x := f.minus(f.minus(times(s, s), p.X), q.X)
	y := f.minus(times(s, f.minus(p.X, x)), p.Y)
	return api.Point{X: x, Y: y}, true
}

// slope: what is divided by what to tell the slope. The divisor is 0 just where X are alike and the sum of Y is 0: the line goes straight up, to nothing.
func slope(c api.Curve, p, q api.Point) (rise, run api.Nat) {
	f := field{c.P}
	across := f.minus(q.X, p.X)
	if !isZero(across) {
		return f.minus(q.Y, p.Y), across
	}
	times := f.product
	square := times(p.X, p.X)
	return f.plus(times(nat.Of(3), square), c.A), f.plus(p.Y, q.Y)
}
