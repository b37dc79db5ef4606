package cose

import (
	"slices"

	"latchkey/api"
	"latchkey/cbor"
	"latchkey/curve"
	"latchkey/nat"
)

// readEc: the key of a point's map. ErrAlg: no curve has its number; ErrKey: it is none of that curve.
func readEc(i api.Item, curves []api.Curve) (api.Key, api.Errno) {
	alg := value(i, labelAlg)
	place := slices.IndexFunc(curves, func(c api.Curve) bool { return isNumber(alg, c.Alg) })
	if place < 0 {
		return api.Key{}, api.ErrAlg
	}
	c := curves[place]
	x, y := value(i, labelX), value(i, labelY)
	if !isNumber(value(i, labelCrv), c.Crv) || !isSized(x, c) || !isSized(y, c) {
		return api.Key{}, api.ErrKey
	}
	return Point(place, c, x.B, y.B)
}

// isSized: whether an item is bytes, as many as the curve's numbers have.
func isSized(i api.Item, c api.Curve) bool {
	return i.Kind == api.CBytes && len(i.B) == curve.Size(c)
}

// writeEc: a point's map. Whether the point is one of the curve's is not asked.
func writeEc(k api.Key, curves []api.Curve) (api.Item, api.Errno) {
	if !hasCurve(k, curves) || k.Point.Inf {
		return api.Item{}, api.ErrKey
	}
	c := curves[k.Curve]
	x, fitsX := nat.Bytes(k.Point.X, curve.Size(c))
	y, fitsY := nat.Bytes(k.Point.Y, curve.Size(c))
	if !fitsX || !fitsY {
		return api.Item{}, api.ErrKey
	}
	return mapOf(
		pair{labelType, cbor.Number(typeEc)},
		pair{labelAlg, cbor.Number(c.Alg)},
		pair{labelCrv, cbor.Number(c.Crv)},
		pair{labelX, octets(x)},
		pair{labelY, octets(y)},
	), api.OK
}
