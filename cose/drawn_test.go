package cose_test

import (
	"math/big"
	"math/rand"
	"slices"
	"testing"

	"latchkey/api"
	"latchkey/cose"
)

// drawList: up to four curves, some of them of one Alg.
func drawList(r *rand.Rand) []api.Curve {
	var out []api.Curve
	for range r.Intn(5) {
		all := append(sized(), wide())
		c := all[r.Intn(len(all))]
		if r.Intn(3) == 0 {
			c.Alg = []int64{-7, -35, -257}[r.Intn(3)]
		}
		out = append(out, c)
	}
	return out
}

// drawItem: an item of a key that is right with some curve, or would be.
func drawItem(r *rand.Rand, list []api.Curve) api.Item {
	if len(list) == 0 || r.Intn(3) == 0 {
		n := new(big.Int).Rand(r, twoTo(8*(60+r.Intn(200))))
		return rsaItem(-257, n.SetBit(n, 0, 1).Bytes(), []*big.Int{f4, big.NewInt(3), plus(n, -2)}[r.Intn(3)].Bytes())
	}
	c := list[r.Intn(len(list))]
	p := valueOf(c.P)
	x, y := above(c, new(big.Int).Rand(r, p))
	if r.Intn(2) == 0 {
		y = new(big.Int).Mod(new(big.Int).Neg(y), p)
	}
	return pointItem(c.Alg, c.Crv, fill(x, max(sizeOf(c), len(x.Bytes()))), fill(y, sizeOf(c)))
}

// twist: an item with one thing made another.
func twist(r *rand.Rand, i api.Item) api.Item {
	if len(i.Kids) < 2 {
		return i
	}
	place, pair := r.Intn(len(i.Kids)), r.Intn(len(i.Kids)/2)
	kid := i.Kids[place]
	kid.B = slices.Clone(kid.B)
	switch r.Intn(9) {
	case 0:
		kid.Kind = api.ItemKind(r.Intn(11))
	case 1:
		kid.N += uint64(r.Intn(5)) - 2
	case 2:
		kid.B = append([]byte{byte(r.Intn(2))}, kid.B...)
	case 3:
		kid.B = kid.B[min(1, len(kid.B)):]
	case 4:
		if len(kid.B) > 0 {
			kid.B[r.Intn(len(kid.B))] ^= 1 << r.Intn(8)
		}
	case 5:
		return without(i, pair)
	case 6:
		return besides(i, pair, integer(int64(r.Intn(9)-4)), kid)
	case 7:
		kid = i.Kids[r.Intn(len(i.Kids))]
	case 8:
		i.Kids = slices.Clone(i.Kids)
		rows := slices.Collect(slices.Chunk(i.Kids[:len(i.Kids)&^1], 2))
		r.Shuffle(len(rows), func(a, b int) { rows[a], rows[b] = rows[b], rows[a] })
		return pairs(slices.Concat(rows...)...)
	}
	return with(i, place, kid)
}

// Items drawn with a seed, as they are and twisted, are read as the judge says.
func TestP111Drawn(t *testing.T) {
	r := rand.New(rand.NewSource(11))
	told := map[api.Errno]int{}
	for range 6000 {
		list := drawList(r)
		i := drawItem(r, list)
		for range r.Intn(4) {
			i = twist(r, i)
		}
		want, err := judge(i, list)
		got, gotErr := cose.Read(i, list)
		if gotErr != err || !sameKey(got, want) {
			t.Fatalf("Read(%v) with %v: %v, error %d; not %v, error %d", i, list, got, gotErr, want, err)
		}
		told[err]++
	}
	for _, err := range []api.Errno{api.OK, api.ErrKey, api.ErrAlg} {
		if told[err] < 300 {
			t.Errorf("error %d only %d times", err, told[err])
		}
	}
}

// P1: none of the calls panics, whatever it is handed.
func TestP1AnyArguments(t *testing.T) {
	r := rand.New(rand.NewSource(12))
	nats := []api.Nat{nil, {}, {0}, {0, 0}, {7}, {75, 0}, {1 << 63}, make(api.Nat, 100), limbsOf(least()), limbsOf(greatest()), limbsOf(twoTo(9000))}
	nat := func() api.Nat { return nats[r.Intn(len(nats))] }
	var deep api.Item
	for range 1000 {
		deep = pairs(unsigned(1), deep)
	}
	items := append(good(), api.Item{}, deep, pairs(), pairs(make([]api.Item, 8)...), pairs(make([]api.Item, 10)...), with(goodPoint(), 1, deep), with(goodRsa(), 5, deep))
	for range 5000 {
		list := drawList(r)
		k := api.Key{Kind: api.KeyKind(r.Intn(4)), Curve: r.Intn(7) - 1, Point: api.Point{X: nat(), Y: nat(), Inf: r.Intn(4) == 0}, Rsa: api.RsaKey{N: nat(), E: nat()}}
		i, err := cose.Write(k, list)
		if err == api.OK {
			items = append(items[:9], i)
		} else if err != api.ErrKey {
			t.Fatalf("Write(%v): error %d", k, err)
		}
		cose.Alg(k, list)
		cose.Read(items[r.Intn(len(items))], list)
		cose.Point(k.Curve, small(), make([]byte, r.Intn(600)), make([]byte, r.Intn(600)))
	}
}
