package chain

import (
	"bytes"
	"iter"

	"latchkey/api"
	"latchkey/sigs"
)

// noPath: the Path of a certificate that may stand above as many as there are.
const noPath = -1

// asker: what certificates are judged by.
type asker struct {
	curves []api.Curve
	now    uint64
}

// answers: what comes of each thing that a certificate above those of a row is asked, in the chapter's order; the first one of all has an empty row. They come one by one, as a signature takes its time, and is looked at only where all ahead of it is right.
func (a asker) answers(row []api.Cert, above api.Cert) iter.Seq[api.Errno] {
	return func(yield func(api.Errno) bool) {
		if !yield(a.inTime(above)) || len(row) == 0 {
			return
		}
		last := len(row) - 1
		// The first one of the row is no issuer: Path doesn't count it.
		_ = yield(standsAbove(above, last)) && yield(a.vouches(above, row[last]))
	}
}

// inTime: ErrDate, if the certificate isn't good yet, or no more.
func (a asker) inTime(c api.Cert) api.Errno {
	if c.From > a.now || c.To < a.now {
		return api.ErrDate
	}
	return api.OK
}

// standsAbove: ErrCa, if the certificate may not stand above so many.
func standsAbove(c api.Cert, count int) api.Errno {
	if c.Ca && c.Sign && (c.Path == noPath || c.Path >= count) {
		return api.OK
	}
	return api.ErrCa
}

// vouches: the error with which one certificate isn't vouched for by the one above it.
func (a asker) vouches(above, below api.Cert) api.Errno {
	if !bytes.Equal(below.Issuer, above.Subject) {
		return api.ErrIssuer
	}
	byPowers := below.Alg == api.AlgRsa
	if byPowers != (above.Key.Kind == api.KRsa) {
		return api.ErrSig
	}
	return sigs.Verify(a.curves, above.Key, below.Signed, below.Sig)
}
