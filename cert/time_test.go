package cert_test

import (
	"encoding/hex"
	"fmt"
	"testing"

	"latchkey/api"
)

// moment: a time as it is written, and what it is; -1: none.
type moment struct {
	tag     byte
	text    string
	seconds int64
}

// moments: times of both forms, and some that are none.
func moments() []moment {
	return []moment{
		{0x17, "700101000000Z", 0},
		{0x17, "700101000001Z", 1},
		{0x17, "261119015839Z", 1795053519},
		{0x17, "491231235959Z", 2524607999},
		{0x18, "20500101000000Z", 2524608000},
		{0x18, "20810822015839Z", 3523053519},
		{0x18, "99991231235959Z", 253402300799},
		{0x17, "500101000000Z", -1},
		{0x17, "691231235959Z", -1},
		{0x17, "260229000000Z", -1},
		{0x17, "2601010000Z", -1},
		{0x17, "260101000000", -1},
		{0x17, "260101000000+0000", -1},
		{0x17, "20260101000000Z", -1},
		{0x18, "20491231235959Z", -1},
		{0x18, "700101000000Z", -1},
		{0x18, "20500101000000.0Z", -1},
		{0x16, "700101000000Z", -1},
		{0x04, "700101000000Z", -1},
		{0x30, "", -1},
		{0x02, "1", -1},
		{0x05, "", -1},
		{0x17, "", -1},
		{0x18, "", -1},
	}
}

func TestP131Times(t *testing.T) {
	for _, kind := range []struct {
		tree func() *node
		want api.Cert
	}{{barePoint, barely()}, {fullPower, fully(barelyPower(), fullPower())}} {
		for _, from := range moments() {
			for _, to := range moments() {
				tree := kind.tree().set("from", hex.EncodeToString([]byte(from.text))).tagged("from", from.tag)
				tree.set("to", hex.EncodeToString([]byte(to.text))).tagged("to", to.tag)
				what := fmt.Sprintf("from %x %s to %x %s", from.tag, from.text, to.tag, to.text)
				if from.seconds < 0 || to.seconds < 0 {
					refused(t, what, tree, api.ErrTime)
					continue
				}
				// That the second one is ahead of the first one is no fault here.
				want := signedAs(kind.want, tree)
				want.From, want.To = uint64(from.seconds), uint64(to.seconds)
				parses(t, what, tree, want)
			}
		}
	}
}

func TestP131HowManyTimes(t *testing.T) {
	time := leaf("more", 0x17, hex.EncodeToString([]byte("700101000000Z")))
	refused(t, "no time", barePoint().set("times", ""), api.ErrCert)
	refused(t, "one time", barePoint().put("to"), api.ErrCert)
	refused(t, "three times", barePoint().add("times", time), api.ErrCert)
	for _, name := range []string{"from", "to"} {
		refused(t, "three times, one of them none", barePoint().add("times", time).set(name, "00"), api.ErrCert)
		refused(t, "a time that is no piece", barePoint().tagged(name, 0x1f), api.ErrCert)
	}
	refused(t, "a time alone in the place of both", barePoint().put("times", time), api.ErrCert)
	refused(t, "times in a SET", barePoint().tagged("times", 0x31), api.ErrCert)
}
