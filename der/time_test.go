package der_test

import (
	"fmt"
	"math/rand"
	"regexp"
	"strconv"
	"strings"
	"testing"
	"time"

	"latchkey/api"
	"latchkey/der"
)

// isTime: the text is so many seconds behind the beginning of 1970.
func isTime(t *testing.T, tag byte, s string, want uint64) {
	t.Helper()
	if got, err := der.Time(api.Tlv{Tag: tag, Body: []byte(s)}); err != api.OK || got != want {
		t.Fatalf("Time(%x %q): %d, error %d; not %d, no error", tag, s, got, err, want)
	}
}

// noTime: Time answers ErrTime alone.
func noTime(t *testing.T, tag byte, s string) {
	t.Helper()
	if got, err := der.Time(api.Tlv{Tag: tag, Body: []byte(s)}); err != api.ErrTime || got != 0 {
		t.Fatalf("Time(%x %q): %d, error %d; not error %d", tag, s, got, err, api.ErrTime)
	}
}

var (
	utcForm  = regexp.MustCompile(`^[0-9]{12}Z$`)
	timeForm = regexp.MustCompile(`^[0-9]{14}Z$`)
)

// judgeTime: what Time should answer, by the library's calendar: a time is one just if the library writes it again as it was.
func judgeTime(tag byte, s string) (uint64, bool) {
	switch {
	case tag == 0x17 && utcForm.MatchString(s) && s[0] >= '5':
		s = "19" + s
	case tag == 0x17 && utcForm.MatchString(s):
		s = "20" + s
	case tag != 0x18 || !timeForm.MatchString(s):
		return 0, false
	}
	part := func(from, to int) int {
		n, _ := strconv.Atoi(s[from:to])
		return n
	}
	at := time.Date(part(0, 4), time.Month(part(4, 6)), part(6, 8), part(8, 10), part(10, 12), part(12, 14), 0, time.UTC)
	if at.Format("20060102150405Z") != s || (at.Year() >= 2050) != (tag == 0x18) || at.Unix() < 0 {
		return 0, false
	}
	return uint64(at.Unix()), true
}

// timeJudged: the text is read, or refused, as the judge says.
func timeJudged(t *testing.T, tag byte, s string) {
	t.Helper()
	if want, ok := judgeTime(tag, s); ok {
		isTime(t, tag, s, want)
	} else {
		noTime(t, tag, s)
	}
}

// bothWays: the text behind a year is judged, both ways of writing.
func bothWays(t *testing.T, year int, behind string) {
	t.Helper()
	timeJudged(t, 0x17, fmt.Sprintf("%02d%s", year%100, behind))
	timeJudged(t, 0x18, fmt.Sprintf("%04d%s", year, behind))
	timeJudged(t, 0x17, fmt.Sprintf("%04d%s", year, behind))
	timeJudged(t, 0x18, fmt.Sprintf("%02d%s", year%100, behind))
}

func TestP104TimeExamples(t *testing.T) {
	isTime(t, der.TUtc, "700101000000Z", 0)
	isTime(t, der.TUtc, "700101000001Z", 1)
	isTime(t, der.TUtc, "700101000100Z", 60)
	isTime(t, der.TUtc, "700101010000Z", 3600)
	isTime(t, der.TUtc, "700102000000Z", 86400)
	isTime(t, der.TUtc, "700201000000Z", 31*86400)
	isTime(t, der.TUtc, "710101000000Z", 365*86400)
	isTime(t, der.TUtc, "000229000000Z", 951782400)
	noTime(t, der.TUtc, "500101000000Z")
	noTime(t, der.TUtc, "700229000000Z")
}

// The years at which a way of writing begins and ends.
func TestP104TimeOfYears(t *testing.T) {
	isTime(t, der.TUtc, "991231235959Z", 946684799)
	isTime(t, der.TUtc, "000101000000Z", 946684800)
	isTime(t, der.TUtc, "491231235959Z", 2524607999)
	isTime(t, der.TTime, "20500101000000Z", 2524608000)
	isTime(t, der.TTime, "21000101000000Z", 4102444800)
	isTime(t, der.TTime, "24000229000000Z", 13574563200)
	isTime(t, der.TTime, "99991231235959Z", 253402300799)
	for _, s := range []string{"500101000000Z", "501231235959Z", "690101000000Z", "691231235959Z"} {
		noTime(t, der.TUtc, s)
	}
	for _, s := range []string{"00000101000000Z", "00010101000000Z", "19491231235959Z", "19500101000000Z", "19691231235959Z", "19700101000000Z", "19991231235959Z", "20000101000000Z", "20491231235959Z"} {
		noTime(t, der.TTime, s)
	}
	for year := range 10000 {
		bothWays(t, year, "0101000000Z")
		bothWays(t, year, "1231235959Z")
	}
}

// In each year, each month's first and last day, and those next to them.
func TestP104TimeOfEachMonth(t *testing.T) {
	for year := 1940; year < 10000; year++ {
		tag, digits := byte(0x18), 4
		if year < 2050 {
			tag, digits = 0x17, 2
		}
		for month := range 15 {
			for _, day := range []int{0, 1, 27, 28, 29, 30, 31, 32} {
				s := fmt.Sprintf("%04d%02d%02d123456Z", year, month, day)
				timeJudged(t, tag, s[4-digits:])
			}
		}
	}
}

func TestP104TimeOfEachDay(t *testing.T) {
	for _, year := range []int{1970, 1971, 1972, 1999, 2000, 2001, 2004, 2048, 2049, 2050, 2051, 2052, 2096, 2100, 2200, 2300, 2399, 2400, 2401, 2404, 9996, 9999} {
		for month := range 100 {
			for day := range 100 {
				bothWays(t, year, fmt.Sprintf("%02d%02d000000Z", month, day))
			}
		}
	}
}

// February of years that are and aren't long.
func TestP104TimeOfFebruaries(t *testing.T) {
	for _, s := range []string{"720229000000Z", "960229000000Z", "000229000000Z", "040229000000Z", "480229000000Z", "700228000000Z", "490228000000Z"} {
		if _, err := der.Time(api.Tlv{Tag: der.TUtc, Body: []byte(s)}); err != api.OK {
			t.Errorf("Time(%s): error %d", s, err)
		}
	}
	for _, s := range []string{"700229000000Z", "710229000000Z", "990229000000Z", "010229000000Z", "490229000000Z", "720230000000Z", "000230000000Z", "000231000000Z"} {
		noTime(t, der.TUtc, s)
	}
	for _, s := range []string{"20520229000000Z", "20960229000000Z", "21040229000000Z", "24000229000000Z", "28000229000000Z", "99960229000000Z"} {
		if _, err := der.Time(api.Tlv{Tag: der.TTime, Body: []byte(s)}); err != api.OK {
			t.Errorf("Time(%s): error %d", s, err)
		}
	}
	for _, s := range []string{"20500229000000Z", "21000229000000Z", "22000229000000Z", "23000229000000Z", "25000229000000Z", "99990229000000Z", "24000230000000Z"} {
		noTime(t, der.TTime, s)
	}
}

// Hours, minutes and seconds, at their ends and above.
func TestP104TimeOfADay(t *testing.T) {
	for _, year := range []int{1970, 2000, 2049, 2050, 9999} {
		for n := range 100 {
			for _, form := range []string{"0101%02d0000Z", "0101%02d5959Z", "010100%02d00Z", "010123%02d59Z", "01010000%02dZ", "01012359%02dZ", "1231%02d5959Z"} {
				bothWays(t, year, fmt.Sprintf(form, n))
			}
		}
	}
	isTime(t, der.TUtc, "700101235959Z", 86399)
	for _, s := range []string{"700101240000Z", "700101006000Z", "700101000060Z", "701231235960Z", "700101990000Z"} {
		noTime(t, der.TUtc, s)
	}
}

// Texts of another length, each way's of the other tag among them.
func TestP104TimeOfOtherLengths(t *testing.T) {
	for _, whole := range []string{"700101000001Z", "20500101000001Z", "000229000000Z", "99991231235959Z"} {
		for _, tag := range []byte{0x17, 0x18} {
			for end := range whole {
				noTime(t, tag, whole[:end])
				timeJudged(t, tag, whole[:end]+"Z")
				timeJudged(t, tag, whole[end:])
				timeJudged(t, tag, whole[:end]+whole[end+1:])
			}
			for at := range len(whole) + 1 {
				for _, more := range []string{"0", "Z", " ", "\x00", "00", "0Z", ".5", "+00", "000"} {
					timeJudged(t, tag, whole[:at]+more+whole[at:])
				}
			}
			noTime(t, tag, whole+"Z")
			noTime(t, tag, strings.Repeat(whole, 2))
			noTime(t, tag, strings.Repeat(whole, 10000))
			noTime(t, tag, strings.TrimSuffix(whole, "Z")+"+0000")
		}
	}
	noTime(t, 0x17, "7001010000Z")
	noTime(t, 0x18, "205001010000Z")
	noTime(t, 0x18, "20500101000000.0Z")
}

// Another sign in each place.
func TestP104TimeOfOtherSigns(t *testing.T) {
	for _, one := range []struct {
		tag  byte
		text string
	}{{0x17, "700101000001Z"}, {0x17, "111111111111Z"}, {0x17, "000229000000Z"}, {0x18, "20500101000001Z"}, {0x18, "21121211111111Z"}, {0x18, "99991231235959Z"}} {
		for place := range one.text {
			for sign := range 256 {
				b := []byte(one.text)
				b[place] = byte(sign)
				timeJudged(t, one.tag, string(b))
			}
		}
	}
	for _, s := range []string{"700101000001z", "7001010000010", "70010100000 Z", "+70101000001Z", "7001-1000001Z", "70010100000\xb1Z", "7001010000:0Z", "70010100000/Z"} {
		noTime(t, 0x17, s)
	}
}

func TestP104TimeOfAnotherTag(t *testing.T) {
	for tag := range 256 {
		for _, s := range []string{"", "700101000001Z", "000229000000Z", "20500101000001Z"} {
			if tag != 0x17 && tag != 0x18 {
				noTime(t, byte(tag), s)
			}
		}
	}
	noTime(t, 0x18, "700101000001Z")
	noTime(t, 0x17, "20500101000001Z")
}

func TestP104TimeDrawn(t *testing.T) {
	draw := rand.New(rand.NewSource(4))
	for range 100000 {
		seconds := draw.Int63n(253402300800)
		at := time.Unix(seconds, 0).UTC()
		if at.Year() < 2050 {
			isTime(t, 0x17, at.Format("060102150405Z"), uint64(seconds))
			noTime(t, 0x18, at.Format("20060102150405Z"))
		} else {
			isTime(t, 0x18, at.Format("20060102150405Z"), uint64(seconds))
		}
		seconds %= 2524608000
		isTime(t, 0x17, time.Unix(seconds, 0).UTC().Format("060102150405Z"), uint64(seconds))
		digits := fmt.Sprintf("%014d", draw.Int63n(100000000000000))
		timeJudged(t, 0x17, digits[2:]+"Z")
		timeJudged(t, 0x18, digits+"Z")
	}
}
