package der

import "latchkey/api"

// The two ways in which a time is written: of TUtc and of TTime.
const (
	utcForm  = "YYMMDDHHMMSSZ"
	timeForm = "YYYYMMDDHHMMSSZ"
	lastSign = 'Z'
)

const (
	// firstYear: times are told from its beginning on.
	firstYear = 1970
	// utcEnd: the first year that only TTime tells.
	utcEnd = 2050
	// yearDays: the days of a year without a 29th of February.
	yearDays = 365
	february = 2
)

// monthDays: the days of each month; February's where it has 28.
var monthDays = [12]int{31, 28, 31, 30, 31, 30, 31, 31, 30, 31, 30, 31}

// moment is a time as it is written.
type moment struct{ year, month, day, hour, minute, second int }

// Time: seconds since 1970. ErrTime: it is none.
func Time(t api.Tlv) (uint64, api.Errno) {
	year, rest, ok := splitYear(t)
	if !ok {
		return 0, api.ErrTime
	}
	m, ok := momentOf(year, rest)
	if !ok || !m.exists() {
		return 0, api.ErrTime
	}
	return uint64(m.seconds()), api.OK
}

// splitYear: a time's year, and what stands behind it; false: it isn't as long as its way is, or has no year of it.
func splitYear(t api.Tlv) (int, []byte, bool) {
	switch {
	case t.Tag == TUtc && len(t.Body) == len(utcForm):
		year, ok := numberOf(t.Body[:2])
		year = withCentury(year)
		return year, t.Body[2:], ok && year >= firstYear
	case t.Tag == TTime && len(t.Body) == len(timeForm):
		year, ok := numberOf(t.Body[:4])
		return year, t.Body[4:], ok && year >= utcEnd
	}
	return 0, nil, false
}

// withCentury: the year whose last two digits are these, of the years that TUtc tells.
func withCentury(digits int) int {
	if year := 2000 + digits; year < utcEnd {
		return year
	}
	return 1900 + digits
}

// momentOf: a year, and what is written behind it; false: other signs than digits, or another one at the end.
func momentOf(year int, rest []byte) (moment, bool) {
	var numbers [5]int
	for i := range len(numbers) {
		number, ok := numberOf(rest[2*i : 2*i+2])
		if !ok {
			return moment{}, false
		}
		numbers[i] = number
	}
	m := moment{year, numbers[0], numbers[1], numbers[2], numbers[3], numbers[4]}
	return m, rest[2*len(numbers)] == lastSign
}

// numberOf: the number of digits; false: other signs.
func numberOf(digits []byte) (int, bool) {
	number := 0
	for _, digit := range digits {
		if digit < '0' || digit > '9' {
			return 0, false
		}
		number = 10*number + int(digit-'0')
	}
	return number, true
}

// exists: whether there is such a day, and such a second in it.
func (m moment) exists() bool {
	if m.month < 1 || m.month > len(monthDays) {
		return false
	}
	if m.day < 1 || m.day > daysOf(m.year, m.month) {
		return false
	}
	return m.hour < 24 && m.minute < 60 && m.second < 60
}

// seconds: how many there are from the first year's beginning on.
func (m moment) seconds() int {
	days := yearDays*(m.year-firstYear) + longYears(m.year) - longYears(firstYear)
	for before := range m.month - 1 {
		days += daysOf(m.year, before+1)
	}
	days += m.day - 1
	return ((days*24+m.hour)*60+m.minute)*60 + m.second
}

// daysOf: how many days a month has.
func daysOf(year, month int) int {
	if month == february && isLong(year) {
		return monthDays[month-1] + 1
	}
	return monthDays[month-1]
}

// isLong: whether a year has a 29th of February.
func isLong(year int) bool {
	return year%4 == 0 && year%100 != 0 || year%400 == 0
}

// longYears: how many years from 1 on have one, ahead of this year.
func longYears(year int) int {
	ahead := year - 1
	return ahead/4 - ahead/100 + ahead/400
}
