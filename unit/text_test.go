package unit

import (
	"math"
	"math/big"
	"math/rand"
	"regexp"
	"strings"
	"testing"

	"perigee/api"
)

// TestName checks P4.3: no exponents, an exponent of 1, others, the order, and exponents of all sizes.
func TestName(t *testing.T) {
	for _, c := range []struct {
		d    api.Dim
		want string
	}{
		{api.Dim{}, ""},
		{api.Dim{Energy: 1}, "J"},
		{api.Dim{Data: 1}, "B"},
		{api.Dim{Time: 1}, "s"},
		{api.Dim{Angle: 1}, "deg"},
		{api.Dim{Heat: 1}, "K"},
		{api.Dim{Energy: -1}, "J^-1"},
		{api.Dim{Energy: 2}, "J^2"},
		{api.Dim{Energy: 1, Time: -1}, "J*s^-1"},
		{api.Dim{Data: 1, Time: -1}, "B*s^-1"},
		{api.Dim{Time: -1, Heat: 1}, "s^-1*K"},
		{api.Dim{Energy: 1, Heat: 1}, "J*K"},
		{all(1), "J*B*s*deg*K"},
		{all(8), "J^8*B^8*s^8*deg^8*K^8"},
		{all(-8), "J^-8*B^-8*s^-8*deg^-8*K^-8"},
		{dim(1, -2, 3, -4, 5), "J*B^-2*s^3*deg^-4*K^5"},
		{api.Dim{Data: 9, Angle: -9}, "B^9*deg^-9"},
		{api.Dim{Time: 10}, "s^10"},
		{api.Dim{Angle: 1000, Heat: -1000}, "deg^1000*K^-1000"},
		{api.Dim{Energy: math.MaxInt64, Heat: math.MinInt64}, "J^9223372036854775807*K^-9223372036854775808"},
	} {
		if got := Name(c.d); got != c.want {
			t.Errorf("Name(%v) = %q, want %q", c.d, got, c.want)
		}
	}
}

// TestPrint checks P4.9: with and without a dimension, 0, negative numbers, the ends of the range, and numbers beyond it.
func TestPrint(t *testing.T) {
	for _, c := range []struct {
		q    api.Quantity
		want string
	}{
		{api.Quantity{}, "0"},
		{api.Quantity{N: 5}, "5"},
		{api.Quantity{N: -12}, "-12"},
		{api.Quantity{N: 0, D: api.Dim{Energy: 1}}, "0 J"},
		{api.Quantity{N: 5000, D: api.Dim{Energy: 1}}, "5000 J"},
		{api.Quantity{N: -3, D: api.Dim{Energy: 2, Time: -1, Heat: 1}}, "-3 J^2*s^-1*K"},
		{api.Quantity{N: api.MaxValue, D: all(-8)}, "2147483647 J^-8*B^-8*s^-8*deg^-8*K^-8"},
		{api.Quantity{N: -api.MaxValue}, "-2147483647"},
		{api.Quantity{N: api.MaxValue + 1, D: api.Dim{Data: 9}}, "2147483648 B^9"},
		{api.Quantity{N: math.MinInt64, D: api.Dim{Angle: 1}}, "-9223372036854775808 deg"},
	} {
		if got := Print(c.q); got != c.want {
			t.Errorf("Print(%v) = %q, want %q", c.q, got, c.want)
		}
	}
}

// TestParse checks P4.8 for texts of quantities: numbers alone, every unit, products, exponents, and the ends of the ranges.
func TestParse(t *testing.T) {
	power := api.Dim{Energy: 1, Time: -1}
	for _, c := range []struct {
		s string
		n int
		d api.Dim
	}{
		{"0", 0, api.Dim{}},
		{"5", 5, api.Dim{}},
		{"-12", -12, api.Dim{}},
		{"10", 10, api.Dim{}},
		{"1 J", 1, api.Dim{Energy: 1}},
		{"2 kJ", 2000, api.Dim{Energy: 1}},
		{"3 Wh", 10800, api.Dim{Energy: 1}},
		{"4 B", 4, api.Dim{Data: 1}},
		{"5 kB", 5000, api.Dim{Data: 1}},
		{"6 s", 6, api.Dim{Time: 1}},
		{"7 min", 420, api.Dim{Time: 1}},
		{"8 h", 28800, api.Dim{Time: 1}},
		{"9 deg", 9, api.Dim{Angle: 1}},
		{"10 K", 10, api.Dim{Heat: 1}},
		{"11 W", 11, power},
		{"12 kW", 12000, power},
		{"13 Bps", 13, api.Dim{Data: 1, Time: -1}},
		{"-5 kJ", -5000, api.Dim{Energy: 1}},
		{"2 kW*h", 7200000, api.Dim{Energy: 1}},
		{"2 kJ*kB", 2000000, api.Dim{Energy: 1, Data: 1}},
		{"2 min*min*min", 432000, api.Dim{Time: 3}},
		{"7 J*s^-1*s", 7, api.Dim{Energy: 1}},
		{"7 s*s^-1", 7, api.Dim{}},
		{"7 s^1", 7, api.Dim{Time: 1}},
		{"7 s^-1", 7, api.Dim{Time: -1}},
		{"7 W^-3", 7, api.Dim{Energy: -3, Time: 3}},
		{"7 Bps^2*J^-1", 7, api.Dim{Energy: -1, Data: 2, Time: -2}},
		{"7 K*deg*s*B*J", 7, all(1)},
		{"7 J^8", 7, api.Dim{Energy: 8}},
		{"7 J^-8", 7, api.Dim{Energy: -8}},
		{"7 J^8*J*J^-1", 7, api.Dim{Energy: 8}},
		{"7 J^8*J^8*J^-8", 7, api.Dim{Energy: 8}},
		{"7 s^-8*s^-8*W^-8", 7, api.Dim{Energy: -8, Time: -8}},
		{"2147483647", api.MaxValue, api.Dim{}},
		{"-2147483647 B", -api.MaxValue, api.Dim{Data: 1}},
		{"2147483 kB", 2147483000, api.Dim{Data: 1}},
		{"-2147483 kB", -2147483000, api.Dim{Data: 1}},
		{"0 kB", 0, api.Dim{Data: 1}},
		{"0 h*h*h*h*h*h*h*h", 0, api.Dim{Time: 8}},
		{"0 kJ*kJ*kJ*kJ*kJ*kJ*kJ*kJ*kB*kB*kB*kB*kB*kB*kB*kB*h*h*h*h*h*h*h*h", 0, api.Dim{Energy: 8, Data: 8, Time: 8}},
	} {
		want := api.Quantity{N: c.n, D: c.d}
		if q, e := Parse(c.s); q != want || e != api.OK {
			t.Errorf("Parse(%q) = %v, %v, want %v", c.s, q, e, want)
		}
	}
}

// TestParseForm checks the second error of P4.8 for texts that differ from the text of a quantity in one place.
func TestParseForm(t *testing.T) {
	for _, s := range []string{
		"", " ", "-", "--1", "+1", "-0", "00", "05", "-05", "0x1", "1_000", "1.5", "1e3", "½", "٣", "1-", "1 -",
		"J", " J", "-J", "5J", "5*J", " 5", "5 ", "5\n", "5 J\n", "5\tJ", "5  J", "5 J ", "5 J s", "5 J,s",
		"5 *", "5 *J", "5 J*", "5 J**s", "5 J *s", "5 J* s", "5 J/s", "5 J*5", "5 5", "5 J2", "5 é", "5 J\x00", "5 @", "5 [", "5 `", "5 {",
		"5 ^", "5 ^2", "5 J^", "5 J^-", "5 J^+1", "5 J^-0", "5 J^00", "5 J^02", "5 J^-02", "5 J^s", "5 J^2.5", "5 J^1^1", "5 J^ 2", "5 J ^2", "5 J^2 ", "5 J^2s", "5 J^:", "5 J^/",
		"/", ":", "1:", "1/",
		// An error of form anywhere precedes all errors of the factors and of the number.
		"5 x*", "5 kJ^2*J^", "5 J^0*J^-0", "99999999999 J*", "5 J^9 ", "5 x*^2",
		"05 x", "-0 kJ^2", "00000000000000000000000000000",
	} {
		checkRejected(t, s, api.ErrForm)
	}
}

// TestParseFactors checks the errors of factors in P4.8: each kind, in each place, and the first of several, also where the quantity is out of range.
func TestParseFactors(t *testing.T) {
	for _, c := range []struct {
		s string
		e api.Errno
	}{
		{"5 x", api.ErrUnit},
		{"5 a", api.ErrUnit},
		{"5 z", api.ErrUnit},
		{"5 A", api.ErrUnit},
		{"5 Z", api.ErrUnit},
		{"5 AbcXyZ", api.ErrUnit},
		{"5 j", api.ErrUnit},
		{"5 kWh", api.ErrUnit},
		{"5 J*x", api.ErrUnit},
		{"5 x*J", api.ErrUnit},
		{"5 x^2", api.ErrUnit},
		{"5 x^0", api.ErrUnit},
		{"5 x^99", api.ErrUnit},
		{"5 kJ^2", api.ErrUnit},
		{"5 kJ^1", api.ErrUnit},
		{"5 kJ^0", api.ErrUnit},
		{"5 kJ^9", api.ErrUnit},
		{"5 Wh^-1", api.ErrUnit},
		{"5 kB^2", api.ErrUnit},
		{"5 min^2", api.ErrUnit},
		{"5 h^2", api.ErrUnit},
		{"5 kW^2", api.ErrUnit},
		{"5 J*h^1", api.ErrUnit},
		{"5 J^0", api.ErrRange},
		{"5 J^9", api.ErrRange},
		{"5 J^-9", api.ErrRange},
		{"5 W^0", api.ErrRange},
		{"5 Bps^9", api.ErrRange},
		{"5 s*deg^0", api.ErrRange},
		{"0 J^9", api.ErrRange},
		{"5 J^9*J^-1", api.ErrRange},
		{"5 J^4294967297", api.ErrRange},
		{"5 J^18446744073709551617", api.ErrRange},
		{"5 J^-18446744073709551617", api.ErrRange},
		{"5 J^9*x", api.ErrRange},
		{"5 J^0*x", api.ErrRange},
		{"5 x*J^0", api.ErrUnit},
		{"5 kJ^2*J^0", api.ErrUnit},
		{"5 J^0*kJ^2", api.ErrRange},
		{"9999999999 x", api.ErrUnit},
		{"9999999999 kJ^2", api.ErrUnit},
		{"99999999999999999999999999 J*x", api.ErrUnit},
		{"5 J^8*J*x", api.ErrUnit},
		{"5 J^8*J*h^2", api.ErrUnit},
		{"9999999999 h*h*h*h*h*h*h*h*h*h*x", api.ErrUnit},
	} {
		checkRejected(t, c.s, c.e)
	}
}

// TestParseRange checks the last error of P4.8: numbers and products just beyond the range and far beyond, also where a product of machine words would be small again, and exponents beyond 8.
func TestParseRange(t *testing.T) {
	for _, s := range []string{
		"2147483648",
		"-2147483648",
		"2147483648 B",
		"-2147483648 B",
		"2147484 kB",
		"-2147484 kB",
		"4294967296",
		"4294967297 J",
		"18446744073709551616",
		"18446744073709551617",
		"-18446744073709551617",
		"18446744073709551617 J",
		"9223372036854775807",
		"9223372036854775807 kJ",
		"-9223372036854775807 h",
		"-9223372036854775808 J",
		"9223372036854775808 kJ",
		"1" + strings.Repeat("0", 99),
		"-1" + strings.Repeat("0", 98),
		"1" + strings.Repeat("0", 80) + " J*s^-1",
		"1 kJ*kJ*kJ*kJ",
		"-1 kJ*kJ*kJ*kJ",
		"1073741824 kJ*kJ*kJ*kJ*kJ*kJ*kJ*kJ*kB*kB*kB*kB*kB*kB*kB*kB",
		"1 kJ*kJ*kJ*kJ*kJ*kJ*kJ*kJ*kB*kB*kB*kB*kB*kB*kB*kB*h*h*h*h*h*h*h*h",
		"1 min*min*min*min*min*min",
		"5 J^8*J",
		"5 J*J^8",
		"5 J^-8*J^-1",
		"5 B^8*B^8",
		"5 s^-8*W",
		"5 deg^5*deg^4",
		"5 K^-4*K^-5",
		"0 J^8*J",
		"0 h*h*h*h*h*h*h*h*h",
		"5 " + strings.Repeat("s*", 48) + "s",
	} {
		checkRejected(t, s, api.ErrRange)
	}
}

// TestParseLimit checks the first error of P4.8: texts of 100 bytes are read, good ones and bad ones; longer texts are not, whatever they are.
func TestParseLimit(t *testing.T) {
	most := "7 J^8*" + strings.Repeat("s*s^-1*", 13) // 97 bytes
	good := most + "deg"
	if q, e := Parse(good); len(good) != 100 || q != (api.Quantity{N: 7, D: api.Dim{Energy: 8, Angle: 1}}) || e != api.OK {
		t.Errorf("Parse(%q) of %d bytes = %v, %v", good, len(good), q, e)
	}
	for _, c := range []struct {
		unit string
		e    api.Errno
	}{{"abc", api.ErrUnit}, {"h^1", api.ErrUnit}, {"s^0", api.ErrRange}, {"s^^", api.ErrForm}, {"ké", api.ErrForm}} {
		checkRejected(t, most+c.unit, c.e)
	}
	for _, s := range []string{
		good + "s",
		good + " ",
		"7 s*" + good[2:],
		strings.Repeat("1", 101),
		strings.Repeat("0", 101),
		strings.Repeat(" ", 101),
		strings.Repeat("\x00", 101),
		strings.Repeat("é", 51),
		"5 " + strings.Repeat("x", 99),
		"5 J^" + strings.Repeat("9", 97),
		strings.Repeat("5 J", 1000),
	} {
		checkRejected(t, s, api.ErrLimit)
	}
}

// TestParseShortTexts checks P4.8 against the definition for all short texts, alone and after the beginnings of longer ones.
func TestParseShortTexts(t *testing.T) {
	texts := []string{""}
	for range 4 {
		for _, s := range texts {
			for _, next := range " 019-^*Jkhé" {
				texts = append(texts, s+string(next))
			}
		}
		texts = distinct(texts)
	}
	for _, s := range texts {
		for _, before := range []string{"", "5 ", "2147483647 k", "7 J^", "-3 W*", "4 J^8*"} {
			checkAgainstDefinition(t, before+s)
		}
	}
}

// TestParseRandomTexts checks P4.8 against the definition for texts of valid and invalid parts.
func TestParseRandomTexts(t *testing.T) {
	random := rand.New(rand.NewSource(4))
	outcomes := map[api.Errno]int{}
	for range 60000 {
		outcomes[checkAgainstDefinition(t, randomText(random))]++
	}
	for _, e := range []api.Errno{api.OK, api.ErrLimit, api.ErrForm, api.ErrUnit, api.ErrRange} {
		if outcomes[e] < 500 {
			t.Errorf("only %d texts led to %v", outcomes[e], e)
		}
	}
}

// TestRoundTrip checks P4.10 for quantities of all kinds, those with the longest text among them.
func TestRoundTrip(t *testing.T) {
	list := []api.Quantity{{}, {N: -api.MaxValue, D: all(-8)}, {N: api.MaxValue, D: all(8)}, {D: all(-8)}}
	for _, d := range validDims() {
		for _, n := range []int{0, 1, -1, 1000, api.MaxValue, -api.MaxValue} {
			list = append(list, api.Quantity{N: n, D: d})
		}
	}
	random := rand.New(rand.NewSource(5))
	for range 20000 {
		list = append(list, api.Quantity{N: randomNumber(random), D: randomDim(random, 8)})
	}
	for _, q := range list {
		if got, e := Parse(Print(q)); got != q || e != api.OK {
			t.Errorf("Parse(%q) = %v, %v, want %v", Print(q), got, e, q)
		}
	}
}

// TestExamples checks the chapter's examples.
func TestExamples(t *testing.T) {
	energy := api.Dim{Energy: 1}
	if dim, factor, ok := Lookup("kJ"); dim != energy || factor != 1000 || !ok {
		t.Errorf("Lookup: %v, %d, %t", dim, factor, ok)
	}
	q, e := Parse("5 kJ")
	if q != (api.Quantity{N: 5000, D: energy}) || e != api.OK {
		t.Errorf("5 kJ: %v, %v", q, e)
	}
	if s := Print(q); s != "5000 J" {
		t.Errorf("5 kJ: %q", s)
	}
	if q, e := Parse("2 kW*h"); q != (api.Quantity{N: 7200000, D: energy}) || e != api.OK {
		t.Errorf("2 kW*h: %v, %v", q, e)
	}
	if s := Name(Over(energy, api.Dim{Time: 1})); s != "J*s^-1" {
		t.Errorf("energy per time: %q", s)
	}
	if q, e := Div(api.Quantity{N: -7}, api.Quantity{N: 2}); q != (api.Quantity{N: -4}) || e != api.OK {
		t.Errorf("-7 / 2: %v, %v", q, e)
	}
	checkRejected(t, "5 kJ^2", api.ErrUnit)
	checkRejected(t, "05 J", api.ErrForm)
}

// checkRejected checks that a text leads to an error and to no quantity.
func checkRejected(t *testing.T, s string, want api.Errno) {
	t.Helper()
	if q, e := Parse(s); q != (api.Quantity{}) || e != want {
		t.Errorf("Parse(%q) = %v, %v, want %v", s, q, e, want)
	}
}

// checkAgainstDefinition checks the result of a text against the chapter's definition, and returns the error that is due.
func checkAgainstDefinition(t *testing.T, s string) api.Errno {
	t.Helper()
	want, due := defined(s)
	if q, e := Parse(s); q != want || e != due {
		t.Errorf("Parse(%q) = %v, %v, want %v, %v", s, q, e, want, due)
	}
	return due
}

const (
	numberPattern = `(?:0|-?[1-9][0-9]*)`
	factorPattern = `[A-Za-z]+(?:\^` + numberPattern + `)?`
)

var quantityPattern = regexp.MustCompile(`\A(` + numberPattern + `)(?: (` + factorPattern + `(?:\*` + factorPattern + `)*))?\z`)

var definedSizes = map[string]int64{
	"J": 1, "kJ": 1000, "Wh": 3600, "B": 1, "kB": 1000, "s": 1, "min": 60, "h": 3600, "deg": 1, "K": 1, "W": 1, "kW": 1000, "Bps": 1,
}

var definedPowers = map[string][5]int64{
	"J": {1}, "kJ": {1}, "Wh": {1}, "B": {0, 1}, "kB": {0, 1}, "s": {0, 0, 1}, "min": {0, 0, 1}, "h": {0, 0, 1},
	"deg": {0, 0, 0, 1}, "K": {0, 0, 0, 0, 1}, "W": {1, 0, -1}, "kW": {1, 0, -1}, "Bps": {0, 1, -1},
}

// defined returns what the chapter says of a text, computed without limits of numbers.
func defined(s string) (api.Quantity, api.Errno) {
	if len(s) > 100 {
		return api.Quantity{}, api.ErrLimit
	}
	parts := quantityPattern.FindStringSubmatch(s)
	if parts == nil {
		return api.Quantity{}, api.ErrForm
	}
	n := unlimited(parts[1])
	sums := [5]int64{}
	for _, f := range strings.FieldsFunc(parts[2], func(c rune) bool { return c == '*' }) {
		size, powers, e := definedFactor(f)
		if e != api.OK {
			return api.Quantity{}, e
		}
		n.Mul(n, big.NewInt(size))
		for i := range sums {
			sums[i] += powers[i]
		}
	}
	if n.CmpAbs(big.NewInt(1<<31-1)) > 0 {
		return api.Quantity{}, api.ErrRange
	}
	for _, sum := range sums {
		if sum < -8 || sum > 8 {
			return api.Quantity{}, api.ErrRange
		}
	}
	return api.Quantity{N: int(n.Int64()), D: dim(int(sums[0]), int(sums[1]), int(sums[2]), int(sums[3]), int(sums[4]))}, api.OK
}

// definedFactor returns the size and the exponents of a factor.
func definedFactor(f string) (int64, [5]int64, api.Errno) {
	name, text, powered := strings.Cut(f, "^")
	if !powered {
		text = "1"
	}
	size, ok := definedSizes[name]
	powers := definedPowers[name]
	if !ok {
		return 0, powers, api.ErrUnit
	}
	if powered && size != 1 {
		return 0, powers, api.ErrUnit
	}
	exponent := unlimited(text)
	if exponent.Sign() == 0 || exponent.CmpAbs(big.NewInt(8)) > 0 {
		return 0, powers, api.ErrRange
	}
	for i := range powers {
		powers[i] *= exponent.Int64()
	}
	return size, powers, api.OK
}

// unlimited returns the value of a number of any length.
func unlimited(number string) *big.Int {
	n, ok := new(big.Int).SetString(number, 10)
	if !ok {
		panic("no number: " + number)
	}
	return n
}

// randomText returns a text of parts that are mostly valid.
func randomText(random *rand.Rand) string {
	pick := func(list ...string) string { return list[random.Intn(len(list))] }
	numbers := []string{"0", "1", "5", "-3", "1000", "2147483647", "-2147483647", "2147483648", "9223372036854775807", "99999999999999999999", "05", "-0", ""}
	names := []string{"J", "kJ", "Wh", "B", "kB", "s", "min", "h", "deg", "K", "W", "kW", "Bps", "s", "J", "W", "deg", "x", "1"}
	powers := []string{"1", "-1", "2", "-2", "8", "-8", "3", "0", "9", "-9", "-0", "18446744073709551617"}
	valid := random.Intn(2) == 0
	if valid { // whether the quantity is in range is left open
		numbers, names, powers = numbers[:6], names[:17], powers[:7]
	}
	s := numbers[random.Intn(len(numbers))]
	joint := " "
	for range random.Intn(6) * (1 + random.Intn(4)) {
		s += joint + names[random.Intn(len(names))]
		if _, size, _ := Lookup(s[strings.LastIndexAny(s, " *")+1:]); random.Intn(2) == 0 && (size == 1 || !valid) {
			s += "^" + powers[random.Intn(len(powers))]
		}
		joint = "*"
		if !valid && random.Intn(20) == 0 {
			joint = pick("", " ", "**", "/")
		}
	}
	return s
}

// distinct returns the texts of a list once each.
func distinct(list []string) []string {
	seen := map[string]bool{}
	var once []string
	for _, s := range list {
		if !seen[s] {
			seen[s] = true
			once = append(once, s)
		}
	}
	return once
}
