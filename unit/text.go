package unit

import (
	"strconv"
	"strings"

	"perigee/api"
)

const (
	maxText = 100              // bytes of a text that is parsed
	tooMuch = api.MaxValue + 1 // stands for every number that is too great
)

// bases holds the names of the base units in the order of a dimension's exponents.
var bases = [baseUnits]string{"J", "B", "s", "deg", "K"}

// factor is a factor of a text: the name of a unit and, if it is powered, the number that is its exponent.
type factor struct {
	name, exponent string
	powered        bool
}

// Name returns the text of a dimension.
func Name(d api.Dim) string {
	var factors []string
	for i, exponent := range exponents(d) {
		switch exponent {
		case 0:
		case 1:
			factors = append(factors, bases[i])
		default:
			factors = append(factors, bases[i]+"^"+strconv.Itoa(exponent))
		}
	}
	return strings.Join(factors, "*")
}

// Print returns the text of a quantity.
func Print(q api.Quantity) string {
	text := strconv.Itoa(q.N)
	if name := Name(q.D); name != "" {
		text += " " + name
	}
	return text
}

// Parse parses a quantity.
func Parse(s string) (api.Quantity, api.Errno) {
	if len(s) > maxText {
		return api.Quantity{}, api.ErrLimit
	}
	number, factors, ok := split(s)
	if !ok {
		return api.Quantity{}, api.ErrForm
	}
	q := api.Quantity{N: value(number)}
	for _, f := range factors {
		dim, size, e := f.meaning()
		if e != api.OK {
			return api.Quantity{}, e
		}
		q.N = clamped(q.N * size)
		q.D = Times(q.D, dim)
	}
	return checked(q)
}

// split returns the number and the factors of the text of a quantity, and whether s is one.
func split(s string) (string, []factor, bool) {
	number, rest, more := strings.Cut(s, " ")
	if !isNumber(number) {
		return "", nil, false
	}
	if !more {
		return number, nil, true
	}
	var factors []factor
	for _, part := range strings.Split(rest, "*") {
		var f factor
		f.name, f.exponent, f.powered = strings.Cut(part, "^")
		if !isName(f.name) || f.powered && !isNumber(f.exponent) {
			return "", nil, false
		}
		factors = append(factors, f)
	}
	return number, factors, true
}

// meaning returns the dimension of a factor, raised to its exponent, and the number by which it multiplies a quantity.
func (f factor) meaning() (api.Dim, int, api.Errno) {
	dim, size, ok := Lookup(f.name)
	if !ok {
		return api.Dim{}, 0, api.ErrUnit
	}
	if !f.powered {
		return dim, size, api.OK
	}
	if size != 1 {
		return api.Dim{}, 0, api.ErrUnit
	}
	exponent := value(f.exponent)
	if exponent == 0 || !within(exponent, maxExponent) {
		return api.Dim{}, 0, api.ErrRange
	}
	return raised(dim, exponent), size, api.OK
}

// isNumber reports whether s is a number: "0", or digits without leading zeros that may follow a minus sign.
func isNumber(s string) bool {
	digits := strings.TrimPrefix(s, "-")
	if digits == "" || digits[0] == '0' {
		return s == "0"
	}
	for i := range len(digits) {
		if !between(digits[i], '0', '9') {
			return false
		}
	}
	return true
}

// isName reports whether s consists of one or more letters.
func isName(s string) bool {
	for i := range len(s) {
		if !between(s[i], 'a', 'z') && !between(s[i], 'A', 'Z') {
			return false
		}
	}
	return s != ""
}

// between reports whether a byte is from low to high.
func between(b, low, high byte) bool {
	return low <= b && b <= high
}

// value returns the value of a number, clamped. The sign of a number that is too great does not matter.
func value(number string) int {
	n, e := strconv.Atoi(number)
	if e != nil {
		return tooMuch
	}
	return clamped(n)
}

// clamped returns n, or the number nearest to it that is too great. Units have factors of 1 and more: a number that is too great remains so, and no product of a clamped number overflows.
func clamped(n int) int {
	return min(max(n, -tooMuch), tooMuch)
}
