package unit

import (
	"math/big"
	"math/rand"
	"testing"

	"perigee/api"
)

// TestLookup checks P4.1 for every unit of the chapter's table.
func TestLookup(t *testing.T) {
	for _, c := range []struct {
		name   string
		factor int
		dim    api.Dim
	}{
		{"J", 1, api.Dim{Energy: 1}},
		{"kJ", 1000, api.Dim{Energy: 1}},
		{"Wh", 3600, api.Dim{Energy: 1}},
		{"B", 1, api.Dim{Data: 1}},
		{"kB", 1000, api.Dim{Data: 1}},
		{"s", 1, api.Dim{Time: 1}},
		{"min", 60, api.Dim{Time: 1}},
		{"h", 3600, api.Dim{Time: 1}},
		{"deg", 1, api.Dim{Angle: 1}},
		{"K", 1, api.Dim{Heat: 1}},
		{"W", 1, api.Dim{Energy: 1, Time: -1}},
		{"kW", 1000, api.Dim{Energy: 1, Time: -1}},
		{"Bps", 1, api.Dim{Data: 1, Time: -1}},
	} {
		if dim, factor, ok := Lookup(c.name); dim != c.dim || factor != c.factor || !ok {
			t.Errorf("Lookup(%q) = %v, %d, %t, want %v, %d, true", c.name, dim, factor, ok, c.dim, c.factor)
		}
	}
}

// TestLookupUnknown checks P4.1 for names that are no units: none, other cases of letters, prefixes that the table lacks, parts of names, and products.
func TestLookupUnknown(t *testing.T) {
	for _, name := range []string{
		"", " ", "x", "j", "KJ", "kj", "wh", "WH", "b", "KB", "S", "Min", "H", "Deg", "k", "w", "KW", "bps", "BPS",
		"MJ", "kWh", "kBps", "ms", "kK", "ks", "mi", "de", "Bp", "minute", "degree", " J", "J ", "J\x00", "J*s", "J^1", "W^-1", "1",
	} {
		if dim, factor, ok := Lookup(name); dim != (api.Dim{}) || factor != 0 || ok {
			t.Errorf("Lookup(%q) = %v, %d, %t, want nothing", name, dim, factor, ok)
		}
	}
}

// TestTimesAndOver checks P4.2 for chosen dimensions, those at the ends of the domain among them.
func TestTimesAndOver(t *testing.T) {
	for _, c := range []struct{ a, b, times, over api.Dim }{
		{},
		{api.Dim{Energy: 1}, api.Dim{}, api.Dim{Energy: 1}, api.Dim{Energy: 1}},
		{api.Dim{}, api.Dim{Time: 1}, api.Dim{Time: 1}, api.Dim{Time: -1}},
		{api.Dim{Energy: 1, Time: -1}, api.Dim{Time: 1}, api.Dim{Energy: 1}, api.Dim{Energy: 1, Time: -2}},
		{dim(1, 2, 3, 4, 5), dim(10, 20, 30, 40, 50), dim(11, 22, 33, 44, 55), dim(-9, -18, -27, -36, -45)},
		{dim(8, 8, 8, 8, 8), dim(1, 2, 3, 4, 5), dim(9, 10, 11, 12, 13), dim(7, 6, 5, 4, 3)},
		{all(1000), all(1000), all(2000), all(0)},
		{all(1000), all(-1000), all(0), all(2000)},
		{all(-1000), all(1000), all(0), all(-2000)},
	} {
		if got := Times(c.a, c.b); got != c.times {
			t.Errorf("Times(%v, %v) = %v, want %v", c.a, c.b, got, c.times)
		}
		if got := Over(c.a, c.b); got != c.over {
			t.Errorf("Over(%v, %v) = %v, want %v", c.a, c.b, got, c.over)
		}
	}
}

// TestTimesAndOverOfAll checks P4.2 for dimensions of the whole domain.
func TestTimesAndOverOfAll(t *testing.T) {
	random := rand.New(rand.NewSource(1))
	for range 2000 {
		a, b := randomDim(random, 1000), randomDim(random, 1000)
		times := dim(a.Energy+b.Energy, a.Data+b.Data, a.Time+b.Time, a.Angle+b.Angle, a.Heat+b.Heat)
		if got := Times(a, b); got != times {
			t.Errorf("Times(%v, %v) = %v, want %v", a, b, got, times)
		}
		over := dim(a.Energy-b.Energy, a.Data-b.Data, a.Time-b.Time, a.Angle-b.Angle, a.Heat-b.Heat)
		if got := Over(a, b); got != over {
			t.Errorf("Over(%v, %v) = %v, want %v", a, b, got, over)
		}
	}
}

// TestAdd checks P4.4: sums, those at the ends of the range, those just beyond, and a sum that is in range again.
func TestAdd(t *testing.T) {
	const most = api.MaxValue
	for _, c := range []struct {
		a, b, want int
		e          api.Errno
	}{
		{0, 0, 0, api.OK},
		{3, 4, 7, api.OK},
		{3, -4, -1, api.OK},
		{-3, -4, -7, api.OK},
		{most, 0, most, api.OK},
		{most - 1, 1, most, api.OK},
		{most, 1, 0, api.ErrRange},
		{1, most, 0, api.ErrRange},
		{most, most, 0, api.ErrRange},
		{-most, 0, -most, api.OK},
		{1 - most, -1, -most, api.OK},
		{-most, -1, 0, api.ErrRange},
		{-most, -most, 0, api.ErrRange},
		{most, -most, 0, api.OK},
		{-most, most, 0, api.OK},
	} {
		for _, d := range validDims() {
			q, e := Add(api.Quantity{N: c.a, D: d}, api.Quantity{N: c.b, D: d})
			checkQuantity(t, q, e, c.want, d, c.e, "Add", c.a, c.b)
		}
	}
}

// TestSub checks P4.4: differences, those at the ends of the range, those just beyond, and an order of the arguments.
func TestSub(t *testing.T) {
	const most = api.MaxValue
	for _, c := range []struct {
		a, b, want int
		e          api.Errno
	}{
		{0, 0, 0, api.OK},
		{3, 4, -1, api.OK},
		{4, 3, 1, api.OK},
		{3, -4, 7, api.OK},
		{-3, -4, 1, api.OK},
		{most, 0, most, api.OK},
		{0, most, -most, api.OK},
		{most - 1, -1, most, api.OK},
		{most, -1, 0, api.ErrRange},
		{1, -most, 0, api.ErrRange},
		{most, -most, 0, api.ErrRange},
		{-most, 0, -most, api.OK},
		{1 - most, 1, -most, api.OK},
		{-most, 1, 0, api.ErrRange},
		{-most, most, 0, api.ErrRange},
		{most, most, 0, api.OK},
		{-most, -most, 0, api.OK},
	} {
		for _, d := range validDims() {
			q, e := Sub(api.Quantity{N: c.a, D: d}, api.Quantity{N: c.b, D: d})
			checkQuantity(t, q, e, c.want, d, c.e, "Sub", c.a, c.b)
		}
	}
}

// TestDifferentDimensions checks the first error of P4.4 and that of P4.7: a difference in any one exponent, also where N would be out of range, and where one quantity is 0.
func TestDifferentDimensions(t *testing.T) {
	dims := validDims()
	for i, d := range dims {
		for j, other := range dims {
			if i == j {
				continue
			}
			for _, n := range [][2]int{{3, 4}, {0, 0}, {5, 5}, {api.MaxValue, api.MaxValue}, {-api.MaxValue, api.MaxValue}} {
				a, b := api.Quantity{N: n[0], D: d}, api.Quantity{N: n[1], D: other}
				q, e := Add(a, b)
				checkQuantity(t, q, e, 0, d, api.ErrUnit, "Add", a, b)
				q, e = Sub(a, b)
				checkQuantity(t, q, e, 0, d, api.ErrUnit, "Sub", a, b)
				if order, e := Compare(a, b); order != 0 || e != api.ErrUnit {
					t.Errorf("Compare(%v, %v) = %d, %v, want ErrUnit", a, b, order, e)
				}
			}
		}
	}
}

// TestMul checks P4.5 for numbers: signs, 0, the ends of the range, and products just within and just beyond it.
func TestMul(t *testing.T) {
	const most = api.MaxValue
	for _, c := range []struct {
		a, b, want int
		e          api.Errno
	}{
		{0, 0, 0, api.OK},
		{6, 7, 42, api.OK},
		{6, -7, -42, api.OK},
		{-6, 7, -42, api.OK},
		{-6, -7, 42, api.OK},
		{0, most, 0, api.OK},
		{-most, 0, 0, api.OK},
		{most, 1, most, api.OK},
		{1, -most, -most, api.OK},
		{-1, -most, most, api.OK},
		{most, 2, 0, api.ErrRange},
		{most, most, 0, api.ErrRange},
		{most, -most, 0, api.ErrRange},
		{46340, 46341, 2147441940, api.OK},
		{46341, 46341, 0, api.ErrRange},
		{65536, 32768, 0, api.ErrRange},
		{-65536, 32768, 0, api.ErrRange},
		{65536, 65536, 0, api.ErrRange},
		{1 << 30, 2, 0, api.ErrRange},
		{-1 << 30, 2, 0, api.ErrRange},
		{1<<30 - 1, 2, most - 1, api.OK},
		{-1<<30 + 1, 2, 1 - most, api.OK},
	} {
		q, e := Mul(api.Quantity{N: c.a, D: api.Dim{Energy: 1, Heat: 2}}, api.Quantity{N: c.b, D: api.Dim{Time: -3, Heat: 3}})
		checkQuantity(t, q, e, c.want, api.Dim{Energy: 1, Time: -3, Heat: 5}, c.e, "Mul", c.a, c.b)
	}
}

// TestMulExponents checks P4.5 for every pair of exponents at each base unit: the product is rejected where the sum is 9 or more, or -9 or less.
func TestMulExponents(t *testing.T) {
	for _, n := range []int{0, 1, -5} {
		for base := range 5 {
			for i := -8; i <= 8; i++ {
				for j := -8; j <= 8; j++ {
					a, b := api.Quantity{N: n, D: only(base, i)}, api.Quantity{N: 2, D: only(base, j)}
					want := api.OK
					if i+j < -8 || i+j > 8 {
						want = api.ErrRange
					}
					q, e := Mul(a, b)
					checkQuantity(t, q, e, 2*n, only(base, i+j), want, "Mul", a, b)
				}
			}
		}
	}
}

// TestDiv checks P4.6 for numbers: all signs, with and without a remainder, 0, and the ends of the range.
func TestDiv(t *testing.T) {
	const most = api.MaxValue
	for _, c := range []struct{ a, b, want int }{
		{0, 1, 0},
		{0, -5, 0},
		{7, 2, 3},
		{-7, 2, -4},
		{7, -2, -4},
		{-7, -2, 3},
		{6, 2, 3},
		{-6, 2, -3},
		{6, -2, -3},
		{-6, -2, 3},
		{1, 2, 0},
		{-1, 2, -1},
		{1, -2, -1},
		{-1, -2, 0},
		{most, 1, most},
		{most, -1, -most},
		{-most, 1, -most},
		{-most, -1, most},
		{most, most, 1},
		{-most, most, -1},
		{most - 1, most, 0},
		{1 - most, most, -1},
		{most, 2, 1073741823},
		{-most, 2, -1073741824},
		{1, most, 0},
		{-1, most, -1},
		{1, -most, -1},
	} {
		q, e := Div(api.Quantity{N: c.a, D: api.Dim{Energy: 1, Heat: 2}}, api.Quantity{N: c.b, D: api.Dim{Time: 1, Heat: 3}})
		checkQuantity(t, q, e, c.want, api.Dim{Energy: 1, Time: -1, Heat: -1}, api.OK, "Div", c.a, c.b)
	}
}

// TestDivRoundsDown checks P4.6 and P4.12 for all small numbers, with a quotient from another source and with the property itself.
func TestDivRoundsDown(t *testing.T) {
	for a := -60; a <= 60; a++ {
		for b := -60; b <= 60; b++ {
			if b != 0 {
				checkQuotient(t, a, b)
			}
		}
	}
}

// TestDivRoundsDownForAll checks P4.6 and P4.12 for numbers of the whole range.
func TestDivRoundsDownForAll(t *testing.T) {
	random := rand.New(rand.NewSource(2))
	for range 20000 {
		if b := randomNumber(random); b != 0 {
			checkQuotient(t, randomNumber(random), b)
		}
	}
}

// TestDivByZero checks the first error of P4.6, also where the exponents would be out of range.
func TestDivByZero(t *testing.T) {
	for _, n := range []int{0, 1, -1, api.MaxValue, -api.MaxValue} {
		for _, d := range validDims() {
			for _, other := range validDims() {
				a, b := api.Quantity{N: n, D: d}, api.Quantity{D: other}
				q, e := Div(a, b)
				checkQuantity(t, q, e, 0, d, api.ErrArg, "Div", a, b)
			}
		}
	}
}

// TestDivExponents checks P4.6 for every pair of exponents at each base unit: the quotient is rejected where the difference is 9 or more, or -9 or less.
func TestDivExponents(t *testing.T) {
	for _, n := range []int{0, 2, -6} {
		for base := range 5 {
			for i := -8; i <= 8; i++ {
				for j := -8; j <= 8; j++ {
					a, b := api.Quantity{N: n, D: only(base, i)}, api.Quantity{N: 2, D: only(base, j)}
					want := api.OK
					if i-j < -8 || i-j > 8 {
						want = api.ErrRange
					}
					q, e := Div(a, b)
					checkQuantity(t, q, e, n/2, only(base, i-j), want, "Div", a, b)
				}
			}
		}
	}
}

// TestCompare checks P4.7: less, equal and greater, among negative numbers and at the ends of the range.
func TestCompare(t *testing.T) {
	const most = api.MaxValue
	for _, c := range []struct{ a, b, want int }{
		{0, 0, 0},
		{3, 4, -1},
		{4, 3, 1},
		{4, 4, 0},
		{-3, -4, 1},
		{-4, -3, -1},
		{-1, 1, -1},
		{1, -1, 1},
		{5, 500, -1},
		{500, 5, 1},
		{most, most, 0},
		{-most, -most, 0},
		{most, -most, 1},
		{-most, most, -1},
		{most - 1, most, -1},
	} {
		for _, d := range validDims() {
			got, e := Compare(api.Quantity{N: c.a, D: d}, api.Quantity{N: c.b, D: d})
			if got != c.want || e != api.OK {
				t.Errorf("Compare of %d and %d in %v = %d, %v, want %d", c.a, c.b, d, got, e, c.want)
			}
		}
	}
}

// TestInverses checks P4.11 for quantities of all kinds: differences undo sums, quotients undo products, and an order is the sign of a difference.
func TestInverses(t *testing.T) {
	random := rand.New(rand.NewSource(3))
	sums, products, differences := 0, 0, 0
	for range 40000 {
		a := api.Quantity{N: randomNumber(random), D: randomDim(random, 5)}
		b := api.Quantity{N: randomNumber(random), D: a.D}
		if sum, e := Add(a, b); e == api.OK {
			sums++
			if back, e := Sub(sum, b); back != a || e != api.OK {
				t.Errorf("Sub(Add(%v, %v), %v) = %v, %v", a, b, b, back, e)
			}
		}
		if difference, e := Sub(a, b); e == api.OK {
			differences++
			if order, e := Compare(a, b); order != sign(difference.N) || e != api.OK {
				t.Errorf("Compare(%v, %v) = %d, %v, but the difference is %v", a, b, order, e, difference)
			}
		}
		b.D = randomDim(random, 5)
		if product, e := Mul(a, b); e == api.OK && b.N != 0 {
			products++
			if back, e := Div(product, b); back != a || e != api.OK {
				t.Errorf("Div(Mul(%v, %v), %v) = %v, %v", a, b, b, back, e)
			}
		}
	}
	if min(sums, products, differences) < 1000 {
		t.Errorf("only %d sums, %d products and %d differences were tried", sums, products, differences)
	}
}

// checkQuantity checks the result of an operation: the quantity n of the dimension d, or only the error e.
func checkQuantity(t *testing.T, q api.Quantity, got api.Errno, n int, d api.Dim, e api.Errno, name string, a, b any) {
	t.Helper()
	want := api.Quantity{N: n, D: d}
	if e != api.OK {
		want = api.Quantity{}
	}
	if q != want || got != e {
		t.Errorf("%s of %v and %v = %v, %v, want %v, %v", name, a, b, q, got, want, e)
	}
}

// checkQuotient checks the quotient of a and b against the property P4.12 and against the Euclidean quotient, which differs from it only for a negative b.
func checkQuotient(t *testing.T, a, b int) {
	t.Helper()
	q, e := Div(api.Quantity{N: a}, api.Quantity{N: b})
	if e != api.OK {
		t.Fatalf("Div of %d and %d: %v", a, b, e)
	}
	n := q.N
	if b > 0 && (a < n*b || a >= (n+1)*b) || b < 0 && (a > n*b || a <= (n+1)*b) {
		t.Errorf("Div of %d and %d = %d", a, b, n)
	}
	dividend, divisor := big.NewInt(int64(a)), big.NewInt(int64(b))
	if b < 0 { // the quotient is the same with both signs changed
		dividend.Neg(dividend)
		divisor.Neg(divisor)
	}
	if want := new(big.Int).Div(dividend, divisor).Int64(); int64(n) != want {
		t.Errorf("Div of %d and %d = %d, want %d", a, b, n, want)
	}
}

// validDims returns dimensions of valid quantities that differ from each other in one exponent or more, by sign, by size or by place.
func validDims() []api.Dim {
	dims := []api.Dim{{}, all(8), all(-8), dim(1, 2, 3, 4, 5), dim(1, 2, 3, 5, 4)}
	for base := range 5 {
		dims = append(dims, only(base, 1), only(base, -1), only(base, 8), only(base, -8))
	}
	return dims
}

// dim returns the dimension with these exponents.
func dim(energy, data, time, angle, heat int) api.Dim {
	return api.Dim{Energy: energy, Data: data, Time: time, Angle: angle, Heat: heat}
}

// all returns the dimension whose exponents are all n.
func all(n int) api.Dim {
	return dim(n, n, n, n, n)
}

// only returns the dimension with the exponent n at one base unit.
func only(base, n int) api.Dim {
	var list [5]int
	list[base] = n
	return dim(list[0], list[1], list[2], list[3], list[4])
}

// randomDim returns a dimension with exponents from -limit to limit, the ends among them.
func randomDim(random *rand.Rand, limit int) api.Dim {
	exponent := func() int {
		switch random.Intn(4) {
		case 0:
			return 0
		case 1:
			return limit * (2*random.Intn(2) - 1)
		}
		return random.Intn(2*limit+1) - limit
	}
	return dim(exponent(), exponent(), exponent(), exponent(), exponent())
}

// randomNumber returns the number of a valid quantity; numbers of every size are about equally likely.
func randomNumber(random *rand.Rand) int {
	switch random.Intn(10) {
	case 0:
		return api.MaxValue - random.Intn(3)
	case 1:
		return random.Intn(3) - api.MaxValue
	}
	n := random.Intn(1 << random.Intn(32))
	if random.Intn(2) == 0 {
		return -n
	}
	return n
}

// sign returns -1, 0 or 1.
func sign(n int) int {
	switch {
	case n < 0:
		return -1
	case n > 0:
		return 1
	}
	return 0
}
