package wire

import (
	"bytes"
	"math"
	"math/big"
	"math/rand"
	"slices"
	"strconv"
	"testing"

	"perigee/api"
)

var top = []byte{255, 255, 255, 255, 255, 255, 255, 255, 255, 1} // the encoding of 2^64 - 1

var uintCases = []struct {
	n    uint64
	want []byte
}{
	{0, []byte{0}},
	{1, []byte{1}},
	{127, []byte{127}},
	{128, []byte{128, 1}},
	{129, []byte{129, 1}},
	{255, []byte{255, 1}},
	{256, []byte{128, 2}},
	{300, []byte{172, 2}},
	{1<<14 - 1, []byte{255, 127}},
	{1 << 14, []byte{128, 128, 1}},
	{1<<56 - 1, []byte{255, 255, 255, 255, 255, 255, 255, 127}},
	{1 << 56, []byte{128, 128, 128, 128, 128, 128, 128, 128, 1}},
	{1<<63 - 1, []byte{255, 255, 255, 255, 255, 255, 255, 255, 127}},
	{1 << 63, []byte{128, 128, 128, 128, 128, 128, 128, 128, 128, 1}},
	{math.MaxUint64, top},
}

var intCases = []struct {
	n    int
	want []byte
}{
	{0, []byte{0}},
	{-1, []byte{1}},
	{1, []byte{2}},
	{-3, []byte{5}},
	{3, []byte{6}},
	{63, []byte{126}},
	{-64, []byte{127}},
	{64, []byte{128, 1}},
	{-65, []byte{129, 1}},
	{math.MaxInt32, []byte{254, 255, 255, 255, 15}},
	{-math.MaxInt32, []byte{253, 255, 255, 255, 15}},
	{math.MaxInt, []byte{254, 255, 255, 255, 255, 255, 255, 255, 255, 1}},
	{math.MinInt, top},
}

// TestWriteUint checks P2.1 for unsigned numbers of 1 to 10 bytes.
func TestWriteUint(t *testing.T) {
	for _, c := range uintCases {
		if got := encodedUint(c.n); !bytes.Equal(got, c.want) {
			t.Errorf("Uint(%d) appends %v, want %v", c.n, got, c.want)
		}
	}
	for _, n := range samples() {
		if got, want := encodedUint(n), groupsOf(n); !bytes.Equal(got, want) {
			t.Errorf("Uint(%d) appends %v, want %v", n, got, want)
		}
	}
}

// TestWriteInt checks P2.1 for numbers of both signs.
func TestWriteInt(t *testing.T) {
	for _, c := range intCases {
		if got := encodedInt(c.n); !bytes.Equal(got, c.want) {
			t.Errorf("Int(%d) appends %v, want %v", c.n, got, c.want)
		}
	}
	for _, s := range samples() {
		n := int(s)
		if got, want := encodedInt(n), groupsOf(unsignedOf(n)); !bytes.Equal(got, want) {
			t.Errorf("Int(%d) appends %v, want %v", n, got, want)
		}
	}
}

// TestWriteBytes checks P2.1 for slices: nil, empty, and with a length of one and of two bytes.
func TestWriteBytes(t *testing.T) {
	for _, length := range []int{0, 1, 2, 127, 128, 300} {
		b := countedBytes(length)
		want := append(groupsOf(uint64(length)), b...)
		if got := encodedBytes(b); !bytes.Equal(got, want) {
			t.Errorf("Bytes of %d bytes appends %v", length, got)
		}
	}
	if got := encodedBytes(nil); !bytes.Equal(got, []byte{0}) {
		t.Errorf("Bytes(nil) appends %v", got)
	}
}

// TestWriteInts checks P2.1 for lists: nil, empty, all the numbers of the table, and with a length of two bytes.
func TestWriteInts(t *testing.T) {
	for _, l := range [][]int{nil, {}, {0}, {3, -3}, caseInts(), make([]int, 128)} {
		want := groupsOf(uint64(len(l)))
		for _, n := range l {
			want = append(want, groupsOf(unsignedOf(n))...)
		}
		if got := encodedInts(l); !bytes.Equal(got, want) {
			t.Errorf("Ints(%v) appends %v, want %v", l, got, want)
		}
	}
}

// TestWriterAppends checks P2.1 and P2.2: values follow each other in the order of the calls, and Done leaves them in place.
func TestWriterAppends(t *testing.T) {
	var w Writer
	steps := []struct {
		write func()
		more  []byte
	}{
		{func() {}, nil},
		{func() { w.Uint(300) }, []byte{172, 2}},
		{func() { w.Int(-3) }, []byte{5}},
		{func() { w.Bytes([]byte{7, 8}) }, []byte{2, 7, 8}},
		{func() { w.Ints([]int{3, -64, 64}) }, []byte{3, 6, 127, 128, 1}},
		{func() { w.Bytes(nil) }, []byte{0}},
		{func() { w.Ints(nil) }, []byte{0}},
		{func() { w.Uint(0) }, []byte{0}},
	}
	var want []byte
	for i, s := range steps {
		s.write()
		want = append(want, s.more...)
		for range 2 {
			if got := w.Done(); !bytes.Equal(got, want) {
				t.Fatalf("step %d: %v, want %v", i, got, want)
			}
		}
	}
}

// TestDoneCopies checks P2.2 and P2.10: neither writing into a result and its spare capacity, nor appending values, reaches across.
func TestDoneCopies(t *testing.T) {
	var w Writer
	w.Bytes([]byte{7, 8})
	first := w.Done()
	clear(first[:cap(first)])
	second := w.Done()
	w.Uint(9)
	w.Uint(10)
	if want := []byte{2, 7, 8}; !bytes.Equal(second, want) {
		t.Errorf("an earlier result became %v, want %v", second, want)
	}
	clear(second[:cap(second)])
	if got, want := w.Done(), []byte{2, 7, 8, 9, 10}; !bytes.Equal(got, want) {
		t.Errorf("%v, want %v", got, want)
	}
}

// TestWriterKeepsNoArgument checks P2.10 and R4: arguments are neither changed nor retained.
func TestWriterKeepsNoArgument(t *testing.T) {
	var w Writer
	b, l := []byte{7, 8, 99, 99}, []int{3, -3, 99, 99}
	w.Bytes(b[:2])
	w.Ints(l[:2])
	if !bytes.Equal(b, []byte{7, 8, 99, 99}) || !slices.Equal(l, []int{3, -3, 99, 99}) {
		t.Errorf("an argument was changed: %v, %v", b, l)
	}
	clear(b)
	clear(l)
	if got, want := w.Done(), []byte{2, 7, 8, 2, 6, 5}; !bytes.Equal(got, want) {
		t.Errorf("%v, want %v", got, want)
	}
}

// TestNewReader checks P2.3: a reader begins at offset 0 without an error.
func TestNewReader(t *testing.T) {
	for _, b := range [][]byte{nil, {}} {
		if r := NewReader(b); r.Err() != api.OK || r.End() != api.OK {
			t.Errorf("no bytes: Err %d, End %d", r.Err(), r.End())
		}
	}
	r := NewReader([]byte{4, 5})
	if r.Err() != api.OK || r.Uint() != 4 || r.Uint() != 5 || r.End() != api.OK {
		t.Error("a reader does not read its bytes from the first to the last one")
	}
}

// TestReaderKeepsNoArgument checks P2.3, P2.10 and R4: a reader has the bytes that there were when it was made, and leaves those of its caller alone.
func TestReaderKeepsNoArgument(t *testing.T) {
	b := []byte{2, 7, 8, 2, 6, 5, 99, 99}
	r := NewReader(b[:6])
	clear(b)
	x, y := r.Bytes(2), r.Ints(2)
	if !bytes.Equal(x, []byte{7, 8}) || !slices.Equal(y, []int{3, -3}) || r.End() != api.OK {
		t.Errorf("%v, %v, End %d", x, y, r.End())
	}
	if !bytes.Equal(b, make([]byte, 8)) {
		t.Errorf("the argument became %v", b)
	}
}

// TestReaderResultsAreApart checks P2.10: writing into results and their spare capacity does not change what is read afterwards.
func TestReaderResultsAreApart(t *testing.T) {
	r := NewReader([]byte{2, 7, 8, 2, 9, 10, 2, 6, 5, 2, 4, 3})
	first := r.Bytes(2)
	clear(first[:cap(first)])
	second := r.Bytes(2)
	third := r.Ints(2)
	clear(third[:cap(third)])
	fourth := r.Ints(2)
	if !bytes.Equal(second, []byte{9, 10}) || !slices.Equal(fourth, []int{2, -2}) || r.End() != api.OK {
		t.Errorf("%v, %v, End %d", second, fourth, r.End())
	}
}

// TestReadUint checks P2.4: the number of each encoding, and that exactly its bytes are read.
func TestReadUint(t *testing.T) {
	for _, c := range uintCases {
		r := NewReader(append(slices.Clone(c.want), 77))
		if got := r.Uint(); got != c.n || r.Err() != api.OK || r.End() != api.ErrForm {
			t.Errorf("Uint() of %v = %d, Err %d", c.want, got, r.Err())
		}
		if got := r.Uint(); got != 77 || r.End() != api.OK {
			t.Errorf("%v: the next number is %d", c.want, got)
		}
	}
}

// TestReadInt checks P2.4 in the same way for numbers of both signs.
func TestReadInt(t *testing.T) {
	for _, c := range intCases {
		r := NewReader(append(slices.Clone(c.want), 77))
		if got := r.Int(); got != c.n || r.Err() != api.OK || r.End() != api.ErrForm {
			t.Errorf("Int() of %v = %d, Err %d", c.want, got, r.Err())
		}
		if got := r.Int(); got != -39 || r.End() != api.OK {
			t.Errorf("%v: the next number is %d", c.want, got)
		}
	}
}

var badNumbers = []struct {
	b    []byte
	want api.Errno
}{
	{nil, api.ErrShort},
	{[]byte{128}, api.ErrShort},
	{[]byte{255}, api.ErrShort},
	{[]byte{128, 128}, api.ErrShort},
	{top[:9], api.ErrShort},
	{[]byte{128, 0}, api.ErrForm},
	{[]byte{255, 0}, api.ErrForm},
	{[]byte{128, 128, 0}, api.ErrForm},
	{[]byte{128, 0, 128}, api.ErrForm}, // before the bytes that are missing
	{append(slices.Clone(top[:8]), 0), api.ErrForm},
	{append(slices.Clone(top[:9]), 0), api.ErrForm},
	{append(slices.Clone(top[:9]), 2), api.ErrForm},
	{append(slices.Clone(top[:9]), 3), api.ErrForm},
	{append(slices.Clone(top[:9]), 127), api.ErrForm},
	{append(slices.Clone(top[:9]), 128), api.ErrForm}, // and no eleventh byte is missed
	{append(slices.Clone(top[:9]), 129), api.ErrForm},
	{append(slices.Clone(top[:9]), 255), api.ErrForm},
	{append(slices.Clone(top[:9]), 129, 1), api.ErrForm},
	{bytes.Repeat([]byte{255}, 40), api.ErrForm},
}

// TestBadNumbers checks the errors of P2.4 for Uint and Int, and those of P2.5 for a length and for the elements of a list.
func TestBadNumbers(t *testing.T) {
	for _, c := range badNumbers {
		for name, failed := range map[string]func(r *Reader) bool{
			"Uint":  func(r *Reader) bool { return r.Uint() == 0 },
			"Int":   func(r *Reader) bool { return r.Int() == 0 },
			"Bytes": func(r *Reader) bool { return r.Bytes(math.MaxInt) == nil },
			"Ints":  func(r *Reader) bool { return r.Ints(math.MaxInt) == nil },
			// The error of the length precedes that of the limit.
			"Bytes(-1)": func(r *Reader) bool { return r.Bytes(-1) == nil },
			"Ints(-1)":  func(r *Reader) bool { return r.Ints(-1) == nil },
		} {
			r := NewReader(c.b)
			if !failed(r) || r.Err() != c.want || r.End() != c.want {
				t.Errorf("%s of %v: Err %d, want %d", name, c.b, r.Err(), c.want)
			}
		}
		r := NewReader(append([]byte{3, 6}, c.b...))
		if l := r.Ints(3); l != nil || r.Err() != c.want {
			t.Errorf("Ints of 3, 6 and %v = %v, Err %d, want %d", c.b, l, r.Err(), c.want)
		}
	}
}

// TestReadsLikeDefinition checks P2.4 for all sequences of up to two bytes and many longer ones, against the definition in plain words.
func TestReadsLikeDefinition(t *testing.T) {
	check := func(b []byte) {
		t.Helper()
		want, length, e := numberOf(b)
		r := NewReader(b)
		if got := r.Uint(); got != want || r.Err() != e || e == api.OK && r.next != length {
			t.Errorf("Uint() of %v = %d, Err %d, offset %d; want %d, %d, %d", b, got, r.Err(), r.next, want, e, length)
		}
	}
	check(nil)
	for i := range 256 {
		check([]byte{byte(i)})
		for j := range 256 {
			check([]byte{byte(i), byte(j)})
		}
	}
	random := rand.New(rand.NewSource(1))
	for range 20000 {
		check(randomBytes(random, 12))
	}
}

// TestReadBytes checks P2.5 for slices, with limits that just suffice and that are generous.
func TestReadBytes(t *testing.T) {
	for _, length := range []int{0, 1, 2, 127, 128, 300} {
		for _, most := range []int{length, length + 1, math.MaxInt} {
			want := countedBytes(length)
			r := NewReader(append(groupsOf(uint64(length)), want...))
			if got := r.Bytes(most); !bytes.Equal(got, want) || r.End() != api.OK {
				t.Errorf("Bytes(%d) of %d bytes = %v, End %d", most, length, got, r.End())
			}
		}
	}
}

// TestReadInts checks P2.5 for lists in the same way.
func TestReadInts(t *testing.T) {
	for _, want := range [][]int{nil, {0}, {3, -3}, caseInts(), make([]int, 128)} {
		for _, most := range []int{len(want), len(want) + 1, math.MaxInt} {
			r := NewReader(encodedInts(want))
			if got := r.Ints(most); !slices.Equal(got, want) || r.End() != api.OK {
				t.Errorf("Ints(%d) = %v, End %d, want %v", most, got, r.End(), want)
			}
		}
	}
}

// TestLimits checks the errors of P2.5 for the limit and for missing bytes, in their order, with lengths up to 2^64 - 1.
func TestLimits(t *testing.T) {
	half := encodedUint(1 << 63)
	huge := encodedUint(math.MaxInt)
	for _, c := range []struct {
		b           []byte
		most        int
		bytes, ints api.Errno
	}{
		{[]byte{0}, 0, api.OK, api.OK},
		{[]byte{0}, -1, api.ErrLimit, api.ErrLimit},
		{[]byte{0}, math.MinInt, api.ErrLimit, api.ErrLimit},
		{[]byte{1, 5}, -1, api.ErrLimit, api.ErrLimit},
		{[]byte{1, 5}, 0, api.ErrLimit, api.ErrLimit},
		{[]byte{2, 7, 8}, 1, api.ErrLimit, api.ErrLimit},
		{[]byte{2, 7}, 1, api.ErrLimit, api.ErrLimit}, // before the byte that is missing
		{[]byte{2, 128, 0}, 1, api.ErrLimit, api.ErrLimit},
		{[]byte{2, 7, 8}, 2, api.OK, api.OK},
		{[]byte{1}, 1, api.ErrShort, api.ErrShort},
		{[]byte{3, 7, 8}, 3, api.ErrShort, api.ErrShort},
		{[]byte{3, 7, 8}, 9, api.ErrShort, api.ErrShort},
		{[]byte{3, 128, 0}, 3, api.ErrShort, api.ErrForm}, // the bytes are counted first, the elements read one by one
		{[]byte{3, 7, 128}, 3, api.ErrShort, api.ErrShort},
		{[]byte{2, 128, 0}, 2, api.OK, api.ErrForm},
		{huge, math.MaxInt, api.ErrShort, api.ErrShort},
		{huge, math.MaxInt - 1, api.ErrLimit, api.ErrLimit},
		{half, math.MaxInt, api.ErrLimit, api.ErrLimit},
		{half, -1, api.ErrLimit, api.ErrLimit},
		{top, math.MaxInt, api.ErrLimit, api.ErrLimit},
		{top, -1, api.ErrLimit, api.ErrLimit},
	} {
		r := NewReader(c.b)
		if b := r.Bytes(c.most); r.Err() != c.bytes || c.bytes != api.OK && b != nil {
			t.Errorf("Bytes(%d) of %v = %v, Err %d, want %d", c.most, c.b, b, r.Err(), c.bytes)
		}
		r = NewReader(c.b)
		if l := r.Ints(c.most); r.Err() != c.ints || c.ints != api.OK && l != nil {
			t.Errorf("Ints(%d) of %v = %v, Err %d, want %d", c.most, c.b, l, r.Err(), c.ints)
		}
	}
}

// TestFail checks P2.6: only the first error is recorded, and OK is none.
func TestFail(t *testing.T) {
	r := NewReader([]byte{5})
	r.Fail(api.OK)
	if r.Err() != api.OK || r.End() != api.ErrForm || r.Uint() != 5 || r.End() != api.OK {
		t.Error("Fail(OK) changes something")
	}
	r.Fail(api.ErrSum)
	r.Fail(api.ErrFull)
	r.Fail(api.OK)
	if r.Err() != api.ErrSum || r.End() != api.ErrSum {
		t.Errorf("Err %d, End %d", r.Err(), r.End())
	}
	r = NewReader(nil)
	r.Uint()
	r.Fail(api.ErrSum)
	if r.Err() != api.ErrShort {
		t.Errorf("Fail replaces the error of a read by %d", r.Err())
	}
}

// TestErrAndEndChangeNothing checks P2.6: End looks whether bytes are left, and neither it nor Err records anything.
func TestErrAndEndChangeNothing(t *testing.T) {
	r := NewReader([]byte{1, 2, 3})
	for i := range 3 {
		for range 2 {
			if r.End() != api.ErrForm || r.Err() != api.OK {
				t.Fatalf("before number %d: End %d, Err %d", i, r.End(), r.Err())
			}
		}
		if n := r.Uint(); n != uint64(i+1) {
			t.Fatalf("number %d is %d", i, n)
		}
	}
	if r.End() != api.OK || r.End() != api.OK || r.Err() != api.OK {
		t.Errorf("at the end: End %d, Err %d", r.End(), r.Err())
	}
	r.Fail(api.ErrBase)
	if r.End() != api.ErrBase || r.Err() != api.ErrBase {
		t.Errorf("with an error: End %d, Err %d", r.End(), r.Err())
	}
}

// TestFirstErrorRemains checks P2.10 for each way to meet an error, with bytes left that could be read.
func TestFirstErrorRemains(t *testing.T) {
	for i, c := range []struct {
		b    []byte
		meet func(r *Reader)
		want api.Errno
	}{
		{[]byte{128, 0, 1, 1}, func(r *Reader) { r.Uint() }, api.ErrForm},
		{[]byte{128, 0, 1, 1}, func(r *Reader) { r.Int() }, api.ErrForm},
		{[]byte{1, 1, 1, 1}, func(r *Reader) { r.Bytes(0) }, api.ErrLimit},
		{[]byte{1, 1, 1, 1}, func(r *Reader) { r.Ints(0) }, api.ErrLimit},
		{[]byte{4, 1, 1, 1}, func(r *Reader) { r.Bytes(4) }, api.ErrShort},
		{[]byte{4, 1, 1, 1}, func(r *Reader) { r.Ints(4) }, api.ErrShort},
		{[]byte{1, 1, 1, 1}, func(r *Reader) { r.Fail(api.ErrCert) }, api.ErrCert},
	} {
		r := NewReader(c.b)
		c.meet(r)
		before := *r
		for range 2 {
			if r.Uint() != 0 || r.Int() != 0 || r.Bytes(9) != nil || r.Ints(9) != nil || r.Bytes(-1) != nil || r.Ints(-1) != nil {
				t.Errorf("case %d: a read after the error returns something", i)
			}
			r.Fail(api.ErrFull)
			if r.Err() != c.want || r.End() != c.want {
				t.Errorf("case %d: Err %d, End %d, want %d", i, r.Err(), r.End(), c.want)
			}
		}
		if r.next != before.next {
			t.Errorf("case %d: a read after the error moves on", i)
		}
	}
}

// TestReadBack checks P2.7 with values of all four types in random order, and with all proper prefixes of their bytes.
func TestReadBack(t *testing.T) {
	random := rand.New(rand.NewSource(2))
	for range 300 {
		values := randomValues(random)
		b := written(values)
		got, r := readLike(values, b)
		if !slices.EqualFunc(got, values, value.equal) || r.End() != api.OK {
			t.Fatalf("%v was read as %v, End %d", values, got, r.End())
		}
		for n := range b {
			if _, r := readLike(values, b[:n]); r.Err() != api.ErrShort {
				t.Fatalf("%v: the prefix of %d bytes has Err %d", values, n, r.Err())
			}
		}
	}
}

// TestOnlyOneEncoding checks P2.8: random bytes that can be read as values to their end are the bytes of these values.
func TestOnlyOneEncoding(t *testing.T) {
	random := rand.New(rand.NewSource(3))
	ended := 0
	for range 20000 {
		b := randomBytes(random, 12)
		var got []value
		r := NewReader(b)
		for r.End() == api.ErrForm && r.Err() == api.OK {
			got = append(got, readValue(r, kind(random.Intn(4))))
		}
		if r.End() == api.OK {
			ended++
			if again := written(got); !bytes.Equal(again, b) {
				t.Fatalf("%v is read as %v, which is written as %v", b, got, again)
			}
		}
	}
	if ended < 1000 {
		t.Errorf("only %d sequences could be read to their end", ended)
	}
}

// TestPrefixFree checks P2.9 for unsigned numbers and for numbers, next to each other in a sorted list: there a prefix stands before what it begins.
func TestPrefixFree(t *testing.T) {
	for name, encode := range map[string]func(n uint64) []byte{
		"Uint": encodedUint,
		"Int":  func(n uint64) []byte { return encodedInt(int(n)) },
	} {
		var all [][]byte
		for _, n := range samples() {
			all = append(all, encode(n))
		}
		slices.SortFunc(all, bytes.Compare)
		for i := 1; i < len(all); i++ {
			if bytes.HasPrefix(all[i], all[i-1]) {
				t.Errorf("%s: %v is a prefix of %v", name, all[i-1], all[i])
			}
		}
	}
}

// TestZeroWriter checks that the zero value of Writer has collected nothing, and that two writers are apart.
func TestZeroWriter(t *testing.T) {
	var v, w Writer
	v.Uint(5)
	if len(w.Done()) != 0 || len(new(Writer).Done()) != 0 || !bytes.Equal(v.Done(), []byte{5}) {
		t.Errorf("%v, %v", w.Done(), v.Done())
	}
}

// TestExamples checks the examples of the chapter.
func TestExamples(t *testing.T) {
	if !bytes.Equal(encodedUint(300), []byte{172, 2}) || !bytes.Equal(encodedInt(-3), []byte{5}) || !bytes.Equal(encodedInt(3), []byte{6}) || !bytes.Equal(encodedBytes([]byte{7, 8}), []byte{2, 7, 8}) {
		t.Error("writing")
	}
	if NewReader([]byte{172, 2}).Uint() != 300 {
		t.Error("reading 300")
	}
	for _, c := range []struct {
		b    []byte
		read func(r *Reader)
		want api.Errno
	}{
		{[]byte{128, 0}, func(r *Reader) { r.Uint() }, api.ErrForm},
		{[]byte{128}, func(r *Reader) { r.Uint() }, api.ErrShort},
		{[]byte{2, 7, 8}, func(r *Reader) { r.Bytes(1) }, api.ErrLimit},
	} {
		r := NewReader(c.b)
		c.read(r)
		if r.Err() != c.want {
			t.Errorf("%v: Err %d, want %d", c.b, r.Err(), c.want)
		}
	}
}

func encodedUint(n uint64) []byte {
	var w Writer
	w.Uint(n)
	return w.Done()
}

func encodedInt(n int) []byte {
	var w Writer
	w.Int(n)
	return w.Done()
}

func encodedBytes(b []byte) []byte {
	var w Writer
	w.Bytes(b)
	return w.Done()
}

func encodedInts(l []int) []byte {
	var w Writer
	w.Ints(l)
	return w.Done()
}

// groupsOf returns the encoding of n by the letter of the definition: its binary digits, cut into groups of 7 from the right.
func groupsOf(n uint64) []byte {
	digits := strconv.FormatUint(n, 2)
	var groups []byte
	for len(digits) > 0 {
		cut := max(0, len(digits)-7)
		group, err := strconv.ParseUint(digits[cut:], 2, 7)
		if err != nil {
			panic(err)
		}
		if cut > 0 {
			group += 128
		}
		groups = append(groups, byte(group))
		digits = digits[:cut]
	}
	return groups
}

// unsignedOf returns 2n, or -2n - 1 if n is negative, in arithmetic without a wraparound.
func unsignedOf(n int) uint64 {
	double := new(big.Int).Mul(big.NewInt(int64(n)), big.NewInt(2))
	if n < 0 {
		double.Neg(double).Sub(double, big.NewInt(1))
	}
	return double.Uint64()
}

// numberOf returns the number at the beginning of b and the length of its encoding, or the error of P2.4.
func numberOf(b []byte) (uint64, int, api.Errno) {
	digits := ""
	for i := range 10 {
		if i == len(b) {
			return 0, 0, api.ErrShort
		}
		if i == 9 && b[i] != 1 || i > 0 && b[i] == 0 {
			return 0, 0, api.ErrForm
		}
		group := strconv.FormatUint(uint64(b[i]%128)+128, 2)
		digits = group[1:] + digits
		if b[i] < 128 {
			n, ok := new(big.Int).SetString(digits, 2)
			if !ok || !n.IsUint64() {
				panic(digits)
			}
			return n.Uint64(), i + 1, api.OK
		}
	}
	panic("an encoding of more than ten bytes")
}

// samples returns different numbers: small ones, those that are negative as an int and near zero, and those around powers of two.
func samples() []uint64 {
	var list []uint64
	for n := range 400 {
		list = append(list, uint64(n), uint64(-n-1))
	}
	for bit := 9; bit < 64; bit++ {
		list = append(list, 1<<bit-1, 1<<bit, 1<<bit+1)
	}
	slices.Sort(list)
	return slices.Compact(list)
}

func countedBytes(length int) []byte {
	b := make([]byte, length)
	for i := range b {
		b[i] = byte(i + 100)
	}
	return b
}

func caseInts() []int {
	var l []int
	for _, c := range intCases {
		l = append(l, c.n)
	}
	return l
}

// randomBytes returns fewer than most bytes, many of which are small, or stand near the limits of a group.
func randomBytes(random *rand.Rand, most int) []byte {
	b := make([]byte, random.Intn(most))
	for i := range b {
		switch random.Intn(4) {
		case 0:
			b[i] = byte(random.Intn(4))
		case 1:
			b[i] = byte(126 + random.Intn(4))
		case 2:
			b[i] = 255
		default:
			b[i] = byte(random.Intn(256))
		}
	}
	return b
}

type kind int

// value is a value of one of the four types; the other fields are zero.
type value struct {
	kind     kind
	unsigned uint64
	signed   int
	bytes    []byte
	ints     []int
}

func (v value) equal(o value) bool {
	return v.kind == o.kind && v.unsigned == o.unsigned && v.signed == o.signed && bytes.Equal(v.bytes, o.bytes) && slices.Equal(v.ints, o.ints)
}

func randomValues(random *rand.Rand) []value {
	values := make([]value, 1+random.Intn(6))
	for i := range values {
		v := value{kind: kind(random.Intn(4))}
		switch v.kind {
		case 0:
			v.unsigned = random.Uint64() >> random.Intn(64)
		case 1:
			v.signed = randomInt(random)
		case 2:
			v.bytes = randomBytes(random, 200)
		default:
			for range random.Intn(5) {
				v.ints = append(v.ints, randomInt(random))
			}
		}
		values[i] = v
	}
	return values
}

func randomInt(random *rand.Rand) int {
	return int(random.Uint64()) >> random.Intn(64)
}

func written(values []value) []byte {
	var w Writer
	for _, v := range values {
		switch v.kind {
		case 0:
			w.Uint(v.unsigned)
		case 1:
			w.Int(v.signed)
		case 2:
			w.Bytes(v.bytes)
		default:
			w.Ints(v.ints)
		}
	}
	return w.Done()
}

// readLike reads values of the same kinds, in the same order.
func readLike(values []value, b []byte) ([]value, *Reader) {
	r := NewReader(b)
	var got []value
	for _, v := range values {
		got = append(got, readValue(r, v.kind))
	}
	return got, r
}

func readValue(r *Reader, k kind) value {
	v := value{kind: k}
	switch k {
	case 0:
		v.unsigned = r.Uint()
	case 1:
		v.signed = r.Int()
	case 2:
		v.bytes = r.Bytes(1000)
	default:
		v.ints = r.Ints(1000)
	}
	return v
}
