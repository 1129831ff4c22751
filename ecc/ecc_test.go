package ecc

import (
	"math"
	"math/rand"
	"testing"

	"perigee/api"
	"perigee/wire"
)

// TestEncode checks P5.1: no bit, all bits, each run of data positions, and others. The code words were computed by a program in another language.
func TestEncode(t *testing.T) {
	for _, x := range []struct {
		w    uint32
		want uint64
	}{
		{0, 0},
		{1, 0x4000000007},
		{2, 0x4000000019},
		{3, 0x1e},
		{4, 0x400000002a},
		{0x10, 0x4000000181},
		{0x400, 0x400000408b},
		{0x800, 0x4000018001},
		{0x8000, 0x108009},
		{0x2000000, 0x4000808b},
		{0x4000000, 0x4180000001},
		{0x80000000, 0x208000000a},
		{0x7fffffff, 0x1ffffffffe},
		{math.MaxUint32, 0x3f7ffffff4},
		{0x55555555, 0x55aaaad526},
		{0xaaaaaaaa, 0x6ad5552ad2},
		{0xdeadbeef, 0x77d5b76e77},
		{0x12345678, 0x44c68a67c9},
		{12345, 0x6034e},
	} {
		if got := Encode(x.w); got != x.want {
			t.Errorf("Encode(%#x) = %#x, want %#x", x.w, got, x.want)
		}
	}
}

// TestEncodeFollowsDefinition checks P5.1 for samples of words: what the chapter says of a code word's bits determines all of them.
func TestEncodeFollowsDefinition(t *testing.T) {
	for _, w := range samples() {
		c := Encode(w)
		if c>>39 != 0 {
			t.Errorf("Encode(%#x) = %#x has a bit beyond 38", w, c)
		}
		if got := wordAt(c); got != w {
			t.Errorf("Encode(%#x) = %#x holds %#x", w, c, got)
		}
		for k := range 6 {
			if countSet(c, func(bit int) bool { return bit < 38 && (bit+1)>>k&1 == 1 })%2 != 0 {
				t.Errorf("Encode(%#x) = %#x: an odd number of positions with bit %d", w, c, k)
			}
		}
		if countSet(c, func(bit int) bool { return true })%2 != 0 {
			t.Errorf("Encode(%#x) = %#x: an odd number of bits", w, c)
		}
	}
}

// TestDecodeBeyond checks case 1 of P5.2, which precedes the others: a bit from 39 to 63, whatever the lower bits are.
func TestDecodeBeyond(t *testing.T) {
	for _, w := range []uint32{0, 1, 0xdeadbeef, math.MaxUint32} {
		for _, low := range []uint64{Encode(w), Flip(Encode(w), 38), Flip(Encode(w), 2), Flip(Flip(Encode(w), 1), 5)} {
			for bit := 39; bit < 64; bit++ {
				checkDecode(t, low|1<<bit, 0, 2)
				checkDecode(t, low|1<<bit|1<<(39+(bit-38)%25), 0, 2)
			}
			checkDecode(t, low|^uint64(1<<39-1), 0, 2)
		}
	}
	checkDecode(t, math.MaxUint64, 0, 2)
}

// TestDecodeEverySyndrome checks cases 2, 3 and 4 of P5.2 for each syndrome from 0 to 63 with an even and with an odd number of bits.
func TestDecodeEverySyndrome(t *testing.T) {
	for _, w := range samples() {
		for s := range 64 {
			even := withSyndrome(w, s)
			odd := even ^ 1<<38
			if s == 0 {
				checkDecode(t, even, w, 0)
			} else {
				checkDecode(t, even, 0, 2)
			}
			if s > 38 {
				checkDecode(t, odd, 0, 2)
			} else {
				checkDecode(t, odd, w^dataBitOf(s), 1)
			}
		}
	}
}

// TestFlip checks P5.3: each bit there is, and numbers of bits there are not.
func TestFlip(t *testing.T) {
	for _, c := range codes() {
		for bit := range 64 {
			got := Flip(c, bit)
			for i := range 64 {
				if inverted := got>>i&1 != c>>i&1; inverted != (i == bit) {
					t.Errorf("Flip(%#x, %d) = %#x: bit %d is wrong", c, bit, got, i)
				}
			}
		}
		for _, bit := range []int{-1, -2, -63, -64, -65, 64, 65, 127, 128, 256, 1 << 32, math.MaxInt, math.MinInt, math.MinInt + 1} {
			if got := Flip(c, bit); got != c {
				t.Errorf("Flip(%#x, %d) = %#x, want no change", c, bit, got)
			}
		}
	}
}

// TestDistance checks P5.4: equal and complementary arguments, each single bit, and others.
func TestDistance(t *testing.T) {
	list := codes()
	for _, a := range list {
		if got := Distance(a, ^a); got != 64 {
			t.Errorf("Distance(%#x, %#x) = %d, want 64", a, ^a, got)
		}
		for _, b := range list {
			want := 0
			for i := range 64 {
				if a>>i&1 != b>>i&1 {
					want++
				}
			}
			if got := Distance(a, b); got != want {
				t.Errorf("Distance(%#x, %#x) = %d, want %d", a, b, got, want)
			}
		}
	}
}

// TestSingleFlips checks P5.5: no bit, and each bit from 0 to 38.
func TestSingleFlips(t *testing.T) {
	for _, w := range samples() {
		checkDecode(t, Encode(w), w, 0)
		for bit := range 39 {
			checkDecode(t, Encode(w)^1<<bit, w, 1)
		}
	}
}

// TestDoubleFlips checks P5.6 for each pair of bits from 0 to 38.
func TestDoubleFlips(t *testing.T) {
	for _, w := range samples() {
		for first := range 39 {
			for second := range first {
				checkDecode(t, Encode(w)^1<<first^1<<second, 0, 2)
			}
		}
	}
}

// TestLinearity checks P5.7 for pairs of samples, which include all pairs of single bits.
func TestLinearity(t *testing.T) {
	list := samples()
	for _, v := range list {
		for _, w := range list {
			if got, want := Encode(v^w), Encode(v)^Encode(w); got != want {
				t.Errorf("Encode(%#x ^ %#x) = %#x, want %#x", v, w, got, want)
			}
		}
	}
}

// TestCodeWordsAreFar checks P5.8 for words that differ in one, two or three bits, which are the only ones whose data alone differ in fewer than four.
func TestCodeWordsAreFar(t *testing.T) {
	for _, w := range []uint32{0, 12345, 0xdeadbeef, math.MaxUint32} {
		for i := range 32 {
			for j := range i + 1 {
				for k := range j + 1 {
					checkFar(t, w, w^(1<<i|1<<j|1<<k))
				}
			}
		}
	}
	list := samples()
	for i, v := range list {
		for _, w := range list[:i] {
			if v != w {
				checkFar(t, v, w)
			}
		}
	}
}

// TestDecodeNearest checks P5.9 for code words near to and far from those of words.
func TestDecodeNearest(t *testing.T) {
	random := rand.New(rand.NewSource(1))
	for range 20000 {
		c := random.Uint64() >> 25
		checkNearest(t, c)
		near := Encode(random.Uint32())
		for range random.Intn(6) {
			near ^= 1 << random.Intn(39)
			checkNearest(t, near)
		}
	}
	for c := range uint64(4096) {
		checkNearest(t, c)
		checkNearest(t, c<<27)
	}
}

// TestDistanceIsMetric checks the first half of P5.10.
func TestDistanceIsMetric(t *testing.T) {
	list := codes()
	for i, a := range list {
		for j, b := range list {
			if d := Distance(a, b); (d == 0) != (a == b) || d < 0 || d != Distance(b, a) {
				t.Errorf("Distance(%#x, %#x) = %d and, the other way round, %d", a, b, d, Distance(b, a))
			}
			c := list[(7*i+11*j)%len(list)]
			if Distance(a, c) > Distance(a, b)+Distance(b, c) {
				t.Errorf("%#x is farther from %#x than by way of %#x", a, c, b)
			}
		}
	}
}

// TestFlipTwice checks the second half of P5.10: a second Flip undoes the first one, which changed one bit if there is one.
func TestFlipTwice(t *testing.T) {
	for _, c := range codes() {
		for bit := -70; bit < 140; bit++ {
			want := 0
			if 0 <= bit && bit <= 63 {
				want = 1
			}
			once := Flip(c, bit)
			if got := Distance(c, once); got != want {
				t.Errorf("Flip(%#x, %d) changes %d bits, want %d", c, bit, got, want)
			}
			if got := Flip(once, bit); got != c {
				t.Errorf("Flip(%#x, %d) twice = %#x", c, bit, got)
			}
		}
	}
}

// TestWire checks P5.11 for code words that are written one by one, each bit being inverted in one of them, and none in some.
func TestWire(t *testing.T) {
	words := samples()
	var w wire.Writer
	w.Uint(uint64(len(words)))
	for i, word := range words {
		w.Uint(damaged(word, i))
	}
	r := wire.NewReader(w.Done())
	if n := r.Uint(); n != uint64(len(words)) {
		t.Fatalf("%d code words, want %d", n, len(words))
	}
	for i, word := range words {
		checkDecode(t, r.Uint(), word, statusOf(i))
	}
	if e := r.End(); e != api.OK {
		t.Errorf("End() = %d", e)
	}
}

// TestWireList checks P5.11 for code words that are written as a list of numbers.
func TestWireList(t *testing.T) {
	words := samples()
	var list []int
	for i, word := range words {
		list = append(list, int(damaged(word, i)))
	}
	var w wire.Writer
	w.Ints(list)
	r := wire.NewReader(w.Done())
	got := r.Ints(len(list))
	if e := r.End(); e != api.OK || len(got) != len(words) {
		t.Fatalf("%d code words and the error %d, want %d code words", len(got), e, len(words))
	}
	for i, word := range words {
		checkDecode(t, uint64(got[i]), word, statusOf(i))
	}
}

// TestExamples checks the examples of the chapter.
func TestExamples(t *testing.T) {
	if got := Encode(0); got != 0 {
		t.Errorf("Encode(0) = %#x", got)
	}
	if got := Encode(1); got != 1<<0|1<<1|1<<2|1<<38 {
		t.Errorf("Encode(1) = %#x", got)
	}
	checkDecode(t, 7, 1, 1)
	checkDecode(t, 3, 0, 2)
	checkDecode(t, 4, 0, 1)
	checkDecode(t, 1<<39, 0, 2)
	if got := Flip(0, 64); got != 0 {
		t.Errorf("Flip(0, 64) = %#x", got)
	}
}

// TestResultsRepeat checks that no call changes the result of a later one (R5).
func TestResultsRepeat(t *testing.T) {
	for range 2 {
		if got := Encode(0x12345678); got != 0x44c68a67c9 {
			t.Errorf("Encode = %#x", got)
		}
		for bit := range 39 {
			checkDecode(t, Flip(0x44c68a67c9, bit), 0x12345678, 1)
		}
		checkDecode(t, 0x44c68a67c9^3, 0, 2)
	}
}

func checkDecode(t *testing.T, c uint64, word uint32, status int) {
	t.Helper()
	if w, s := Decode(c); w != word || s != status {
		t.Errorf("Decode(%#x) = %#x, %d, want %#x, %d", c, w, s, word, status)
	}
}

// checkFar checks that the code words of two words differ in at least four bits.
func checkFar(t *testing.T, v, w uint32) {
	t.Helper()
	if d := Distance(Encode(v), Encode(w)); d < 4 {
		t.Errorf("the code words of %#x and %#x differ in %d bits", v, w, d)
	}
}

// checkNearest checks P5.9 for a code word without a bit beyond 38.
func checkNearest(t *testing.T, c uint64) {
	t.Helper()
	w, status := Decode(c)
	switch status {
	case 0, 1:
		if d := Distance(c, Encode(w)); d != status {
			t.Errorf("Decode(%#x) = %#x, %d, but the code word is at the distance %d", c, w, status, d)
		}
	case 2:
		if w != 0 {
			t.Errorf("Decode(%#x) = %#x, 2", c, w)
		}
		for bit := -1; bit < 39; bit++ {
			near := Flip(c, bit)
			if near == Encode(wordAt(near)) {
				t.Errorf("Decode(%#x) = 0, 2, but %#x is a code word", c, near)
			}
		}
	default:
		t.Errorf("Decode(%#x) has the status %d", c, status)
	}
}

// isCheck reports whether a position is a check position.
func isCheck(position int) bool {
	for k := range 6 {
		if position == 1<<k {
			return true
		}
	}
	return false
}

// wordAt returns the word that a code word holds at its data positions.
func wordAt(c uint64) uint32 {
	w, next := uint32(0), uint32(1)
	for position := 1; position <= 38; position++ {
		if isCheck(position) {
			continue
		}
		if c>>(position-1)&1 == 1 {
			w |= next
		}
		next <<= 1
	}
	return w
}

// dataBitOf returns the word of which only the bit at a position is set; 0 for check positions and for position 0.
func dataBitOf(position int) uint32 {
	if position == 0 {
		return 0
	}
	return wordAt(1 << (position - 1))
}

// countSet returns how many of the bits from 0 to 38 that satisfy a condition are set.
func countSet(c uint64, holds func(bit int) bool) int {
	n := 0
	for bit := range 39 {
		if holds(bit) && c>>bit&1 == 1 {
			n++
		}
	}
	return n
}

// withSyndrome returns a code word that has the bits of w at its data positions, a given syndrome, and an even number of bits.
func withSyndrome(w uint32, s int) uint64 {
	c := Encode(w)
	for k := range 6 {
		if s>>k&1 == 1 {
			c ^= 1<<(1<<k-1) | 1<<38
		}
	}
	return c
}

// damaged returns the code word of a word with bit number i modulo 40 inverted, with none if that is 39.
func damaged(w uint32, i int) uint64 {
	if i%40 == 39 {
		return Encode(w)
	}
	return Encode(w) ^ 1<<(i%40)
}

// statusOf returns the status that Decode should return for what damaged returns.
func statusOf(i int) int {
	if i%40 == 39 {
		return 0
	}
	return 1
}

// samples returns words: none and all bits set, all those with a single bit, all those with a single bit missing, and others.
func samples() []uint32 {
	list := []uint32{0, math.MaxUint32, 0x55555555, 0xaaaaaaaa, 0xdeadbeef, 12345}
	for bit := range 32 {
		list = append(list, 1<<bit, ^uint32(1<<bit))
	}
	random := rand.New(rand.NewSource(2))
	for range 60 {
		list = append(list, random.Uint32())
	}
	return list
}

// codes returns numbers of 64 bits: none and all bits set, all those with a single bit, code words, and others.
func codes() []uint64 {
	list := []uint64{0, math.MaxUint64, 0x5555555555555555, 1<<39 - 1}
	for bit := range 64 {
		list = append(list, 1<<bit, ^uint64(1<<bit))
	}
	random := rand.New(rand.NewSource(3))
	for range 40 {
		list = append(list, random.Uint64(), Encode(random.Uint32()))
	}
	return list
}
