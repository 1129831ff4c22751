package crc

import (
	"bytes"
	"encoding/binary"
	"math"
	"math/rand"
	"slices"
	"testing"

	"perigee/api"
)

// The expected values of TestSum and TestCombineVeryLong were computed by a program in another language.

// TestSum checks P3.1: no bytes, few, zero bytes, set bits, every value of a byte, and a text.
func TestSum(t *testing.T) {
	for _, c := range []struct {
		b    []byte
		want uint32
	}{
		{nil, 0},
		{[]byte{}, 0},
		{[]byte("a"), 0xe8b7be43},
		{[]byte("abc"), 0x352441c2},
		{[]byte("123456789"), 0xcbf43926},
		{[]byte{0}, 0xd202ef8d},
		{make([]byte, 4), 0x2144df1c},
		{make([]byte, 32), 0x190a55ad},
		{bytes.Repeat([]byte{255}, 4), 0xffffffff},
		{everyByte(), 0x29058c73},
		{[]byte("perigee, flight and ground software"), 0xd6a9d9db},
	} {
		if got := Sum(c.b); got != c.want {
			t.Errorf("Sum(%q) = %08x, want %08x", c.b, got, c.want)
		}
	}
}

// TestSumFollowsDefinition checks P3.1 for slices of up to 300 bytes, and for each slice of a single byte.
func TestSumFollowsDefinition(t *testing.T) {
	random := rand.New(rand.NewSource(1))
	var list [][]byte
	for v := range 256 {
		list = append(list, []byte{byte(v)})
	}
	for length := range 300 {
		list = append(list, randomBytes(random, length))
	}
	for _, b := range list {
		if got, want := Sum(b), ^fedBitwise(math.MaxUint32, b); got != want {
			t.Errorf("Sum(%v) = %08x, want %08x", b, got, want)
		}
	}
}

// TestUpdateFollowsDefinition checks P3.2 for registers of all kinds, with no bytes, with one, and with more.
func TestUpdateFollowsDefinition(t *testing.T) {
	for _, sum := range registers() {
		for _, b := range [][]byte{nil, {}, {0}, {1}, {128}, {255}, []byte("more bytes"), make([]byte, 7), everyByte()} {
			if got, want := Update(sum, b), ^fedBitwise(^sum, b); got != want {
				t.Errorf("Update(%08x, %v) = %08x, want %08x", sum, b, got, want)
			}
		}
		if got := Update(sum, nil); got != sum {
			t.Errorf("Update(%08x, nil) = %08x", sum, got)
		}
	}
}

// TestUpdateContinues checks P3.2: the checksum of the first part and the second part give the checksum of the whole, wherever it is cut.
func TestUpdateContinues(t *testing.T) {
	whole := everyByte()
	for cut := range len(whole) + 1 {
		if got, want := Update(Sum(whole[:cut]), whole[cut:]), Sum(whole); got != want {
			t.Errorf("cut at %d: %08x, want %08x", cut, got, want)
		}
	}
	sum := Sum(nil)
	for i, b := range whole {
		sum = Update(sum, []byte{b})
		if want := Sum(whole[:i+1]); sum != want {
			t.Errorf("%d bytes, one by one: %08x, want %08x", i+1, sum, want)
		}
	}
}

// TestCombineFollowsDefinition checks P3.3 for lengths up to 300, and around powers of two.
func TestCombineFollowsDefinition(t *testing.T) {
	lengths := []int{511, 512, 513, 4095, 4096, 4097, api.MaxFile - 1, api.MaxFile, api.MaxFile + 1}
	for n := range 301 {
		lengths = append(lengths, n)
	}
	for _, n := range lengths {
		zeros := make([]byte, n)
		for i, a := range []uint32{0, 1, 5, 1 << 31, 0xdeadbeef, math.MaxUint32} {
			b := uint32(i) * 0x9e3779b9
			if got, want := Combine(a, b, n), fedBitwise(a, zeros)^b; got != want {
				t.Errorf("Combine(%08x, %08x, %d) = %08x, want %08x", a, b, n, got, want)
			}
		}
	}
}

// TestCombineFeedsEachBit checks P3.3 for every column of the matrix, and that b is XORed in as it is.
func TestCombineFeedsEachBit(t *testing.T) {
	for _, a := range registers() {
		for _, b := range registers() {
			if got, want := Combine(a, b, 5), fedBitwise(a, make([]byte, 5))^b; got != want {
				t.Errorf("Combine(%08x, %08x, 5) = %08x, want %08x", a, b, got, want)
			}
		}
	}
}

// TestCombineWithoutBytes checks P3.3 for a length of 0, and for lengths below 0: none is fed.
func TestCombineWithoutBytes(t *testing.T) {
	for _, n := range []int{0, -1, -2, -7, -8, -256, math.MinInt32, -1 << 62, math.MinInt + 1, math.MinInt} {
		for _, a := range registers() {
			for _, b := range []uint32{0, 1, 6, 0xcafe0000, math.MaxUint32} {
				if got := Combine(a, b, n); got != a^b {
					t.Errorf("Combine(%08x, %08x, %d) = %08x, want %08x", a, b, n, got, a^b)
				}
			}
		}
	}
}

// TestCombineVeryLong checks P3.3 for lengths that only a number of steps proportional to their digits can reach.
func TestCombineVeryLong(t *testing.T) {
	registers := [4]uint32{1, 0x80000000, math.MaxUint32, 0x12345678}
	for _, c := range []struct {
		n    int
		want [4]uint32 // what the registers become
	}{
		{255, [4]uint32{0x52955477, 0x278d37c1, 0x0b7ae953, 0xf25db86a}},
		{65536, [4]uint32{0x1b4511ee, 0x31fec169, 0x28687114, 0x18faca96}},
		{1<<31 - 1, [4]uint32{0x00000010, 0x6d3d2d4d, 0xff06cbb9, 0xf83461c1}},
		{1<<32 - 2, [4]uint32{0x00000100, 0x6567cb95, 0xf0958fd9, 0x83bf2859}},
		{1<<32 - 1, registers},
		{1 << 32, [4]uint32{0x77073096, 0x00800000, 0x2dfd1072, 0x5ecccd58}},
		{1<<40 + 12345, [4]uint32{0xc2aeaae8, 0xae1d9cd9, 0x8a737136, 0x4268bf49}},
		{1 << 62, [4]uint32{0x76dc4190, 0x20000000, 0xa49b3d4f, 0x048d159e}},
		{math.MaxInt, [4]uint32{0x00000010, 0x6d3d2d4d, 0xff06cbb9, 0xf83461c1}},
	} {
		for i, a := range registers {
			if got, want := Combine(a, 0xa5a50000, c.n), c.want[i]^0xa5a50000; got != want {
				t.Errorf("Combine(%08x, a5a50000, %d) = %08x, want %08x", a, c.n, got, want)
			}
		}
	}
}

// TestSeal checks P3.4: no bytes, the chapter's example, and longer slices.
func TestSeal(t *testing.T) {
	for _, b := range [][]byte{nil, {}, {0}, []byte("a"), []byte("123456789"), make([]byte, 4), bytes.Repeat([]byte{255}, 4), everyByte()} {
		want := binary.LittleEndian.AppendUint32(bytes.Clone(b), Sum(b))
		if got := Seal(b); !bytes.Equal(got, want) {
			t.Errorf("Seal(%v) = %v, want %v", b, got, want)
		}
	}
	if got := Seal(nil); !bytes.Equal(got, make([]byte, 4)) {
		t.Errorf("Seal(nil) = %v", got)
	}
}

// TestOpen checks P3.5: a sealed slice of any length gives back what was sealed, also if that is sealed itself.
func TestOpen(t *testing.T) {
	random := rand.New(rand.NewSource(2))
	for length := range 100 {
		b := randomBytes(random, length)
		twice := Seal(Seal(b))
		once, e := Open(twice)
		if e != api.OK || !bytes.Equal(once, Seal(b)) {
			t.Fatalf("Open(%v) = %v, %d", twice, once, e)
		}
		if got, e := Open(once); e != api.OK || !bytes.Equal(got, b) {
			t.Errorf("Open(%v) = %v, %d, want %v", once, got, e, b)
		}
	}
}

// TestOpenShort checks ErrShort of P3.5: fewer than 4 bytes, whatever they are, and also if they are a part of a checksum.
func TestOpenShort(t *testing.T) {
	for _, b := range [][]byte{nil, {}, {0}, {0, 0}, {0, 0, 0}, {255, 255, 255}, {0x43, 0xbe, 0xb7}, []byte("abc")} {
		if got, e := Open(b); got != nil || e != api.ErrShort {
			t.Errorf("Open(%v) = %v, %d, want ErrShort", b, got, e)
		}
	}
}

// TestOpenFourBytes checks P3.5 for exactly 4 bytes: only the checksum of no bytes is right.
func TestOpenFourBytes(t *testing.T) {
	if got, e := Open(make([]byte, 4)); e != api.OK || len(got) > 0 {
		t.Errorf("Open of four bytes 0 = %v, %d", got, e)
	}
	for _, b := range [][]byte{{1, 0, 0, 0}, {0, 1, 0, 0}, {0, 0, 1, 0}, {0, 0, 0, 1}, {0, 0, 0, 128}, {255, 255, 255, 255}, {0x1c, 0xdf, 0x44, 0x21}} {
		checkRejected(t, b)
	}
}

// TestOpenWrongChecksum checks ErrSum of P3.5: bytes in the wrong order, complemented, missing, added, or of another slice.
func TestOpenWrongChecksum(t *testing.T) {
	for _, b := range [][]byte{
		{0x61, 0xe8, 0xb7, 0xbe, 0x43}, // the most significant byte first
		{0x61, 0xbc, 0x41, 0x48, 0x17}, // complemented
		{0x43, 0xbe, 0xb7, 0xe8, 0x61}, // before the byte
		{0x62, 0x43, 0xbe, 0xb7, 0xe8}, // of another byte
		{0x61, 0x43, 0xbe, 0xb7},
		{0x43, 0xbe, 0xb7, 0xe8},
		{0x61, 0x43, 0xbe, 0xb7, 0xe8, 0},
		{0, 0x61, 0x43, 0xbe, 0xb7, 0xe8},
		{0x61, 0, 0, 0, 0},
		{0, 0, 0, 0, 0},
		{255, 255, 255, 255, 255},
	} {
		checkRejected(t, b)
	}
}

// TestOpenEveryChecksumBit checks P3.5: every bit of the checksum counts, as does each of the four bytes as a whole.
func TestOpenEveryChecksumBit(t *testing.T) {
	for place := range 4 {
		for change := 1; change < 256; change++ {
			b := Seal([]byte("a"))
			b[1+place] ^= byte(change)
			checkRejected(t, b)
		}
	}
}

// TestResidue checks P3.6.
func TestResidue(t *testing.T) {
	random := rand.New(rand.NewSource(3))
	for length := range 300 {
		b := randomBytes(random, length)
		if got := Sum(Seal(b)); got != 0x2144df1c {
			t.Errorf("the checksum of sealed %v is %08x", b, got)
		}
	}
}

// TestLinearity checks P3.7 for slices of equal length, of no bytes too.
func TestLinearity(t *testing.T) {
	random := rand.New(rand.NewSource(4))
	for length := range 200 {
		x, y, z := randomBytes(random, length), randomBytes(random, length), randomBytes(random, length)
		mixed := make([]byte, length)
		for i := range mixed {
			mixed[i] = x[i] ^ y[i] ^ z[i]
		}
		if got, want := Sum(mixed), Sum(x)^Sum(y)^Sum(z); got != want {
			t.Errorf("%d bytes: %08x, want %08x", length, got, want)
		}
	}
}

// TestBursts checks P3.8: bursts of 1 to 32 bits at every offset, in the bytes, in the checksum and across; all of the short ones, and samples of the long ones.
func TestBursts(t *testing.T) {
	random := rand.New(rand.NewSource(5))
	for _, length := range []int{0, 1, 3, 4, 13} {
		sealed := Seal(randomBytes(random, length))
		for size := 1; size <= 32; size++ {
			for offset := range 8*len(sealed) - size + 1 {
				for _, burst := range burstsOf(random, size) {
					checkRejected(t, changed(sealed, bitsOf(burst, offset)...))
				}
			}
		}
	}
}

// TestTwoBits checks P3.9 for all pairs of bits of short slices.
func TestTwoBits(t *testing.T) {
	random := rand.New(rand.NewSource(6))
	for _, length := range []int{0, 1, 2, 40} {
		sealed := Seal(randomBytes(random, length))
		for second := range 8 * len(sealed) {
			for first := range second {
				checkRejected(t, changed(sealed, first, second))
			}
		}
	}
}

// TestTwoDistantBits checks P3.9 for pairs of bits of a slice as long as a file can be.
func TestTwoDistantBits(t *testing.T) {
	random := rand.New(rand.NewSource(7))
	sealed := Seal(randomBytes(random, api.MaxFile))
	count := 8 * len(sealed)
	pairs := [][2]int{{0, count - 1}, {0, 1}, {count - 2, count - 1}, {0, 1<<16 - 1}, {7, 7 + 1<<16}, {3, 3 + 1<<18}}
	for range 200 {
		first := random.Intn(count)
		pairs = append(pairs, [2]int{first, (first + 1 + random.Intn(count-1)) % count})
	}
	for _, pair := range pairs {
		if got, e := Open(changed(sealed, pair[:]...)); got != nil || e != api.ErrSum {
			t.Errorf("bits %v: %d bytes, %d, want ErrSum", pair, len(got), e)
		}
	}
}

// TestConcatenation checks P3.10 in both groupings, with empty parts at each place.
func TestConcatenation(t *testing.T) {
	random := rand.New(rand.NewSource(8))
	lengths := []int{0, 1, 2, 7, 64, 300}
	for _, i := range lengths {
		for _, j := range lengths {
			for _, k := range lengths {
				x, y, z := randomBytes(random, i), randomBytes(random, j), randomBytes(random, k)
				want := Sum(slices.Concat(x, y, z))
				if got := Combine(Combine(Sum(x), Sum(y), j), Sum(z), k); got != want {
					t.Errorf("(%d, %d), %d bytes: %08x, want %08x", i, j, k, got, want)
				}
				if got := Combine(Sum(x), Combine(Sum(y), Sum(z), k), j+k); got != want {
					t.Errorf("%d, (%d, %d) bytes: %08x, want %08x", i, j, k, got, want)
				}
			}
		}
	}
}

// TestGroupingOfAnySums checks P3.10 for very long parts, of which only the checksums are known.
func TestGroupingOfAnySums(t *testing.T) {
	random := rand.New(rand.NewSource(9))
	for range 100 {
		a, b, c := random.Uint32(), random.Uint32(), random.Uint32()
		m, n := random.Intn(1<<61), random.Intn(1<<61)
		left, right := Combine(Combine(a, b, m), c, n), Combine(a, Combine(b, c, n), m+n)
		if left != right {
			t.Errorf("%08x, %08x with %d and %08x with %d bytes: %08x and %08x", a, b, m, c, n, left, right)
		}
	}
}

// TestExamples checks the examples of the chapter, with the registers through which the third one passes.
func TestExamples(t *testing.T) {
	if Sum([]byte("123456789")) != 0xcbf43926 || Sum(nil) != 0 || Sum([]byte{0x61}) != 0xe8b7be43 {
		t.Error("Sum")
	}
	if got := Seal([]byte("a")); !bytes.Equal(got, []byte{0x61, 0x43, 0xbe, 0xb7, 0xe8}) {
		t.Errorf("Seal: %x", got)
	}
	register := uint32(1)
	for _, want := range []uint32{0xedb88320, 0x76dc4190, 0x3b6e20c8, 0x1db71064, 0x0edb8832, 0x076dc419, 0xee0e612c, 0x77073096} {
		if register = shifted(register); register != want {
			t.Errorf("the register is %08x, want %08x", register, want)
		}
	}
	if got := Combine(1, 0, 1); got != 0x77073096 {
		t.Errorf("Combine(1, 0, 1) = %08x", got)
	}
}

// TestArgumentsAreKept checks that the slices, and what lies behind their ends, remain as they were (R4), and that the calls keep no state (R5).
func TestArgumentsAreKept(t *testing.T) {
	b := []byte("some bytes, and some behind them")
	sealed := append(Seal([]byte("a")), 1, 2, 3, 4, 5, 6, 7, 8)
	oldBytes, oldSealed := bytes.Clone(b), bytes.Clone(sealed)
	for range 2 {
		if Sum(b[:10]) != Sum([]byte("some bytes")) || Update(5, b[:10]) != Update(5, []byte("some bytes")) {
			t.Error("a checksum depends on spare capacity or on earlier calls")
		}
		if !bytes.Equal(Seal(b[:10]), Seal([]byte("some bytes"))) {
			t.Error("Seal depends on spare capacity or on earlier calls")
		}
		if got, e := Open(sealed[:5]); e != api.OK || string(got) != "a" {
			t.Errorf("Open: %v, %d", got, e)
		}
	}
	if !bytes.Equal(b, oldBytes) || !bytes.Equal(sealed, oldSealed) {
		t.Error("an argument was changed")
	}
}

// TestResultsAreApart checks R4: writing into results and their spare capacity reaches neither the arguments nor other results.
func TestResultsAreApart(t *testing.T) {
	for _, b := range [][]byte{{}, []byte("a"), []byte("some bytes")} {
		old := bytes.Clone(b)
		first, second := Seal(b), Seal(b)
		clear(first[:cap(first)])
		opened, e := Open(second)
		if e != api.OK || !bytes.Equal(opened, old) {
			t.Fatalf("Open: %v, %d, want %v", opened, e, old)
		}
		clear(opened[:cap(opened)])
		if again, e := Open(second); e != api.OK || !bytes.Equal(again, old) {
			t.Errorf("Open shares memory: %v, %d, want %v", again, e, old)
		}
		if !bytes.Equal(b, old) {
			t.Errorf("Seal shares memory: %v, want %v", b, old)
		}
	}
}

// checkRejected checks that Open returns ErrSum, and no bytes.
func checkRejected(t *testing.T, b []byte) {
	t.Helper()
	if got, e := Open(b); got != nil || e != api.ErrSum {
		t.Errorf("Open(%v) = %v, %d, want ErrSum", b, got, e)
	}
}

// fedBitwise feeds bytes bit by bit, as the chapter defines it.
func fedBitwise(register uint32, b []byte) uint32 {
	for _, next := range b {
		register ^= uint32(next)
		for range 8 {
			register = shifted(register)
		}
	}
	return register
}

// shifted shifts a register by one bit.
func shifted(register uint32) uint32 {
	if register&1 == 1 {
		return register>>1 ^ 0xedb88320
	}
	return register >> 1
}

// burstsOf returns numbers whose lowest and whose highest of size bits are set: all of them if they are few.
func burstsOf(random *rand.Rand, size int) []uint32 {
	ends := uint32(1)<<(size-1) | 1
	if size <= 6 {
		var list []uint32
		for inner := uint32(0); inner < 1<<max(size-2, 0); inner++ {
			list = append(list, ends|inner<<1)
		}
		return list
	}
	list := []uint32{ends, math.MaxUint32 >> (32 - size)}
	for range 14 {
		list = append(list, ends|random.Uint32()>>(32-size))
	}
	return list
}

// bitsOf returns the places of the bits of a number that begins at an offset.
func bitsOf(number uint32, offset int) []int {
	var list []int
	for i := range 32 {
		if number>>i&1 == 1 {
			list = append(list, offset+i)
		}
	}
	return list
}

// changed returns a copy with some bits inverted, numbered as in the chapter.
func changed(b []byte, places ...int) []byte {
	copied := bytes.Clone(b)
	for _, place := range places {
		copied[place/8] ^= 1 << (place % 8)
	}
	return copied
}

// registers returns small and large registers, all those with a single bit, and all those with a single bit missing.
func registers() []uint32 {
	list := []uint32{0, 3, 5, 0xdeadbeef, 0xedb88320, math.MaxUint32}
	for bit := range 32 {
		list = append(list, 1<<bit, ^uint32(1<<bit))
	}
	return list
}

func everyByte() []byte {
	var list []byte
	for v := range 256 {
		list = append(list, byte(v))
	}
	return list
}

func randomBytes(random *rand.Rand, length int) []byte {
	b := make([]byte, length)
	for i := range b {
		b[i] = byte(random.Intn(256))
	}
	return b
}
