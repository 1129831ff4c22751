package hash

import (
	"bytes"
	"math"
	"slices"
	"testing"
)

// The expected hashes in the tables below were computed by a program in another language, written from the definitions of the chapter.

// TestSum checks P1.1: labels of no word, one word, a whole word, more than a word and bytes above 127; no words, and negative ones.
func TestSum(t *testing.T) {
	for _, c := range []struct {
		label string
		words []int
		want  uint64
	}{
		{"", nil, 0},
		{"n", nil, 0x6d40a44cb95575e3},
		{"n", []int{}, 0x6d40a44cb95575e3},
		{"n", []int{0}, 0x1dfaa5b4e0ba3cac},
		{"a", []int{5}, 0xb8177fd29a9e5b15},
		{"a", []int{6}, 0x8f007e8a07e35cd0},
		{"n", []int{-1}, 0xb1c5b92977932c7},
		{"n", []int{math.MinInt}, 0x9dfaa5b460ba3cac},
		{"n", []int{math.MaxInt}, 0x8b1c5b92177932c7},
		{"n", []int{1, 2, 3}, 0x5526993b17962359},
		{"n", []int{3, 2, 1}, 0x850d0fbac7576274},
		{"eight by", []int{7}, 0x21b5dc9cc879a370},
		{"nine byte", []int{7}, 0x29104ee5af681f51},
		{"a label of more than two words", []int{-5, 0, 5}, 0xcbe71c1234e7acf6},
		{"\xff\x80", []int{1}, 0x791ebc3b8279639b},
	} {
		if got := Sum(c.label, c.words...); got != c.want {
			t.Errorf("Sum(%q, %v) = %#x, want %#x", c.label, c.words, got, c.want)
		}
	}
}

// TestSumStartsAtZero checks P1.1 and P1.5: if the words are taken out again in the reverse order, the state at the beginning is left.
func TestSumStartsAtZero(t *testing.T) {
	for _, words := range [][]int{nil, {0}, {-1}, {1, 2, 3}, {math.MinInt, 0, math.MaxInt, -7}} {
		state := Sum("eight by?", words...)
		for _, w := range slices.Backward(words) {
			state = unmix(state, uint64(w))
		}
		state = unmix(state, uint64(len(words)))
		state = unmix(state, 9)
		state = unmix(state, '?')
		state = unmix(state, 0x7962207468676965) // "eight by", the last byte first
		if state != 0 {
			t.Errorf("%v: the first state is %#x", words, state)
		}
	}
}

// TestSumKeepsPartsApart checks P1.1: the lengths of the label and of the list count, and so does the order.
func TestSumKeepsPartsApart(t *testing.T) {
	checkDistinct(t, []uint64{
		Sum(""), Sum("n"), Sum("m"), Sum("n\x00"), Sum("n\x00\x00\x00\x00\x00\x00\x00\x00"),
		Sum("", 0), Sum("", 0, 0), Sum("n", 0), Sum("n", 0, 0), Sum("n", 0, 0, 0),
		Sum("n", 1, 2), Sum("n", 2, 1), Sum("n", 12), Sum("n", -1), Sum("n", 1), Sum("", 'n'),
	})
}

var byteCases = []struct {
	b     []byte
	words []int // with the length at the end
}{
	{nil, []int{0}},
	{[]byte{}, []int{0}},
	{[]byte{0}, []int{0, 1}},
	{[]byte{1, 2}, []int{513, 2}},
	{[]byte{0, 0, 0, 0, 0, 0, 0}, []int{0, 7}},
	{[]byte{1, 2, 3, 4, 5, 6, 7, 8}, []int{0x0807060504030201, 8}},
	{[]byte{1, 2, 3, 4, 5, 6, 7, 8, 9}, []int{0x0807060504030201, 9, 9}},
	{[]byte{0, 0, 0, 0, 0, 0, 0, 128}, []int{math.MinInt, 8}},
	{bytes.Repeat([]byte{255}, 8), []int{-1, 8}},
	{bytes.Repeat([]byte{255}, 15), []int{-1, 1<<56 - 1, 15}},
	{make([]byte, 16), []int{0, 0, 16}},
	{make([]byte, 17), []int{0, 0, 0, 17}},
}

// TestBytesIsSumOfWords checks P1.2: no bytes, whole groups, and a last group of fewer than 8 bytes.
func TestBytesIsSumOfWords(t *testing.T) {
	for _, label := range []string{"", "a", "a longer label"} {
		for _, c := range byteCases {
			if got, want := Bytes(label, c.b), Sum(label, c.words...); got != want {
				t.Errorf("Bytes(%q, %v) = %#x, want %#x", label, c.b, got, want)
			}
		}
	}
}

// TestTagIsSumOfKeyAndWords checks P1.4 for the same slices, with small keys and with keys that are negative as an int.
func TestTagIsSumOfKeyAndWords(t *testing.T) {
	for _, key := range []uint64{0, 1, 7, 1 << 32, 1<<63 - 1, 1 << 63, math.MaxUint64} {
		for _, c := range byteCases {
			words := append([]int{int(key)}, c.words...)
			if got, want := Tag(key, c.b), Sum("tag", words...); got != want {
				t.Errorf("Tag(%#x, %v) = %#x, want %#x", key, c.b, got, want)
			}
		}
	}
}

// TestBytesAndTagValues checks P1.2 and P1.4 independently of Sum.
func TestBytesAndTagValues(t *testing.T) {
	for _, c := range []struct {
		b               []byte
		sum, tag, tagM1 uint64 // with the label "b", and with the keys 7 and 2^64 - 1
	}{
		{nil, 0xd95950eea13ee8e0, 0xfd2d722dae810be0, 0x99b7200dbb63368c},
		{[]byte{0}, 0xaee94c9d372a535c, 0xbcd10a042c105786, 0xf4979dbdce2576f1},
		{[]byte{1, 2}, 0xf548413664970bf8, 0x45f31120e191c207, 0xabda77dd0c10043d},
		{[]byte{1, 2, 3, 4, 5, 6, 7, 8}, 0x8603553c5c11416e, 0xddb68095c6186e75, 0x3908c3c3425e11c2},
		{[]byte{1, 2, 3, 4, 5, 6, 7, 8, 9}, 0xd96840d7ba4d89ac, 0x7a96d2b33ad3f9c5, 0xcc08cae6d5d027c8},
		{bytes.Repeat([]byte{255}, 8), 0xa1b5e7ecac124a80, 0x3a371f31e0838e77, 0x8cf620d8b1d0a769},
		{bytes.Repeat([]byte{255}, 15), 0xdeddb0edc5ab4dcc, 0x9e245ced0b8fc4ad, 0x718f7cb644ffba24},
	} {
		if got := Bytes("b", c.b); got != c.sum {
			t.Errorf("Bytes(%v) = %#x, want %#x", c.b, got, c.sum)
		}
		if got := Tag(7, c.b); got != c.tag {
			t.Errorf("Tag(7, %v) = %#x, want %#x", c.b, got, c.tag)
		}
		if got := Tag(math.MaxUint64, c.b); got != c.tagM1 {
			t.Errorf("Tag(2^64 - 1, %v) = %#x, want %#x", c.b, got, c.tagM1)
		}
	}
}

// TestLengthCounts checks P1.2 and P1.4: slices that differ in trailing zero bytes only have different hashes and tags.
func TestLengthCounts(t *testing.T) {
	zeros := make([]byte, 40)
	var sums, tags []uint64
	for n := range zeros {
		sums = append(sums, Bytes("b", zeros[:n]))
		tags = append(tags, Tag(3, zeros[:n]))
	}
	checkDistinct(t, sums)
	checkDistinct(t, tags)
}

// TestStep checks P1.3.
func TestStep(t *testing.T) {
	for _, c := range []struct{ key, want uint64 }{
		{0, 0x4d0a2bbe78b92ab1},
		{1, 0x76212d05b9782e79},
		{5, 0x1a7d32242f8c3f14},
		{6, 0x9f382e4df7c72ba4},
		{1 << 32, 0xe6b02e2bd3032f24},
		{1 << 63, 0xcd0a2bbef8b92ab1},
		{math.MaxUint64, 0xdc0cd589bfffd4d7},
		{0x9E3779B97F4A7C15, 0},
	} {
		if got := Step(c.key); got != c.want {
			t.Errorf("Step(%#x) = %#x, want %#x", c.key, got, c.want)
		}
	}
}

// TestMixIsBijection checks P1.5: the state follows from the word and the result, and the word from the state and the result.
func TestMixIsBijection(t *testing.T) {
	for _, s := range samples() {
		for _, w := range samples() {
			m := mix(s, w)
			if unmix(m, w) != s {
				t.Errorf("the state %#x cannot be got back from the word %#x", s, w)
			}
			if unmix(m, s) != w {
				t.Errorf("the word %#x cannot be got back from the state %#x", w, s)
			}
		}
	}
}

// TestOneElementDiffers checks P1.5 for lists that differ in exactly one element, at each place.
func TestOneElementDiffers(t *testing.T) {
	for place := range 4 {
		var sums []uint64
		for _, w := range samples() {
			words := []int{4, -3, 2, -1}
			words[place] = int(w)
			sums = append(sums, Sum("n", words...))
		}
		checkDistinct(t, sums)
	}
}

// TestOneGroupDiffers checks P1.5 for slices that differ within a single group, the last one of which is short.
func TestOneGroupDiffers(t *testing.T) {
	for place := range 19 {
		var sums, tags []uint64
		for v := range 256 {
			b := []byte("nineteen bytes long")
			b[place] = byte(v)
			sums = append(sums, Bytes("b", b))
			tags = append(tags, Tag(11, b))
		}
		checkDistinct(t, sums)
		checkDistinct(t, tags)
	}
}

// TestKeysDiffer checks P1.5 for one message under different keys.
func TestKeysDiffer(t *testing.T) {
	for _, message := range [][]byte{nil, {0}, []byte("a message of three words")} {
		var tags []uint64
		for _, key := range samples() {
			tags = append(tags, Tag(key, message))
		}
		checkDistinct(t, tags)
	}
}

// TestStepIsBijection checks P1.6: the key follows from its successor, and different keys have different ones.
func TestStepIsBijection(t *testing.T) {
	var next []uint64
	for _, key := range samples() {
		next = append(next, Step(key))
		if unmix(Step(key), 0x9E3779B97F4A7C15) != key {
			t.Errorf("the key %#x cannot be got back from its successor", key)
		}
	}
	checkDistinct(t, next)
}

// TestExamples checks the examples of the chapter.
func TestExamples(t *testing.T) {
	b := []byte{1, 2}
	if Bytes("a", b) != Sum("a", 513, 2) {
		t.Error("Bytes")
	}
	if Tag(7, b) != Sum("tag", 7, 513, 2) {
		t.Error("Tag")
	}
	if Sum("a", 5) == Sum("a", 6) {
		t.Error("Sum")
	}
	if Step(5) == Step(6) {
		t.Error("Step")
	}
}

// TestArgumentsAreKept checks that the slices, and what lies behind their ends, remain as they were (R4), and that the calls keep no state (R5).
func TestArgumentsAreKept(t *testing.T) {
	words := []int{1, -2, 3, 99}
	b := []byte("eleven long, and more")
	oldWords, oldBytes := slices.Clone(words), slices.Clone(b)
	for range 2 {
		if Sum("n", words[:3]...) != Sum("n", 1, -2, 3) {
			t.Error("Sum depends on spare capacity or on earlier calls")
		}
		if Bytes("b", b[:11]) != Bytes("b", []byte("eleven long")) {
			t.Error("Bytes depends on spare capacity or on earlier calls")
		}
		if Tag(7, b[:11]) != Tag(7, []byte("eleven long")) {
			t.Error("Tag depends on spare capacity or on earlier calls")
		}
	}
	if !slices.Equal(words, oldWords) || !bytes.Equal(b, oldBytes) {
		t.Error("an argument was changed")
	}
}

// TestIteratorStops checks that the words of a text are produced one at a time, and no more of them after a break.
func TestIteratorStops(t *testing.T) {
	var got []uint64
	for w := range wordsOf("eight byeight byeight by") {
		got = append(got, w)
		if len(got) == 2 {
			break
		}
	}
	if !slices.Equal(got, []uint64{0x7962207468676965, 0x7962207468676965}) {
		t.Errorf("%#x", got)
	}
}

// unmix undoes mix: it returns the state from the word, or the word from the state, the two being interchangeable.
func unmix(m, other uint64) uint64 {
	const inverse = 0xCFEE444D8B59A89B // of the factor, modulo 2^64
	return (m^m>>32)*inverse ^ other
}

// samples returns different numbers: small ones, negative ones, and all those with a single bit.
func samples() []uint64 {
	var list []uint64
	for n := range 200 {
		list = append(list, uint64(n), uint64(-n-1))
	}
	for bit := 8; bit < 64; bit++ {
		list = append(list, 1<<bit)
	}
	return list
}

func checkDistinct(t *testing.T, list []uint64) {
	t.Helper()
	seen := map[uint64]int{}
	for i, h := range list {
		if j, ok := seen[h]; ok {
			t.Errorf("numbers %d and %d have the same hash %#x", j, i, h)
		}
		seen[h] = i
	}
}
