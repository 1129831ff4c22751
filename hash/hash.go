// Package hash computes 64-bit hashes of numbers and byte slices, the successor of a key, and tags of messages under a key. See shared/doc/01-hash.md.
package hash

import "iter"

const (
	factor   = 0xD6E8FEB86659FD93 // odd, so multiplying by it is a bijection modulo 2^64
	stepWord = 0x9E3779B97F4A7C15
	wordSize = 8 // bytes of a word
)

// Sum returns the hash of a label and words.
func Sum(label string, words ...int) uint64 {
	state := uint64(0)
	for w := range wordsOf(label) {
		state = mix(state, w)
	}
	// The lengths keep apart labels that differ only in trailing zero bytes, and words that could be taken for a part of the label.
	state = mix(state, uint64(len(label)))
	state = mix(state, uint64(len(words)))
	for _, w := range words {
		state = mix(state, uint64(w))
	}
	return state
}

// Bytes returns the hash of a label and a byte slice.
func Bytes(label string, b []byte) uint64 {
	return Sum(label, appendWords(nil, b)...)
}

// Step returns the key after a key.
func Step(key uint64) uint64 {
	return mix(key, stepWord)
}

// Tag returns the tag of a byte slice under a key.
func Tag(key uint64, b []byte) uint64 {
	return Sum("tag", appendWords([]int{int(key)}, b)...)
}

// mix returns the state after the word w was mixed into the state s. Each of its steps can be undone, so it is a bijection of s and of w.
func mix(s, w uint64) uint64 {
	m := (s ^ w) * factor
	return m ^ m>>32
}

// appendWords appends the words of b and its length, which keeps apart slices that differ only in trailing zero bytes.
func appendWords(list []int, b []byte) []int {
	for w := range wordsOf(b) {
		list = append(list, int(w))
	}
	return append(list, len(b))
}

// wordsOf produces the words of a text: groups of 8 bytes, the last one padded with zero bytes.
func wordsOf[T string | []byte](text T) iter.Seq[uint64] {
	return func(yield func(uint64) bool) {
		for start := 0; start < len(text); start += wordSize {
			if !yield(wordAt(text, start)) {
				return
			}
		}
	}
}

// wordAt returns the word that begins at the byte start, the least significant byte first.
func wordAt[T string | []byte](text T, start int) uint64 {
	word := uint64(0)
	for i := range min(wordSize, len(text)-start) {
		word |= uint64(text[start+i]) << (8 * i)
	}
	return word
}
