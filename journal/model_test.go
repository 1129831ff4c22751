package journal_test

import (
	"math/rand"
	"testing"

	"perigee/api"
	"perigee/journal"
	"perigee/memory"
)

// TestReplaceIsAppends checks P7.9 for random lists of records: the results and the records are the same.
func TestReplaceIsAppends(t *testing.T) {
	for seed := range 2000 {
		random := newRandom(seed)
		words := []int{16, 17, 30, 100, 400}[random.Intn(5)]
		var records [][]uint32
		for range random.Intn(8) {
			records = append(records, randomRecord(random, min(64, capacityOf(words)/2)))
		}
		appended := newMemory(t, words)
		j := format(t, appended)
		want := api.OK
		for _, r := range records {
			if e := j.Append(r); e != api.OK {
				want = e
				break
			}
		}
		m, k := filled(t, words, [][]uint32{randomRecord(random, 3)})
		checkReplace(t, k, records, want)
		if want == api.OK {
			checkStored(t, appended, j, records)
			checkStored(t, m, k, records)
		}
	}
}

// model is what a journal has, as the chapter says it.
type model struct {
	memory  *memory.Memory
	journal *journal.Journal
	records [][]uint32
	flipped []bool // words that had a flip since the scrubber visited all of them
}

// TestAgainstModel checks P7.1 to P7.7 together: random rows of changes, of power losses and of flips.
func TestAgainstModel(t *testing.T) {
	for seed := range 1000 {
		random := newRandom(seed)
		words := 16 + random.Intn(60)
		p := &model{memory: newMemory(t, words), flipped: make([]bool, words)}
		p.journal = format(t, p.memory)
		for range 60 {
			p.disturb(random)
			p.step(t, random)
			checkStored(t, p.memory, p.journal, p.records)
		}
	}
}

// disturb calls methods of the memory that may be called at any time.
func (p *model) disturb(random *rand.Rand) {
	switch random.Intn(6) {
	case 0:
		p.memory.Fuse(random.Intn(12) - 1)
	case 1, 2:
		p.memory.Reset()
	case 3:
		p.memory.Reset()
		p.memory.Scrub(p.memory.Len())
		clear(p.flipped)
	case 4:
		for a := range p.flipped {
			if !p.flipped[a] {
				p.memory.Flip(a, random.Intn(codeBits))
				p.flipped[a] = true
			}
		}
	}
}

// step makes a random call.
func (p *model) step(t *testing.T, random *rand.Rand) {
	t.Helper()
	words := p.memory.Len()
	switch random.Intn(10) {
	case 0:
		p.journal = reopen(t, p.memory)
	case 1:
		p.format(t)
	case 2, 3:
		var records [][]uint32
		for range random.Intn(6) {
			records = append(records, randomRecord(random, min(65, capacityOf(words)/2)))
		}
		p.judge(t, func() api.Errno { return p.journal.Replace(records) }, records, refusal(words, records, records))
	default:
		record := randomRecord(random, min(65, capacityOf(words)/2))
		after := with(p.records, record)
		p.judge(t, func() api.Errno { return p.journal.Append(record) }, after, refusal(words, [][]uint32{record}, after))
	}
}

// format formats the memory, and once more if the power went off.
func (p *model) format(t *testing.T) {
	t.Helper()
	on := p.memory.On()
	j, e := journal.Format(p.memory)
	if e != api.OK || !on {
		checkFails(t, "Format", j, e, api.ErrPower)
		if p.memory.On() {
			t.Errorf("the power is on after ErrPower")
		}
		p.memory.Reset()
		j = format(t, p.memory)
	}
	p.journal, p.records = j, nil
}

// refusal returns the error that a change has whether the power is on or not.
func refusal(words int, given, after [][]uint32) api.Errno {
	for _, r := range given {
		if len(r) > 64 {
			return api.ErrLimit
		}
	}
	if sizeOf(after) > capacityOf(words) {
		return api.ErrFull
	}
	return api.OK
}

// judge makes a change and checks what it returns: its refusal, or ErrPower if the power is off then, or OK if it was on before.
func (p *model) judge(t *testing.T, apply func() api.Errno, after [][]uint32, refusal api.Errno) {
	t.Helper()
	on := p.memory.On()
	e := apply()
	switch {
	case refusal != api.OK:
		if e != refusal {
			t.Errorf("a change returned %d, want %d", e, refusal)
		}
	case e == api.OK && on:
		p.records = copyOf(after)
	case e != api.ErrPower || p.memory.On():
		t.Errorf("a change returned %d, and the power was on before: %t, and afterwards: %t", e, on, p.memory.On())
	}
}
