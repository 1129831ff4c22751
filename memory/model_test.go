package memory

import (
	"math/rand"
	"slices"
	"testing"

	"perigee/api"
	"perigee/ecc"
)

// TestAgainstModel checks P6.1 to P6.9 together: rows of random calls, and of calls on clones, have the same results as those on a model.
func TestAgainstModel(t *testing.T) {
	for seed := range 300 {
		random := newRandom(int64(seed))
		words := 1 + random.Intn(6)
		m, p := open(t, words), newModel(words)
		for range 200 {
			if random.Intn(20) == 0 {
				m = m.Clone()
			}
			step(t, random, m, p)
			checkStored(t, m, p.codes)
			checkCounts(t, m, words, p.writes, p.on)
		}
	}
}

// step makes the same random call on a memory and on its model.
func step(t *testing.T, random *rand.Rand, m *Memory, p *model) {
	t.Helper()
	a := random.Intn(len(p.codes)+2) - 1
	switch random.Intn(8) {
	case 0:
		writes := random.Intn(6) - 1
		m.Fuse(writes)
		p.setFuse(writes)
	case 1:
		m.Reset()
		p.on, p.left = true, nil
	case 2:
		n := random.Intn(len(p.codes)+4) - 1
		checkScrub(t, m, n, p.scrub(n))
	case 3, 4:
		bit := random.Intn(41) - 1
		if got, want := m.Flip(a, bit), p.flip(a, bit); got != want {
			t.Errorf("Flip(%d, %d) = %d, want %d", a, bit, got, want)
		}
	case 5:
		want, wantError := p.read(a)
		if w, e := m.Read(a); w != want || e != wantError {
			t.Errorf("Read(%d) = %#x, %d, want %#x, %d", a, w, e, want, wantError)
		}
	default:
		w := random.Uint32()
		checkWrite(t, m, a, w, p.write(a, w))
	}
}

// model is a memory that is written as the sentences of the chapter are. The numbers of its words stand in the order of the scrubber's next visits.
type model struct {
	codes  []uint64
	order  []int
	writes int
	on     bool
	left   []bool // one element for each write that the fuse leaves; nil without a fuse
}

func newModel(words int) *model {
	p := &model{codes: make([]uint64, words), on: true}
	for a := range words {
		p.codes[a] = ecc.Encode(0)
		p.order = append(p.order, a)
	}
	return p
}

func (p *model) exists(a int) bool { return slices.Contains(p.order, a) }

func (p *model) read(a int) (uint32, api.Errno) {
	if !p.exists(a) {
		return 0, api.ErrRange
	}
	if w, status := ecc.Decode(p.codes[a]); status < 2 {
		return w, api.OK
	}
	return 0, api.ErrFlip
}

func (p *model) write(a int, w uint32) api.Errno {
	switch {
	case !p.exists(a):
		return api.ErrRange
	case !p.on:
		return api.ErrPower
	}
	p.codes[a] = ecc.Encode(w)
	p.writes++
	if p.left != nil {
		p.left = p.left[1:]
		if len(p.left) == 0 {
			p.on, p.left = false, nil
		}
	}
	return api.OK
}

func (p *model) flip(a, bit int) api.Errno {
	if !p.exists(a) || bit < 0 || bit > 38 {
		return api.ErrRange
	}
	p.codes[a] ^= 1 << bit
	return api.OK
}

func (p *model) setFuse(writes int) {
	if !p.on {
		return
	}
	p.left = nil
	if writes > 0 {
		p.left = make([]bool, writes)
	}
	if writes == 0 {
		p.on = false
	}
}

func (p *model) scrub(n int) Scrub {
	var s Scrub
	for p.on && s.Visited < n && s.Visited < len(p.codes) {
		a := p.order[0]
		p.order = append(p.order[1:], a)
		s.Visited++
		w, status := ecc.Decode(p.codes[a])
		if status == 1 {
			p.codes[a] = ecc.Encode(w)
			s.Corrected++
		}
		if status == 2 {
			s.Bad++
		}
	}
	return s
}
