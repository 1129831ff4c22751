package clock_test

import (
	"math/rand"
	"testing"

	"perigee/api"
	"perigee/clock"
	"perigee/wire"
)

// sample returns the correlation with these numbers.
func sample(sent, received, tick int) api.Sample {
	return api.Sample{Sent: sent, Received: received, Tick: tick}
}

// TestCorrelate checks P8.2: the chapter's examples, counters that are equal or that have gone on, and intervals that are limited.
func TestCorrelate(t *testing.T) {
	all := span(0, top)
	for _, x := range []struct {
		t              api.Interval
		s              api.Sample
		counter, drift int
		want           api.Interval
	}{
		{span(0, 100), sample(3, 8, 40), 8, 5, span(40, 46)},
		{span(0, 100), sample(3, 8, 40), 10, 5, span(41, 49)},
		{all, sample(0, 0, 0), 0, 1, span(0, 0)},
		{all, sample(7, 7, 40), 7, 5, span(40, 40)},
		{all, sample(7, 7, 40), 8, 5, span(40, 42)},
		{all, sample(7, 7, 40), 17, 5, span(48, 52)},
		{all, sample(7, 8, 40), 8, 5, span(40, 42)},
		{all, sample(0, 11, 40), 11, 5, span(40, 54)},
		{all, sample(0, 10, 40), 10, 5, span(40, 52)},
		{all, sample(0, 3, 40), 6, 5, span(42, 48)},
		{all, sample(0, 5, 40), 12, 1, span(40, 64)},
		{all, sample(0, 5, 40), 12, top, span(46, 54)},
		{all, sample(0, 5, 0), 5, 5, span(0, 6)},
		{all, sample(0, 5, top), 5, 5, span(top, top)},
		{all, sample(0, 5, top-6), 5, 5, span(top-6, top)},
		{all, sample(0, 5, top-7), 5, 5, span(top-7, top-1)},
		{all, sample(0, 5, top-9), 8, 5, span(top-7, top)},
		{all, sample(0, 0, top-9), 8, 5, span(top-3, top)},
		{all, sample(0, 0, top-9), 1000, 5, span(top, top)},
		{all, sample(0, most, 5), most, 1, span(5, top)},
		{all, sample(0, most, 5), most, top, span(5, top)},
		{all, sample(most, most, 5), most, 1, span(5, 5)},
		{all, sample(0, 0, 5), most, 1, span(5, top)},
		{all, sample(0, 0, 5), most, 2, span(top, top)},
		{all, sample(most-9, most-2, 5), most, 4, span(6, 17)},
	} {
		checkCorrelate(t, x.t, x.s, x.counter, x.drift, x.want, api.OK)
	}
}

// TestCorrelateMeets checks P8.2: what both intervals contain is the result, and one tick is enough. The interval of the correlation is 41 to 49.
func TestCorrelateMeets(t *testing.T) {
	s := sample(3, 8, 40)
	for _, x := range []struct {
		t, want api.Interval
		e       api.Errno
	}{
		{span(41, 49), span(41, 49), api.OK},
		{span(42, 48), span(42, 48), api.OK},
		{span(40, 50), span(41, 49), api.OK},
		{span(0, 45), span(41, 45), api.OK},
		{span(45, top), span(45, 49), api.OK},
		{span(44, 44), span(44, 44), api.OK},
		{span(0, 42), span(41, 42), api.OK},
		{span(0, 41), span(41, 41), api.OK},
		{span(41, 41), span(41, 41), api.OK},
		{span(0, 40), span(0, 0), api.ErrClock},
		{span(40, 40), span(0, 0), api.ErrClock},
		{span(0, 0), span(0, 0), api.ErrClock},
		{span(48, top), span(48, 49), api.OK},
		{span(49, top), span(49, 49), api.OK},
		{span(49, 49), span(49, 49), api.OK},
		{span(50, top), span(0, 0), api.ErrClock},
		{span(50, 50), span(0, 0), api.ErrClock},
		{span(top, top), span(0, 0), api.ErrClock},
	} {
		checkCorrelate(t, x.t, s, 10, 5, x.want, x.e)
	}
	checkCorrelate(t, span(0, 100), sample(3, 8, 300), 8, 5, span(0, 0), api.ErrClock)
}

// TestCorrelateInvalid checks P8.2: each reason for ErrArg, its neighbours that are none, and that it is returned even if the intervals have no tick in common.
func TestCorrelateInvalid(t *testing.T) {
	bad := []api.Sample{
		sample(-1, 8, 40), sample(-1, -1, 40), sample(-5, 0, 40), sample(9, 8, 40), sample(11, 10, 40), sample(5, 4, 40), sample(3, 11, 40),
		sample(11, 11, 40), sample(3, most, 40), sample(3, 8, -1), sample(3, 8, top+1), sample(-1, -2, -1), sample(0, 11, top+1),
		sample(1, 0, 40), sample(0, -1, 40),
	}
	for _, n := range extremes {
		bad = append(bad, sample(n, 8, 40), sample(3, n, 40), sample(3, 8, n), sample(n, n, 40), sample(n, n, n))
	}
	for _, s := range bad {
		for _, x := range []api.Interval{span(0, top), span(0, 0), span(500, 500), span(top, top)} {
			for _, drift := range []int{1, 5, top} {
				checkCorrelate(t, x, s, 10, drift, span(0, 0), api.ErrArg)
			}
		}
	}
	for _, s := range []api.Sample{sample(0, 8, 40), sample(8, 8, 40), sample(10, 10, 40), sample(3, 10, 40), sample(0, 0, 40), sample(3, 8, 0), sample(3, 8, top)} {
		if _, e := clock.Correlate(span(0, top), s, 10, 5); e != api.OK {
			t.Errorf("the correlation %v is refused with %d", s, e)
		}
	}
}

// correlated returns the results of Correlate as P8.2 defines them.
func correlated(t api.Interval, s api.Sample, counter, drift int) (api.Interval, api.Errno) {
	for _, refused := range []bool{s.Sent < 0, s.Sent > s.Received, s.Received > counter, s.Tick < 0, s.Tick > top} {
		if refused {
			return span(0, 0), api.ErrArg
		}
	}
	c, since := s.Received-s.Sent, counter-s.Received
	hi := limit(s.Tick + c + wrong(c, drift))
	x := span(limit(s.Tick+since-wrong(since, drift)), limit(hi+since+wrong(since, drift)))
	if x.Hi < t.Lo || t.Hi < x.Lo {
		return span(0, 0), api.ErrClock
	}
	if holds(t, x.Lo) {
		t.Lo = x.Lo
	}
	if holds(t, x.Hi) {
		t.Hi = x.Hi
	}
	return t, api.OK
}

// TestCorrelateDefinition checks P8.2 for random arguments, of which many are invalid or contradict the interval.
func TestCorrelateDefinition(t *testing.T) {
	r := rand.New(rand.NewSource(82))
	seen := map[api.Errno]int{}
	for range 300000 {
		counter, drift := upTo(r, most), someDrift(r)
		s := sample(upTo(r, counter)-r.Intn(2), 0, upTo(r, top+2)-1)
		s.Received = counter + 1 - r.Intn(2) - upTo(r, counter)
		if r.Intn(2) == 0 {
			s.Received = max(s.Sent, s.Received)
		}
		x := someInterval(r)
		want, e := correlated(x, s, counter, drift)
		checkCorrelate(t, x, s, counter, drift, want, e)
		seen[e]++
	}
	for _, e := range []api.Errno{api.OK, api.ErrArg, api.ErrClock} {
		if seen[e] < 1000 {
			t.Errorf("the result %d was seen %d times", e, seen[e])
		}
	}
}

// passed returns a random number of ticks that can pass while a counter advances by counted.
func passed(r *rand.Rand, counted, drift int) int {
	e := wrong(counted, drift)
	switch r.Intn(3) {
	case 0:
		return counted - e
	case 1:
		return counted + e
	}
	return counted - e + r.Intn(2*e+1)
}

// TestCorrelateIsSound checks P8.9: the answer is written anywhere between the question and its arrival, at either end too, the counter errs as much as its drift permits, and the interval is any that contains the present.
func TestCorrelateIsSound(t *testing.T) {
	r := rand.New(rand.NewSource(89))
	for range 200000 {
		drift := someDrift(r)
		asked := upTo(r, top)
		s := sample(upTo(r, most-2*top), 0, 0)
		before, after := upTo(r, top-asked), upTo(r, top-asked)
		arrived := asked + passed(r, before, drift)
		present := arrived + passed(r, after, drift)
		if present > top {
			continue
		}
		s.Received = s.Sent + before
		s.Tick = []int{asked, arrived, asked + r.Intn(arrived-asked+1)}[r.Intn(3)]
		x := span(upTo(r, present), top-upTo(r, top-present))
		got, e := clock.Correlate(x, s, s.Received+after, drift)
		if e != api.OK || !holds(got, present) || !within(got, x) {
			t.Errorf("Correlate(%v, %v, %d, %d) = %v, %d at %d", x, s, s.Received+after, drift, got, e, present)
		}
	}
}

// TestCorrelateEnds checks P8.9: of each tick of the result of the whole time, there is a true time of the arrival from which it could come, so that a narrower result would not be sound.
func TestCorrelateEnds(t *testing.T) {
	const drift = 4
	for before := range 10 {
		for after := range 10 {
			s := sample(70, 70+before, 500)
			got, e := clock.Correlate(span(0, top), s, s.Received+after, drift)
			least := s.Tick + after - wrong(after, drift)
			greatest := s.Tick + before + wrong(before, drift) + after + wrong(after, drift)
			if e != api.OK || got != span(least, greatest) {
				t.Errorf("after %d and %d the interval is %v, %d, want %d to %d", before, after, got, e, least, greatest)
			}
		}
	}
}

// narrow narrows an interval by two correlations and returns the first error.
func narrow(t api.Interval, first, second api.Sample, counter, drift int) (api.Interval, api.Errno) {
	t, e := clock.Correlate(t, first, counter, drift)
	if e != api.OK {
		return t, e
	}
	return clock.Correlate(t, second, counter, drift)
}

// TestCorrelateOrder checks P8.10: two correlations in either order yield the same interval or the same error. If one of them is invalid, the other one does not contradict the interval (of two errors of different kinds, the first is returned).
func TestCorrelateOrder(t *testing.T) {
	r := rand.New(rand.NewSource(810))
	seen := map[api.Errno]int{}
	for range 200000 {
		counter, drift := r.Intn(200), 1+r.Intn(30)
		tick := upTo(r, top-100)
		var two [2]api.Sample
		for i := range two {
			two[i] = sample(r.Intn(counter+1), r.Intn(counter+1), tick+r.Intn(100))
			if r.Intn(10) > 0 {
				two[i] = sample(min(two[i].Sent, two[i].Received), max(two[i].Sent, two[i].Received), two[i].Tick)
			}
		}
		x := span(tick, min(top, tick+r.Intn(300)))
		_, e := clock.Correlate(x, two[0], counter, drift)
		_, f := clock.Correlate(x, two[1], counter, drift)
		if e != f && e != api.OK && f != api.OK {
			continue
		}
		got, e := narrow(x, two[0], two[1], counter, drift)
		again, f := narrow(x, two[1], two[0], counter, drift)
		if got != again || e != f {
			t.Errorf("%v narrowed by %v and by %v is %v, %d, in the other order %v, %d", x, two[0], two[1], got, e, again, f)
		}
		seen[e]++
	}
	for _, e := range []api.Errno{api.OK, api.ErrArg, api.ErrClock} {
		if seen[e] < 1000 {
			t.Errorf("the result %d was seen %d times", e, seen[e])
		}
	}
}

// TestCorrelateFromWire checks P8.12: a correlation of which the lowest 16 bits of the counters were transmitted is used like the correlation itself.
func TestCorrelateFromWire(t *testing.T) {
	r := rand.New(rand.NewSource(812))
	for range 20000 {
		last := upTo(r, most-4*65536)
		sent := last + upTo(r, 65535)
		received := sent + upTo(r, 65535)
		s, counter := sample(sent, received, upTo(r, top)), received+upTo(r, 65535)

		var w wire.Writer
		w.Ints([]int{s.Sent % 65536, s.Received % 65536, s.Tick})
		reader := wire.NewReader(w.Done())
		list := reader.Ints(3)
		if e := reader.End(); e != api.OK || len(list) != 3 {
			t.Fatalf("the reader ends with %d and has read %v", e, list)
		}
		read := sample(clock.Unwrap(last, list[0]), 0, list[2])
		read.Received = clock.Unwrap(read.Sent, list[1])

		x, drift := someInterval(r), someDrift(r)
		want, e := clock.Correlate(x, s, counter, drift)
		checkCorrelate(t, x, read, counter, drift, want, e)
		if read != s {
			t.Errorf("the correlation %v arrives as %v", s, read)
		}
	}
}
