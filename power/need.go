package power

import (
	"iter"

	"perigee/api"
)

// stretch is a number of successive ticks, at least one, with the same gain.
type stretch struct{ ticks, gain int }

// stretches returns an iterator over the stretches of constant gain of a craft from a tick up to, but not including, another one. An orbit table lists the eclipses of a craft in order and without overlaps, so that one pass over it suffices.
func stretches(t []api.Window, craft, from, until, sun int) iter.Seq[stretch] {
	return func(yield func(stretch) bool) {
		tick, gain := from, sun
		// change ends the stretch at a tick, from which on the gain is another one, and tells whether more stretches are wanted.
		change := func(at, next int) bool {
			s := stretch{min(at, until) - tick, gain}
			gain = next
			if s.ticks <= 0 {
				return true
			}
			tick += s.ticks
			return yield(s)
		}
		for _, w := range t {
			if w.Kind == api.WinEclipse && w.A == craft && (!change(w.From, 0) || !change(w.Until, sun)) {
				return
			}
		}
		change(until, sun)
	}
}

// Reserve returns the least charge with which the essential loads can be served from a tick until the end of the orbit table.
func Reserve(t []api.Window, craft, tick, essential, sun int) int {
	// The need is the greatest deficit. Within a stretch the deficit only grows or only shrinks, so that it is greatest where a stretch begins or ends.
	deficit, need := 0, 0
	for s := range stretches(t, craft, tick, end(t), sun) {
		deficit += s.ticks * (essential - s.gain)
		need = max(need, deficit)
	}
	return need
}

// end returns the end of an orbit table.
func end(t []api.Window) int {
	last := 0
	for _, w := range t {
		last = max(last, w.Until)
	}
	return last
}

// Survives reports whether a battery serves the essential loads until a tick.
func Survives(b api.Battery, t []api.Window, craft, from, until, essential, sun int) bool {
	charge := b.Charge
	for s := range stretches(t, craft, from, until, sun) {
		first := min(charge+s.gain, b.Capacity) - essential
		charge = min(first+(s.ticks-1)*(s.gain-essential), b.Capacity-essential)
		// The charge after the last tick tells whether one before it falls short: it is the least one if the gain is less than essential, and otherwise only a Capacity less than essential lets any of them fall short.
		if charge < 0 {
			return false
		}
	}
	return true
}
