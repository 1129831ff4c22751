package thermal_test

import (
	"math/rand"
	"slices"
	"testing"

	"perigee/api"
	"perigee/ecc"
	"perigee/thermal"
)

// stored returns the code word of a temperature.
func stored(temp int) uint64 { return ecc.Encode(uint32(temp + 1000000)) }

// restored returns the temperature of a code word, and the status of ecc.Decode.
func restored(code uint64) (int, int) {
	word, status := ecc.Decode(code)
	return int(word) - 1000000, status
}

// TestFlips checks P11.10 for temperatures at and near the limits and in between, with each bit inverted.
func TestFlips(t *testing.T) {
	for _, temp := range []int{-warm, -warm + 1, -300, -1, 0, 1, 254, 276, 300, 99999, warm - 1, warm} {
		if got, status := restored(stored(temp)); got != temp || status != 0 {
			t.Errorf("the Temp %d is restored as %d with the status %d", temp, got, status)
		}
		for bit := range 39 {
			if got, status := restored(ecc.Flip(stored(temp), bit)); got != temp || status != 1 {
				t.Errorf("the Temp %d with bit %d inverted is restored as %d with the status %d", temp, bit, got, status)
			}
		}
	}
}

// TestFlipsDuringCourses checks P11.10 for random zones that are stored after each tick, each with at most one inverted bit: their course is the one without flips.
func TestFlipsDuringCourses(t *testing.T) {
	r := rand.New(rand.NewSource(1110))
	for range 1000 {
		v, h, space := slow(r)
		z, heat := append(someZones(r, 3), v), append(someHeat(r, 3), h)
		kept := slices.Clone(z)
		for ticks := range 20 {
			for i := range kept {
				// Bits above 38 do not exist: a flip of one of these numbers is none.
				code := stored(kept[i].Temp)
				if bit := r.Intn(45); bit < 39 {
					code = ecc.Flip(code, bit)
				}
				temp, status := restored(code)
				if status == 2 {
					t.Errorf("the Temp %d is lost", kept[i].Temp)
				}
				kept[i].Temp = temp
			}
			if want := thermal.After(z, heat, space, ticks); !slices.Equal(kept, want) {
				t.Fatalf("the zones %v after %d ticks are restored as %v, want %v", z, ticks, kept, want)
			}
			checkHottest(t, kept, thermal.Hottest(thermal.After(z, heat, space, ticks)))
			kept = thermal.Step(kept, heat, space)
		}
	}
}

// TestFlipsOfList checks P11.10 for all zones of a list at once: what is restored is the list, and so is its later course.
func TestFlipsOfList(t *testing.T) {
	r := rand.New(rand.NewSource(1111))
	for range 1000 {
		z, heat, space, ticks := someZones(r, 8), someHeat(r, 8), someTemp(r), r.Intn(500)
		again := make([]api.Zone, len(z))
		for i, v := range z {
			temp, _ := restored(ecc.Flip(stored(v.Temp), r.Intn(39)))
			again[i] = api.Zone{Temp: temp, Limit: v.Limit, Leak: v.Leak}
		}
		checkAfter(t, again, heat, space, ticks, thermal.After(z, heat, space, ticks))
	}
}
