package power

import (
	"cmp"

	"perigee/api"
)

// order is an order of loads. Its compare function is negative if v is before w, positive if v is after w, and 0 if the order leaves open which of them is first.
type order struct {
	compare func(v, w api.Load) int
}

// by returns the order by increasing numbers of the loads.
func by(number func(api.Load) int) order {
	return order{func(v, w api.Load) int { return cmp.Compare(number(v), number(w)) }}
}

// reversed returns the opposite order. It compares the other way round, because the opposite of a number may overflow.
func (o order) reversed() order {
	return order{func(v, w api.Load) int { return o.compare(w, v) }}
}

// then returns the order o, in which next decides what o leaves open.
func (o order) then(next order) order {
	return order{func(v, w api.Load) int { return cmp.Or(o.compare(v, w), next.compare(v, w)) }}
}

// service returns the order of service.
func service() order {
	return by(class).then(by(priority).reversed()).then(by(id))
}

// class returns 0 for an essential load and 1 for another one.
func class(l api.Load) int {
	if l.Essential {
		return 0
	}
	return 1
}

// priority returns the priority of a load. All essential loads have the same one, because theirs does not count.
func priority(l api.Load) int {
	if l.Essential {
		return 0
	}
	return l.Priority
}

// id returns the ID of a load.
func id(l api.Load) int { return l.ID }
