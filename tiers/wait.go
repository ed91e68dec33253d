package tiers

import (
	"tiers/api"
	"tiers/lock"
)

// join puts the request of x at the end of the queue.
func (t *tier) join(x api.Step) {
	t.sessions[x.Who.Num].request = x
	t.queue = append(t.queue, x.Who.Num)
}

// leave takes the request of the session num out of the queue.
func (t *tier) leave(num int) api.Step {
	x := t.sessions[num].request
	t.sessions[num].request = api.Step{}
	t.queue = without(t.queue, num)
	return x
}

// isHindered tells if the request of w, which is in the queue, is hindered (P9).
func (s *Store) isHindered(w api.Who) bool {
	own := s.tier(w.Label)
	x := own.sessions[w.Num].request
	if x.At != w.Label {
		lower := s.tier(x.At)
		return lower.meets(lock.Asked(x))
	}
	for other := range own.sessions {
		if own.hinders(other, w.Num) {
			return true
		}
	}
	return false
}

// meets tells if a transaction of the label holds a lock that meets the request r.
func (t *tier) meets(r lock.Lock) bool {
	for num := range t.sessions {
		if t.sessions[num].meets(r) {
			return true
		}
	}
	return false
}

// hinders tells if the transaction of the session other hinders the request of the session num, which is in the queue.
// A request on another partition it never hinders: there the label's locks and requests are all to read, so none meets another.
func (t *tier) hinders(other, num int) bool {
	if other == num {
		return false
	}
	r := lock.Asked(t.sessions[num].request)
	if t.sessions[other].meets(r) {
		return true
	}
	if !t.isAhead(other, num) {
		return false
	}
	earlier := lock.Asked(t.sessions[other].request)
	return earlier.Meets(r)
}

// isAhead tells if a request of the session other waits and came earlier than that of the session num, which is in the queue.
func (t *tier) isAhead(other, num int) bool {
	for _, n := range t.queue {
		if n == num {
			return false
		}
		if n == other {
			return true
		}
	}
	return false
}
