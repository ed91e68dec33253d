package tiers

import (
	"tiers/api"
	"tiers/lock"
)

// join puts the request of x at the end of the queue.
func (t *tier) join(x api.Step) {
	t.sessions[x.Who.Num].request = x
	t.queue = append(t.queue, x.Who.Num)
}

// leave takes the request of the session num out of the queue.
func (t *tier) leave(num int) api.Step {
	x := t.sessions[num].request
	t.sessions[num].request = api.Step{}
	t.queue = without(t.queue, num)
	return x
}

// isHindered tells if another transaction of the label hinders the request of the session num, which is in the queue.
// As the steps between labels are still to come, no other label's transaction is held to hinder it.
func (t *tier) isHindered(num int) bool {
	for other := range t.sessions {
		if t.hinders(other, num) {
			return true
		}
	}
	return false
}

// hinders tells if the transaction of the session other hinders the request of the session num, which is in the queue (P9).
func (t *tier) hinders(other, num int) bool {
	if other == num {
		return false
	}
	r := lock.Asked(t.sessions[num].request)
	if t.sessions[other].meets(r) {
		return true
	}
	if !t.isAhead(other, num) {
		return false
	}
	earlier := lock.Asked(t.sessions[other].request)
	return earlier.Meets(r)
}

// isAhead tells if a request of the session other waits and came earlier than that of the session num, which is in the queue.
func (t *tier) isAhead(other, num int) bool {
	for _, n := range t.queue {
		if n == num {
			return false
		}
		if n == other {
			return true
		}
	}
	return false
}

// admit grants the request of a session that is in the queue: it becomes a lock, and its operation is done.
func (s *Store) admit(w api.Who) api.Answer {
	own := s.tier(w.Label)
	x := own.leave(w.Num)
	me := &own.sessions[w.Num]
	me.locks = append(me.locks, lock.Asked(x))
	return s.grant(x)
}

// settle grants the requests of the label l that wait and are no longer hindered (P13).
// One round is enough: what is granted can hinder only requests that came later, and these are looked at later.
func (s *Store) settle(l api.Label) {
	own := s.tier(l)
	waiting := own.queue
	for _, num := range waiting {
		if own.isHindered(num) {
			continue
		}
		a := s.admit(api.Who{Label: l, Num: num})
		own.sessions[num].outcome = a
		own.sessions[num].came = true
	}
}

// finish ends a session's transaction, and grants what waited for that.
func (s *Store) finish(w api.Who) {
	own := s.tier(w.Label)
	own.end(w.Num)
	s.settle(w.Label)
}
