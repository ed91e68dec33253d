package tiers

import (
	"tiers/api"
	"tiers/label"
	"tiers/lock"
)

// admit grants the request of a session that is in the queue: it becomes a lock, and its operation is done.
func (s *Store) admit(w api.Who) api.Answer {
	own := s.tier(w.Label)
	x := own.leave(w.Num)
	r := lock.Asked(x)
	me := &own.sessions[w.Num]
	me.locks = append(me.locks, r)
	if r.Write {
		s.preempt(r)
	}
	return s.grant(x)
}

// preempt ends by force all transactions of higher labels that hold a lock that meets the request to write r (P11).
// It grants nothing, so that no request of one of them is granted by the end of another.
func (s *Store) preempt(r lock.Lock) {
	place, _ := label.Place(r.At)
	// Beside those of its own label, transactions of higher labels alone hold locks on a partition, and higher labels have later places.
	for above := place + 1; above < label.Count; above++ {
		t := &s.tiers[above]
		for num := range t.sessions {
			if t.sessions[num].meets(r) {
				t.force(num, api.Preempted)
			}
		}
	}
}

// settle grants the requests that wait and are no longer hindered (P13).
// One round is enough: a grant can end transactions of higher labels alone, and for these only requests on later partitions wait.
func (s *Store) settle() {
	for at := range s.tiers {
		// Requests on a partition come from its own label and from higher ones, which have later places; so those of its own label come first.
		for from := at; from < label.Count; from++ {
			s.settleQueue(from, at)
		}
	}
}

// settleQueue does so for the requests of the label that stands at the place from, on the partition that stands at the place at.
// In the order of coming one round is enough: what is granted can hinder only requests that came later.
func (s *Store) settleQueue(from, at int) {
	t := &s.tiers[from]
	waiting := t.queue
	for _, num := range waiting {
		x := t.sessions[num].request
		target, _ := label.Place(x.At)
		if target != at || s.isHindered(x.Who) {
			continue
		}
		a := s.admit(x.Who)
		t.sessions[num].outcome = a
		t.sessions[num].came = true
	}
}

// finish ends a session's transaction, and grants what waited for that.
func (s *Store) finish(w api.Who) {
	own := s.tier(w.Label)
	own.end(w.Num)
	s.settle()
}
