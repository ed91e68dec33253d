package tiers

import "tiers/api"

// waitings tells of each two sessions of a label, by their numbers, if the first one's transaction waits for the second one's.
type waitings [api.MaxNum + 1][api.MaxNum + 1]bool

// firstHand tells who waits for whom without others between.
func (t *tier) firstHand() waitings {
	var w waitings
	for _, num := range t.queue {
		for other := range t.sessions {
			w[num][other] = t.hinders(other, num)
		}
	}
	return w
}

// closed tells who waits for whom, also by way of others.
func (w waitings) closed() waitings {
	for via := range w {
		for from := range w {
			for to := range w {
				if w[from][via] && w[via][to] {
					w[from][to] = true
				}
			}
		}
	}
	return w
}

// youngestInRing tells the session with the youngest transaction of all that stand in a ring with that of the session num. It is false if there is no such ring.
func (t *tier) youngestInRing(num int) (int, bool) {
	direct := t.firstHand()
	w := direct.closed()
	for i := len(t.begun) - 1; i >= 0; i-- {
		other := t.begun[i]
		if w[num][other] && w[other][num] {
			return other, true
		}
	}
	return 0, false
}

// breakRings ends transactions by force till that of w, whose request has begun to wait, stands in no ring (P12), and answers w's step.
func (s *Store) breakRings(w api.Who) api.Answer {
	own := s.tier(w.Label)
	// Each round ends a transaction, so there are no more rounds than sessions.
	for range own.sessions {
		youngest, found := own.youngestInRing(w.Num)
		if !found {
			break
		}
		own.force(youngest, api.Deadlock)
		s.settle()
	}
	me := &own.sessions[w.Num]
	if me.ended != 0 {
		return me.tellEnd()
	}
	return api.Answer{Code: api.Blocked}
}
