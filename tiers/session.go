package tiers

import (
	"tiers/api"
	"tiers/item"
	"tiers/lock"
)

// The phases of a transaction's request.
const (
	free  = 0 // none waits, and there is nothing to tell of one
	waits = 1
	came  = 2 // one has waited, and what came of it has not been told
)

// session is a session with its transaction. The zero session has none.
type session struct {
	live   bool
	locks  []lock.Lock
	writes item.Writes
	phase  int
	// outcome is what came of a request that has waited, while the phase is came.
	outcome api.Answer
	// ended is why the last transaction was ended by force, till the session is told; else 0.
	ended int
}

// tellEnd tells why the last transaction was ended by force (P6).
func (s *session) tellEnd() api.Answer {
	why := s.ended
	s.ended = 0
	return api.Answer{Code: api.Aborted, Why: why}
}

// poll tells how the request stands that has waited (P7).
func (s *session) poll() api.Answer {
	switch s.phase {
	case waits:
		return api.Answer{Code: api.Blocked}
	case came:
		a := s.outcome
		// The list in it is the caller's from now on.
		s.outcome = api.Answer{}
		s.phase = free
		return a
	}
	return api.Answer{Code: api.Idle}
}

// abort ends the transaction without its writes (P7).
func (s *session) abort() api.Answer {
	if !s.live {
		return api.Answer{Code: api.NoTxn}
	}
	s.end()
	return api.Answer{Code: api.Done}
}

// end leaves nothing of the transaction: its locks, its request and what came of one go with it.
func (s *session) end() {
	*s = session{}
}

// covers tells if a lock that the transaction holds covers the request r.
func (s *session) covers(r lock.Lock) bool {
	for _, l := range s.locks {
		if l.Covers(r) {
			return true
		}
	}
	return false
}

// live counts the live transactions of the label.
func (t *tier) live() int {
	n := 0
	for i := range t.sessions {
		if t.sessions[i].live {
			n++
		}
	}
	return n
}

// locks counts the label's locks and requests that wait.
func (t *tier) locks() int {
	n := 0
	for i := range t.sessions {
		n += len(t.sessions[i].locks)
		if t.sessions[i].phase == waits {
			n++
		}
	}
	return n
}

// isTaken tells if key is taken: by an item, or by a Put of a live transaction.
func (t *tier) isTaken(key int) bool {
	if t.items.Has(key) {
		return true
	}
	for i := range t.sessions {
		if t.sessions[i].writes.HasPut(key) {
			return true
		}
	}
	return false
}

// taken counts the keys that are taken.
func (t *tier) taken() int {
	n := 0
	for key := 0; key <= api.MaxKey; key++ {
		if t.isTaken(key) {
			n++
		}
	}
	return n
}
