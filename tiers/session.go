package tiers

import (
	"tiers/api"
	"tiers/item"
	"tiers/lock"
)

// session is what a session's transaction has, and what the session is still to be told. The zero session has nothing.
type session struct {
	locks  []lock.Lock
	writes item.Writes
	// request is the step whose request waits, while the session stands in the queue of its tier.
	request api.Step
	// came tells that a request has waited, and that what came of it, the outcome, has not been told.
	came    bool
	outcome api.Answer
	// ended is why the last transaction was ended by force, till the session is told; else 0.
	ended int
}

// tellEnd tells why the last transaction was ended by force (P6).
func (s *session) tellEnd() api.Answer {
	why := s.ended
	s.ended = 0
	return api.Answer{Code: api.Aborted, Why: why}
}

// tellOutcome tells what came of a request that has waited (P7).
func (s *session) tellOutcome() api.Answer {
	a := s.outcome
	// The list in it is the caller's from now on.
	s.outcome = api.Answer{}
	s.came = false
	return a
}

// covers tells if a lock that the transaction holds covers the request r.
func (s *session) covers(r lock.Lock) bool {
	for _, l := range s.locks {
		if l.Covers(r) {
			return true
		}
	}
	return false
}

// meets tells if a lock that the transaction holds meets the request r.
func (s *session) meets(r lock.Lock) bool {
	for _, l := range s.locks {
		if l.Meets(r) {
			return true
		}
	}
	return false
}
