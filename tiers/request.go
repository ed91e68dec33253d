package tiers

import (
	"tiers/api"
	"tiers/item"
	"tiers/lock"
)

// ask makes the request of a Get, Scan, Put or Del in a live transaction (P8).
func (s *Store) ask(x api.Step) api.Answer {
	if !allowed(x) {
		return api.Answer{Code: api.Denied}
	}
	own := s.tier(x.Who.Label)
	me := &own.sessions[x.Who.Num]
	r := lock.Asked(x)
	if me.covers(r) {
		// A lock to write has no lock of a higher label meeting it from its own grant on, so there is nobody to preempt.
		return s.grant(x)
	}
	if own.locks() >= s.config.Locks {
		return api.Answer{Code: api.Quota}
	}
	own.join(x)
	if s.isHindered(x.Who) {
		return s.breakRings(x.Who)
	}
	a := s.admit(x.Who)
	s.settle()
	return a
}

// grant does the operation of a request that is granted (P10).
func (s *Store) grant(x api.Step) api.Answer {
	switch x.Op {
	case api.Put:
		return s.put(x)
	case api.Del:
		own := s.tier(x.Who.Label)
		own.sessions[x.Who.Num].writes.Del(x.Key)
		return api.Answer{Code: api.Done}
	}
	seen := s.sees(x.Who, x.At)
	r := lock.Asked(x)
	return api.Answer{Code: api.Done, Items: seen.List(r.Lo, r.Hi)}
}

// put makes a Put a write of the transaction, if the partition has room for its key.
func (s *Store) put(x api.Step) api.Answer {
	own := s.tier(x.Who.Label)
	if !own.isTaken(x.Key) {
		if own.taken() >= s.config.Keys {
			return api.Answer{Code: api.Quota}
		}
	}
	own.sessions[x.Who.Num].writes.Put(x.Key, x.Value)
	return api.Answer{Code: api.Done}
}

// sees is the items of the partition at, as the session's transaction sees them.
func (s *Store) sees(w api.Who, at api.Label) item.Table {
	t := s.tier(at).items
	if at != w.Label {
		return t
	}
	own := s.tier(w.Label)
	return own.sessions[w.Num].writes.Over(t)
}
