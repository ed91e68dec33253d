// Package tiers: a store in which whoever stands lower never notices whoever stands higher: see DOC.md.
package tiers

import (
	"tiers/api"
	"tiers/label"
)

// Store is a store with its sessions.
type Store struct {
	config api.Config
	tiers  [label.Count]tier
}

// New makes a store (P3).
func New(c api.Config) (*Store, api.Errno) {
	if c.Keys < 1 || c.Keys > api.MaxKeys {
		return nil, api.ErrConfig
	}
	if c.Live < 1 || c.Live > api.MaxLive {
		return nil, api.ErrConfig
	}
	if c.Locks < 1 || c.Locks > api.MaxLocks {
		return nil, api.ErrConfig
	}
	return &Store{config: c}, api.OK
}

// Do does a step (P5 to P13).
func (s *Store) Do(x api.Step) api.Answer {
	if !possible(x) {
		return api.Answer{Code: api.Bad}
	}
	own := s.tier(x.Who.Label)
	me := &own.sessions[x.Who.Num]
	if me.ended != 0 {
		return me.tellEnd()
	}
	switch x.Op {
	case api.Poll:
		return own.poll(x.Who.Num)
	case api.Abort:
		return s.abort(x.Who)
	}
	if own.isBusy(x.Who.Num) {
		return api.Answer{Code: api.Busy}
	}
	if x.Op == api.Begin {
		return s.begin(x.Who)
	}
	if !own.isLive(x.Who.Num) {
		return api.Answer{Code: api.NoTxn}
	}
	if x.Op == api.Commit {
		return s.commit(x.Who)
	}
	return s.ask(x)
}

// Look tells what a partition holds (P4).
func (s *Store) Look(l api.Label) ([]api.Item, api.Errno) {
	place, ok := label.Place(l)
	if !ok {
		return nil, api.ErrLabel
	}
	return s.tiers[place].items.List(0, api.MaxKey), api.OK
}

// tier is what there is of the label l.
func (s *Store) tier(l api.Label) *tier {
	place, _ := label.Place(l)
	return &s.tiers[place]
}

// begin makes the transaction of a session that has none.
func (s *Store) begin(w api.Who) api.Answer {
	own := s.tier(w.Label)
	if own.isLive(w.Num) {
		return api.Answer{Code: api.Live}
	}
	if len(own.begun) >= s.config.Live {
		return api.Answer{Code: api.Quota}
	}
	own.begun = append(own.begun, w.Num)
	return api.Answer{Code: api.Done}
}

// abort ends a session's transaction without its writes.
func (s *Store) abort(w api.Who) api.Answer {
	own := s.tier(w.Label)
	if !own.isLive(w.Num) {
		return api.Answer{Code: api.NoTxn}
	}
	s.finish(w)
	return api.Answer{Code: api.Done}
}

// commit ends a session's transaction with its writes.
func (s *Store) commit(w api.Who) api.Answer {
	own := s.tier(w.Label)
	me := &own.sessions[w.Num]
	own.items = me.writes.Over(own.items)
	s.finish(w)
	return api.Answer{Code: api.Done}
}
