package tiers

import (
	"reflect"
	"testing"

	"tiers/api"
)

// good are steps that are Done, one after the other, in a new store.
func good() []api.Step {
	top := api.Who{Label: api.Label{Level: 3, Comp: 7}, Num: 3}
	at := top.Label
	return []api.Step{
		{Who: top, Op: api.Begin},
		{Who: top, Op: api.Put, At: at, Key: 0, Value: 0},
		{Who: top, Op: api.Put, At: at, Key: 15, Value: 999},
		{Who: top, Op: api.Get, At: at, Key: 15},
		{Who: top, Op: api.Scan, At: at, Key: 0, To: 15},
		{Who: top, Op: api.Scan, At: at, Key: 15, To: 15},
		{Who: top, Op: api.Del, At: at, Key: 15},
		{Who: top, Op: api.Commit},
	}
}

func TestP5TheEdgesAreSteps(t *testing.T) {
	s := made(t, wide)
	for _, x := range good() {
		if a := s.Do(x); a.Code != api.Done {
			t.Errorf("%+v: %s", x, shown(a))
		}
	}
}

func TestP5WhatIsNotUsedMayBeAnything(t *testing.T) {
	for _, n := range []int{least, -1, 16, 1000, most} {
		s, z := made(t, wide), made(t, wide)
		for _, x := range good() {
			y := x
			switch x.Op {
			case api.Get, api.Del:
				y.To, y.Value = n, n
			case api.Scan:
				y.Value = n
			case api.Put:
				y.To = n
			default:
				y.At, y.Key, y.To, y.Value = api.Label{Level: n, Comp: n}, n, n, n
			}
			one, two := s.Do(x), z.Do(y)
			if shown(one) != shown(two) {
				t.Errorf("%+v: %s, want %s", y, shown(two), shown(one))
			}
		}
		for _, op := range []int{api.Poll, api.Abort} {
			x := api.Step{Op: op, At: api.Label{Level: n, Comp: n}, Key: n, To: n, Value: n}
			if a := s.Do(x); a.Code == api.Bad {
				t.Errorf("%+v: Bad", x)
			}
		}
	}
}

// spoilt are forms of the step x that are each wrong in one place.
func spoilt(x api.Step) []api.Step {
	var l []api.Step
	for _, n := range []int{least, -1, 16, 1000, most} {
		spoil := func(change func(y *api.Step)) {
			y := x
			change(&y)
			l = append(l, y)
		}
		spoil(func(y *api.Step) { y.Who.Label.Level = n })
		spoil(func(y *api.Step) { y.Who.Label.Comp = n })
		spoil(func(y *api.Step) { y.Who.Num = n })
		spoil(func(y *api.Step) { y.Op = n })
		if x.Op < api.Get || x.Op > api.Del {
			continue
		}
		spoil(func(y *api.Step) { y.At.Level = n })
		spoil(func(y *api.Step) { y.At.Comp = n })
		spoil(func(y *api.Step) { y.Key = n })
	}
	return append(l, spoiltAtTheEdge(x)...)
}

func spoiltAtTheEdge(x api.Step) []api.Step {
	l := []api.Step{x, x, x, x, x}
	l[0].Who.Label.Level = 4
	l[1].Who.Label.Comp = 8
	l[2].Who.Num = 4
	l[3].Op = 0
	l[4].Op = 9
	if x.Op >= api.Get && x.Op <= api.Del {
		l = append(l, x, x)
		l[5].At.Level = 4
		l[6].At.Comp = 8
	}
	for _, n := range []int{least, -1, x.Key - 1, 16, 1000, most} {
		y := x
		y.To, y.Value = n, 0
		if x.Op == api.Scan {
			l = append(l, y)
		}
		if y.Value = n; x.Op == api.Put && (n < 0 || n > 999) {
			l = append(l, y)
		}
	}
	return l
}

func TestP5Bad(t *testing.T) {
	for i := range good() {
		s := made(t, wide)
		for _, x := range good()[:i] {
			s.Do(x)
		}
		before := *s
		for _, y := range spoilt(good()[i]) {
			if a := s.Do(y); shown(a) != "Bad" {
				t.Errorf("%+v: %s", y, shown(a))
			}
		}
		if !reflect.DeepEqual(before, *s) {
			t.Errorf("what is Bad changed the store, before %+v", good()[i])
		}
	}
}

func TestP5BadComesBeforeAllElse(t *testing.T) {
	s := made(t, api.Config{Keys: 1, Live: 1, Locks: 1})
	run(t, s, `
		A Get 0/0 16: Bad
		A Get 1/0 -1: Bad
		A Begin: Done
		A Scan 1/0 5 4: Bad
		A Put 1/0 3 1000: Bad
		A Get 0/0 1: Done
		A Get 0/0 16: Bad
		A Del 4/0 1: Bad`)
	run(t, made(t, wide), `
		B Begin: Done
		A Begin: Done
		A Get 0/0 3: Done
		B Get 0/0 3: Done
		A Put 0/0 3 1: Blocked
		A Get 0/0 16: Bad
		A Poll: Blocked
		B Put 0/0 3 2: Blocked
		A Get 0/0 16: Bad
		B Get 0/0 16: Bad
		A Poll: Aborted why2
		B Get 0/0 15: Busy
		B Poll: Done`)
}

// ringed is a store for two live transactions where that of B is live, and that of A was ended in a ring, of which A has not been told.
func ringed(t *testing.T) *Store {
	s := made(t, api.Config{Keys: 16, Live: 2, Locks: 32})
	run(t, s, `
		B Begin: Done
		A Begin: Done
		A Put 0/0 9 9: Done
		A Get 0/0 3: Done
		B Get 0/0 3: Done
		A Put 0/0 3 1: Blocked
		B Put 0/0 3 2: Blocked`)
	return s
}

func TestP6AnEndByForceIsTold(t *testing.T) {
	steps := []string{"A Begin", "A Get 0/0 3", "A Scan 0/0 3 9", "A Put 0/0 3 7", "A Put 1/0 3 7", "A Del 0/0 3", "A Commit", "A Abort", "A Poll"}
	for _, step := range steps {
		run(t, ringed(t), step+": Aborted why2\n"+`
			C Begin: Done
			A Poll: Idle
			A Begin: Quota
			C Commit: Done
			A Commit: NoTxn
			A Abort: NoTxn
			B Poll: Done
			Look 0/0: OK
			A Begin: Done
			A Get 0/0 9: Done
			A Commit: Done
			B Commit: Done
			Look 0/0: OK 3:2`)
	}
}

// preempted is a store for two live transactions of a label where that of H was preempted, of which H has not been told.
func preempted(t *testing.T) *Store {
	s := made(t, api.Config{Keys: 16, Live: 2, Locks: 32})
	run(t, s, `
		H Begin: Done
		H Put 1/0 9 9: Done
		H Get 0/0 3: Done
		A Begin: Done
		A Put 0/0 3 1: Done`)
	return s
}

func TestP6PreemptedIsTold(t *testing.T) {
	steps := []string{"H Begin", "H Get 0/0 3", "H Scan 1/0 3 9", "H Put 1/0 3 7", "H Put 0/0 3 7", "H Del 1/0 3", "H Commit", "H Abort", "H Poll"}
	for _, step := range steps {
		run(t, preempted(t), "A Get 0/0 3: Done 3:1\n"+step+": Aborted why1\n"+`
			H Poll: Idle
			H Commit: NoTxn
			H Abort: NoTxn
			H Get 1/0 9: NoTxn
			I Begin: Done
			J Begin: Done
			H Begin: Quota
			J Commit: Done
			H Begin: Done
			H Get 1/0 9: Done
			H Commit: Done
			A Commit: Done
			Look 1/0: OK
			Look 0/0: OK 3:1`)
	}
}

func TestP6BadDoesNotTell(t *testing.T) {
	run(t, preempted(t), `
		H Get 0/0 16: Bad
		H Get 4/0 3: Bad
		H Poll: Aborted why1
		H Poll: Idle`)
}

func TestP6EachSessionIsToldOfItsOwn(t *testing.T) {
	run(t, ringed(t), `
		D Poll: Idle
		C Begin: Done
		H Begin: Done
		B Begin: Busy
		A Begin: Aborted why2
		A Begin: Quota
		C Abort: Done
		A Begin: Done
		A Begin: Live`)
}

func TestP7WithoutATransaction(t *testing.T) {
	run(t, made(t, wide), `
		A Get 0/0 3: NoTxn
		A Get 1/0 3: NoTxn
		A Scan 0/0 3 3: NoTxn
		A Put 0/0 3 7: NoTxn
		A Put 1/0 3 7: NoTxn
		A Del 0/0 3: NoTxn
		A Commit: NoTxn
		A Abort: NoTxn
		A Poll: Idle
		Look 0/0: OK`)
}

func TestP7BeginAndEnd(t *testing.T) {
	run(t, made(t, wide), `
		A Begin: Done
		A Begin: Live
		B Commit: NoTxn
		H Commit: NoTxn
		A Poll: Idle
		A Put 0/0 3 7: Done
		A Begin: Live
		A Get 0/0 3: Done 3:7
		Look 0/0: OK
		A Commit: Done
		Look 0/0: OK 3:7
		A Poll: Idle
		A Commit: NoTxn
		A Abort: NoTxn
		A Begin: Done
		A Put 0/0 3 8: Done
		A Put 0/0 4 8: Done
		A Abort: Done
		A Abort: NoTxn
		Look 0/0: OK 3:7
		A Begin: Done
		A Scan 0/0 0 15: Done 3:7
		A Commit: Done
		Look 0/0: OK 3:7`)
}

func TestP7QuotaOfLive(t *testing.T) {
	run(t, made(t, api.Config{Keys: 16, Live: 1, Locks: 32}), `
		A Begin: Done
		B Begin: Quota
		A Begin: Live
		H Begin: Done
		I Begin: Quota
		B Commit: NoTxn
		A Abort: Done
		B Begin: Done
		A Begin: Quota
		B Commit: Done
		A Begin: Done`)
	run(t, made(t, api.Config{Keys: 16, Live: 3, Locks: 32}), `
		A Begin: Done
		B Begin: Done
		C Begin: Done
		D Begin: Quota
		C Begin: Live
		B Abort: Done
		D Begin: Done
		B Begin: Quota`)
	run(t, made(t, wide), `
		A Begin: Done
		B Begin: Done
		C Begin: Done
		D Begin: Done
		D Begin: Live`)
}

func TestP7WhileARequestWaits(t *testing.T) {
	run(t, made(t, wide), `
		A Begin: Done
		A Put 0/0 3 7: Done
		B Begin: Done
		B Put 0/0 5 5: Done
		B Get 0/0 3: Blocked
		B Poll: Blocked
		B Poll: Blocked
		B Begin: Busy
		B Get 0/0 3: Busy
		B Get 0/0 5: Busy
		B Get 1/0 3: Busy
		B Scan 0/0 3 3: Busy
		B Put 1/0 3 8: Busy
		B Del 0/0 5: Busy
		B Commit: Busy
		Look 0/0: OK
		C Begin: Done
		C Poll: Idle
		C Commit: Done
		B Poll: Blocked
		B Abort: Done
		B Poll: Idle
		B Commit: NoTxn
		A Commit: Done
		B Poll: Idle
		B Begin: Done
		B Poll: Idle
		Look 0/0: OK 3:7`)
}

func TestP7WhatCameOfARequest(t *testing.T) {
	s := made(t, wide)
	run(t, s, `
		A Begin: Done
		A Put 0/0 4 4: Done
		B Begin: Done
		B Put 0/0 3 7: Done
		B Scan 0/0 0 5: Blocked
		A Commit: Done
		B Begin: Busy
		B Get 0/0 3: Busy
		B Put 0/0 5 5: Busy
		B Put 1/0 3 7: Busy
		B Commit: Busy
		A Poll: Idle
		C Poll: Idle
		B Poll: Done 3:7 4:4
		B Poll: Idle
		B Get 0/0 3: Done 3:7`)
	if s.tiers[0].sessions[1].outcome.Items != nil {
		t.Error("a list that was told is kept")
	}
	run(t, s, `
		B Commit: Done
		Look 0/0: OK 3:7 4:4`)
}

func TestP7AbortBeforeTheOutcomeIsTold(t *testing.T) {
	run(t, made(t, wide), `
		A Begin: Done
		A Get 0/0 3: Done
		B Begin: Done
		B Put 0/0 3 7: Blocked
		A Commit: Done
		B Abort: Done
		B Poll: Idle
		B Commit: NoTxn
		B Begin: Done
		B Poll: Idle
		B Get 0/0 3: Done
		B Commit: Done
		Look 0/0: OK`)
}
