package tiers

import (
	"math/rand"
	"sort"
	"testing"

	"tiers/api"
)

// model is a second, slow reading of P5, P7, P8 and P10, for steps that meet no lock of another transaction.
type model struct {
	c     api.Config
	items map[api.Label]map[int]int
	txns  map[api.Who]*modelTxn
}

type modelTxn struct {
	locks []modelLock
	// log has the writes in the order in which they were done.
	log []api.Step
}

type modelLock struct {
	at    api.Label
	keys  map[int]bool
	write bool
}

func newModel(c api.Config) *model {
	return &model{c, map[api.Label]map[int]int{}, map[api.Who]*modelTxn{}}
}

func wanted(x api.Step) modelLock {
	l := modelLock{x.At, map[int]bool{x.Key: true}, x.Op == api.Put || x.Op == api.Del}
	for k := x.Key; x.Op == api.Scan && k <= x.To; k++ {
		l.keys[k] = true
	}
	return l
}

// inTheWay tells if the step would meet a lock of another transaction: such steps are not played.
func (m *model) inTheWay(x api.Step) bool {
	r := wanted(x)
	for w, other := range m.txns {
		for _, l := range other.locks {
			for k := range l.keys {
				if w != x.Who && l.at == r.at && r.keys[k] && (l.write || r.write) {
					return true
				}
			}
		}
	}
	return false
}

func (m *model) covered(x api.Step) bool {
	r := wanted(x)
	for _, l := range m.txns[x.Who].locks {
		all := l.at == r.at && (l.write || !r.write)
		for k := range r.keys {
			all = all && l.keys[k]
		}
		if all {
			return true
		}
	}
	return false
}

// of counts the live transactions of a label and their locks, and tells the keys that are taken.
func (m *model) of(l api.Label) (int, int, map[int]bool) {
	live, locks, taken := 0, 0, map[int]bool{}
	for k := range m.items[l] {
		taken[k] = true
	}
	for w, x := range m.txns {
		if w.Label != l {
			continue
		}
		live++
		locks += len(x.locks)
		for _, y := range x.log {
			if y.Op == api.Put {
				taken[y.Key] = true
			}
		}
	}
	return live, locks, taken
}

func (m *model) seen(w api.Who, at api.Label) map[int]int {
	view := map[int]int{}
	for k, v := range m.items[at] {
		view[k] = v
	}
	for _, y := range m.txns[w].log {
		if y.At != at {
			continue
		}
		delete(view, y.Key)
		if y.Op == api.Put {
			view[y.Key] = y.Value
		}
	}
	return view
}

func inOrder(view map[int]int, lo, hi int) []api.Item {
	var l []api.Item
	for k, v := range view {
		if k >= lo && k <= hi {
			l = append(l, api.Item{Key: k, Value: v})
		}
	}
	sort.Slice(l, func(i, j int) bool { return l[i].Key < l[j].Key })
	return l
}

func (m *model) do(x api.Step) api.Answer {
	code := func(c int) api.Answer { return api.Answer{Code: c} }
	me := m.txns[x.Who]
	live, locks, _ := m.of(x.Who.Label)
	switch {
	case x.Op == api.Scan && x.To < x.Key:
		return code(api.Bad)
	case x.Op == api.Poll:
		return code(api.Idle)
	case x.Op == api.Begin && me != nil:
		return code(api.Live)
	case x.Op == api.Begin && live >= m.c.Live:
		return code(api.Quota)
	case x.Op == api.Begin:
		m.txns[x.Who] = &modelTxn{}
		return code(api.Done)
	case me == nil:
		return code(api.NoTxn)
	case x.Op == api.Commit:
		m.items[x.Who.Label] = m.seen(x.Who, x.Who.Label)
		delete(m.txns, x.Who)
		return code(api.Done)
	case x.Op == api.Abort:
		delete(m.txns, x.Who)
		return code(api.Done)
	case wanted(x).write && x.At != x.Who.Label, x.At.Level > x.Who.Label.Level, x.At.Comp&^x.Who.Label.Comp != 0:
		return code(api.Denied)
	case !m.covered(x) && locks >= m.c.Locks:
		return code(api.Quota)
	case !m.covered(x):
		me.locks = append(me.locks, wanted(x))
	}
	return m.granted(x)
}

func (m *model) granted(x api.Step) api.Answer {
	_, _, taken := m.of(x.Who.Label)
	switch x.Op {
	case api.Get:
		return api.Answer{Items: inOrder(m.seen(x.Who, x.At), x.Key, x.Key)}
	case api.Scan:
		return api.Answer{Items: inOrder(m.seen(x.Who, x.At), x.Key, x.To)}
	case api.Put:
		if !taken[x.Key] && len(taken) >= m.c.Keys {
			return api.Answer{Code: api.Quota}
		}
	}
	m.txns[x.Who].log = append(m.txns[x.Who].log, x)
	return api.Answer{}
}

// fair is a step without faults, of a few labels; requests come more often than ends.
func fair(r *rand.Rand) api.Step {
	labels := []api.Label{{}, {Level: 1}, {Comp: 1}, {Level: 1, Comp: 3}, {Level: 3, Comp: 7}}
	ops := []int{api.Begin, api.Get, api.Get, api.Scan, api.Put, api.Put, api.Put, api.Put, api.Del, api.Del, api.Commit, api.Abort, api.Poll}
	if r.Intn(3) > 0 {
		ops = ops[:10]
	}
	x := api.Step{
		Who: api.Who{Label: labels[r.Intn(len(labels))], Num: r.Intn(4)},
		Op:  ops[r.Intn(len(ops))], At: labels[r.Intn(len(labels))],
		Key: r.Intn(16), To: r.Intn(16), Value: r.Intn(1000),
	}
	if r.Intn(3) > 0 {
		x.At = x.Who.Label
	}
	return x
}

func TestNobodyInTheWay(t *testing.T) {
	r := rand.New(rand.NewSource(3))
	codes := map[int]int{}
	for range 60 {
		c := api.Config{Keys: 1 + r.Intn(16), Live: 1 + r.Intn(4), Locks: 1 + r.Intn(32)}
		s, m := made(t, c), newModel(c)
		for range 1500 {
			x := fair(r)
			if x.Op >= api.Get && x.Op <= api.Del && m.inTheWay(x) {
				continue
			}
			got, want := s.Do(x), m.do(x)
			if shown(got) != shown(want) {
				t.Fatalf("%+v with %+v: %s, want %s", x, c, shown(got), shown(want))
			}
			codes[got.Code]++
			l := x.Who.Label
			if got, want := looked(s, l), "OK"+listed(inOrder(m.items[l], 0, 15)); got != want {
				t.Fatalf("Look(%v) after %+v: %s, want %s", l, x, got, want)
			}
		}
	}
	for _, code := range []int{api.Done, api.Denied, api.Quota, api.NoTxn, api.Live, api.Idle, api.Bad} {
		if codes[code] < 100 {
			t.Errorf("only %d answers were %s: %v", codes[code], codeNames[code], codes)
		}
	}
}
