package tiers

import (
	"math/bits"
	"math/rand"
	"slices"
	"sort"
	"testing"

	"tiers/api"
)

// model is a second, slow reading of P5 to P13.
type model struct {
	c     api.Config
	items map[api.Label]map[int]int
	txns  map[api.Who]*modelTxn
	// forced has why a transaction was ended by force, till its session is told.
	forced map[api.Who]int
	// now counts what happens, for the order of it.
	now int
	// notes counts what the answers alone do not show.
	notes map[string]int
}

type modelTxn struct {
	begun int
	locks []modelLock
	// log has the writes in the order in which they were done.
	log   []api.Step
	asked *modelRequest
	came  *api.Answer
}

type modelLock struct {
	at    api.Label
	keys  map[int]bool
	write bool
}

type modelRequest struct {
	x    api.Step
	when int
}

func newModel(c api.Config) *model {
	return &model{c: c, items: map[api.Label]map[int]int{}, txns: map[api.Who]*modelTxn{}, forced: map[api.Who]int{}, notes: map[string]int{}}
}

func (m *model) tick() int {
	m.now++
	return m.now
}

func wanted(x api.Step) modelLock {
	l := modelLock{x.At, map[int]bool{x.Key: true}, x.Op == api.Put || x.Op == api.Del}
	for k := x.Key; x.Op == api.Scan && k <= x.To; k++ {
		l.keys[k] = true
	}
	return l
}

func meet(a, b modelLock) bool {
	common := false
	for k := range a.keys {
		common = common || b.keys[k]
	}
	return common && a.at == b.at && (a.write || b.write)
}

func (t *modelTxn) holdsAgainst(r modelLock) bool {
	return slices.ContainsFunc(t.locks, func(l modelLock) bool { return meet(l, r) })
}

func (m *model) covered(x api.Step) bool {
	r := wanted(x)
	for _, l := range m.txns[x.Who].locks {
		all := l.at == r.at && (l.write || !r.write)
		for k := range r.keys {
			all = all && l.keys[k]
		}
		if all {
			return true
		}
	}
	return false
}

// of counts the live transactions of a label and their locks and requests, and tells the keys that are taken.
func (m *model) of(l api.Label) (int, int, map[int]bool) {
	live, locks, taken := 0, 0, map[int]bool{}
	for k := range m.items[l] {
		taken[k] = true
	}
	for w, x := range m.txns {
		if w.Label != l {
			continue
		}
		live++
		locks += len(x.locks)
		if x.asked != nil {
			locks++
		}
		for _, y := range x.log {
			if y.Op == api.Put {
				taken[y.Key] = true
			}
		}
	}
	return live, locks, taken
}

func (m *model) seen(w api.Who, at api.Label) map[int]int {
	view := map[int]int{}
	for k, v := range m.items[at] {
		view[k] = v
	}
	for _, y := range m.txns[w].log {
		if y.At != at {
			continue
		}
		delete(view, y.Key)
		if y.Op == api.Put {
			view[y.Key] = y.Value
		}
	}
	return view
}

func inOrder(view map[int]int, lo, hi int) []api.Item {
	var l []api.Item
	for k, v := range view {
		if k >= lo && k <= hi {
			l = append(l, api.Item{Key: k, Value: v})
		}
	}
	sort.Slice(l, func(i, j int) bool { return l[i].Key < l[j].Key })
	return l
}

// waitsFor has those that hinder the request of w.
func (m *model) waitsFor(w api.Who) []api.Who {
	var l []api.Who
	mine := m.txns[w].asked
	if mine == nil {
		return nil
	}
	r := wanted(mine.x)
	for other, o := range m.txns {
		if other == w || other.Label != r.at {
			continue
		}
		earlier := other.Label == w.Label && o.asked != nil && o.asked.when < mine.when
		if o.holdsAgainst(r) || earlier && meet(wanted(o.asked.x), r) {
			l = append(l, other)
		}
	}
	return l
}

// ringed has all that stand in a ring with the first of the path, where the path is a part of the ring.
func (m *model) ringed(path []api.Who) map[api.Who]bool {
	in := map[api.Who]bool{}
	for _, next := range m.waitsFor(path[len(path)-1]) {
		if next == path[0] {
			for _, w := range path {
				in[w] = true
			}
		}
		if slices.Contains(path, next) {
			continue
		}
		for w := range m.ringed(append(slices.Clone(path), next)) {
			in[w] = true
		}
	}
	return in
}

func (m *model) breakRings(w api.Who) {
	for m.txns[w] != nil {
		in := m.ringed([]api.Who{w})
		if len(in) == 0 {
			return
		}
		youngest := w
		for other := range in {
			if m.txns[other].begun > m.txns[youngest].begun {
				youngest = other
			}
		}
		m.end(youngest)
		m.forced[youngest] = api.Deadlock
	}
}

func (m *model) end(w api.Who) {
	delete(m.txns, w)
	m.settle()
}

// rank is lower for a lower label; of those of which neither is the lower one it does not matter which comes first.
func rank(l api.Label) int {
	return 8*(l.Level+bits.OnesCount(uint(l.Comp))) + 7 - l.Comp
}

// ahead tells if P13 looks at the request a before b.
func ahead(a, b *modelRequest) bool {
	if a.x.At != b.x.At {
		return rank(a.x.At) < rank(b.x.At)
	}
	if own := a.x.Who.Label == a.x.At; own != (b.x.Who.Label == b.x.At) {
		return own
	}
	return a.when < b.when
}

// settle grants, again and again, the first request that is not hindered.
func (m *model) settle() {
	for {
		var first *modelRequest
		for other, o := range m.txns {
			if o.asked == nil || len(m.waitsFor(other)) > 0 {
				continue
			}
			if first == nil || ahead(o.asked, first) {
				first = o.asked
			}
		}
		if first == nil {
			return
		}
		before := len(m.txns)
		a := m.admit(first.x)
		m.txns[first.x.Who].came = &a
		if first.x.At != first.x.Who.Label {
			m.notes["down later"]++
		}
		if len(m.txns) < before {
			m.notes["preempted later"]++
		}
	}
}

func (m *model) admit(x api.Step) api.Answer {
	me := m.txns[x.Who]
	me.asked = nil
	me.locks = append(me.locks, wanted(x))
	m.preempt(x)
	return m.granted(x)
}

func (m *model) preempt(x api.Step) {
	r := wanted(x)
	for w, o := range m.txns {
		higher := w.Label != x.Who.Label && w.Label.Level >= x.Who.Label.Level && x.Who.Label.Comp&^w.Label.Comp == 0
		if !r.write || !higher || !o.holdsAgainst(r) {
			continue
		}
		delete(m.txns, w)
		m.forced[w] = api.Preempted
		if o.asked != nil {
			m.notes["preempted while it waits"]++
		}
	}
}

func (m *model) do(x api.Step) api.Answer {
	code := func(c int) api.Answer { return api.Answer{Code: c} }
	me := m.txns[x.Who]
	why := m.forced[x.Who]
	live, _, _ := m.of(x.Who.Label)
	switch {
	case x.Op == api.Scan && x.To < x.Key:
		return code(api.Bad)
	case why != 0:
		delete(m.forced, x.Who)
		return api.Answer{Code: api.Aborted, Why: why}
	case x.Op == api.Poll && me != nil && me.asked != nil:
		return code(api.Blocked)
	case x.Op == api.Poll && me != nil && me.came != nil:
		a := *me.came
		me.came = nil
		return a
	case x.Op == api.Poll:
		return code(api.Idle)
	case x.Op == api.Abort && me != nil:
		m.end(x.Who)
		return code(api.Done)
	case me != nil && (me.asked != nil || me.came != nil):
		return code(api.Busy)
	case x.Op == api.Begin && me != nil:
		return code(api.Live)
	case x.Op == api.Begin && live >= m.c.Live:
		return code(api.Quota)
	case x.Op == api.Begin:
		m.txns[x.Who] = &modelTxn{begun: m.tick()}
		return code(api.Done)
	case me == nil:
		return code(api.NoTxn)
	case x.Op == api.Commit:
		m.items[x.Who.Label] = m.seen(x.Who, x.Who.Label)
		m.end(x.Who)
		return code(api.Done)
	}
	return m.ask(x)
}

func (m *model) ask(x api.Step) api.Answer {
	own, me := x.Who.Label, m.txns[x.Who]
	_, locks, _ := m.of(own)
	switch {
	case wanted(x).write && x.At != own, x.At.Level > own.Level, x.At.Comp&^own.Comp != 0:
		return api.Answer{Code: api.Denied}
	case m.covered(x):
		m.preempt(x)
		return m.granted(x)
	case locks >= m.c.Locks:
		return api.Answer{Code: api.Quota}
	}
	me.asked = &modelRequest{x, m.tick()}
	if len(m.waitsFor(x.Who)) == 0 {
		a := m.admit(x)
		m.settle()
		return a
	}
	if x.At != own {
		m.notes["down Blocked"]++
	}
	m.breakRings(x.Who)
	if why := m.forced[x.Who]; why != 0 {
		delete(m.forced, x.Who)
		return api.Answer{Code: api.Aborted, Why: why}
	}
	return api.Answer{Code: api.Blocked}
}

func (m *model) granted(x api.Step) api.Answer {
	_, _, taken := m.of(x.Who.Label)
	switch x.Op {
	case api.Get:
		return api.Answer{Items: inOrder(m.seen(x.Who, x.At), x.Key, x.Key)}
	case api.Scan:
		return api.Answer{Items: inOrder(m.seen(x.Who, x.At), x.Key, x.To)}
	case api.Put:
		if !taken[x.Key] && len(taken) >= m.c.Keys {
			return api.Answer{Code: api.Quota}
		}
	}
	m.txns[x.Who].log = append(m.txns[x.Who].log, x)
	return api.Answer{}
}

var moves = []int{api.Begin, api.Get, api.Get, api.Scan, api.Put, api.Put, api.Put, api.Put, api.Del, api.Del, api.Commit, api.Abort, api.Poll}

// fair is a step without faults, of a few labels and keys; requests come more often than ends.
func fair(r *rand.Rand, labels []api.Label, keys int) api.Step {
	ops := moves
	if r.Intn(2) > 0 {
		ops = ops[:10]
	}
	x := api.Step{
		Who: api.Who{Label: labels[r.Intn(len(labels))], Num: r.Intn(4)},
		Op:  ops[r.Intn(len(ops))], At: labels[r.Intn(len(labels))],
		Key: r.Intn(keys), To: r.Intn(keys), Value: r.Intn(1000),
	}
	if r.Intn(2) > 0 {
		x.At = x.Who.Label
	}
	return x
}

// helpOn makes x a step that goes on where most others do nothing.
func (m *model) helpOn(r *rand.Rand, x *api.Step) {
	for tries := 0; tries < 4 && m.waits(x.Who); tries++ {
		x.Who.Num = r.Intn(4)
	}
	me := m.txns[x.Who]
	switch {
	case m.forced[x.Who] != 0, me != nil && me.came != nil:
		x.Op = api.Poll
	case me == nil:
		x.Op = api.Begin
	}
}

func (m *model) waits(w api.Who) bool {
	me := m.txns[w]
	return me != nil && me.asked != nil
}

// play does steps in a store and in the model, and counts the answers by their names, those of Poll apart.
func play(t *testing.T, r *rand.Rand, c api.Config, labels []api.Label, keys int, counts map[string]int) {
	t.Helper()
	s, m := made(t, c), newModel(c)
	m.notes = counts
	for range 1500 {
		x := fair(r, labels, keys)
		if r.Intn(4) > 0 {
			m.helpOn(r, &x)
		}
		got, want := s.Do(x), m.do(x)
		if shown(got) != shown(want) {
			t.Fatalf("%+v with %+v: %s, want %s", x, c, shown(got), shown(want))
		}
		name := shown(api.Answer{Code: got.Code, Why: got.Why})
		if x.Op == api.Poll {
			name = "Poll " + name
		}
		counts[name]++
		l := x.Who.Label
		if got, want := looked(s, l), "OK"+listed(inOrder(m.items[l], 0, 15)); got != want {
			t.Fatalf("Look(%v) after %+v: %s, want %s", l, x, got, want)
		}
	}
}

func TestAgainstTheModel(t *testing.T) {
	r := rand.New(rand.NewSource(3))
	apart := []api.Label{{}, {Level: 1}, {Comp: 1}, {Level: 1, Comp: 3}, {Level: 3, Comp: 7}}
	chain := []api.Label{{}, {Level: 1}, {Level: 2}, {Level: 3}}
	diamond := []api.Label{{}, {Comp: 1}, {Comp: 2}, {Comp: 3}}
	counts := map[string]int{}
	for range 60 {
		c := api.Config{Keys: 1 + r.Intn(16), Live: 1 + r.Intn(4), Locks: 1 + r.Intn(32)}
		play(t, r, c, apart, 16, counts)
		c = api.Config{Keys: 1 + r.Intn(5), Live: 2 + r.Intn(3), Locks: 4 + r.Intn(29)}
		play(t, r, c, chain[:1], 5, counts)
		play(t, r, c, chain[:2], 8, counts)
		c = api.Config{Keys: 1 + r.Intn(5), Live: 3 + r.Intn(2), Locks: 8 + r.Intn(25)}
		play(t, r, c, chain, 4, counts)
		play(t, r, c, diamond, 4, counts)
	}
	for _, name := range []string{"Done", "Blocked", "Denied", "Quota", "NoTxn", "Live", "Busy", "Bad", "Aborted why1", "Aborted why2",
		"Poll Done", "Poll Blocked", "Poll Quota", "Poll Idle", "Poll Aborted why1", "Poll Aborted why2",
		"down Blocked", "down later", "preempted later", "preempted while it waits"} {
		if counts[name] < 100 {
			t.Errorf("only %d times %s: %v", counts[name], name, counts)
		}
	}
}
