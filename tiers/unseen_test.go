package tiers

import (
	"math/rand"
	"testing"

	"tiers/api"
	"tiers/label"
)

// lattice has labels in a row, and labels of which neither dominates the other.
var lattice = []api.Label{{}, {Level: 1}, {Comp: 1}, {Comp: 2}, {Level: 1, Comp: 1}, {Comp: 3}, {Level: 2, Comp: 3}, {Level: 3, Comp: 7}}

// deed is a step that was done, its answer, and what Look told then of each label of the lattice.
type deed struct {
	x     api.Step
	a     api.Answer
	looks []string
}

func lookedAll(s *Store) []string {
	var l []string
	for _, at := range lattice {
		l = append(l, looked(s, at))
	}
	return l
}

// drawn does steps of sessions of some of the lattice's labels in a new store.
func drawn(t *testing.T, r *rand.Rand, c api.Config) []deed {
	s := made(t, c)
	labels := []api.Label{{}}
	for _, i := range r.Perm(len(lattice))[:4] {
		labels = append(labels, lattice[i])
	}
	var l []deed
	for range 600 {
		x := fair(r, labels, 4)
		if r.Intn(4) > 0 {
			helpOn(r, s, &x)
		}
		l = append(l, deed{x, s.Do(x), lookedAll(s)})
	}
	return l
}

// helpOn makes x a step that goes on where most others do nothing, and brings transactions to their Commits.
func helpOn(r *rand.Rand, s *Store, x *api.Step) {
	own := s.tier(x.Who.Label)
	me := own.sessions[x.Who.Num]
	switch {
	case me.came, me.ended != 0:
		x.Op = api.Poll
	case !own.isLive(x.Who.Num):
		x.Op = api.Begin
	case len(me.locks) > r.Intn(8):
		x.Op = api.Commit
	case !allowed(*x):
		x.Op, x.At = api.Get, api.Label{}
	}
}

func drawnConfig(r *rand.Rand) api.Config {
	return api.Config{Keys: 1 + r.Intn(5), Live: 1 + r.Intn(4), Locks: 1 + r.Intn(20)}
}

// unseen does again what sessions of labels did that l dominates, and nothing else: they must be told the same.
func unseen(t *testing.T, c api.Config, deeds []deed, l api.Label) {
	t.Helper()
	s := made(t, c)
	for i, d := range deeds {
		if label.Dominates(l, d.x.Who.Label) {
			if got := shown(s.Do(d.x)); got != shown(d.a) {
				t.Fatalf("step %d, %+v, with %+v: %s, but %s without those whom %v does not dominate", i, d.x, c, shown(d.a), got, l)
			}
		}
		for j, at := range lattice {
			if !label.Dominates(l, at) {
				continue
			}
			if got := looked(s, at); got != d.looks[j] {
				t.Fatalf("Look(%v) after step %d, %+v: %s, but %s without those whom %v does not dominate", at, i, d.x, d.looks[j], got, l)
			}
		}
	}
}

func TestP14WhoIsNotDominatedIsNotNoticed(t *testing.T) {
	r := rand.New(rand.NewSource(4))
	codes := map[string]int{}
	for range 80 {
		c := drawnConfig(r)
		deeds := drawn(t, r, c)
		for _, l := range lattice {
			unseen(t, c, deeds, l)
		}
		for _, d := range deeds {
			codes[shown(api.Answer{Code: d.a.Code, Why: d.a.Why})]++
		}
	}
	for _, code := range []string{"Done", "Blocked", "Aborted why1", "Aborted why2", "Quota", "Busy"} {
		if codes[code] < 100 {
			t.Errorf("only %d answers were %s: %v", codes[code], code, codes)
		}
	}
}

// committed has the deeds of each transaction that was committed, but for those that were not Done, in the order of the Commits.
func committed(deeds []deed) [][]deed {
	var all [][]deed
	live := map[api.Who][]deed{}
	asked := map[api.Who]api.Step{}
	for _, d := range deeds {
		w := d.x.Who
		switch {
		case d.a.Code == api.Aborted, d.a.Code == api.Done && d.x.Op == api.Abort:
			delete(live, w)
		case d.a.Code == api.Blocked && d.x.Op != api.Poll:
			asked[w] = d.x
		case d.a.Code != api.Done:
		case d.x.Op == api.Poll:
			live[w] = append(live[w], deed{x: asked[w], a: d.a})
		default:
			live[w] = append(live[w], d)
		}
		if d.a.Code == api.Done && d.x.Op == api.Commit {
			all = append(all, live[w])
			delete(live, w)
		}
	}
	return all
}

func TestP14AsIfOneAfterTheOther(t *testing.T) {
	r := rand.New(rand.NewSource(5))
	readings := 0
	for range 150 {
		c := drawnConfig(r)
		deeds := drawn(t, r, c)
		s := made(t, api.Config{Keys: c.Keys, Live: 1, Locks: api.MaxLocks})
		for _, txn := range committed(deeds) {
			for _, d := range txn {
				if got := shown(s.Do(d.x)); got != shown(d.a) {
					t.Fatalf("%+v with %+v: %s, but one after the other %s", d.x, c, shown(d.a), got)
				}
				if len(d.a.Items) > 0 && d.x.At != d.x.Who.Label {
					readings++
				}
			}
		}
		last := deeds[len(deeds)-1].looks
		for j, at := range lattice {
			if got := looked(s, at); got != last[j] {
				t.Fatalf("Look(%v) with %+v: %s, but one after the other %s", at, c, last[j], got)
			}
		}
	}
	if readings < 100 {
		t.Errorf("only %d items of other partitions were read", readings)
	}
}

// A and B see and do the same, whether those above them read, wait, write and are preempted or not.
func TestP14TwoRuns(t *testing.T) {
	below := []string{
		"A Begin: Done", "B Begin: Done", "A Get 0/0 3: Done", "B Put 0/0 3 1: Blocked", "A Put 0/0 4 4: Done", "B Poll: Blocked", "A Commit: Done",
		"B Commit: Busy", "B Poll: Done", "B Scan 0/0 0 15: Done 3:1 4:4", "B Del 0/0 4: Done", "B Commit: Done", "Look 0/0: OK 3:1",
		"A Begin: Done", "A Put 0/0 5 5: Done", "A Abort: Done", "B Poll: Idle", "A Get 0/0 3: NoTxn", "Look 0/0: OK 3:1",
	}
	above := []string{"H Begin", "H Scan 0/0 0 15", "H Put 1/0 3 3", "H Commit", "I Begin", "I Get 0/0 3", "I Put 1/0 3 4", "I Abort", "H Poll", "I Poll",
		"T Begin", "T Get 0/0 4", "T Get 1/0 3", "T Put 3/7 3 3", "T Put 0/0 3 3", "T Poll", "T Commit", "S Begin", "S Del 0/3 1", "S Scan 0/0 4 5", "S Poll"}
	runLines(t, made(t, wide), below)
	r := rand.New(rand.NewSource(6))
	for range 300 {
		s := made(t, wide)
		for _, line := range below {
			for range r.Intn(8) {
				s.Do(parsed(above[r.Intn(len(above))]))
			}
			runLines(t, s, []string{line})
		}
	}
}
