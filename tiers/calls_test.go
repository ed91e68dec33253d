package tiers

import (
	"math/rand"
	"slices"
	"testing"

	"tiers/api"
)

// odd are numbers at and beyond the edges of everything.
var odd = []int{least, least + 1, -1000, -1, 0, 1, 2, 3, 4, 7, 8, 9, 15, 16, 32, 33, 999, 1000, 1 << 32, most - 1, most}

func oneOf(r *rand.Rand) int { return odd[r.Intn(len(odd))] }

// wild is a step that is fair at most places and odd at some.
func wild(r *rand.Rand) api.Step {
	x := api.Step{
		Who: api.Who{Label: api.Label{Level: r.Intn(2), Comp: r.Intn(2)}, Num: r.Intn(4)},
		Op:  1 + r.Intn(8), At: api.Label{Level: r.Intn(2), Comp: r.Intn(2)},
		Key: r.Intn(16), To: r.Intn(16), Value: r.Intn(1000),
	}
	fields := []*int{&x.Who.Label.Level, &x.Who.Label.Comp, &x.Who.Num, &x.Op, &x.At.Level, &x.At.Comp, &x.Key, &x.To, &x.Value}
	for _, f := range fields {
		if r.Intn(20) == 0 {
			*f = oneOf(r)
		}
	}
	return x
}

func TestP1NothingPanics(t *testing.T) {
	r := rand.New(rand.NewSource(1))
	for range 40 {
		s := made(t, api.Config{Keys: 1 + r.Intn(16), Live: 1 + r.Intn(4), Locks: 1 + r.Intn(32)})
		for range 2000 {
			x := wild(r)
			a := s.Do(x)
			if a.Code < api.Done || a.Code > api.Bad {
				t.Fatalf("%+v: code %d", x, a.Code)
			}
			if (a.Why != 0) != (a.Code == api.Aborted) || (len(a.Items) > 0 && a.Code != api.Done) {
				t.Fatalf("%+v: %+v", x, a)
			}
			l := api.Label{Level: oneOf(r), Comp: oneOf(r)}
			if items, e := s.Look(l); e != api.OK && items != nil {
				t.Fatalf("Look(%v): %d with a list", l, e)
			}
		}
	}
}

func TestP1ErrorsComeAlone(t *testing.T) {
	for _, a := range odd {
		for _, b := range odd {
			for _, c := range odd {
				s, e := New(api.Config{Keys: a, Live: b, Locks: c})
				if (s == nil) != (e != api.OK) {
					t.Errorf("New(%d, %d, %d): %d, store %v", a, b, c, e, s != nil)
				}
			}
		}
	}
}

func TestP2ListsAreFresh(t *testing.T) {
	s := made(t, wide)
	run(t, s, "A Begin: Done\nA Put 0/0 3 7: Done\nA Put 0/0 5 9: Done\nA Put 0/0 8 1: Done")
	want := []api.Item{{Key: 3, Value: 7}, {Key: 5, Value: 9}, {Key: 8, Value: 1}}
	spoil := func(l []api.Item) {
		l = l[:cap(l)]
		for i := range l {
			l[i] = api.Item{Key: 99, Value: 99}
		}
	}
	for _, read := range []func() []api.Item{
		func() []api.Item { return s.Do(parsed("A Scan 0/0 0 15")).Items },
		func() []api.Item { s.Do(parsed("A Commit")); l, _ := s.Look(api.Label{}); return l },
		func() []api.Item { s.Do(parsed("B Begin")); return s.Do(parsed("B Scan 0/0 0 15")).Items },
	} {
		first, second := read(), read()
		spoil(first)
		third := read()
		if !slices.Equal(second, want) || !slices.Equal(third, want) {
			t.Errorf("second %v, third %v", second, third)
		}
		spoil(third)
		if !slices.Equal(second, want) {
			t.Errorf("second %v after the third was written into", second)
		}
	}
}

func TestP2StoresAreApart(t *testing.T) {
	a, b := made(t, wide), made(t, api.Config{Keys: 1, Live: 1, Locks: 1})
	run(t, a, "A Begin: Done\nA Put 0/0 3 7: Done")
	run(t, b, "A Put 0/0 3 8: NoTxn\nB Begin: Done\nA Begin: Quota\nB Put 0/0 4 8: Done\nB Put 0/0 5 8: Quota")
	run(t, a, "B Begin: Done\nA Put 0/0 5 9: Done\nA Commit: Done\nLook 0/0: OK 3:7 5:9")
	run(t, b, "Look 0/0: OK\nB Commit: Done\nLook 0/0: OK 4:8")
	run(t, a, "Look 0/0: OK 3:7 5:9")
}

func TestP2OnlyDoChanges(t *testing.T) {
	r := rand.New(rand.NewSource(2))
	a, b := made(t, wide), made(t, wide)
	for range 3000 {
		x := wild(r)
		for level := -1; level <= 4; level++ {
			a.Look(api.Label{Level: level, Comp: r.Intn(9)})
		}
		New(api.Config{Keys: r.Intn(18), Live: r.Intn(6), Locks: r.Intn(34)})
		one, two := a.Do(x), b.Do(x)
		if shown(one) != shown(two) {
			t.Fatalf("%+v: %s with looks, %s without", x, shown(one), shown(two))
		}
	}
}

func TestP3New(t *testing.T) {
	within := func(n, top int) bool { return n >= 1 && n <= top }
	for _, keys := range append([]int{17}, odd...) {
		for _, live := range append([]int{5}, odd...) {
			for _, locks := range odd {
				want := api.ErrConfig
				if within(keys, 16) && within(live, 4) && within(locks, 32) {
					want = api.OK
				}
				if _, e := New(api.Config{Keys: keys, Live: live, Locks: locks}); e != want {
					t.Errorf("New(%d, %d, %d): %d, want %d", keys, live, locks, e, want)
				}
			}
		}
	}
}

func TestP3ANewStoreIsEmpty(t *testing.T) {
	s := made(t, wide)
	for level := 0; level <= 3; level++ {
		for comp := 0; comp <= 7; comp++ {
			l := api.Label{Level: level, Comp: comp}
			if got := looked(s, l); got != "OK" {
				t.Errorf("Look(%v): %s", l, got)
			}
			for num := 0; num <= 3; num++ {
				w := api.Who{Label: l, Num: num}
				if a := s.Do(api.Step{Who: w, Op: api.Commit}); shown(a) != "NoTxn" {
					t.Errorf("%v Commit: %s", w, shown(a))
				}
				if a := s.Do(api.Step{Who: w, Op: api.Poll}); shown(a) != "Idle" {
					t.Errorf("%v Poll: %s", w, shown(a))
				}
			}
		}
	}
}

func TestP4Look(t *testing.T) {
	run(t, made(t, wide), `
		A Begin: Done
		A Put 0/0 9 1: Done
		A Put 0/0 0 999: Done
		A Put 0/0 15 0: Done
		Look 0/0: OK
		A Commit: Done
		Look 0/0: OK 0:999 9:1 15:0
		A Begin: Done
		A Put 0/0 9 2: Done
		A Del 0/0 0: Done
		A Put 0/0 4 4: Done
		Look 0/0: OK 0:999 9:1 15:0
		A Abort: Done
		Look 0/0: OK 0:999 9:1 15:0
		B Begin: Done
		B Del 0/0 0: Done
		B Put 0/0 9 2: Done
		B Commit: Done
		Look 0/0: OK 9:2 15:0
		T Begin: Done
		T Put 3/7 1 1: Done
		T Commit: Done
		Look 3/7: OK 1:1
		Look 3/6: OK
		Look 0/7: OK
		Look 4/0: error 2
		Look -1/0: error 2
		Look 0/8: error 2
		Look 0/-1: error 2`)
	s := made(t, wide)
	for _, n := range []int{least, -2, 8, most} {
		for _, l := range []api.Label{{Level: n}, {Comp: n}, {Level: n, Comp: n}} {
			if got := looked(s, l); got != "error 2" {
				t.Errorf("Look(%v): %s", l, got)
			}
		}
	}
}
