package lock

import (
	"testing"

	"tiers/api"
)

func TestAsked(t *testing.T) {
	at := api.Label{Level: 2, Comp: 5}
	for _, c := range []struct {
		op   int
		want Lock
	}{
		{api.Get, Lock{At: at, Lo: 3, Hi: 3}},
		{api.Scan, Lock{At: at, Lo: 3, Hi: 9}},
		{api.Put, Lock{At: at, Lo: 3, Hi: 3, Write: true}},
		{api.Del, Lock{At: at, Lo: 3, Hi: 3, Write: true}},
	} {
		if got := Asked(api.Step{Op: c.op, At: at, Key: 3, To: 9, Value: 9}); got != c.want {
			t.Errorf("operation %d: %+v, want %+v", c.op, got, c.want)
		}
	}
}

func TestCovers(t *testing.T) {
	other := api.Label{Comp: 1}
	for _, c := range []struct {
		l, r Lock
		want bool
	}{
		{Lock{Lo: 3, Hi: 5}, Lock{Lo: 3, Hi: 5}, true},
		{Lock{Lo: 3, Hi: 5}, Lock{Lo: 4, Hi: 4}, true},
		{Lock{Lo: 3, Hi: 5}, Lock{Lo: 2, Hi: 5}, false},
		{Lock{Lo: 3, Hi: 5}, Lock{Lo: 3, Hi: 6}, false},
		{Lock{Lo: 3, Hi: 5}, Lock{Lo: 6, Hi: 6}, false},
		{Lock{Lo: 3, Hi: 3}, Lock{Lo: 3, Hi: 3, Write: true}, false},
		{Lock{Lo: 3, Hi: 3, Write: true}, Lock{Lo: 3, Hi: 3, Write: true}, true},
		{Lock{Lo: 3, Hi: 3, Write: true}, Lock{Lo: 3, Hi: 3}, true},
		{Lock{Lo: 3, Hi: 3, Write: true}, Lock{Lo: 3, Hi: 4}, false},
		{Lock{At: other, Lo: 0, Hi: 15, Write: true}, Lock{Lo: 3, Hi: 3}, false},
	} {
		if c.l.Covers(c.r) != c.want {
			t.Errorf("%+v covers %+v: %v", c.l, c.r, !c.want)
		}
	}
}

func TestMeets(t *testing.T) {
	other := api.Label{Comp: 1}
	for _, c := range []struct {
		l, m Lock
		want bool
	}{
		{Lock{Lo: 3, Hi: 5}, Lock{Lo: 3, Hi: 5}, false},
		{Lock{Lo: 3, Hi: 5}, Lock{Lo: 4, Hi: 4, Write: true}, true},
		{Lock{Lo: 3, Hi: 5}, Lock{Lo: 3, Hi: 3, Write: true}, true},
		{Lock{Lo: 3, Hi: 5}, Lock{Lo: 5, Hi: 5, Write: true}, true},
		{Lock{Lo: 3, Hi: 5}, Lock{Lo: 2, Hi: 2, Write: true}, false},
		{Lock{Lo: 3, Hi: 5}, Lock{Lo: 6, Hi: 6, Write: true}, false},
		{Lock{Lo: 3, Hi: 3, Write: true}, Lock{Lo: 3, Hi: 3, Write: true}, true},
		{Lock{At: other, Lo: 3, Hi: 3, Write: true}, Lock{Lo: 3, Hi: 3, Write: true}, false},
		{Lock{At: other, Lo: 3, Hi: 3, Write: true}, Lock{At: other, Lo: 0, Hi: 15}, true},
	} {
		if c.l.Meets(c.m) != c.want || c.m.Meets(c.l) != c.want {
			t.Errorf("%+v meets %+v: %v, and the other way round %v", c.l, c.m, c.l.Meets(c.m), c.m.Meets(c.l))
		}
	}
}
