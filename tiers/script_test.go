package tiers

import (
	"fmt"
	"reflect"
	"strings"
	"testing"

	"tiers/api"
	"tiers/label"
)

const (
	least = -1 << 63
	most  = 1<<63 - 1
)

var wide = api.Config{Keys: 16, Live: 4, Locks: 32}

// cast are the sessions that the scripts name.
var cast = map[string]api.Who{
	"A": {}, "B": {Num: 1}, "C": {Num: 2}, "D": {Num: 3},
	"H": {Label: api.Label{Level: 1}},
	"I": {Label: api.Label{Level: 1}, Num: 3},
	"J": {Label: api.Label{Level: 1}, Num: 1},
	"L": {Label: api.Label{Level: 2}},
	"M": {Label: api.Label{Level: 2}, Num: 1},
	"P": {Label: api.Label{Comp: 1}},
	"O": {Label: api.Label{Comp: 1}, Num: 2},
	"Q": {Label: api.Label{Comp: 2}},
	"R": {Label: api.Label{Comp: 2}, Num: 3},
	"S": {Label: api.Label{Comp: 3}},
	"T": {Label: api.Label{Level: 3, Comp: 7}, Num: 3},
	"U": {Label: api.Label{Level: 3, Comp: 7}},
}

var opNames = []string{"", "Begin", "Get", "Scan", "Put", "Del", "Commit", "Abort", "Poll"}

var codeNames = []string{"Done", "Blocked", "Aborted", "Denied", "Quota", "NoTxn", "Live", "Busy", "Idle", "Bad"}

func listed(l []api.Item) string {
	s := ""
	for _, x := range l {
		s += fmt.Sprintf(" %d:%d", x.Key, x.Value)
	}
	return s
}

// shown is an answer as text: its code, why (where it is not 0), and its items.
func shown(a api.Answer) string {
	if a.Code < 0 || a.Code >= len(codeNames) {
		return fmt.Sprintf("%+v", a)
	}
	s := codeNames[a.Code]
	if a.Why != 0 {
		s += fmt.Sprintf(" why%d", a.Why)
	}
	return s + listed(a.Items)
}

func looked(s *Store, l api.Label) string {
	items, e := s.Look(l)
	if e != api.OK {
		return fmt.Sprintf("error %d%s", e, listed(items))
	}
	return strings.TrimSpace("OK" + listed(items))
}

// parsed is the step of a line such as "A Scan 0/0 3 9": session, operation, label, key, and what else is needed.
func parsed(line string) api.Step {
	f := strings.Fields(line)
	x := api.Step{Who: cast[f[0]]}
	for i, name := range opNames {
		if name == f[1] {
			x.Op = i
		}
	}
	if len(f) > 2 {
		fmt.Sscanf(f[2], "%d/%d", &x.At.Level, &x.At.Comp)
	}
	if len(f) > 3 {
		fmt.Sscan(f[3], &x.Key)
	}
	if len(f) > 4 {
		fmt.Sscan(f[4], &x.To)
		x.Value = x.To
	}
	return x
}

func made(t *testing.T, c api.Config) *Store {
	t.Helper()
	s, e := New(c)
	if s == nil || e != api.OK {
		t.Fatalf("New(%+v): %d", c, e)
	}
	return s
}

// run does the lines of a script, each a step or "Look" with a label, then ":" and the answer.
// In a store that is new it is a test of P14 too: who stands below some label must be answered the same if those do nothing who do not.
func run(t *testing.T, s *Store, script string) {
	t.Helper()
	isNew := reflect.DeepEqual(*s, Store{config: s.config})
	lines := strings.Split(script, "\n")
	runLines(t, s, lines)
	if !isNew {
		return
	}
	for _, w := range cast {
		runLines(t, made(t, s.config), below(w.Label, lines))
	}
}

// below has those of the lines that are about labels which l dominates.
func below(l api.Label, lines []string) []string {
	var rest []string
	for _, line := range lines {
		f := strings.Fields(line)
		if len(f) < 2 {
			continue
		}
		about := cast[f[0]].Label
		if f[0] == "Look" {
			fmt.Sscanf(f[1], "%d/%d", &about.Level, &about.Comp)
		}
		if label.Dominates(l, about) {
			rest = append(rest, line)
		}
	}
	return rest
}

func runLines(t *testing.T, s *Store, lines []string) {
	t.Helper()
	for _, line := range lines {
		ask, want, ok := strings.Cut(strings.TrimSpace(line), ": ")
		if !ok {
			if ask != "" {
				t.Fatalf("no answer is given in: %s", ask)
			}
			continue
		}
		got := ""
		if name, ok := strings.CutPrefix(ask, "Look "); ok {
			var l api.Label
			fmt.Sscanf(name, "%d/%d", &l.Level, &l.Comp)
			got = looked(s, l)
		} else {
			got = shown(s.Do(parsed(ask)))
		}
		if got != want {
			t.Fatalf("%s: %s, want %s; in:\n%s", ask, got, want, strings.Join(lines, "\n"))
		}
	}
}
