package label

import (
	"testing"

	"tiers/api"
)

const (
	least = -1 << 63
	most  = 1<<63 - 1
)

func all() []api.Label {
	var l []api.Label
	for level := 0; level <= 3; level++ {
		for comp := 0; comp <= 7; comp++ {
			l = append(l, api.Label{Level: level, Comp: comp})
		}
	}
	return l
}

func TestEachLabelHasAPlaceOfItsOwn(t *testing.T) {
	seen := map[int]bool{}
	for _, l := range all() {
		p, ok := Place(l)
		if !ok || !Valid(l) || p < 0 || p >= Count || seen[p] {
			t.Errorf("%v: place %d, %v", l, p, ok)
		}
		seen[p] = true
	}
	if len(seen) != Count {
		t.Errorf("%d places, want %d", len(seen), Count)
	}
}

func TestWhatIsNoLabelHasNoPlace(t *testing.T) {
	for _, n := range []int{least, -8, -1, 8, 9, 1 << 32, most} {
		for _, l := range []api.Label{{Level: n}, {Comp: n}, {Level: n, Comp: n}, {Level: 3, Comp: n}, {Level: n, Comp: 7}} {
			p, ok := Place(l)
			if ok || p != 0 || Valid(l) {
				t.Errorf("%v: place %d, %v", l, p, ok)
			}
		}
	}
	if Valid(api.Label{Level: 4}) {
		t.Error("level 4 is taken for a label's")
	}
}

func TestDominates(t *testing.T) {
	for _, a := range all() {
		for _, b := range all() {
			want := a.Level >= b.Level
			for _, bit := range []int{1, 2, 4} {
				if b.Comp/bit%2 == 1 && a.Comp/bit%2 == 0 {
					want = false
				}
			}
			if Dominates(a, b) != want {
				t.Errorf("%v dominates %v: %v", a, b, !want)
			}
		}
	}
}

func TestAHigherLabelHasALaterPlace(t *testing.T) {
	for _, a := range all() {
		for _, b := range all() {
			if a == b || !Dominates(a, b) {
				continue
			}
			high, _ := Place(a)
			low, _ := Place(b)
			if high <= low {
				t.Errorf("%v is at %d, but %v, which is higher, at %d", b, low, a, high)
			}
		}
	}
}
