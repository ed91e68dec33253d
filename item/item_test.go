package item

import (
	"slices"
	"testing"

	"tiers/api"
)

// full is a table with 1:10, 4:40 and 15:999.
func full() Table {
	var w Writes
	w.Put(4, 40)
	w.Put(15, 999)
	w.Put(1, 10)
	return w.Over(Table{})
}

func TestList(t *testing.T) {
	tab := full()
	for _, c := range []struct {
		lo, hi int
		want   []api.Item
	}{
		{0, 15, []api.Item{{Key: 1, Value: 10}, {Key: 4, Value: 40}, {Key: 15, Value: 999}}},
		{1, 4, []api.Item{{Key: 1, Value: 10}, {Key: 4, Value: 40}}},
		{2, 3, nil},
		{4, 4, []api.Item{{Key: 4, Value: 40}}},
		{5, 4, nil},
		{-1 << 63, 1<<63 - 1, []api.Item{{Key: 1, Value: 10}, {Key: 4, Value: 40}, {Key: 15, Value: 999}}},
	} {
		if got := tab.List(c.lo, c.hi); !slices.Equal(got, c.want) {
			t.Errorf("from %d to %d: %v, want %v", c.lo, c.hi, got, c.want)
		}
	}
}

func TestOverLeavesItsTableAlone(t *testing.T) {
	before := full()
	var w Writes
	w.Put(4, 41)
	w.Del(1)
	w.Del(2)
	w.Put(3, 30)
	w.Put(5, 50)
	w.Del(5)
	w.Del(6)
	w.Put(6, 60)
	after := w.Over(before)
	want := []api.Item{{Key: 3, Value: 30}, {Key: 4, Value: 41}, {Key: 6, Value: 60}, {Key: 15, Value: 999}}
	if got := after.List(0, 15); !slices.Equal(got, want) {
		t.Errorf("%v, want %v", got, want)
	}
	if before != full() {
		t.Error("the table below was changed")
	}
}

func TestHasPutOutlivesDel(t *testing.T) {
	var w Writes
	w.Del(2)
	w.Put(3, 1)
	w.Del(3)
	if w.HasPut(2) || !w.HasPut(3) {
		t.Errorf("put: 2 %v, 3 %v", w.HasPut(2), w.HasPut(3))
	}
}

func TestWhatIsNoKey(t *testing.T) {
	var w Writes
	tab := full()
	for _, k := range []int{-1 << 63, -1, 16, 1<<63 - 1} {
		w.Put(k, 1)
		w.Del(k)
		if w.HasPut(k) || tab.Has(k) {
			t.Errorf("%d is there", k)
		}
	}
	if w != (Writes{}) {
		t.Error("a write of what is no key was kept")
	}
	if !tab.Has(15) || tab.Has(0) {
		t.Error("Has is wrong at an end")
	}
}
