// Package item: the items of a partition, and a transaction's writes to them.
package item

import "tiers/api"

const keys = api.MaxKey + 1

// Table holds items, at most one under each key. The zero Table holds none.
type Table struct {
	slots [keys]slot
}

type slot struct {
	there bool
	value int
}

func isKey(key int) bool {
	return key >= 0 && key < keys
}

// Has tells if there is an item under key.
func (t *Table) Has(key int) bool {
	return isKey(key) && t.slots[key].there
}

// List is the items from lo to hi, by their keys, as a fresh list.
func (t *Table) List(lo, hi int) []api.Item {
	var l []api.Item
	for k, s := range t.slots {
		if s.there && lo <= k && k <= hi {
			l = append(l, api.Item{Key: k, Value: s.value})
		}
	}
	return l
}
