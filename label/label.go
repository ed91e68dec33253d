// Package label: labels, which of them dominates which, and their places in a table of all labels.
package label

import "tiers/api"

// Count is how many labels there are.
const Count = (api.MaxLevel + 1) * (api.MaxComp + 1)

// Valid tells if l is a label.
func Valid(l api.Label) bool {
	if l.Level < 0 || l.Level > api.MaxLevel {
		return false
	}
	return l.Comp >= 0 && l.Comp <= api.MaxComp
}

// Place tells where l stands in a table of Count labels: each label has a place of its own, and a higher label a later one. It is false if l is no label.
func Place(l api.Label) (int, bool) {
	if !Valid(l) {
		return 0, false
	}
	return l.Level*(api.MaxComp+1) + l.Comp, true
}

// Dominates tells if the label a dominates the label b.
func Dominates(a, b api.Label) bool {
	return a.Level >= b.Level && a.Comp&b.Comp == b.Comp
}
