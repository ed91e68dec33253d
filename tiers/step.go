package tiers

import (
	"tiers/api"
	"tiers/label"
)

// possible tells if x is a step at all (P5).
func possible(x api.Step) bool {
	if x.Who.Num < 0 || x.Who.Num > api.MaxNum {
		return false
	}
	if !label.Valid(x.Who.Label) {
		return false
	}
	switch x.Op {
	case api.Begin, api.Commit, api.Abort, api.Poll:
		return true
	case api.Get, api.Del:
		return aimed(x)
	case api.Scan:
		return aimed(x) && x.To >= x.Key && x.To <= api.MaxKey
	case api.Put:
		return aimed(x) && x.Value >= 0 && x.Value <= api.MaxValue
	}
	return false
}

// aimed tells if x names a partition and a key.
func aimed(x api.Step) bool {
	if x.Key < 0 || x.Key > api.MaxKey {
		return false
	}
	return label.Valid(x.At)
}

// allowed tells if the session's label lets it do the Get, Scan, Put or Del x (P8).
func allowed(x api.Step) bool {
	if x.Op == api.Put || x.Op == api.Del {
		return x.At == x.Who.Label
	}
	return label.Dominates(x.Who.Label, x.At)
}
