// Package lock: locks, which are also the requests for them.
package lock

import "tiers/api"

// Lock is on the partition At, for the keys from Lo to Hi, to read or to write.
type Lock struct {
	At     api.Label
	Lo, Hi int
	Write  bool
}

// Asked is the lock that a Get, Scan, Put or Del asks for.
func Asked(x api.Step) Lock {
	r := Lock{At: x.At, Lo: x.Key, Hi: x.Key}
	if x.Op == api.Scan {
		r.Hi = x.To
	}
	r.Write = x.Op == api.Put || x.Op == api.Del
	return r
}

// Covers tells if whoever holds l needs no other lock for the request r.
func (l Lock) Covers(r Lock) bool {
	if l.At != r.At || r.Lo < l.Lo || r.Hi > l.Hi {
		return false
	}
	return l.Write || !r.Write
}

// Meets tells if l and m have a key of one partition in common, and one of the two is to write.
func (l Lock) Meets(m Lock) bool {
	if l.At != m.At || l.Hi < m.Lo || m.Hi < l.Lo {
		return false
	}
	return l.Write || m.Write
}
