package tiers

import (
	"tiers/api"
	"tiers/item"
)

// tier is what there is of one label: its partition's items and its sessions.
type tier struct {
	items    item.Table
	sessions [api.MaxNum + 1]session
	// begun has the numbers of the sessions with a live transaction, the oldest transaction first.
	begun []int
	// queue has the numbers of the sessions with a request that waits, in the order in which these came.
	queue []int
}

// isLive tells if the session num has a live transaction.
func (t *tier) isLive(num int) bool {
	return has(t.begun, num)
}

// isBusy tells if a request of the session num waits, or what came of one is to be told.
func (t *tier) isBusy(num int) bool {
	return t.sessions[num].came || has(t.queue, num)
}

// poll tells how the request stands that has waited (P7).
func (t *tier) poll(num int) api.Answer {
	if has(t.queue, num) {
		return api.Answer{Code: api.Blocked}
	}
	me := &t.sessions[num]
	if me.came {
		return me.tellOutcome()
	}
	return api.Answer{Code: api.Idle}
}

// end leaves nothing of a transaction: its locks, its request and what came of one go with it.
func (t *tier) end(num int) {
	t.begun = without(t.begun, num)
	t.queue = without(t.queue, num)
	t.sessions[num] = session{}
}

// force ends a transaction by force, of which its session is still to be told.
func (t *tier) force(num, why int) {
	t.end(num)
	t.sessions[num].ended = why
}

// locks counts the label's locks and requests that wait.
func (t *tier) locks() int {
	n := len(t.queue)
	for i := range t.sessions {
		n += len(t.sessions[i].locks)
	}
	return n
}

// isTaken tells if key is taken: by an item, or by a Put of a live transaction.
func (t *tier) isTaken(key int) bool {
	if t.items.Has(key) {
		return true
	}
	for i := range t.sessions {
		if t.sessions[i].writes.HasPut(key) {
			return true
		}
	}
	return false
}

// taken counts the keys that are taken.
func (t *tier) taken() int {
	n := 0
	for key := 0; key <= api.MaxKey; key++ {
		if t.isTaken(key) {
			n++
		}
	}
	return n
}

func has(l []int, n int) bool {
	for _, m := range l {
		if m == n {
			return true
		}
	}
	return false
}

// without is a fresh list of what stands in l but for n, so that whoever still reads l is not disturbed.
func without(l []int, n int) []int {
	var rest []int
	for _, m := range l {
		if m != n {
			rest = append(rest, m)
		}
	}
	return rest
}
