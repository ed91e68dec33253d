package tiers

import (
	"testing"

	"tiers/api"
)

func TestP9FromAboveBehindALockToWrite(t *testing.T) {
	for _, write := range []string{"A Put 0/0 3 7", "A Del 0/0 3"} {
		begin := "A Begin: Done\nH Begin: Done\n" + write + ": Done\n"
		for _, ask := range []string{"H Get 0/0 3", "H Scan 0/0 0 15", "H Scan 0/0 3 4", "H Scan 0/0 2 3"} {
			run(t, made(t, wide), begin+ask+": Blocked\nH Poll: Blocked\nH Commit: Busy\nA Abort: Done\nH Commit: Busy\nH Poll: Done\nH Poll: Idle\nH Commit: Done")
		}
		for _, ask := range []string{"H Get 0/0 2", "H Scan 0/0 0 2", "H Scan 0/0 4 15", "H Get 1/0 3", "H Put 1/0 3 3"} {
			run(t, made(t, wide), begin+ask+": Done\nH Poll: Idle\nA Commit: Done\nH Commit: Done")
		}
	}
}

func TestP9FromAbovePastALockToRead(t *testing.T) {
	run(t, made(t, wide), `
		A Begin: Done
		A Scan 0/0 0 15: Done
		H Begin: Done
		H Get 0/0 3: Done
		H Scan 0/0 0 15: Done
		T Begin: Done
		T Get 0/0 3: Done
		A Commit: Done
		H Commit: Done
		T Commit: Done`)
}

func TestP9FromAbovePastARequestThatWaits(t *testing.T) {
	run(t, made(t, wide), `
		A Begin: Done
		A Get 0/0 3: Done
		B Begin: Done
		B Put 0/0 3 1: Blocked
		C Begin: Done
		C Get 0/0 3: Blocked
		H Begin: Done
		H Get 0/0 3: Done
		A Commit: Done
		B Commit: Busy
		B Poll: Done
		B Commit: Done
		C Poll: Done 3:1
		H Poll: Aborted why1`)
}

func TestP9FromAboveBehindAllThatHold(t *testing.T) {
	run(t, made(t, wide), `
		A Begin: Done
		A Put 0/0 3 7: Done
		B Begin: Done
		B Put 0/0 4 8: Done
		D Begin: Done
		D Get 0/0 5: Done
		D Del 0/0 6: Done
		H Begin: Done
		H Scan 0/0 0 15: Blocked
		I Begin: Done
		I Scan 0/0 4 5: Blocked
		A Commit: Done
		H Poll: Blocked
		I Poll: Blocked
		B Commit: Done
		H Poll: Blocked
		I Poll: Done 4:8
		D Abort: Done
		H Poll: Done 3:7 4:8`)
}

func TestP9ALockHindersOnItsOwnPartitionAlone(t *testing.T) {
	run(t, made(t, wide), `
		H Begin: Done
		H Put 1/0 3 1: Done
		S Begin: Done
		S Put 0/3 3 2: Done
		I Begin: Done
		I Get 0/0 3: Done
		T Begin: Done
		T Get 0/0 3: Done
		T Scan 0/1 0 15: Done
		T Get 2/0 3: Done
		T Get 0/3 3: Blocked
		U Begin: Done
		U Get 1/0 3: Blocked
		H Commit: Done
		T Poll: Blocked
		U Poll: Done 3:1
		S Commit: Done
		T Poll: Done 3:2`)
}

func TestP9ThoseAboveDoNotHinder(t *testing.T) {
	run(t, made(t, wide), `
		A Begin: Done
		A Put 0/0 3 7: Done
		H Begin: Done
		H Scan 0/0 3 4: Blocked
		I Begin: Done
		I Get 0/0 3: Blocked
		B Begin: Done
		B Get 0/0 4: Done
		B Put 0/0 4 4: Done
		A Commit: Done
		I Poll: Done 3:7
		H Poll: Blocked
		B Commit: Done
		H Poll: Done 3:7 4:4`)
}

func TestP9FromAboveAfterTheWriter(t *testing.T) {
	run(t, made(t, wide), `
		A Begin: Done
		A Put 0/0 3 7: Done
		A Commit: Done
		H Begin: Done
		H Get 0/0 3: Done 3:7
		A Begin: Done
		A Put 0/0 4 7: Done
		A Abort: Done
		H Get 0/0 4: Done
		H Commit: Done`)
}

func TestP9OverManyLabels(t *testing.T) {
	run(t, made(t, wide), `
		A Begin: Done
		A Put 0/0 3 1: Done
		P Begin: Done
		P Put 0/1 3 2: Done
		L Begin: Done
		L Put 2/0 3 3: Done
		T Begin: Done
		T Get 0/0 3: Blocked
		A Commit: Done
		T Poll: Done 3:1
		T Get 0/1 3: Blocked
		L Commit: Done
		T Poll: Blocked
		P Commit: Done
		T Poll: Done 3:2
		T Get 2/0 3: Done 3:3
		T Commit: Done`)
}

func TestP10FromAboveTheItemsAreSeenAsTheyAre(t *testing.T) {
	run(t, made(t, wide), `
		A Begin: Done
		A Put 0/0 4 4: Done
		A Put 0/0 5 5: Done
		A Commit: Done
		A Begin: Done
		A Put 0/0 3 7: Done
		A Del 0/0 4: Done
		H Begin: Done
		H Put 1/0 3 8: Done
		H Del 1/0 5: Done
		H Scan 0/0 0 15: Blocked
		A Commit: Done
		H Poll: Done 3:7 5:5
		H Scan 0/0 3 4: Done 3:7
		H Commit: Done
		Look 1/0: OK 3:8`)
}

func TestP7FromAboveWhileARequestWaits(t *testing.T) {
	run(t, made(t, wide), `
		A Begin: Done
		A Put 0/0 3 7: Done
		H Begin: Done
		H Get 0/0 3: Blocked
		H Begin: Busy
		H Get 0/0 4: Busy
		H Put 1/0 1 1: Busy
		H Put 0/0 1 1: Busy
		H Commit: Busy
		H Abort: Done
		H Poll: Idle
		A Commit: Done
		H Poll: Idle
		H Begin: Done
		H Poll: Idle
		H Get 0/0 3: Done 3:7`)
}

func TestP8ARequestFromAboveCountsForItsOwnLabel(t *testing.T) {
	run(t, made(t, api.Config{Keys: 16, Live: 4, Locks: 2}), `
		A Begin: Done
		A Put 0/0 3 7: Done
		H Begin: Done
		H Get 1/0 1: Done
		H Get 0/0 3: Blocked
		I Begin: Done
		I Get 1/0 1: Quota
		I Get 0/0 3: Quota
		B Begin: Done
		B Get 0/0 4: Done
		B Get 0/0 5: Quota
		A Commit: Done
		I Get 1/0 1: Quota
		H Poll: Done 3:7
		H Get 0/0 3: Done 3:7
		I Get 1/0 1: Quota
		B Get 0/0 5: Done
		H Commit: Done
		I Get 1/0 1: Done
		I Get 0/0 3: Done 3:7`)
}

// H waits for A, and A's own request meets H's lock: that is no ring, but H is preempted.
func TestP12NoRingsBetweenLabels(t *testing.T) {
	run(t, made(t, wide), `
		A Begin: Done
		H Begin: Done
		H Get 0/0 4: Done
		A Put 0/0 3 3: Done
		H Get 0/0 3: Blocked
		A Put 0/0 4 4: Done
		H Poll: Aborted why1
		A Commit: Done
		Look 0/0: OK 3:3 4:4`)
	run(t, made(t, wide), `
		A Begin: Done
		A Put 0/0 3 3: Done
		H Begin: Done
		H Put 1/0 1 1: Done
		I Begin: Done
		I Put 1/0 2 2: Done
		H Get 0/0 3: Blocked
		I Get 1/0 1: Blocked
		J Begin: Done
		J Get 1/0 2: Blocked
		A Commit: Done
		I Poll: Blocked
		H Poll: Done 3:3
		H Commit: Done
		I Poll: Done 1:1
		J Poll: Blocked
		I Commit: Done
		J Poll: Done 2:2`)
}
