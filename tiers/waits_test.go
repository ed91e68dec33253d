package tiers

import (
	"slices"
	"testing"

	"tiers/api"
)

func TestP9BehindALockToWrite(t *testing.T) {
	for _, write := range []string{"A Put 0/0 3 7", "A Del 0/0 3"} {
		for _, ask := range []string{"B Get 0/0 3", "B Scan 0/0 0 15", "B Scan 0/0 3 4", "B Scan 0/0 2 3", "B Put 0/0 3 8", "B Del 0/0 3"} {
			run(t, made(t, wide), "A Begin: Done\nB Begin: Done\n"+write+": Done\n"+ask+": Blocked\nB Poll: Blocked\nA Abort: Done\nB Poll: Done")
		}
		for _, ask := range []string{"B Get 0/0 2", "B Scan 0/0 0 2", "B Scan 0/0 4 15", "B Put 0/0 4 8", "B Del 0/0 2"} {
			run(t, made(t, wide), "A Begin: Done\nB Begin: Done\n"+write+": Done\n"+ask+": Done\nB Poll: Idle")
		}
	}
}

func TestP9BehindALockToRead(t *testing.T) {
	for _, ask := range []string{"B Put 0/0 2 8", "B Put 0/0 4 8", "B Put 0/0 6 8", "B Del 0/0 2", "B Del 0/0 6"} {
		run(t, made(t, wide), "A Begin: Done\nB Begin: Done\nA Scan 0/0 2 6: Done\n"+ask+": Blocked\nB Poll: Blocked\nA Commit: Done\nB Poll: Done")
	}
	for _, ask := range []string{"B Put 0/0 1 8", "B Put 0/0 7 8", "B Del 0/0 1", "B Get 0/0 2", "B Scan 0/0 0 15", "B Scan 0/0 2 6"} {
		run(t, made(t, wide), "A Begin: Done\nB Begin: Done\nA Scan 0/0 2 6: Done\n"+ask+": Done\nB Poll: Idle")
	}
}

func TestP9NobodyHindersHimself(t *testing.T) {
	run(t, made(t, wide), `
		A Begin: Done
		A Get 0/0 3: Done
		A Put 0/0 3 7: Done
		A Scan 0/0 0 15: Done 3:7
		A Del 0/0 3: Done
		A Put 0/0 4 4: Done
		A Commit: Done
		Look 0/0: OK 4:4`)
}

func TestP9EveryLockCounts(t *testing.T) {
	run(t, made(t, wide), `
		A Begin: Done
		A Get 0/0 1: Done
		A Get 0/0 2: Done
		A Put 0/0 3 3: Done
		B Begin: Done
		B Put 0/0 4 4: Done
		C Begin: Done
		C Put 0/0 2 9: Blocked
		D Begin: Done
		D Scan 0/0 3 4: Blocked
		A Commit: Done
		C Poll: Done
		D Poll: Blocked
		B Commit: Done
		D Poll: Done 3:3 4:4`)
}

func TestP9BehindARequestThatCameEarlier(t *testing.T) {
	run(t, made(t, wide), `
		A Begin: Done
		B Begin: Done
		C Begin: Done
		D Begin: Done
		A Get 0/0 3: Done
		B Put 0/0 3 1: Blocked
		C Get 0/0 3: Blocked
		D Get 0/0 4: Done
		D Put 0/0 2 2: Done
		D Scan 0/0 3 9: Blocked
		A Commit: Done
		B Poll: Done
		C Poll: Blocked
		D Poll: Blocked
		B Commit: Done
		C Poll: Done 3:1
		D Poll: Done 3:1`)
	run(t, made(t, wide), `
		A Begin: Done
		B Begin: Done
		C Begin: Done
		A Put 0/0 3 1: Done
		B Scan 0/0 3 6: Blocked
		C Put 0/0 6 6: Blocked
		B Poll: Blocked
		A Commit: Done
		B Poll: Done 3:1
		C Poll: Blocked
		B Commit: Done
		C Poll: Done`)
}

func TestP9PastARequestThatDoesNotMeet(t *testing.T) {
	run(t, made(t, wide), `
		A Begin: Done
		B Begin: Done
		C Begin: Done
		D Begin: Done
		A Get 0/0 3: Done
		B Put 0/0 3 1: Blocked
		C Get 0/0 4: Done
		C Put 0/0 2 2: Done
		A Get 0/0 3: Done
		A Scan 0/0 3 3: Done
		D Scan 0/0 2 2: Blocked
		C Commit: Done
		D Poll: Done 2:2
		B Poll: Blocked`)
	run(t, made(t, wide), `
		A Begin: Done
		B Begin: Done
		C Begin: Done
		A Put 0/0 3 1: Done
		A Put 0/0 5 1: Done
		B Scan 0/0 3 8: Blocked
		C Get 0/0 7: Done
		C Scan 0/0 5 9: Blocked
		A Commit: Done
		C Poll: Done 5:1
		B Poll: Done 3:1 5:1`)
}

func TestP9PastARequestThatCameLater(t *testing.T) {
	run(t, made(t, wide), `
		A Begin: Done
		B Begin: Done
		C Begin: Done
		A Put 0/0 3 7: Done
		C Get 0/0 3: Blocked
		B Put 0/0 3 8: Blocked
		A Commit: Done
		B Poll: Blocked
		C Poll: Done 3:7
		C Commit: Done
		B Poll: Done
		B Commit: Done
		Look 0/0: OK 3:8`)
}

func TestP9WhoAsksAgainComesLast(t *testing.T) {
	run(t, made(t, wide), `
		A Begin: Done
		B Begin: Done
		C Begin: Done
		A Put 0/0 3 7: Done
		B Put 0/0 3 8: Blocked
		C Put 0/0 3 9: Blocked
		B Abort: Done
		B Begin: Done
		B Put 0/0 3 8: Blocked
		A Commit: Done
		B Poll: Blocked
		C Poll: Done
		C Commit: Done
		B Poll: Done
		Look 0/0: OK 3:9`)
}

func TestP9LabelsHaveQueuesOfTheirOwn(t *testing.T) {
	run(t, made(t, wide), `
		A Begin: Done
		A Put 0/0 3 1: Done
		H Begin: Done
		H Put 1/0 3 2: Done
		I Begin: Done
		I Get 1/0 3: Blocked
		B Begin: Done
		B Get 0/0 3: Blocked
		S Begin: Done
		S Put 0/3 3 3: Done
		H Commit: Done
		B Poll: Blocked
		I Poll: Done 3:2
		A Commit: Done
		B Poll: Done 3:1`)
}

func TestP9WhoIsHigherDoesNotHinder(t *testing.T) {
	run(t, made(t, wide), `
		H Begin: Done
		H Scan 0/0 0 15: Done
		A Begin: Done
		A Put 0/0 3 7: Done
		B Begin: Done
		B Put 0/0 3 8: Blocked
		A Commit: Done
		B Poll: Done`)
}

func TestP10AnOutcomeSeesTheItemsAndTheOwnWrites(t *testing.T) {
	run(t, made(t, wide), `
		C Begin: Done
		C Put 0/0 5 5: Done
		C Put 0/0 6 6: Done
		C Commit: Done
		A Begin: Done
		A Put 0/0 3 7: Done
		A Del 0/0 5: Done
		B Begin: Done
		B Put 0/0 4 4: Done
		B Del 0/0 6: Done
		B Scan 0/0 0 15: Blocked
		A Commit: Done
		B Poll: Done 3:7 4:4
		B Commit: Done
		Look 0/0: OK 3:7 4:4`)
}

func TestP10AnOutcomeMayBeQuota(t *testing.T) {
	run(t, made(t, api.Config{Keys: 1, Live: 4, Locks: 32}), `
		A Begin: Done
		A Get 0/0 4: Done
		B Begin: Done
		B Put 0/0 4 4: Blocked
		C Begin: Done
		C Put 0/0 5 5: Done
		A Commit: Done
		B Commit: Busy
		C Abort: Done
		B Poll: Quota
		B Poll: Idle
		B Get 0/0 4: Done
		D Begin: Done
		D Get 0/0 4: Blocked
		B Put 0/0 4 4: Done
		B Commit: Done
		D Poll: Done 4:4
		Look 0/0: OK 4:4`)
}

func TestP13InTheOrderInWhichTheyCame(t *testing.T) {
	run(t, made(t, api.Config{Keys: 2, Live: 4, Locks: 32}), `
		A Begin: Done
		B Begin: Done
		C Begin: Done
		D Begin: Done
		A Scan 0/0 0 15: Done
		B Put 0/0 4 4: Blocked
		C Put 0/0 5 5: Blocked
		D Put 0/0 6 6: Blocked
		A Commit: Done
		D Poll: Quota
		C Poll: Done
		B Poll: Done
		B Commit: Done
		C Commit: Done
		D Commit: Done
		Look 0/0: OK 4:4 5:5`)
	run(t, made(t, api.Config{Keys: 2, Live: 4, Locks: 32}), `
		B Begin: Done
		C Begin: Done
		D Begin: Done
		A Begin: Done
		A Scan 0/0 0 15: Done
		D Put 0/0 6 6: Blocked
		B Put 0/0 4 4: Blocked
		C Put 0/0 5 5: Blocked
		A Abort: Done
		B Poll: Done
		C Poll: Quota
		D Poll: Done`)
}

func TestP13EachIsLookedAtWithThoseAheadOfIt(t *testing.T) {
	run(t, made(t, wide), `
		A Begin: Done
		B Begin: Done
		C Begin: Done
		D Begin: Done
		A Put 0/0 3 1: Done
		B Put 0/0 3 2: Blocked
		C Put 0/0 3 3: Blocked
		D Get 0/0 3: Blocked
		A Commit: Done
		B Poll: Done
		C Poll: Blocked
		D Poll: Blocked
		B Get 0/0 3: Done 3:2
		B Commit: Done
		D Poll: Blocked
		C Poll: Done
		C Commit: Done
		D Poll: Done 3:3
		Look 0/0: OK 3:3`)
	run(t, made(t, wide), `
		A Begin: Done
		B Begin: Done
		C Begin: Done
		D Begin: Done
		A Put 0/0 3 1: Done
		B Get 0/0 3: Blocked
		C Put 0/0 3 3: Blocked
		D Get 0/0 3: Blocked
		A Commit: Done
		B Poll: Done 3:1
		C Poll: Blocked
		D Poll: Blocked
		B Abort: Done
		C Poll: Done
		C Abort: Done
		D Poll: Done 3:1`)
}

func TestP13ARequestGoesWithItsTransaction(t *testing.T) {
	run(t, made(t, wide), `
		A Begin: Done
		B Begin: Done
		C Begin: Done
		D Begin: Done
		A Get 0/0 3: Done
		A Put 0/0 5 5: Done
		B Put 0/0 3 1: Blocked
		C Get 0/0 3: Blocked
		D Scan 0/0 3 5: Blocked
		B Abort: Done
		B Poll: Idle
		C Poll: Done
		C Poll: Idle
		D Poll: Blocked
		A Commit: Done
		D Poll: Done 5:5
		B Poll: Idle
		Look 0/0: OK 5:5`)
}

func TestP13WhatCameGoesWithItsTransaction(t *testing.T) {
	run(t, made(t, wide), `
		A Begin: Done
		B Begin: Done
		C Begin: Done
		A Get 0/0 3: Done
		B Put 0/0 3 1: Blocked
		C Get 0/0 3: Blocked
		A Commit: Done
		B Abort: Done
		B Poll: Idle
		C Poll: Done
		C Commit: Done
		Look 0/0: OK`)
}

func TestP13AGrantedRequestIsALock(t *testing.T) {
	run(t, made(t, wide), `
		A Begin: Done
		B Begin: Done
		C Begin: Done
		A Put 0/0 3 1: Done
		B Get 0/0 3: Blocked
		A Commit: Done
		C Put 0/0 3 3: Blocked
		B Poll: Done 3:1
		C Poll: Blocked
		B Get 0/0 3: Done 3:1
		B Commit: Done
		C Poll: Done`)
}

func TestP13OthersMayStillHinder(t *testing.T) {
	run(t, made(t, wide), `
		A Begin: Done
		B Begin: Done
		C Begin: Done
		A Get 0/0 3: Done
		B Get 0/0 3: Done
		C Put 0/0 3 3: Blocked
		A Abort: Done
		C Poll: Blocked
		B Commit: Done
		C Poll: Done`)
}

func TestP2AnOutcomeIsFresh(t *testing.T) {
	s := made(t, wide)
	run(t, s, `
		A Begin: Done
		B Begin: Done
		C Begin: Done
		A Put 0/0 3 7: Done
		A Put 0/0 4 4: Done
		B Scan 0/0 0 15: Blocked
		C Scan 0/0 0 15: Blocked
		A Commit: Done`)
	one, two := s.Do(parsed("B Poll")).Items, s.Do(parsed("C Poll")).Items
	one = one[:cap(one)]
	for i := range one {
		one[i] = api.Item{Key: 99, Value: 99}
	}
	if want := []api.Item{{Key: 3, Value: 7}, {Key: 4, Value: 4}}; !slices.Equal(two, want) {
		t.Errorf("%v, want %v", two, want)
	}
	run(t, s, "B Scan 0/0 0 15: Done 3:7 4:4\nLook 0/0: OK 3:7 4:4")
}
