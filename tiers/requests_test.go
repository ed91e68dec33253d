package tiers

import (
	"testing"

	"tiers/api"
)

func TestP8Denied(t *testing.T) {
	run(t, made(t, wide), `
		A Begin: Done
		A Get 1/0 3: Denied
		A Scan 0/1 0 15: Denied
		A Put 1/0 3 7: Denied
		A Del 0/4 3: Denied
		H Begin: Done
		H Get 0/0 3: Done
		H Get 1/0 3: Done
		H Get 0/1 3: Denied
		H Get 2/0 3: Denied
		H Put 0/0 3 7: Denied
		H Del 0/0 3: Denied
		H Put 1/0 3 7: Done
		S Begin: Done
		S Get 0/1 3: Done
		S Get 0/2 3: Done
		S Scan 0/0 0 15: Done
		S Get 0/4 3: Denied
		S Get 0/7 3: Denied
		S Get 1/3 3: Denied
		S Put 0/2 3 3: Denied
		S Put 0/7 3 3: Denied
		Q Begin: Done
		Q Get 0/2 3: Done
		Q Get 0/1 3: Denied
		Q Scan 0/3 0 15: Denied
		Q Put 0/0 3 3: Denied
		Q Commit: Done
		S Commit: Done
		H Commit: Done
		A Commit: Done
		Look 0/0: OK
		Look 0/3: OK
		Look 1/0: OK 3:7`)
}

func TestP8QuotaOfLocks(t *testing.T) {
	run(t, made(t, api.Config{Keys: 16, Live: 4, Locks: 1}), `
		A Begin: Done
		A Get 0/0 3: Done
		A Get 0/0 4: Quota
		A Put 0/0 3 1: Quota
		A Del 0/0 3: Quota
		A Get 1/0 4: Denied
		A Get 0/0 3: Done
		A Scan 0/0 3 3: Done
		B Begin: Done
		B Get 0/0 3: Quota
		H Begin: Done
		H Get 0/0 3: Done
		H Get 1/0 3: Quota
		A Commit: Done
		B Put 0/0 4 4: Done
		B Get 0/0 4: Done 4:4
		B Del 0/0 4: Done
		B Put 0/0 4 5: Done
		B Scan 0/0 4 5: Quota
		B Abort: Done
		A Begin: Done
		A Scan 0/0 0 15: Done`)
}

func TestP8LocksAreCountedOneByOne(t *testing.T) {
	run(t, made(t, api.Config{Keys: 16, Live: 4, Locks: 4}), `
		A Begin: Done
		A Scan 0/0 2 5: Done
		A Scan 0/0 6 9: Done
		A Scan 0/0 3 4: Done
		A Get 0/0 9: Done
		B Begin: Done
		B Scan 0/0 4 7: Done
		A Scan 0/0 4 7: Done
		A Get 0/0 1: Quota
		A Scan 0/0 2 9: Quota
		B Get 0/0 3: Quota
		B Get 0/0 4: Done
		A Get 0/0 2: Done
		A Abort: Done
		B Get 0/0 3: Done
		B Get 0/0 2: Done
		B Get 0/0 1: Done
		B Get 0/0 0: Quota`)
}

func TestP8TheGreatestQuotaOfLocks(t *testing.T) {
	s := made(t, wide)
	run(t, s, "A Begin: Done\nB Begin: Done")
	for key := 0; key <= 15; key++ {
		for num := 0; num <= 1; num++ {
			x := api.Step{Who: api.Who{Num: num}, Op: api.Get, Key: key}
			if a := s.Do(x); shown(a) != "Done" {
				t.Fatalf("%+v: %s", x, shown(a))
			}
		}
	}
	run(t, s, `
		A Scan 0/0 0 15: Quota
		B Put 0/0 0 0: Quota
		A Get 0/0 15: Done
		C Begin: Done
		C Get 0/0 0: Quota
		B Commit: Done
		C Get 0/0 0: Done`)
}

func TestP8ALockIsOnOnePartition(t *testing.T) {
	run(t, made(t, api.Config{Keys: 16, Live: 4, Locks: 2}), `
		H Begin: Done
		H Scan 0/0 0 15: Done
		H Get 1/0 3: Done
		H Get 1/0 4: Quota
		H Get 0/0 4: Done
		H Put 1/0 3 3: Quota`)
}

func TestP8ARequestThatWaitsCounts(t *testing.T) {
	run(t, made(t, api.Config{Keys: 16, Live: 4, Locks: 3}), `
		A Begin: Done
		B Begin: Done
		C Begin: Done
		A Put 0/0 1 1: Done
		B Get 0/0 1: Blocked
		A Get 0/0 2: Done
		A Get 0/0 3: Quota
		C Get 0/0 1: Quota
		C Put 0/0 9 9: Quota
		A Get 0/0 1: Done 1:1
		H Begin: Done
		H Get 1/0 2: Done
		B Abort: Done
		C Get 0/0 1: Blocked
		B Begin: Done
		B Get 0/0 1: Quota
		A Commit: Done
		B Get 0/0 1: Done 1:1
		B Get 0/0 2: Done
		B Get 0/0 3: Quota
		C Poll: Done 1:1
		C Get 0/0 3: Quota`)
}

func TestP8TheQuotaComesBeforeAnyWaiting(t *testing.T) {
	run(t, made(t, api.Config{Keys: 16, Live: 4, Locks: 2}), `
		A Begin: Done
		B Begin: Done
		A Get 0/0 3: Done
		B Get 0/0 3: Done
		A Put 0/0 3 1: Quota
		B Put 0/0 3 2: Quota
		A Poll: Idle
		B Commit: Done
		A Put 0/0 3 1: Done`)
}

func TestP10GetAndScan(t *testing.T) {
	run(t, made(t, wide), `
		A Begin: Done
		A Get 0/0 3: Done
		A Scan 0/0 0 15: Done
		A Put 0/0 9 1: Done
		A Put 0/0 2 0: Done
		A Put 0/0 15 999: Done
		A Put 0/0 0 5: Done
		A Scan 0/0 0 15: Done 0:5 2:0 9:1 15:999
		A Scan 0/0 1 9: Done 2:0 9:1
		A Scan 0/0 3 8: Done
		A Scan 0/0 9 9: Done 9:1
		A Get 0/0 9: Done 9:1
		A Get 0/0 1: Done
		A Commit: Done
		B Begin: Done
		B Put 0/0 9 2: Done
		B Get 0/0 9: Done 9:2
		B Del 0/0 2: Done
		B Get 0/0 2: Done
		B Put 0/0 2 4: Done
		B Get 0/0 2: Done 2:4
		B Del 0/0 15: Done
		B Put 0/0 7 7: Done
		B Scan 0/0 0 15: Done 0:5 2:4 7:7 9:2
		B Commit: Done
		Look 0/0: OK 0:5 2:4 7:7 9:2`)
}

func TestP10OtherPartitionsAreSeenAsTheyAre(t *testing.T) {
	run(t, made(t, wide), `
		A Begin: Done
		A Put 0/0 3 7: Done
		A Commit: Done
		H Begin: Done
		H Put 1/0 3 8: Done
		H Put 1/0 4 4: Done
		H Get 0/0 3: Done 3:7
		H Scan 0/0 0 15: Done 3:7
		H Get 1/0 3: Done 3:8
		H Del 1/0 3: Done
		H Get 1/0 3: Done
		H Get 0/0 3: Done 3:7
		H Commit: Done
		Look 0/0: OK 3:7
		Look 1/0: OK 4:4
		T Begin: Done
		T Scan 1/0 0 15: Done 4:4
		T Get 0/0 3: Done 3:7`)
}

func TestP10DelWhereThereIsNoItem(t *testing.T) {
	run(t, made(t, api.Config{Keys: 1, Live: 4, Locks: 2}), `
		A Begin: Done
		A Del 0/0 3: Done
		A Get 0/0 3: Done
		A Del 0/0 3: Done
		A Del 0/0 4: Done
		A Del 0/0 5: Quota
		A Put 0/0 4 4: Done
		A Put 0/0 3 3: Quota
		A Commit: Done
		Look 0/0: OK 4:4`)
}

func TestP10QuotaOfKeys(t *testing.T) {
	run(t, made(t, api.Config{Keys: 1, Live: 4, Locks: 32}), `
		A Begin: Done
		A Put 0/0 3 7: Done
		B Begin: Done
		B Put 0/0 4 4: Quota
		B Get 0/0 4: Done
		A Del 0/0 3: Done
		B Put 0/0 5 5: Quota
		A Put 0/0 3 8: Done
		H Begin: Done
		H Put 1/0 9 9: Done
		H Put 1/0 8 8: Quota
		A Abort: Done
		B Put 0/0 5 5: Done
		B Put 0/0 5 6: Done
		B Commit: Done
		Look 0/0: OK 5:6
		C Begin: Done
		C Del 0/0 5: Done
		C Put 0/0 6 6: Quota
		C Put 0/0 5 7: Done
		C Del 0/0 5: Done
		C Commit: Done
		Look 0/0: OK
		C Begin: Done
		C Put 0/0 6 6: Done
		C Commit: Done
		Look 0/0: OK 6:6`)
	run(t, made(t, api.Config{Keys: 3, Live: 4, Locks: 32}), `
		A Begin: Done
		A Put 0/0 1 1: Done
		A Commit: Done
		A Begin: Done
		A Put 0/0 1 2: Done
		A Put 0/0 2 2: Done
		B Begin: Done
		B Put 0/0 3 3: Done
		B Put 0/0 4 4: Quota
		A Put 0/0 5 5: Quota
		A Put 0/0 2 3: Done
		B Abort: Done
		A Put 0/0 5 5: Done
		A Put 0/0 6 6: Quota
		A Scan 0/0 0 15: Done 1:2 2:3 5:5
		A Commit: Done
		Look 0/0: OK 1:2 2:3 5:5`)
}

func TestP10TheFirstAndTheLastKeyAreTaken(t *testing.T) {
	run(t, made(t, api.Config{Keys: 2, Live: 4, Locks: 32}), `
		A Begin: Done
		A Put 0/0 15 1: Done
		A Put 0/0 0 1: Done
		A Put 0/0 7 7: Quota
		A Commit: Done
		B Begin: Done
		B Put 0/0 7 7: Quota
		B Put 0/0 15 2: Done
		B Put 0/0 0 2: Done`)
}

func TestP10APutPastTheQuotaHoldsItsLock(t *testing.T) {
	run(t, made(t, api.Config{Keys: 1, Live: 4, Locks: 2}), `
		A Begin: Done
		A Put 0/0 3 3: Done
		A Put 0/0 4 4: Quota
		A Get 0/0 5: Quota
		A Get 0/0 4: Done
		A Del 0/0 4: Done
		A Commit: Done
		Look 0/0: OK 3:3`)
}

func TestP10AllKeysFit(t *testing.T) {
	s := made(t, wide)
	s.Do(parsed("A Begin"))
	for key := 15; key >= 0; key-- {
		if a := s.Do(api.Step{Op: api.Put, Key: key, Value: key}); shown(a) != "Done" {
			t.Fatalf("Put of %d: %s", key, shown(a))
		}
	}
	all := " 0:0 1:1 2:2 3:3 4:4 5:5 6:6 7:7 8:8 9:9 10:10 11:11 12:12 13:13 14:14 15:15"
	run(t, s, "A Scan 0/0 0 15: Done"+all+"\nA Commit: Done\nLook 0/0: OK"+all)
}
