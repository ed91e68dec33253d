package tiers

import (
	"testing"

	"tiers/api"
)

func TestP11AWriterEndsAReaderFromAbove(t *testing.T) {
	run(t, made(t, wide), `
		H Begin: Done
		H Scan 0/0 0 15: Done
		H Put 1/0 1 1: Done
		A Begin: Done
		A Put 0/0 3 7: Done
		H Get 1/0 1: Aborted why1
		H Get 1/0 1: NoTxn
		A Commit: Done
		Look 1/0: OK
		Look 0/0: OK 3:7`)
	for _, write := range []string{"A Put 0/0 3 7", "A Del 0/0 3"} {
		for _, read := range []string{"Get 0/0 3", "Scan 0/0 0 15", "Scan 0/0 3 9", "Scan 0/0 1 3", "Scan 0/0 3 3"} {
			run(t, made(t, wide), "H Begin: Done\nH "+read+": Done\nA Begin: Done\n"+write+": Done\nH Poll: Aborted why1\nH Poll: Idle\nA Commit: Done\nH Poll: Idle")
			run(t, made(t, wide), "T Begin: Done\nT "+read+": Done\nA Begin: Done\n"+write+": Done\nA Abort: Done\nT Poll: Aborted why1\nT Poll: Idle")
		}
		for _, read := range []string{"Get 0/0 2", "Get 0/0 4", "Scan 0/0 0 2", "Scan 0/0 4 15"} {
			run(t, made(t, wide), "H Begin: Done\nH "+read+": Done\nA Begin: Done\n"+write+": Done\nH Poll: Idle\nH "+read+": Done\nA Commit: Done\nH Put 1/0 5 5: Done\nH Commit: Done\nLook 1/0: OK 5:5")
		}
	}
}

func TestP11EveryLockCounts(t *testing.T) {
	run(t, made(t, wide), `
		H Begin: Done
		H Get 1/0 1: Done
		H Get 0/0 1: Done
		H Scan 0/0 5 6: Done
		H Put 1/0 9 9: Done
		A Begin: Done
		A Put 0/0 2 2: Done
		A Put 0/0 7 2: Done
		A Put 0/0 9 2: Done
		H Get 1/0 9: Done 9:9
		A Put 0/0 6 2: Done
		H Get 1/0 9: Aborted why1`)
}

func TestP11OnTheWritersPartitionAlone(t *testing.T) {
	run(t, made(t, wide), `
		H Begin: Done
		H Scan 1/0 0 15: Done
		P Begin: Done
		P Scan 0/1 0 15: Done
		S Begin: Done
		S Scan 0/1 0 15: Done
		S Scan 0/2 0 15: Done
		T Begin: Done
		T Scan 1/0 0 15: Done
		T Put 3/7 3 3: Done
		A Begin: Done
		A Put 0/0 3 7: Done
		A Commit: Done
		H Commit: Done
		P Commit: Done
		S Commit: Done
		T Commit: Done
		Look 3/7: OK 3:3`)
}

func TestP11WhoDoesNotDominateTheWriterIsLeftAlone(t *testing.T) {
	run(t, made(t, wide), `
		A Begin: Done
		A Scan 0/0 0 15: Done
		H Begin: Done
		H Scan 0/0 0 15: Done
		Q Begin: Done
		Q Scan 0/0 0 15: Done
		Q Scan 0/2 0 15: Done
		S Begin: Done
		S Scan 0/1 0 15: Done
		P Begin: Done
		P Put 0/1 3 7: Done
		A Commit: Done
		H Commit: Done
		Q Commit: Done
		S Commit: Aborted why1
		P Commit: Done
		Look 0/1: OK 3:7`)
}

func TestP11TheOwnLabelIsNotPreempted(t *testing.T) {
	run(t, made(t, wide), `
		H Begin: Done
		H Get 1/0 3: Done
		L Begin: Done
		L Get 1/0 3: Done
		I Begin: Done
		I Put 1/0 3 3: Blocked
		H Poll: Idle
		L Poll: Idle
		H Commit: Done
		I Poll: Done
		L Poll: Aborted why1`)
}

func TestP11WhenTheRequestIsGrantedLater(t *testing.T) {
	for _, end := range []string{"Commit", "Abort"} {
		for _, write := range []string{"Put 0/0 3 1", "Del 0/0 3"} {
			run(t, made(t, wide), "A Begin: Done\nA Get 0/0 3: Done\nB Begin: Done\nB "+write+`: Blocked
				H Begin: Done
				H Get 0/0 3: Done
				I Begin: Done
				I Get 0/0 4: Done
				H Put 1/0 5 5: Done
				H Poll: Idle
				A `+end+`: Done
				H Commit: Aborted why1
				H Poll: Idle
				I Commit: Done
				B Poll: Done
				B Commit: Done
				Look 1/0: OK`)
		}
	}
}

func TestP11WhenARingIsBroken(t *testing.T) {
	ring := `
		A Begin: Done
		B Begin: Done
		A Get 0/0 3: Done
		B Get 0/0 3: Done
		H Begin: Done
		H Get 0/0 3: Done
		H Put 1/0 5 5: Done
		I Begin: Done
		I Get 1/0 5: Blocked
		T Begin: Done
		T Get 1/0 5: Blocked`
	run(t, made(t, wide), ring+`
		A Put 0/0 3 1: Blocked
		H Poll: Idle
		B Put 0/0 3 2: Aborted why2
		H Poll: Aborted why1
		A Poll: Done
		I Poll: Done
		T Poll: Done`)
	run(t, made(t, wide), ring+`
		B Put 0/0 3 2: Blocked
		H Poll: Idle
		A Put 0/0 3 1: Blocked
		I Poll: Done
		T Poll: Done
		A Poll: Done
		B Poll: Aborted why2
		H Poll: Aborted why1`)
}

func TestP11OnlyAGrantedWritePreempts(t *testing.T) {
	run(t, made(t, api.Config{Keys: 16, Live: 4, Locks: 2}), `
		H Begin: Done
		H Get 0/0 3: Done
		H Get 0/0 4: Done
		A Begin: Done
		A Put 0/0 16 1: Bad
		A Put 0/0 3 1000: Bad
		A Scan 0/0 0 15: Done
		B Begin: Done
		B Put 0/0 3 1: Blocked
		B Put 0/0 4 1: Busy
		A Put 0/0 4 1: Quota
		H Poll: Idle
		B Abort: Done
		H Get 0/0 3: Done
		A Commit: Done
		H Get 0/0 4: Done
		A Put 0/0 4 4: NoTxn
		I Begin: Done
		I Put 0/0 3 3: Denied
		H Commit: Done`)
}

// The request of a Put past the quota of keys is granted, and the Put holds its lock.
func TestP11APutPastTheQuotaOfKeysPreempts(t *testing.T) {
	run(t, made(t, api.Config{Keys: 1, Live: 4, Locks: 32}), `
		A Begin: Done
		A Put 0/0 3 3: Done
		H Begin: Done
		H Get 0/0 4: Done
		A Put 0/0 4 4: Quota
		H Poll: Aborted why1
		H Begin: Done
		H Get 0/0 4: Blocked
		A Commit: Done
		H Poll: Done`)
}

func TestP11AWriteThatIsCoveredFindsNobody(t *testing.T) {
	run(t, made(t, wide), `
		A Begin: Done
		A Put 0/0 3 7: Done
		H Begin: Done
		H Get 0/0 4: Done
		H Get 0/0 3: Blocked
		A Put 0/0 3 8: Done
		A Del 0/0 3: Done
		H Poll: Blocked
		A Put 0/0 3 9: Done
		A Commit: Done
		H Poll: Done 3:9
		H Commit: Done`)
}

func TestP11SeveralAtOnce(t *testing.T) {
	run(t, made(t, wide), `
		H Begin: Done
		H Get 0/0 3: Done
		I Begin: Done
		I Scan 0/0 0 3: Done
		J Begin: Done
		J Scan 0/0 0 2: Done
		P Begin: Done
		P Scan 0/0 3 4: Done
		Q Begin: Done
		Q Get 0/0 3: Done
		S Begin: Done
		S Get 0/0 4: Done
		T Begin: Done
		T Scan 0/0 0 15: Done
		U Begin: Done
		U Get 0/0 3: Done
		A Begin: Done
		A Put 0/0 3 7: Done
		A Commit: Done
		H Poll: Aborted why1
		I Begin: Aborted why1
		J Commit: Done
		P Get 0/0 3: Aborted why1
		Q Commit: Aborted why1
		S Commit: Done
		T Abort: Aborted why1
		U Put 3/7 1 1: Aborted why1
		H Poll: Idle
		I Poll: Idle
		P Poll: Idle
		Q Poll: Idle
		T Poll: Idle
		U Poll: Idle`)
}

func TestP11WhoHasEndedIsNotPreempted(t *testing.T) {
	run(t, made(t, wide), `
		H Begin: Done
		H Get 0/0 3: Done
		H Put 1/0 5 5: Done
		H Commit: Done
		I Begin: Done
		I Get 0/0 3: Done
		I Abort: Done
		A Begin: Done
		A Put 0/0 3 7: Done
		H Poll: Idle
		I Begin: Done
		I Get 1/0 5: Done 5:5
		A Commit: Done
		I Commit: Done
		Look 1/0: OK 5:5`)
}

func TestP11ARequestThatWaitsIsNoLock(t *testing.T) {
	run(t, made(t, wide), `
		A Begin: Done
		A Put 0/0 3 1: Done
		B Begin: Done
		B Put 0/0 3 2: Blocked
		H Begin: Done
		H Scan 0/0 3 4: Blocked
		C Begin: Done
		C Put 0/0 4 4: Done
		A Commit: Done
		H Poll: Blocked
		C Commit: Done
		B Poll: Done
		B Commit: Done
		H Poll: Done 3:2 4:4`)
}

func TestP11AnOutcomeThatIsNotToldGoesToo(t *testing.T) {
	run(t, made(t, wide), `
		A Begin: Done
		A Put 0/0 3 1: Done
		H Begin: Done
		H Get 0/0 3: Blocked
		A Commit: Done
		B Begin: Done
		B Put 0/0 3 2: Done
		H Poll: Aborted why1
		H Poll: Idle
		B Commit: Done
		H Poll: Idle`)
}

func TestP11WhatIsEndedIsCountedNoMore(t *testing.T) {
	run(t, made(t, api.Config{Keys: 1, Live: 2, Locks: 3}), `
		I Begin: Done
		H Begin: Done
		J Begin: Quota
		H Put 1/0 5 5: Done
		I Put 1/0 6 6: Quota
		H Get 0/0 3: Done
		I Get 1/0 7: Quota
		A Begin: Done
		A Put 0/0 3 3: Done
		I Get 1/0 7: Done
		I Put 1/0 6 6: Done
		J Begin: Done
		J Get 1/0 8: Done
		J Get 1/0 9: Quota
		H Begin: Aborted why1
		H Begin: Quota
		I Commit: Done
		Look 1/0: OK 6:6
		H Begin: Done
		J Get 1/0 9: Done`)
	run(t, made(t, api.Config{Keys: 16, Live: 4, Locks: 3}), `
		I Begin: Done
		I Put 1/0 5 5: Done
		H Begin: Done
		H Get 0/0 3: Done
		H Get 1/0 5: Blocked
		I Get 1/0 6: Quota
		A Begin: Done
		A Put 0/0 3 3: Done
		I Get 1/0 6: Done
		I Get 1/0 7: Done
		I Get 1/0 8: Quota
		H Poll: Aborted why1`)
}

func TestP11AfterItAnotherMayBeginAndBePreempted(t *testing.T) {
	run(t, made(t, wide), `
		H Begin: Done
		H Get 0/0 3: Done
		A Begin: Done
		A Put 0/0 3 3: Done
		A Commit: Done
		H Begin: Aborted why1
		H Begin: Done
		H Get 0/0 3: Done 3:3
		A Begin: Done
		A Del 0/0 3: Done
		A Commit: Done
		H Begin: Aborted why1
		H Begin: Done
		H Get 0/0 3: Done
		H Commit: Done`)
}
