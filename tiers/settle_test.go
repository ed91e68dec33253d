package tiers

import "testing"

func TestP13TheOwnLabelComesAheadOfThoseAbove(t *testing.T) {
	run(t, made(t, wide), `
		A Begin: Done
		A Put 0/0 3 7: Done
		H Begin: Done
		H Get 0/0 3: Blocked
		B Begin: Done
		B Put 0/0 3 8: Blocked
		A Commit: Done
		H Poll: Blocked
		B Poll: Done
		B Commit: Done
		H Poll: Done 3:8`)
	run(t, made(t, wide), `
		A Begin: Done
		A Put 0/0 3 7: Done
		H Begin: Done
		H Get 0/0 3: Blocked
		B Begin: Done
		B Get 0/0 3: Blocked
		C Begin: Done
		C Put 0/0 3 9: Blocked
		A Commit: Done
		B Poll: Done 3:7
		C Poll: Blocked
		H Poll: Done 3:7
		B Commit: Done
		H Commit: Aborted why1
		C Poll: Done`)
}

func TestP13ThoseAboveGoOnTogether(t *testing.T) {
	run(t, made(t, wide), `
		A Begin: Done
		A Put 0/0 3 7: Done
		T Begin: Done
		T Get 0/0 3: Blocked
		S Begin: Done
		S Scan 0/0 0 15: Blocked
		I Begin: Done
		I Get 0/0 3: Blocked
		H Begin: Done
		H Scan 0/0 3 9: Blocked
		A Commit: Done
		H Poll: Done 3:7
		I Poll: Done 3:7
		S Poll: Done 3:7
		T Poll: Done 3:7`)
}

// What a session waited for has ended, but the session is preempted by what goes on ahead of it.
func TestP13PreemptedAheadOfItsTurn(t *testing.T) {
	run(t, made(t, wide), `
		A Begin: Done
		A Get 0/0 3: Done
		A Put 0/0 5 5: Done
		H Begin: Done
		H Get 0/0 3: Done
		H Get 0/0 5: Blocked
		B Begin: Done
		B Put 0/0 3 8: Blocked
		A Commit: Done
		H Poll: Aborted why1
		H Poll: Idle
		B Poll: Done`)
}

func TestP13WhoWaitedForThePreempted(t *testing.T) {
	run(t, made(t, wide), `
		H Begin: Done
		H Get 0/0 3: Done
		H Put 1/0 5 5: Done
		H Get 1/0 6: Done
		I Begin: Done
		I Put 1/0 5 6: Blocked
		J Begin: Done
		J Put 1/0 6 7: Blocked
		L Begin: Done
		L Get 1/0 5: Blocked
		M Begin: Done
		M Get 1/0 6: Done
		A Begin: Done
		A Put 0/0 3 1: Done
		M Commit: Aborted why1
		L Poll: Blocked
		J Poll: Done
		I Poll: Done
		I Commit: Done
		L Poll: Done 5:6
		H Poll: Aborted why1
		J Commit: Done
		A Commit: Done
		Look 1/0: OK 5:6 6:7`)
}

func TestP13WhoWaitedBehindARequestOfThePreempted(t *testing.T) {
	run(t, made(t, wide), `
		I Begin: Done
		I Get 1/0 5: Done
		H Begin: Done
		H Get 0/0 3: Done
		H Get 1/0 7: Done
		H Put 1/0 5 5: Blocked
		J Begin: Done
		J Get 1/0 5: Blocked
		A Begin: Done
		A Put 0/0 3 1: Done
		J Poll: Done
		J Put 1/0 7 7: Done
		I Commit: Done
		H Poll: Aborted why1
		H Poll: Idle
		J Commit: Done
		Look 1/0: OK 7:7`)
}

func TestP13FromAboveBehindThePreempted(t *testing.T) {
	run(t, made(t, wide), `
		A Begin: Done
		A Put 0/0 3 1: Done
		A Commit: Done
		H Begin: Done
		H Put 1/0 5 5: Done
		H Scan 0/0 0 15: Done 3:1
		T Begin: Done
		T Get 1/0 5: Blocked
		L Begin: Done
		L Scan 1/0 0 15: Blocked
		A Begin: Done
		A Del 0/0 9: Done
		T Poll: Done
		L Poll: Done
		H Poll: Aborted why1
		A Commit: Done
		T Commit: Done
		L Commit: Done`)
}

// Each of the labels has a writer that waits for the one that is preempted, and a reader from above that is preempted by it.
func TestP13PreemptionGoesOnOverManyLabels(t *testing.T) {
	chain := `
		H Begin: Done
		H Get 0/0 3: Done
		H Get 1/0 5: Done
		I Begin: Done
		I Put 1/0 5 5: Blocked
		L Begin: Done
		L Get 1/0 5: Done
		L Put 2/0 6 6: Done
		M Begin: Done
		M Put 2/0 6 7: Blocked
		M Begin: Busy
		T Begin: Done
		T Get 2/0 6: Blocked
		U Begin: Done
		U Get 2/0 7: Done
		U Put 3/7 1 1: Done`
	run(t, made(t, wide), chain+`
		A Begin: Done
		A Put 0/0 4 4: Done
		H Poll: Idle
		A Put 0/0 3 3: Done
		T Poll: Blocked
		M Poll: Done
		L Poll: Aborted why1
		I Poll: Done
		H Poll: Aborted why1
		U Poll: Idle
		M Put 2/0 7 7: Done
		U Poll: Aborted why1
		M Commit: Done
		T Poll: Done 6:7
		Look 2/0: OK 6:7 7:7
		Look 3/7: OK`)
	run(t, made(t, wide), `
		H Begin: Done
		H Get 0/0 3: Done
		H Get 1/0 5: Done
		I Begin: Done
		I Put 1/0 5 5: Blocked
		L Begin: Done
		L Get 1/0 5: Done
		L Get 2/0 6: Done
		M Begin: Done
		M Put 2/0 6 7: Blocked
		T Begin: Done
		T Get 2/0 6: Done
		T Put 3/7 8 8: Done
		U Begin: Done
		U Scan 3/7 0 15: Blocked
		B Begin: Done
		B Get 0/0 3: Done
		A Begin: Done
		A Put 0/0 3 3: Blocked
		T Poll: Idle
		B Abort: Done
		U Poll: Done
		T Poll: Aborted why1
		M Poll: Done
		L Poll: Aborted why1
		I Poll: Done
		H Poll: Aborted why1
		A Poll: Done
		A Commit: Done
		I Commit: Done
		M Commit: Done
		U Commit: Done
		Look 0/0: OK 3:3
		Look 1/0: OK 5:5
		Look 2/0: OK 6:7
		Look 3/7: OK`)
}

// P and Q have labels of which neither dominates the other; S and T dominate both.
func TestP13PreemptionOverLabelsApart(t *testing.T) {
	run(t, made(t, wide), `
		P Begin: Done
		P Get 0/0 3: Done
		P Get 0/1 5: Done
		O Begin: Done
		O Put 0/1 5 1: Blocked
		Q Begin: Done
		Q Get 0/0 3: Done
		Q Put 0/2 6 6: Done
		R Begin: Done
		R Put 0/2 6 2: Blocked
		S Begin: Done
		S Get 0/1 5: Done
		S Get 0/2 6: Blocked
		T Begin: Done
		T Get 0/2 6: Blocked
		U Begin: Done
		U Get 0/1 5: Done
		H Begin: Done
		H Get 1/0 5: Done
		A Begin: Done
		A Put 0/0 3 3: Done
		H Commit: Done
		O Poll: Done
		R Poll: Done
		S Poll: Aborted why1
		U Poll: Aborted why1
		T Poll: Blocked
		P Poll: Aborted why1
		Q Poll: Aborted why1
		R Commit: Done
		T Poll: Done 6:2
		O Commit: Done
		T Get 0/1 5: Done 5:1`)
}

// Both readers go by the same write: neither goes on in between, so the third, which only the second one's request would end, is left alone.
func TestP13AllThePreemptedEndBeforeAnyGoesOn(t *testing.T) {
	for _, pair := range [][2]string{{"H", "J"}, {"J", "H"}} {
		one, two := pair[0], pair[1]
		run(t, made(t, wide), one+` Begin: Done
			`+one+` Get 0/0 3: Done
			`+one+` Get 1/0 5: Done
			`+two+` Begin: Done
			`+two+` Get 0/0 3: Done
			`+two+` Put 1/0 5 5: Blocked
			L Begin: Done
			L Get 1/0 5: Done
			I Begin: Done
			I Get 1/0 5: Blocked
			A Begin: Done
			A Put 0/0 3 3: Done
			L Poll: Idle
			L Commit: Done
			I Poll: Done
			`+one+` Poll: Aborted why1
			`+two+` Poll: Aborted why1`)
	}
}

// Two requests go on in the lower partition, and end H and J, before anything goes on in the higher one.
func TestP13LowerPartitionsComeAheadOfHigherOnes(t *testing.T) {
	for _, pair := range [][2]string{{"H", "J"}, {"J", "H"}} {
		one, two := pair[0], pair[1]
		run(t, made(t, wide), `A Begin: Done
			A Scan 0/0 0 15: Done
			B Begin: Done
			B Put 0/0 3 3: Blocked
			C Begin: Done
			C Put 0/0 4 4: Blocked
			`+one+` Begin: Done
			`+one+` Get 0/0 3: Done
			`+one+` Get 1/0 5: Done
			`+two+` Begin: Done
			`+two+` Get 0/0 4: Done
			`+two+` Put 1/0 5 5: Blocked
			L Begin: Done
			L Get 1/0 5: Done
			A Commit: Done
			L Poll: Idle
			L Commit: Done
			B Poll: Done
			C Poll: Done
			`+one+` Poll: Aborted why1
			`+two+` Poll: Aborted why1`)
	}
}

func TestP13AnEndByARingLetsThoseAboveGoOn(t *testing.T) {
	run(t, made(t, wide), `
		A Begin: Done
		B Begin: Done
		A Put 0/0 1 1: Done
		B Put 0/0 2 2: Done
		H Begin: Done
		H Get 0/0 2: Blocked
		I Begin: Done
		I Get 0/0 1: Blocked
		A Scan 0/0 2 3: Blocked
		B Get 0/0 1: Aborted why2
		H Poll: Done
		I Poll: Blocked
		A Commit: Busy
		A Poll: Done
		A Commit: Done
		I Poll: Done 1:1`)
}

// In the middle label H stands in a ring, and its end lets the higher T go on; the lower A does not take part.
func TestP13ARingInTheMiddle(t *testing.T) {
	run(t, made(t, wide), `
		A Begin: Done
		A Put 0/0 9 9: Done
		I Begin: Done
		H Begin: Done
		J Begin: Done
		J Get 0/0 9: Blocked
		I Get 1/0 1: Done
		H Put 1/0 2 2: Done
		T Begin: Done
		T Get 1/0 2: Blocked
		L Begin: Done
		L Get 1/0 1: Done
		H Put 1/0 1 1: Blocked
		I Get 1/0 2: Blocked
		H Poll: Aborted why2
		L Poll: Idle
		T Poll: Done
		I Poll: Done
		J Poll: Blocked
		A Commit: Done
		J Poll: Done 9:9`)
}
