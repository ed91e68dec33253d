package tiers

import "testing"

func TestP12ARingOfTwo(t *testing.T) {
	run(t, made(t, wide), `
		A Begin: Done
		B Begin: Done
		A Get 0/0 3: Done
		B Put 0/0 4 4: Done
		B Get 0/0 3: Done
		A Put 0/0 3 1: Blocked
		B Put 0/0 3 2: Aborted why2
		A Poll: Done
		B Poll: Idle
		B Commit: NoTxn
		A Commit: Done
		Look 0/0: OK 3:1`)
	run(t, made(t, wide), `
		A Begin: Done
		B Begin: Done
		A Get 0/0 3: Done
		B Put 0/0 4 4: Done
		B Get 0/0 3: Done
		B Put 0/0 3 2: Blocked
		A Put 0/0 3 1: Blocked
		A Commit: Busy
		A Poll: Done
		A Get 0/0 4: Done
		B Poll: Aborted why2
		B Poll: Idle
		B Commit: NoTxn
		A Commit: Done
		Look 0/0: OK 3:1`)
}

func TestP12TheYoungerIsWhoBeganLater(t *testing.T) {
	run(t, made(t, wide), `
		B Begin: Done
		A Begin: Done
		A Put 0/0 1 1: Done
		B Put 0/0 2 2: Done
		B Get 0/0 1: Blocked
		A Get 0/0 2: Aborted why2
		B Poll: Done
		B Commit: Done
		Look 0/0: OK 2:2`)
	run(t, made(t, wide), `
		A Begin: Done
		B Begin: Done
		C Begin: Done
		A Commit: Done
		A Begin: Done
		A Put 0/0 1 1: Done
		B Put 0/0 2 2: Done
		A Get 0/0 2: Blocked
		B Get 0/0 1: Blocked
		B Poll: Done
		A Poll: Aborted why2
		A Begin: Done
		A Put 0/0 3 3: Done
		C Put 0/0 4 4: Done
		C Get 0/0 3: Blocked
		A Get 0/0 4: Aborted why2
		C Poll: Done`)
}

func TestP12ARingOfThree(t *testing.T) {
	three := `
		A Begin: Done
		B Begin: Done
		C Begin: Done
		A Put 0/0 1 1: Done
		B Put 0/0 2 2: Done
		C Put 0/0 3 3: Done`
	run(t, made(t, wide), three+`
		A Get 0/0 2: Blocked
		B Get 0/0 3: Blocked
		C Get 0/0 1: Aborted why2
		A Poll: Blocked
		B Poll: Done
		B Commit: Done
		A Poll: Done 2:2
		C Poll: Idle
		A Commit: Done
		Look 0/0: OK 1:1 2:2`)
	run(t, made(t, wide), three+`
		B Get 0/0 3: Blocked
		C Get 0/0 1: Blocked
		A Get 0/0 2: Blocked
		A Poll: Blocked
		B Poll: Done
		C Commit: Aborted why2
		B Abort: Done
		A Poll: Done`)
}

func TestP12ARingOfFour(t *testing.T) {
	four := `
		C Begin: Done
		A Begin: Done
		D Begin: Done
		B Begin: Done
		A Put 0/0 1 1: Done
		B Put 0/0 2 2: Done
		C Put 0/0 3 3: Done
		D Put 0/0 4 4: Done`
	run(t, made(t, wide), four+`
		A Del 0/0 2: Blocked
		C Scan 0/0 4 5: Blocked
		D Put 0/0 1 9: Blocked
		B Get 0/0 3: Aborted why2
		A Poll: Done
		C Poll: Blocked
		D Poll: Blocked
		A Commit: Done
		D Poll: Done
		D Commit: Done
		C Poll: Done 4:4
		Look 0/0: OK 1:9 4:4`)
	run(t, made(t, wide), four+`
		B Get 0/0 3: Blocked
		A Del 0/0 2: Blocked
		D Put 0/0 1 9: Blocked
		C Scan 0/0 4 5: Blocked
		B Get 0/0 3: Aborted why2
		A Poll: Done
		C Poll: Blocked
		D Poll: Blocked`)
}

func TestP12WhoStandsInNoRingIsLeftAlone(t *testing.T) {
	run(t, made(t, wide), `
		A Begin: Done
		B Begin: Done
		C Begin: Done
		D Begin: Done
		A Put 0/0 1 1: Done
		B Put 0/0 2 2: Done
		C Get 0/0 1: Blocked
		A Put 0/0 2 9: Blocked
		D Get 0/0 2: Blocked
		B Scan 0/0 0 1: Aborted why2
		A Poll: Done
		C Poll: Blocked
		D Poll: Blocked
		A Commit: Done
		C Poll: Done 1:1
		D Poll: Done 2:9
		Look 0/0: OK 1:1 2:9`)
	run(t, made(t, wide), `
		A Begin: Done
		B Begin: Done
		C Begin: Done
		A Put 0/0 1 1: Done
		B Get 0/0 1: Blocked
		C Get 0/0 1: Blocked
		A Put 0/0 2 2: Done
		B Poll: Blocked
		C Poll: Blocked
		A Commit: Done
		B Poll: Done 1:1
		C Poll: Done 1:1`)
}

// The one that asks waits for B, which stands in the ring, and for D, the youngest, which waits for nobody.
func TestP12WhoOnlyHindersStandsInNoRing(t *testing.T) {
	run(t, made(t, wide), `
		A Begin: Done
		B Begin: Done
		D Begin: Done
		A Put 0/0 1 1: Done
		B Get 0/0 5: Done
		D Get 0/0 5: Done
		B Get 0/0 1: Blocked
		A Put 0/0 5 5: Blocked
		B Poll: Aborted why2
		A Poll: Blocked
		D Commit: Done
		A Poll: Done`)
}

func TestP12ARingByARequestThatCameEarlier(t *testing.T) {
	run(t, made(t, wide), `
		A Begin: Done
		B Begin: Done
		A Get 0/0 3: Done
		B Put 0/0 3 1: Blocked
		A Scan 0/0 3 4: Blocked
		B Poll: Aborted why2
		A Poll: Done
		A Commit: Done`)
	run(t, made(t, wide), `
		B Begin: Done
		A Begin: Done
		A Get 0/0 3: Done
		B Put 0/0 3 1: Blocked
		A Scan 0/0 3 4: Aborted why2
		B Poll: Done
		A Poll: Idle`)
	run(t, made(t, wide), `
		A Begin: Done
		B Begin: Done
		C Begin: Done
		A Get 0/0 3: Done
		C Put 0/0 4 1: Done
		B Put 0/0 3 1: Blocked
		C Get 0/0 3: Blocked
		A Get 0/0 4: Blocked
		C Poll: Aborted why2
		A Poll: Done
		B Poll: Blocked
		A Commit: Done
		B Poll: Done`)
}

func TestP12TwoRingsAtOnce(t *testing.T) {
	two := `
		A Get 0/0 5: Done
		B Get 0/0 5: Done
		C Put 0/0 1 1: Done
		A Get 0/0 1: Blocked
		B Get 0/0 1: Blocked`
	run(t, made(t, wide), "C Begin: Done\nA Begin: Done\nB Begin: Done"+two+`
		C Put 0/0 5 5: Blocked
		C Poll: Done
		A Poll: Aborted why2
		B Poll: Aborted why2
		C Commit: Done
		Look 0/0: OK 1:1 5:5`)
	run(t, made(t, wide), "A Begin: Done\nB Begin: Done\nC Begin: Done"+two+`
		C Put 0/0 5 5: Aborted why2
		C Poll: Idle
		A Poll: Done
		B Poll: Done
		Look 0/0: OK`)
	run(t, made(t, wide), "A Begin: Done\nC Begin: Done\nB Begin: Done"+two+`
		C Put 0/0 5 5: Aborted why2
		C Poll: Idle
		A Poll: Done
		B Poll: Aborted why2
		B Poll: Idle`)
}

// D's request came earlier than A's, so B stands in a ring with A alone, and in one with A and D.
func TestP12TheSecondRingGoesByARequest(t *testing.T) {
	run(t, made(t, wide), `
		A Begin: Done
		B Begin: Done
		D Begin: Done
		A Put 0/0 1 1: Done
		B Put 0/0 2 2: Done
		D Get 0/0 2: Blocked
		A Put 0/0 2 9: Blocked
		B Get 0/0 1: Aborted why2
		D Poll: Aborted why2
		A Poll: Done`)
}

// One end breaks both rings, as B waits for A by way of C alone.
func TestP12OneEndMayBreakTwoRings(t *testing.T) {
	run(t, made(t, wide), `
		A Begin: Done
		B Begin: Done
		C Begin: Done
		A Put 0/0 1 1: Done
		B Get 0/0 5: Done
		C Get 0/0 5: Done
		C Put 0/0 2 2: Done
		C Get 0/0 1: Blocked
		B Get 0/0 2: Blocked
		A Put 0/0 5 5: Blocked
		C Poll: Aborted why2
		B Poll: Done
		A Poll: Blocked
		B Commit: Done
		A Poll: Done`)
}

func TestP12WhatIsEndedIsGone(t *testing.T) {
	run(t, made(t, wide), `
		A Begin: Done
		B Begin: Done
		C Begin: Done
		A Put 0/0 1 1: Done
		B Put 0/0 2 2: Done
		B Put 0/0 7 7: Done
		C Get 0/0 7: Blocked
		B Get 0/0 1: Blocked
		A Get 0/0 2: Blocked
		A Poll: Done
		C Poll: Done
		D Begin: Done
		D Put 0/0 2 5: Blocked
		A Commit: Done
		D Poll: Done
		D Commit: Done
		B Begin: Aborted why2
		B Begin: Done
		B Scan 0/0 0 15: Done 1:1 2:5`)
}

// simple tells, of the sessions of w, which stand with the session num in a ring that goes through no session twice.
func simple(w waitings, num int, path []int) [4]bool {
	var in [4]bool
	last := path[len(path)-1]
	if w[last][num] {
		for _, n := range path {
			in[n] = true
		}
	}
	for next := range w {
		if !w[last][next] || has(path, next) {
			continue
		}
		for n, there := range simple(w, num, append(append([]int{}, path...), next)) {
			in[n] = in[n] || there
		}
	}
	return in
}

// Before the session 0 asks there is no ring, so each ring goes through it.
func TestP12RingsInAllWaysToWait(t *testing.T) {
	for bits := range 1 << 12 {
		var w, rest waitings
		for from := range w {
			for to := range w {
				if from == to {
					continue
				}
				w[from][to] = bits&1 == 1
				rest[from][to] = bits&1 == 1 && from != 0
				bits >>= 1
			}
		}
		before := rest.closed()
		if before[1][1] || before[2][2] || before[3][3] {
			continue
		}
		far, want := w.closed(), simple(w, 0, []int{0})
		for n := range w {
			if (far[0][n] && far[n][0]) != want[n] {
				t.Errorf("%v: %d stands in a ring with 0: %v", w, n, !want[n])
			}
		}
	}
}
