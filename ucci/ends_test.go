package ucci_test

import (
	"fmt"
	"slices"
	"testing"

	"riverbank/api"
	"riverbank/iccs"
	"riverbank/judge"
	"riverbank/ucci"
)

// loses is the verdict that a side loses, for a reason.
func loses(side int, reason int) api.Verdict {
	return api.Verdict{Kind: api.RedLoses + side, Reason: reason}
}

// across is a verdict from the other side.
func across(v api.Verdict) api.Verdict {
	if v.Kind == api.RedLoses || v.Kind == api.BlackLoses {
		v.Kind = api.RedLoses + api.BlackLoses - v.Kind
	}
	return v
}

// could tells whether a side could make a move, whosever move it is.
func could(cells string, m api.Move) bool {
	side := sideOf(cells[m.From])
	if side < 0 || !goals(cells, m.From)[m.To] || cells[m.To]|0x20 == 'k' {
		return false
	}
	return !attacked(plainBehind(api.Position{Cells: cells, Side: side}, m).Cells, side)
}

// takenAgain tells whether what takes could be taken by any piece.
func takenAgain(cells string, m api.Move) bool {
	behind := plainBehind(api.Position{Cells: cells}, m).Cells
	for n := range 90 {
		if sideOf(behind[n]) == 1-sideOf(cells[m.From]) && could(behind, move(n, m.To)) {
			return true
		}
	}
	return false
}

// threat tells whether a capture that could be made is one that chases.
func threat(cells string, m api.Move) bool {
	x, y := cells[m.From]|0x20, cells[m.To]|0x20
	if x == 'k' || x == 'p' || y == 'p' && from(sideOf(cells[m.To]), m.To/9) < 5 {
		return false
	}
	if x == y && could(cells, move(m.To, m.From)) {
		return false
	}
	return y == 'r' && (x == 'n' || x == 'c') || !takenAgain(cells, m)
}

// chased are the squares of what a side chases, and whether it is none, because it gives check.
func chased(p api.Position) (map[int]bool, bool) {
	l := map[int]bool{}
	if attacked(p.Cells, p.Side) {
		return l, true
	}
	for n := range 90 {
		if sideOf(p.Cells[n]) != 1-p.Side {
			continue
		}
		for to := range goals(p.Cells, n) {
			m := move(n, to)
			if p.Cells[to] != '.' && could(p.Cells, m) && threat(p.Cells, m) {
				l[to] = true
			}
		}
	}
	return l, false
}

// The classes.
const (
	idle = iota
	chasing
	checking
)

// class is what a side did, all along some moves.
func class(l []api.Position, played []api.Move, side int) int {
	own, checks := 0, 0
	var common map[int]bool
	for j := range played {
		if l[j].Side != side {
			continue
		}
		own++
		now, check := chased(l[j+1])
		if check {
			checks++
			continue
		}
		origins := map[int]bool{}
		for n := range now {
			for i := j; i >= 0; i-- {
				if played[i].To == n {
					n = played[i].From
				}
			}
			if common == nil || common[n] {
				origins[n] = true
			}
		}
		common = origins
	}
	switch {
	case own == 0:
		return idle
	case checks == own:
		return checking
	case len(common) > 0:
		return chasing
	}
	return idle
}

// plainVerdict is how a game stands that came through these positions.
func plainVerdict(l []api.Position, played []api.Move) api.Verdict {
	last := l[len(l)-1]
	if len(plainMoves(last)) == 0 {
		if attacked(last.Cells, last.Side) {
			return loses(last.Side, api.Mate)
		}
		return loses(last.Side, api.Stale)
	}
	for i, p := range l[:len(l)-1] {
		if p.Cells != last.Cells || p.Side != last.Side {
			continue
		}
		did := [2]int{class(l[i:], played[i:], 0), class(l[i:], played[i:], 1)}
		reasons := []int{chasing: api.Chasing, checking: api.Checking}
		for side := range 2 {
			if did[side] > did[1-side] {
				return loses(side, reasons[did[side]])
			}
		}
		return api.Verdict{Kind: api.Draw, Reason: api.Repeating}
	}
	if last.Clock == 120 {
		return api.Verdict{Kind: api.Draw, Reason: api.Natural}
	}
	return goes
}

// wantVerdict wants a game to be judged so, and, seen from the other side, that the other one loses.
func wantVerdict(t *testing.T, promise string, p api.Position, played []api.Move, want api.Verdict) {
	t.Helper()
	if v, _, e := judge.Play(p, played); v != want || e != api.OK {
		t.Errorf("%s: %v, %v: got %v, %d, want %v", promise, p, played, v, e, want)
	}
	if v, _, e := judge.Play(turned(p), turnedMoves(played)); v != across(want) || e != api.OK {
		t.Errorf("P7: %v, %v, turned: got %v, %d, want %v", p, played, v, e, across(want))
	}
	said := ucci.Run([]string{"position fen " + plainText(p) + " moves " + iccs.Text(played), "probe"})
	tail := fmt.Sprintf(" verdict %d %d", want.Kind, want.Reason)
	if len(said) != 1 || said[0][len(said[0])-len(tail):] != tail {
		t.Errorf("%s: %v, %v: told %q, want %q", promise, p, played, said, tail)
	}
}

func TestEndsByHand(t *testing.T) {
	draw := api.Verdict{Kind: api.Draw, Reason: api.Repeating}
	natural := api.Verdict{Kind: api.Draw, Reason: api.Natural}
	checks, run := red("KkR", 3, 85, 36), moves(36, 40, 85, 86, 40, 41, 86, 85, 41, 40)
	chases, hunt := red("KkRn", 3, 85, 54, 38), moves(54, 36, 38, 57, 36, 54, 57, 38)
	fro := moves(0, 9, 81, 72, 9, 0, 72, 81)
	mate, mating := red("KkRR", 4, 84, 17, 72), moves(17, 12)
	for _, c := range []struct {
		p      api.Position
		played []api.Move
		want   api.Verdict
	}{
		{start, nil, goes}, {start, fro, draw}, {start, fro[:3], goes},
		// who gives check all along, to who does not
		{checks, run, loses(0, api.Checking)}, {checks, run[:4], goes},
		// who chases all along, to who is idle; a pawn guards it
		{chases, hunt, loses(0, api.Chasing)}, {chases, hunt[:3], goes},
		{red("KkRnp", 3, 85, 54, 38, 39), hunt, draw},
		// mate goes ahead of all, the natural limit behind
		{mate, mating, loses(1, api.Mate)}, {at(mate, 119), mating, loses(1, api.Mate)},
		{at(checks, 115), run, loses(0, api.Checking)}, {at(chases, 116), hunt, loses(0, api.Chasing)}, {at(start, 116), fro, draw},
		{at(start, 119), fro[:1], natural}, {at(start, 118), fro[:1], goes}, {at(start, 120), nil, natural}, {at(start, 119), moves(19, 82), goes},
		{red("Kkr", 4, 86, 12), nil, loses(0, api.Stale)}, {at(red("Kkr", 4, 86, 12), 120), nil, loses(0, api.Stale)},
	} {
		wantVerdict(t, "P4", c.p, c.played, c.want)
	}
}

// hunted is a move that gives check or chases something, if there is one, or goes back where its piece came from; else any one.
func hunted(r *random, p api.Position, played []api.Move) api.Move {
	may := plainMoves(p)
	if len(played) >= 2 && r.below(2) == 0 {
		if last := played[len(played)-2]; slices.Contains(may, move(last.To, last.From)) {
			return move(last.To, last.From)
		}
	}
	for range 8 {
		m := may[r.below(len(may))]
		if l, check := chased(plainBehind(p, m)); check || len(l) > 0 {
			return m
		}
	}
	return may[r.below(len(may))]
}

func TestEnds(t *testing.T) {
	t.Parallel()
	r := random(1181783497276652981)
	seen := map[api.Verdict]int{}
	var games []api.Position
	for _, pieces := range []string{"R", "r", "Rn", "Cr", "Ra", "RCn", "nR", "NrAa", "RCrb", "CNrp"} {
		games = append(games, scattered(40, pieces, 0, 0, 112)...)
	}
	for _, p := range games {
		l, played := []api.Position{p}, []api.Move(nil)
		for range 30 {
			want := plainVerdict(l, played)
			wantVerdict(t, "P4", p, played, want)
			if seen[want]++; want != goes {
				break
			}
			now := l[len(l)-1]
			m := hunted(&r, now, played)
			l, played = append(l, plainBehind(now, m)), append(played, m)
		}
	}
	for _, want := range []api.Verdict{loses(0, api.Checking), loses(1, api.Checking), loses(0, api.Chasing), loses(1, api.Chasing), {Kind: 1, Reason: 5}, {Kind: 1, Reason: 6}, loses(0, api.Mate)} {
		if seen[want] < 3 {
			t.Errorf("P4: too little was seen: %v", seen)
		}
	}
}
