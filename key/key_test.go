package key_test

import (
	"math"
	"strings"
	"testing"

	"riverbank/api"
	"riverbank/board"
	"riverbank/key"
	"riverbank/legal"
)

const letters = "KABNRCPkabnrcp"

// next is what follows a number, told bit by bit from the chapter's words.
func next(x uint64) uint64 {
	x = xored(x, 13)
	x = xored(x, -7)
	return xored(x, 17)
}

// xored is a number, xor itself moved so many bits to the left (to the right, if below 0).
func xored(x uint64, left int) uint64 {
	var y uint64
	for bit := range 64 {
		from := bit - left
		there := from >= 0 && from < 64 && x>>from&1 == 1
		if (x>>bit&1 == 1) != there {
			y |= 1 << bit
		}
	}
	return y
}

// row is the row of numbers, and some beyond it.
func row() []uint64 {
	l := []uint64{7640891576956012809}
	for len(l) < 1300 {
		l = append(l, next(l[len(l)-1]))
	}
	return l
}

// numbers is the row, reckoned once for all that is asked of it.
var numbers = row()

// plainOf is a position's key, told from the row.
func plainOf(p api.Position) uint64 {
	var k uint64
	for i := range letters {
		for n := range len(p.Cells) {
			if p.Cells[n] == letters[i] {
				k ^= numbers[1+90*i+n]
			}
		}
	}
	if p.Side == 1 {
		k ^= numbers[1261]
	}
	return k
}

// cell is a piece's number on a square, 0 of what is none.
func cell(c byte, n int) uint64 {
	i := strings.IndexByte(letters, c)
	if i < 0 || n < 0 || n >= 90 {
		return 0
	}
	return numbers[1+90*i+n]
}

// random is a row of numbers that is the same each time.
type random uint64

// below is its next one, from 0 on.
func (r *random) below(n int) int {
	*r ^= *r << 13
	*r ^= *r >> 7
	*r ^= *r << 17
	return int(*r % random(n))
}

// boards are boards of all kinds, most of which no game comes to.
func boards() []string {
	l := []string{api.Start, strings.Repeat(".", 90)}
	for i := range letters {
		l = append(l, strings.Repeat(letters[i:i+1], 90))
	}
	r := random(88172645463325252)
	for i := range 200 {
		cells := []byte(strings.Repeat(".", 90))
		for n := range cells {
			if r.below(10) <= i%10 {
				cells[n] = letters[r.below(14)]
			}
		}
		l = append(l, string(cells))
	}
	return l
}

// nowhere are numbers that are no squares.
func nowhere() []int {
	return []int{math.MinInt, math.MinInt + 1, -1 << 32, -91, -90, -9, -1, 90, 91, 99, 179, 180, 256, 1260, 1261, 1 << 32, 1<<32 + 18, math.MaxInt - 9, math.MaxInt}
}

func want(t *testing.T, what string, got uint64, want uint64) {
	t.Helper()
	if got != want {
		t.Errorf("%s: got %#x, want %#x", what, got, want)
	}
}

func TestNext(t *testing.T) {
	for x, n := range map[uint64]uint64{
		0:                   0,
		1:                   0x40822041,
		2:                   0x81044082,
		1 << 63:             0x8100000000000000,
		math.MaxUint64:      0x3f801fc0,
		math.MaxUint64 - 1:  0x7f023f81,
		7640891576956012809: 0x722806b1effed2db,
	} {
		want(t, "P10.1", key.Next(x), n)
	}
	for bit := range 64 {
		want(t, "P10.1", key.Next(1<<bit), next(1<<bit))
	}
	for _, x := range numbers {
		want(t, "P10.1", key.Next(x), next(x))
		want(t, "P10.1", key.Next(^x), next(^x))
	}
}

func TestCell(t *testing.T) {
	// These were reckoned by another program.
	want(t, "P10.2: the first", key.Cell('K', 0), 0x722806b1effed2db)
	want(t, "P10.2", key.Cell('K', 1), 0xfc6a94a55ab2f9be)
	want(t, "P10.2", key.Cell('K', 89), 0x8bd8395a54a89fdd)
	want(t, "P10.2", key.Cell('A', 0), 0xa7bb2693ea9999a2)
	want(t, "P10.2", key.Cell('P', 89), 0xfdc21d5e372572ea)
	want(t, "P10.2", key.Cell('k', 0), 0xaf0ed0986954c28f)
	want(t, "P10.2", key.Cell('p', 0), 0xf66041009b5e7255)
	want(t, "P10.2: the last", key.Cell('p', 89), 0xdf28e614ee8f786f)

	for i := range letters {
		for n := range 90 {
			want(t, "P10.2", key.Cell(letters[i], n), numbers[1+90*i+n])
		}
	}
}

func TestCellOfNothing(t *testing.T) {
	for c := range 256 {
		if strings.IndexByte(letters, byte(c)) >= 0 {
			for _, n := range nowhere() {
				want(t, "P10.2: no square", key.Cell(byte(c), n), 0)
			}
			continue
		}
		for n := range 90 {
			want(t, "P10.2: no piece", key.Cell(byte(c), n), 0)
		}
		for _, n := range nowhere() {
			want(t, "P10.2: no piece, no square", key.Cell(byte(c), n), 0)
		}
	}
}

func TestTurn(t *testing.T) {
	want(t, "P10.2", key.Turn(), 0x9c08b831b13f9d5f)
	want(t, "P10.2", key.Turn(), numbers[1261])
	want(t, "P10.2: behind the last cell", key.Turn(), key.Next(key.Cell('p', 89)))
}

func TestNoTwoNumbersAreTheSame(t *testing.T) {
	seen := map[uint64]int{0: 1, key.Turn(): 1}
	for i := range letters {
		for n := range 90 {
			seen[key.Cell(letters[i], n)]++
		}
	}
	if len(seen) != 1262 {
		t.Errorf("P10.2: %d", len(seen))
	}
}

func TestOf(t *testing.T) {
	dots := strings.Repeat(".", 90)
	want(t, "P10.3: example 1", key.Of(api.Position{Cells: dots}), 0)
	want(t, "P10.3: example 1", key.Of(api.Position{Cells: dots, Side: 1}), key.Turn())
	// These were reckoned by another program.
	want(t, "P10.3", key.Of(api.Position{Cells: api.Start, Full: 1}), 0x5aa37f1c71d9c687)
	want(t, "P10.3", key.Of(api.Position{Cells: api.Start, Side: 1, Full: 1}), 0xc6abc72dc0e65bd8)

	for _, cells := range boards() {
		for side := range 2 {
			p := api.Position{Cells: cells, Side: side, Full: 1}
			want(t, "P10.3", key.Of(p), plainOf(p))
		}
	}
}

func TestOfEachPiece(t *testing.T) {
	dots := strings.Repeat(".", 90)
	for i := range letters {
		for n := range 90 {
			cells := dots[:n] + letters[i:i+1] + dots[n+1:]
			want(t, "P10.3", key.Of(api.Position{Cells: cells}), key.Cell(letters[i], n))
			want(t, "P10.3", key.Of(api.Position{Cells: cells, Side: 1}), key.Cell(letters[i], n)^key.Turn())
		}
	}
}

func TestOfSidesAndCounts(t *testing.T) {
	for _, cells := range boards()[:30] {
		red, black := key.Of(api.Position{Cells: cells}), key.Of(api.Position{Cells: cells, Side: 1})
		want(t, "P10.3", red^black, key.Turn())
		for _, side := range []int{math.MinInt, -1 << 32, -2, -1, 2, 3, 257, 1 << 32, 1<<32 + 1, math.MaxInt} {
			want(t, "P10.3: no side", key.Of(api.Position{Cells: cells, Side: side}), red)
		}
		for _, n := range []int{math.MinInt, -1, 0, 1, 7, 120, 121, 9999, 10000, math.MaxInt} {
			want(t, "P10.3: Clock", key.Of(api.Position{Cells: cells, Clock: n}), red)
			want(t, "P10.3: Full", key.Of(api.Position{Cells: cells, Full: n}), red)
			want(t, "P10.3: both", key.Of(api.Position{Cells: cells, Side: 1, Clock: n, Full: -n}), black)
		}
	}
}

func TestOfNoBoards(t *testing.T) {
	s := api.Start
	l := []string{"", "K", ".", s[:89], s[1:], s + ".", s + s, strings.Repeat("\x00", 90), strings.Repeat("é", 45), strings.Repeat("é", 90)}
	for _, n := range []int{0, 44, 45, 89} {
		for _, c := range []string{"x", "H", "e", "\x00", "\xff", " "} {
			l = append(l, s[:n]+c+s[n+1:])
		}
	}
	for _, cells := range l {
		for side := -1; side <= 2; side++ {
			want(t, "P10.3: no board", key.Of(api.Position{Cells: cells, Side: side, Full: 1}), 0)
		}
	}
}

func TestMoved(t *testing.T) {
	keys := []uint64{0, 1, 1 << 63, math.MaxUint64, 7640891576956012809}
	pieces := []byte(letters + ".x\x00\xff")
	squares := append(nowhere(), 0, 1, 44, 45, 88, 89)
	for _, c := range pieces {
		for _, taken := range pieces {
			for _, from := range squares {
				for _, to := range squares[len(squares)-9:] {
					k := keys[(from&3+to&3)%len(keys)]
					m := api.Move{From: from, To: to}
					plain := k ^ cell(c, from) ^ cell(c, to) ^ cell(taken, to) ^ 0x9c08b831b13f9d5f
					want(t, "P10.3", key.Moved(k, c, m, taken), plain)
				}
			}
		}
	}
}

func TestMovedToWhereItCameFrom(t *testing.T) {
	for _, k := range []uint64{0, 5, math.MaxUint64} {
		for i := range letters {
			for n := range 90 {
				m := api.Move{From: n, To: n}
				want(t, "P10.3", key.Moved(k, letters[i], m, 0), k^key.Turn())
				want(t, "P10.3", key.Moved(k, letters[i], m, 'r'), k^key.Turn()^key.Cell('r', n))
				want(t, "P10.3", key.Moved(k, letters[i], m, letters[i]), k^key.Turn()^key.Cell(letters[i], n))
			}
		}
	}
}

func TestMovesThatAreNone(t *testing.T) {
	k := key.Of(api.Position{Cells: api.Start})
	for _, n := range nowhere() {
		want(t, "P10.3: from nowhere", key.Moved(k, 'R', api.Move{From: n, To: 9}, 0), k^key.Cell('R', 9)^key.Turn())
		want(t, "P10.3: to nowhere", key.Moved(k, 'R', api.Move{From: 0, To: n}, 'c'), k^key.Cell('R', 0)^key.Turn())
		want(t, "P10.3: of nothing", key.Moved(k, 0, api.Move{From: 0, To: n}, '.'), k^key.Turn())
	}
	want(t, "P10.3: of nothing", key.Moved(k, '.', api.Move{From: 40, To: 49}, 0), k^key.Turn())
	want(t, "P10.3: but something taken", key.Moved(k, 'x', api.Move{From: 40, To: 49}, 'p'), k^key.Cell('p', 49)^key.Turn())
}

func TestMovedIsOfThePositionBehind(t *testing.T) {
	r := random(1442695040888963407)
	captures := 0
	for range 20 {
		p := api.Position{Cells: api.Start, Full: 1}
		k := key.Of(p)
		for range 80 {
			l := legal.Moves(p)
			if taking := legal.Captures(p); len(taking) > 0 && r.below(3) == 0 {
				l = taking
			}
			if len(l) == 0 {
				break
			}
			m := l[r.below(len(l))]
			q, taken, e := legal.Make(p, m)
			if e != api.OK {
				t.Fatalf("%#v, %v: %d", p, m, e)
			}
			if taken != 0 {
				captures++
			}
			k = key.Moved(k, board.At(p.Cells, m.From), m, taken)
			want(t, "P10.4", k, key.Of(q))
			p = q
		}
	}
	if captures < 100 {
		t.Errorf("P10.4: too little is seen: %d", captures)
	}
}

func TestMovedOfAllMoves(t *testing.T) {
	for side := range 2 {
		p := api.Position{Cells: api.Start, Side: side, Clock: 120, Full: 9999}
		for _, m := range legal.Moves(p) {
			q, taken, _ := legal.Make(p, m)
			want(t, "P10.4", key.Moved(key.Of(p), p.Cells[m.From], m, taken), key.Of(q))
			// And back: a move the other way turns the key back, what was taken standing there again.
			back := key.Moved(key.Of(q), p.Cells[m.From], api.Move{From: m.To, To: m.From}, 0)
			want(t, "P10.4", back^key.Cell(taken, m.To), key.Of(p))
		}
	}
}
