package table_test

import (
	"math"
	"testing"

	"riverbank/api"
	"riverbank/table"
)

const (
	most  = math.MaxUint64
	least = math.MinInt
)

// entry is one whose move tells it from others.
func entry(key uint64, depth int, score int, sure int) table.Entry {
	return table.Entry{Key: key, Depth: depth, Score: score, Sure: sure, Move: api.Move{From: int(key % 89), To: depth ^ score}}
}

// sized is an empty table of so many slots.
func sized(t *testing.T, size int) *table.Table {
	t.Helper()
	x, e := table.New(size)
	if x == nil || e != api.OK {
		t.Fatalf("P20.1: size %d: error %d", size, e)
	}
	return x
}

// random is a row of numbers that is the same each time.
type random uint64

func (r *random) next() uint64 {
	*r ^= *r << 13
	*r ^= *r >> 7
	*r ^= *r << 17
	return uint64(*r)
}

// below is its next one, from 0 on.
func (r *random) below(n int) int { return int(r.next() % uint64(n)) }

// told is what a table must tell, kept in the plainest way: entries by the numbers of their slots.
type told struct {
	size  int
	slots map[uint64]table.Entry
}

func empty(size int) told { return told{size: size, slots: map[uint64]table.Entry{}} }

func (o told) put(e table.Entry) bool {
	old, is := o.slots[e.Key%uint64(o.size)]
	if is && old.Key != e.Key && old.Depth > e.Depth {
		return false
	}
	if e.Sure != 0 && e.Sure != 1 && e.Sure != 2 {
		return false
	}
	o.slots[e.Key%uint64(o.size)] = e
	return true
}

func (o told) get(key uint64) (table.Entry, bool) {
	if e, is := o.slots[key%uint64(o.size)]; is && e.Key == key {
		return e, true
	}
	return table.Entry{}, false
}

func (o told) use(key uint64, depth int, low int, high int) (int, bool) {
	e, is := o.get(key)
	if !is || e.Depth < depth {
		return 0, false
	}
	if e.Sure == 0 || e.Sure == 1 && e.Score >= high || e.Sure == 2 && e.Score <= low {
		return e.Score, true
	}
	return 0, false
}

// wants wants what a table tells of a key.
func wants(t *testing.T, x *table.Table, o told, key uint64) {
	t.Helper()
	e, is := x.Get(key)
	want, has := o.get(key)
	if e != want || is != has {
		t.Errorf("P20.2: size %d, key %d: got %v, %v, want %v, %v", o.size, key, e, is, want, has)
	}
	if n := x.Count(); n != len(o.slots) {
		t.Errorf("P20.2: size %d: count %d, want %d", o.size, n, len(o.slots))
	}
}

// puts puts an entry, and wants that it is put, or is refused, as it is told.
func puts(t *testing.T, x *table.Table, o told, e table.Entry) {
	t.Helper()
	want := o.put(e)
	if x.Put(e) != want {
		t.Errorf("P20.2: size %d: put %v: want %v", o.size, e, want)
	}
	wants(t, x, o, e.Key)
}

func TestNew(t *testing.T) {
	for _, size := range []int{1, 2, 3, 4, 89, 256, 1000, 4095, 4096} {
		x := sized(t, size)
		for _, key := range []uint64{0, 1, uint64(size) - 1, uint64(size), most} {
			wants(t, x, empty(size), key)
			if n, is := x.Use(key, least, least, least); n != 0 || is {
				t.Errorf("P20.1: size %d: use %d: %d, %v", size, key, n, is)
			}
		}
	}
	for _, size := range []int{0, -1, -2, -4096, 4097, 4098, 8192, 1 << 32, 1<<32 + 1, 1 << 62, math.MaxInt, least, least + 1} {
		if x, e := table.New(size); x != nil || e != api.ErrArg {
			t.Errorf("P20.1: size %d: got %v, error %d", size, x != nil, e)
		}
	}
}

func TestNewIsNew(t *testing.T) {
	x, y := sized(t, 8), sized(t, 8)
	x.Put(entry(3, 1, 5, table.Exact))
	wants(t, y, empty(8), 3)
	y.Put(entry(4, 1, 5, table.Exact))
	x.Clear()
	if y.Count() != 1 || x.Count() != 0 || sized(t, 8).Count() != 0 {
		t.Errorf("P20.1: %d, %d", y.Count(), x.Count())
	}
}

func TestKinds(t *testing.T) {
	if table.Exact != 0 || table.Least != 1 || table.Most != 2 {
		t.Errorf("%d, %d, %d", table.Exact, table.Least, table.Most)
	}
	// They are numbers of no type of their own.
	var floats [3]float64 = [...]float64{table.Exact, table.Least, table.Most}
	if floats[2] != 2 {
		t.Error(floats)
	}
}

// wantNothing wants that a table has nothing, and takes nothing.
func wantNothing(t *testing.T, x *table.Table) {
	t.Helper()
	for range 2 {
		for _, key := range []uint64{0, 1, 7, most} {
			if e, is := x.Get(key); e != (table.Entry{}) || is {
				t.Errorf("P20.1: get: %v, %v", e, is)
			}
			if n, is := x.Use(key, 0, 0, 0); n != 0 || is {
				t.Errorf("P20.1: use: %d, %v", n, is)
			}
			for sure := range 4 {
				if x.Put(entry(key, 1, 5, sure)) {
					t.Errorf("P20.1: put: true")
				}
			}
		}
		if x.Count() != 0 {
			t.Errorf("P20.1: count: %d", x.Count())
		}
		x.Clear()
	}
}

func TestNil(t *testing.T) {
	wantNothing(t, nil)
}

func TestZeroValue(t *testing.T) {
	// That has no slots.
	wantNothing(t, &table.Table{})
}

func TestSlots(t *testing.T) {
	// Size 1: each key has the one slot.
	x := sized(t, 1)
	for i, key := range []uint64{0, 1, 2, 1 << 32, 1 << 63, most - 1, most} {
		e := entry(key, i, 100+i, table.Exact)
		if !x.Put(e) || x.Count() != 1 {
			t.Errorf("P20.1: key %d is not put into the one slot", key)
		}
		if got, is := x.Get(key); got != e || !is {
			t.Errorf("P20.2: key %d: %v, %v", key, got, is)
		}
		if i > 0 {
			if _, is := x.Get(0); is {
				t.Errorf("P20.2: key 0 is there behind %d", key)
			}
		}
	}
	// Others: just keys that leave the same share one.
	for _, size := range []int{2, 3, 7, 10, 4095, 4096} {
		n := uint64(size)
		for _, pair := range [][2]uint64{{0, n}, {1, n + 1}, {n - 1, 2*n - 1}, {most, most % n}, {most, most - n}, {5, most - (most-5)%n}, {1 << 63, 1<<63 + n}, {1 << 32, (1 << 32) % n}} {
			x := sized(t, size)
			x.Put(entry(pair[0], 1, 5, table.Exact))
			x.Put(entry(pair[1], 1, 6, table.Exact))
			if _, is := x.Get(pair[0]); is || x.Count() != 1 {
				t.Errorf("P20.1: size %d: %d and %d do not share a slot", size, pair[0], pair[1])
			}
		}
		for _, pair := range [][2]uint64{{0, 1}, {0, n - 1}, {n - 1, n}, {n, 2*n + 1}, {most, most - 1}, {most, (most - 1) % n}, {1 << 63, 1<<63 + 1}} {
			x := sized(t, size)
			x.Put(entry(pair[0], 1, 5, table.Exact))
			x.Put(entry(pair[1], 9, 6, table.Exact))
			if _, is := x.Get(pair[0]); !is || x.Count() != 2 {
				t.Errorf("P20.1: size %d: %d and %d share a slot", size, pair[0], pair[1])
			}
		}
	}
}

func TestAllSlots(t *testing.T) {
	for _, size := range []int{1, 2, 5, 4096} {
		x, o := sized(t, size), empty(size)
		for i := range size {
			puts(t, x, o, entry(most-uint64(i), 3, i, i%3))
		}
		if x.Count() != size {
			t.Errorf("P20.2: size %d: count %d", size, x.Count())
		}
		for i := range size {
			wants(t, x, o, most-uint64(i))
			wants(t, x, o, uint64(i))
		}
	}
}

func TestPut(t *testing.T) {
	first := entry(13, 4, 10, table.Exact)
	for _, c := range []struct {
		name string
		e    table.Entry
		put  bool
	}{
		{"another Key, as deep", entry(3, 4, 11, table.Exact), true},
		{"another Key, deeper", entry(3, 5, 11, table.Exact), true},
		{"another Key, far deeper", entry(3, math.MaxInt, 11, table.Exact), true},
		{"another Key, less deep", entry(3, 3, 11, table.Exact), false},
		{"another Key, depth 0", entry(23, 0, 11, table.Exact), false},
		{"another Key, depth -1", entry(3, -1, 11, table.Exact), false},
		{"another Key, the least depth", entry(3, least, 11, table.Exact), false},
		{"another Key, less deep, a greater score", entry(3, 3, 9999, table.Exact), false},
		{"another Key, as deep, less sure", entry(3, 4, 11, table.Most), true},
		{"the same Key, as deep", entry(13, 4, 11, table.Exact), true},
		{"the same Key, less deep", entry(13, 3, 11, table.Exact), true},
		{"the same Key, the least depth", entry(13, least, 11, table.Exact), true},
		{"the same Key, deeper", entry(13, 5, 11, table.Exact), true},
		{"the same Key, less sure", entry(13, 4, 11, table.Least), true},
		{"the same Key, a score below 0", entry(13, 4, -11, table.Most), true},
		{"the same once more", first, true},
		{"nothing but a Key", table.Entry{Key: 13}, true},
		{"a slot that is free", entry(4, -5, 11, table.Exact), true},
		{"Sure -1", entry(13, 5, 11, -1), false},
		{"Sure 3", entry(13, 5, 11, 3), false},
		{"Sure 3, another Key", entry(3, 5, 11, 3), false},
		{"Sure -1, a slot that is free", entry(4, 5, 11, -1), false},
		{"Sure 3, a slot that is free", entry(4, 5, 11, 3), false},
		{"the greatest Sure", entry(13, 5, 11, math.MaxInt), false},
		{"the least Sure", entry(13, 5, 11, least), false},
		{"Sure 256", entry(13, 5, 11, 256), false},
		{"Sure 1<<32", entry(13, 5, 11, 1<<32), false},
	} {
		x, o := sized(t, 10), empty(10)
		puts(t, x, o, first)
		count := 1
		if c.put && c.e.Key == 4 {
			count = 2
		}
		for range 2 {
			if x.Put(c.e) != c.put {
				t.Errorf("P20.2: %s: want %v", c.name, c.put)
			}
			if x.Count() != count {
				t.Errorf("P20.2: %s: count %d, want %d", c.name, x.Count(), count)
			}
			got, is := x.Get(c.e.Key)
			if c.put && (got != c.e || !is) {
				t.Errorf("P20.2: %s: got %v, %v", c.name, got, is)
			}
			if got, is = x.Get(13); !c.put && (got != first || !is) {
				t.Errorf("P20.2: %s: it is changed: %v, %v", c.name, got, is)
			}
		}
	}
}

// TestPutOfNothing puts an entry of zero values: it is one like others.
func TestPutOfNothing(t *testing.T) {
	x := sized(t, 4)
	if _, is := x.Get(0); is {
		t.Error("P20.2: key 0 is there from the beginning")
	}
	if n, is := x.Use(0, 0, 0, 0); n != 0 || is {
		t.Error("P20.3: key 0 is used from the beginning")
	}
	if !x.Put(table.Entry{}) || x.Count() != 1 {
		t.Errorf("P20.2: count %d", x.Count())
	}
	if e, is := x.Get(0); e != (table.Entry{}) || !is {
		t.Errorf("P20.2: %v, %v", e, is)
	}
	if n, is := x.Use(0, 0, 0, 0); n != 0 || !is {
		t.Errorf("P20.3: %d, %v", n, is)
	}
	if x.Put(entry(4, -1, 1, table.Exact)) || !x.Put(entry(4, 0, 1, table.Exact)) {
		t.Error("P20.2: an entry of zero values is not deeper than another one of depth 0, but than one of -1")
	}
	// Depths below 0 are less deep than none, not less than a slot that is free.
	x.Clear()
	if !x.Put(entry(4, least, 1, table.Exact)) || !x.Put(entry(8, least, 1, table.Exact)) || !x.Put(entry(4, least+1, 1, table.Exact)) || x.Put(entry(8, least, 1, table.Exact)) {
		t.Error("P20.2: depths below 0")
	}
}

// TestWholeEntry puts entries whose fields are as great as can be: they are kept as they are.
func TestWholeEntry(t *testing.T) {
	numbers := []int{least, -1, 0, 1, math.MaxInt}
	x := sized(t, 4096)
	for i, n := range numbers {
		for j, m := range numbers {
			for sure := range 3 {
				e := table.Entry{Key: most - uint64(i), Depth: n, Score: m, Sure: sure, Move: api.Move{From: numbers[4-i], To: numbers[4-j]}}
				if !x.Put(e) {
					t.Errorf("P20.2: %v is refused", e)
				}
				if got, is := x.Get(e.Key); got != e || !is {
					t.Errorf("P20.2: got %v, %v, want %v", got, is, e)
				}
			}
		}
	}
}

func TestEntriesAreCopies(t *testing.T) {
	x := sized(t, 4)
	e := entry(5, 2, 7, table.Least)
	want := e
	x.Put(e)
	e.Score, e.Move.From = 99, 88
	got, _ := x.Get(5)
	got.Score, got.Key = 98, 1
	if again, is := x.Get(5); again != want || !is {
		t.Errorf("R5: %v, %v", again, is)
	}
}

func TestUse(t *testing.T) {
	for _, c := range []struct {
		name string
		e    table.Entry
		key  uint64
		at   [3]int // depth, low, high
		use  bool
	}{
		{"exact", entry(1, 2, 10, table.Exact), 1, [3]int{2, 50, 60}, true},
		{"exact, above", entry(1, 2, 70, table.Exact), 1, [3]int{2, 50, 60}, true},
		{"exact, between", entry(1, 2, 55, table.Exact), 1, [3]int{2, 50, 60}, true},
		{"exact, no room", entry(1, 2, 55, table.Exact), 1, [3]int{2, 60, 50}, true},
		{"exact, deeper", entry(1, 9, 10, table.Exact), 1, [3]int{2, 50, 60}, true},
		{"exact, less deep", entry(1, 1, 10, table.Exact), 1, [3]int{2, 50, 60}, false},
		{"exact, a score below 0", entry(1, 2, -10, table.Exact), 1, [3]int{2, 50, 60}, true},
		{"exact, score 0", entry(1, 2, 0, table.Exact), 1, [3]int{2, 50, 60}, true},
		{"exact, depth 0", entry(1, 0, 10, table.Exact), 1, [3]int{0, 0, 0}, true},
		{"exact, depth below 0", entry(1, 0, 10, table.Exact), 1, [3]int{-1, 0, 0}, true},
		{"exact, both depths below 0", entry(1, -3, 10, table.Exact), 1, [3]int{-3, 0, 0}, true},
		{"exact, depth -3 for -2", entry(1, -3, 10, table.Exact), 1, [3]int{-2, 0, 0}, false},
		{"exact, the least depth", entry(1, least, 10, table.Exact), 1, [3]int{least, 0, 0}, true},
		{"exact, the least depth for the next one", entry(1, least, 10, table.Exact), 1, [3]int{least + 1, 0, 0}, false},
		{"exact, the greatest depth", entry(1, math.MaxInt, 10, table.Exact), 1, [3]int{math.MaxInt, 0, 0}, true},
		{"exact, the greatest depth for the least", entry(1, math.MaxInt, 10, table.Exact), 1, [3]int{least, 0, 0}, true},
		{"another key", entry(1, 2, 10, table.Exact), 2, [3]int{2, 50, 60}, false},
		{"another key of the slot", entry(1, 2, 10, table.Exact), 9, [3]int{2, 50, 60}, false},
		{"the greatest key", entry(most, 2, 10, table.Exact), most, [3]int{2, 50, 60}, true},
		{"key 0", entry(0, 2, 10, table.Exact), 0, [3]int{2, 50, 60}, true},
		{"least, high is met", entry(1, 2, 60, table.Least), 1, [3]int{2, 50, 60}, true},
		{"least, above high", entry(1, 2, 61, table.Least), 1, [3]int{2, 50, 60}, true},
		{"least, one below high", entry(1, 2, 59, table.Least), 1, [3]int{2, 50, 60}, false},
		{"least, low is met", entry(1, 2, 50, table.Least), 1, [3]int{2, 50, 60}, false},
		{"least, below low", entry(1, 2, 49, table.Least), 1, [3]int{2, 50, 60}, false},
		{"least, less deep", entry(1, 1, 60, table.Least), 1, [3]int{2, 50, 60}, false},
		{"least, deeper", entry(1, 3, 60, table.Least), 1, [3]int{2, 50, 60}, true},
		{"least, below 0", entry(1, 2, -5, table.Least), 1, [3]int{2, -9, -5}, true},
		{"least, one below high, below 0", entry(1, 2, -6, table.Least), 1, [3]int{2, -9, -5}, false},
		{"least, low above high", entry(1, 2, 55, table.Least), 1, [3]int{2, 60, 50}, true},
		{"least, far away", entry(1, 2, math.MaxInt, table.Least), 1, [3]int{2, 0, math.MaxInt}, true},
		{"least, as far away as can be", entry(1, 2, least, table.Least), 1, [3]int{2, 0, math.MaxInt}, false},
		{"least, the least high", entry(1, 2, least, table.Least), 1, [3]int{2, 0, least}, true},
		{"most, low is met", entry(1, 2, 50, table.Most), 1, [3]int{2, 50, 60}, true},
		{"most, below low", entry(1, 2, 49, table.Most), 1, [3]int{2, 50, 60}, true},
		{"most, one above low", entry(1, 2, 51, table.Most), 1, [3]int{2, 50, 60}, false},
		{"most, high is met", entry(1, 2, 60, table.Most), 1, [3]int{2, 50, 60}, false},
		{"most, above high", entry(1, 2, 61, table.Most), 1, [3]int{2, 50, 60}, false},
		{"most, less deep", entry(1, 1, 50, table.Most), 1, [3]int{2, 50, 60}, false},
		{"most, deeper", entry(1, 3, 50, table.Most), 1, [3]int{2, 50, 60}, true},
		{"most, below 0", entry(1, 2, -9, table.Most), 1, [3]int{2, -9, -5}, true},
		{"most, one above low, below 0", entry(1, 2, -8, table.Most), 1, [3]int{2, -9, -5}, false},
		{"most, low above high", entry(1, 2, 55, table.Most), 1, [3]int{2, 60, 50}, true},
		{"most, far away", entry(1, 2, least, table.Most), 1, [3]int{2, least, 0}, true},
		{"most, as far away as can be", entry(1, 2, math.MaxInt, table.Most), 1, [3]int{2, least, 0}, false},
		{"most, the greatest low", entry(1, 2, math.MaxInt, table.Most), 1, [3]int{2, math.MaxInt, 0}, true},
	} {
		x := sized(t, 8)
		x.Put(c.e)
		for range 2 {
			n, use := x.Use(c.key, c.at[0], c.at[1], c.at[2])
			if use != c.use || use && n != c.e.Score || !use && n != 0 {
				t.Errorf("P20.3: %s: got %d, %v, want %v", c.name, n, use, c.use)
			}
		}
		if got, is := x.Get(c.e.Key); got != c.e || !is || x.Count() != 1 {
			t.Errorf("P20.4: %s: it is changed by Use: %v, %v", c.name, got, is)
		}
	}
}

func TestClear(t *testing.T) {
	for _, size := range []int{1, 2, 10, 4096} {
		x, o := sized(t, size), empty(size)
		x.Clear()
		wants(t, x, o, 0)
		for round := range 3 {
			for i := range 2 * size {
				puts(t, x, o, entry(uint64(i), 9-round, i, i%3))
			}
			x.Clear()
			clear(o.slots)
			for i := range 2 * size {
				wants(t, x, o, uint64(i))
			}
		}
		// What was deeper is gone, the slots are not.
		puts(t, x, o, entry(most, -3, 1, table.Exact))
		puts(t, x, o, entry(0, -3, 1, table.Exact))
		if _, is := x.Get(0); !is {
			t.Errorf("P20.2: size %d: nothing is put behind Clear", size)
		}
	}
}

// TestManyEntries puts many entries, and holds what is told of them against what is kept plainly.
func TestManyEntries(t *testing.T) {
	r := random(88172645463325252)
	for _, size := range []int{1, 2, 3, 16, 61, 4096} {
		x, o := sized(t, size), empty(size)
		keys := []uint64{0, 1, most, most - 1, 1 << 63}
		for range 60 {
			keys = append(keys, r.next(), uint64(r.below(3*size)))
		}
		put, used := map[bool]int{}, map[bool]int{}
		for range 3000 {
			key := keys[r.below(len(keys))]
			e := table.Entry{Key: key, Depth: r.below(7) - 2, Score: r.below(9) - 4, Sure: r.below(5) - 1, Move: api.Move{From: r.below(90), To: r.below(90)}}
			if want := o.put(e); x.Put(e) != want {
				t.Errorf("P20.2: size %d: put %v: want %v", size, e, want)
			} else {
				put[want]++
			}
			for range 3 {
				key := keys[r.below(len(keys))]
				wants(t, x, o, key)
				depth, low, high := r.below(7)-2, r.below(9)-4, r.below(9)-4
				n, use := x.Use(key, depth, low, high)
				want, is := o.use(key, depth, low, high)
				if n != want || use != is {
					t.Errorf("P20.3: size %d: use %d, %d, %d, %d: got %d, %v, want %d, %v", size, key, depth, low, high, n, use, want, is)
				}
				used[use]++
			}
			if r.below(500) == 0 {
				x.Clear()
				clear(o.slots)
			}
		}
		if put[true] < 500 || put[false] < 500 || used[true] < 10 || used[false] < 500 {
			t.Errorf("size %d: too little is seen: %v, %v", size, put, used)
		}
	}
}
