package clock

import (
	"math"
	"math/rand"
	"slices"
	"testing"

	"hubbub/api"
)

// top is 2^62, the greatest wall, L and C that count.
const top = 4611686018427387904

// numbers: walls, Ls and Cs, those at the edges and those that count as others.
func numbers() []int64 {
	return []int64{
		math.MinInt64, math.MinInt64 + 1, -top - 1, -top, -1 << 32, -2, -1,
		0, 1, 2, 3, 1 << 31, 1<<32 + 1, top - 2, top - 1, top,
		top + 1, top + 2, math.MaxInt64 - 1, math.MaxInt64,
	}
}

// nodes: some that a cluster has, and others.
func nodes() []int {
	return []int{math.MinInt, -1, 0, 1, 2, api.MaxNodes - 1, api.MaxNodes, math.MaxInt}
}

// counts is what a number counts as.
func counts(n int64) int64 {
	if n < 0 {
		return 0
	}
	if n > top {
		return top
	}
	return n
}

// at tells a stamp.
func at(l, c int64, node int) api.Stamp {
	return api.Stamp{L: l, C: c, Node: node}
}

// stamps tells one of each pair of these numbers and node.
func stamps(l []int64, nodes []int) []api.Stamp {
	var all []api.Stamp
	for _, a := range l {
		for _, b := range l {
			for _, node := range nodes {
				all = append(all, at(a, b, node))
			}
		}
	}
	return all
}

// standing tells a clock that stands at s, whose numbers are 0 to top.
func standing(s api.Stamp) *Clock {
	x := New(s.Node)
	switch {
	case s.C > 0:
		x.See(0, at(s.L, s.C-1, 0))
	case s.L > 0:
		x.Now(s.L)
	}
	return x
}

// now is P8.1's Now, of a clock that stands at last.
func now(last api.Stamp, wall int64) api.Stamp {
	wall = counts(wall)
	if wall > last.L {
		return at(wall, 0, last.Node)
	}
	if last.C == top {
		if last.L == top {
			return last
		}
		return at(last.L+1, 0, last.Node)
	}
	return at(last.L, last.C+1, last.Node)
}

// see is P8.1's See, of a clock that stands at last.
func see(last api.Stamp, wall int64, s api.Stamp) api.Stamp {
	wall, s.L, s.C = counts(wall), counts(s.L), counts(s.C)
	l := last.L
	for _, other := range []int64{s.L, wall} {
		if other > l {
			l = other
		}
	}
	var c int64
	switch mine, others := l == last.L, l == s.L; {
	case mine && others && last.C < s.C:
		c = s.C + 1
	case mine && others:
		c = last.C + 1
	case mine:
		c = last.C + 1
	case others:
		c = s.C + 1
	}
	if c > top {
		c = top
	}
	return at(l, c, last.Node)
}

// less is P8.1's Less.
func less(a, b api.Stamp) bool {
	return slices.Compare(
		[]int64{counts(a.L), counts(a.C), int64(a.Node)},
		[]int64{counts(b.L), counts(b.C), int64(b.Node)},
	) < 0
}

// P8.1: Last

func TestLastAtFirst(t *testing.T) {
	for _, node := range nodes() {
		x := New(node)
		for range 3 {
			if got := x.Last(); got != at(0, 0, node) {
				t.Errorf("node %d: %v", node, got)
			}
		}
	}
}

// TestNodeStays: it is the clock's, whatever it sees.
func TestNodeStays(t *testing.T) {
	for _, node := range nodes() {
		x := New(node)
		for _, s := range stamps([]int64{-1, 0, 3, top}, nodes()) {
			x.See(2, s)
			if got := x.Last().Node; got != node {
				t.Errorf("See %v: node %d, not %d", s, got, node)
			}
			if got := x.Now(9).Node; got != node {
				t.Errorf("Now: node %d, not %d", got, node)
			}
		}
	}
}

// P8.1: Now

func TestNow(t *testing.T) {
	x := New(7)
	for i, s := range []struct {
		wall int64
		want api.Stamp
	}{
		{0, at(0, 1, 7)}, // not above the first L
		{5, at(5, 0, 7)}, // the chapter's example
		{5, at(5, 1, 7)},
		{4, at(5, 2, 7)},
		{0, at(5, 3, 7)},
		{-1, at(5, 4, 7)},
		{math.MinInt64, at(5, 5, 7)},
		{6, at(6, 0, 7)},
		{7, at(7, 0, 7)},
		{1 << 40, at(1<<40, 0, 7)},
		{7, at(1<<40, 1, 7)},
		{top - 1, at(top-1, 0, 7)},
		{top, at(top, 0, 7)},
		{top, at(top, 1, 7)},
		{top + 1, at(top, 2, 7)},
		{math.MaxInt64, at(top, 3, 7)},
		{0, at(top, 4, 7)},
	} {
		if got := x.Now(s.wall); got != s.want {
			t.Errorf("%d: Now %d: %v, not %v", i, s.wall, got, s.want)
		}
		if got := x.Last(); got != s.want {
			t.Errorf("%d: Last: %v, not %v", i, got, s.want)
		}
	}
}

// TestNowOfNewOnes: walls that count as others are held against 0, the first L.
func TestNowOfNewOnes(t *testing.T) {
	for _, s := range []struct {
		wall int64
		want api.Stamp
	}{
		{math.MinInt64, at(0, 1, 1)},
		{-1, at(0, 1, 1)},
		{0, at(0, 1, 1)},
		{1, at(1, 0, 1)},
		{top - 1, at(top-1, 0, 1)},
		{top, at(top, 0, 1)},
		{top + 1, at(top, 0, 1)},
		{math.MaxInt64, at(top, 0, 1)},
	} {
		if got := New(1).Now(s.wall); got != s.want {
			t.Errorf("Now %d: %v, not %v", s.wall, got, s.want)
		}
	}
}

// TestNowAtTheEnds: of the greatest C, and of the greatest L, too.
func TestNowAtTheEnds(t *testing.T) {
	for _, s := range []struct {
		last api.Stamp
		wall int64
		want api.Stamp
	}{
		{at(5, top-1, 1), 5, at(5, top, 1)},
		{at(5, top, 1), 5, at(6, 0, 1)},
		{at(5, top, 1), -9, at(6, 0, 1)},
		{at(5, top, 1), 6, at(6, 0, 1)},
		{at(5, top, 1), 8, at(8, 0, 1)},
		{at(0, top, 1), 0, at(1, 0, 1)},
		{at(top-1, top, 1), 0, at(top, 0, 1)},
		{at(top-1, top, 1), math.MaxInt64, at(top, 0, 1)},
		{at(top, top-1, 1), math.MaxInt64, at(top, top, 1)},
		{at(top, top, 1), 0, at(top, top, 1)},
		{at(top, top, 1), top, at(top, top, 1)},
		{at(top, top, 1), math.MaxInt64, at(top, top, 1)},
		{at(top, top, 1), math.MinInt64, at(top, top, 1)},
	} {
		x := standing(s.last)
		if got := x.Last(); got != s.last {
			t.Fatalf("stands at %v, not at %v", got, s.last)
		}
		if got := x.Now(s.wall); got != s.want || x.Last() != s.want {
			t.Errorf("at %v: Now %d: %v, Last %v, not %v", s.last, s.wall, got, x.Last(), s.want)
		}
	}
}

// P8.1: See

func TestSee(t *testing.T) {
	for _, s := range []struct {
		last api.Stamp
		wall int64
		seen api.Stamp
		want api.Stamp
	}{
		// L of both: the greater C and 1
		{at(5, 3, 1), 0, at(5, 7, 2), at(5, 8, 1)},
		{at(5, 7, 1), 0, at(5, 3, 2), at(5, 8, 1)},
		{at(5, 7, 1), 5, at(5, 7, 2), at(5, 8, 1)}, // the wall's, too
		{at(0, 0, 1), 0, at(0, 0, 2), at(0, 1, 1)},
		{at(5, 3, 1), 0, at(5, 3, 1), at(5, 4, 1)}, // its own one
		// Last's alone
		{at(5, 3, 1), 4, at(4, 9, 2), at(5, 4, 1)},
		{at(5, 3, 1), 5, at(4, 9, 2), at(5, 4, 1)},
		{at(5, 0, 1), -1, at(0, 0, 0), at(5, 1, 1)},
		// s's alone
		{at(5, 3, 1), 4, at(6, 0, 2), at(6, 1, 1)},
		{at(5, 3, 1), 6, at(6, 1, 2), at(6, 2, 1)},
		{at(5, 30, 1), 0, at(9, 2, 2), at(9, 3, 1)},
		// the wall's alone
		{at(5, 3, 1), 6, at(4, 9, 2), at(6, 0, 1)},
		{at(5, 3, 1), 7, at(6, 9, 2), at(7, 0, 1)},
		{at(5, 3, 1), 6, at(5, 9, 2), at(6, 0, 1)},
		{at(0, 0, 1), 1, at(0, 0, 2), at(1, 0, 1)},
		// the numbers that count as 0
		{at(5, 3, 1), math.MinInt64, at(5, -7, 2), at(5, 4, 1)},
		{at(0, 0, 1), -1, at(-1, -1, -1), at(0, 1, 1)},
		{at(0, 4, 1), -1, at(-3, 9, 2), at(0, 10, 1)},
		{at(0, 4, 1), -1, at(math.MinInt64, math.MinInt64, 2), at(0, 5, 1)},
		{at(5, 3, 1), 0, at(6, -7, 2), at(6, 1, 1)},
		// those that count as 2^62
		{at(5, 3, 1), top + 1, at(5, 9, 2), at(top, 0, 1)},
		{at(5, 3, 1), math.MaxInt64, at(math.MaxInt64, 9, 2), at(top, 10, 1)},
		{at(5, 3, 1), top + 1, at(top, 9, 2), at(top, 10, 1)},
		{at(top, 3, 1), 0, at(top+1, 9, 2), at(top, 10, 1)},
		{at(top, 3, 1), math.MaxInt64, at(5, 9, 2), at(top, 4, 1)},
		// a C above 2^62
		{at(5, 3, 1), 0, at(6, top-1, 2), at(6, top, 1)},
		{at(5, 3, 1), 0, at(6, top, 2), at(6, top, 1)},
		{at(5, 3, 1), 0, at(6, top+1, 2), at(6, top, 1)},
		{at(5, 3, 1), 0, at(6, math.MaxInt64, 2), at(6, top, 1)},
		{at(5, 3, 1), 0, at(5, math.MaxInt64, 2), at(5, top, 1)},
		{at(5, top, 1), 0, at(5, 3, 2), at(5, top, 1)},
		{at(5, top, 1), 0, at(4, 3, 2), at(5, top, 1)},
		{at(5, top-1, 1), 0, at(4, 3, 2), at(5, top, 1)},
		{at(5, top, 1), 6, at(5, top, 2), at(6, 0, 1)},
		{at(5, top, 1), 0, at(6, 3, 2), at(6, 4, 1)},
		{at(top, top, 1), math.MaxInt64, at(math.MaxInt64, math.MaxInt64, 2), at(top, top, 1)},
	} {
		x := standing(s.last)
		if got := x.Last(); got != s.last {
			t.Fatalf("stands at %v, not at %v", got, s.last)
		}
		x.See(s.wall, s.seen)
		if got := x.Last(); got != s.want {
			t.Errorf("at %v: See %d, %v: %v, not %v", s.last, s.wall, s.seen, got, s.want)
		}
	}
}

// TestAllEdges: from wherever a clock stands, of all edges: Now, See.
func TestAllEdges(t *testing.T) {
	var from []int64
	for _, n := range numbers() {
		if n == counts(n) {
			from = append(from, n)
		}
	}
	seen := stamps(numbers(), []int{-3, 2})
	for _, last := range stamps(from, []int{2}) {
		for _, wall := range numbers() {
			x := standing(last)
			if got, want := x.Now(wall), now(last, wall); got != want || x.Last() != want {
				t.Fatalf("at %v: Now %d: %v, Last %v, not %v", last, wall, got, x.Last(), want)
			}
			for _, s := range seen {
				x := standing(last)
				x.See(wall, s)
				if got, want := x.Last(), see(last, wall, s); got != want {
					t.Fatalf("at %v: See %d, %v: %v, not %v", last, wall, s, got, want)
				}
			}
		}
	}
}

// TestLongSeries: what a call does hangs on Last alone.
func TestLongSeries(t *testing.T) {
	r := rand.New(rand.NewSource(8))
	number := func() int64 {
		switch r.Intn(20) {
		case 0:
			return numbers()[r.Intn(len(numbers()))]
		case 1:
			return r.Int63() - r.Int63()
		}
		return r.Int63n(30)
	}
	for range 2000 {
		x, last := New(3), at(0, 0, 3)
		for range 60 {
			wall := number()
			if r.Intn(2) == 0 {
				last = now(last, wall)
				if got := x.Now(wall); got != last {
					t.Fatalf("Now %d: %v, not %v", wall, got, last)
				}
			} else {
				s := at(number(), number(), r.Intn(5))
				last = see(last, wall, s)
				x.See(wall, s)
			}
			if got := x.Last(); got != last {
				t.Fatalf("Last: %v, not %v", got, last)
			}
		}
	}
}

// TestClocksAreApart: none hangs on what another one was told.
func TestClocksAreApart(t *testing.T) {
	a, b := New(1), New(2)
	a.Now(50)
	a.See(60, at(70, 8, 3))
	if got := b.Last(); got != at(0, 0, 2) {
		t.Errorf("Last: %v", got)
	}
	if got := b.Now(5); got != at(5, 0, 2) {
		t.Errorf("Now: %v", got)
	}
	if got := a.Last(); got != at(70, 9, 1) {
		t.Errorf("Last: %v", got)
	}
}

// P8.1: Less

func TestLess(t *testing.T) {
	for _, s := range []struct {
		a, b   api.Stamp
		ab, ba bool
	}{
		{at(0, 0, 0), at(0, 0, 0), false, false},
		{at(5, 6, 7), at(5, 6, 7), false, false},
		{at(5, 6, 7), at(6, 6, 7), true, false},
		{at(5, 6, 7), at(6, 0, 0), true, false}, // L first
		{at(5, 6, 7), at(5, 7, 7), true, false},
		{at(5, 6, 7), at(5, 7, 0), true, false}, // then C
		{at(5, 6, 7), at(5, 6, 8), true, false}, // then Node
		{at(5, 6, -1), at(5, 6, 0), true, false},
		{at(5, 6, math.MinInt), at(5, 6, math.MaxInt), true, false},
		{at(5, 1<<40, 0), at(1<<40, 5, 0), true, false},
		// what counts as 0
		{at(-1, 6, 7), at(0, 6, 7), false, false},
		{at(-1, 6, 7), at(math.MinInt64, 6, 7), false, false},
		{at(0, 6, 7), at(-1, 7, 7), true, false},
		{at(-9, 6, 7), at(1, 6, 7), true, false},
		{at(5, -1, 7), at(5, 0, 7), false, false},
		{at(5, 0, 7), at(5, -1, 8), true, false},
		{at(5, math.MinInt64, 7), at(5, 1, 0), true, false},
		// what counts as 2^62
		{at(top, 6, 7), at(top+1, 6, 7), false, false},
		{at(top+1, 6, 7), at(math.MaxInt64, 6, 7), false, false},
		{at(math.MaxInt64, 6, 7), at(top, 7, 7), true, false},
		{at(top-1, 6, 7), at(top, 6, 7), true, false},
		{at(top-1, 6, 7), at(math.MaxInt64, 0, 0), true, false},
		{at(5, top, 7), at(5, top+1, 7), false, false},
		{at(5, math.MaxInt64, 7), at(5, top, 8), true, false},
		{at(5, top-1, 7), at(5, math.MaxInt64, 0), true, false},
		{at(-5, math.MaxInt64, 7), at(0, top, 7), false, false},
		{at(math.MinInt64, 0, 0), at(math.MaxInt64, 0, 0), true, false},
	} {
		if ab, ba := Less(s.a, s.b), Less(s.b, s.a); ab != s.ab || ba != s.ba {
			t.Errorf("Less of %v, %v: %v, turned about %v", s.a, s.b, ab, ba)
		}
	}
}

// TestLessOfAllEdges: all pairs.
func TestLessOfAllEdges(t *testing.T) {
	all := stamps(numbers(), []int{-1, 0, 15})
	for _, a := range all {
		for _, b := range all {
			if got := Less(a, b); got != less(a, b) {
				t.Fatalf("Less of %v, %v: %v", a, b, got)
			}
		}
	}
}

// P8.2

// TestWhatWasSeenIsBefore: all that was told or seen, but at the very end.
func TestWhatWasSeenIsBefore(t *testing.T) {
	r := rand.New(rand.NewSource(82))
	for range 2000 {
		x := New(r.Intn(4))
		for range 40 {
			last, wall := x.Last(), r.Int63n(40)-5
			s := at(r.Int63n(40)-5, r.Int63n(9)-2, r.Intn(4))
			if r.Intn(8) == 0 {
				s.C = top // one more C there isn't: Now goes on by L
			}
			x.See(wall, s)
			if Less(x.Last(), last) || Less(x.Last(), at(s.L, s.C, 0)) {
				t.Fatalf("at %v: See %v: %v", last, s, x.Last())
			}
			told := x.Now(r.Int63n(40) - 5)
			if !Less(s, told) || !Less(last, told) || told.L < wall {
				t.Fatalf("at %v: See %d, %v: told %v", last, wall, s, told)
			}
		}
	}
}

// TestWordsBetweenNodes: a deed behind another one's word of it has a stamp
// above it, however the walls differ.
func TestWordsBetweenNodes(t *testing.T) {
	fast, slow := New(0), New(1)
	for wall := range int64(50) {
		told := fast.Now(wall * 10)
		slow.See(wall, told)
		back := slow.Now(wall)
		if !Less(told, back) {
			t.Fatalf("%v isn't before %v", told, back)
		}
		fast.See(wall*10, back)
		if next := fast.Now(wall * 10); !Less(back, next) {
			t.Fatalf("%v isn't before %v", back, next)
		}
	}
}
