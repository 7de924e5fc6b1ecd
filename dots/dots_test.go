package dots

import (
	"cmp"
	"math"
	"math/rand"
	"slices"
	"testing"

	"hubbub/api"
)

// l tells a list of what was seen, three numbers a dot.
func l(n ...int) []api.Dot {
	var v []api.Dot
	for ; len(n) > 0; n = n[3:] {
		v = append(v, api.Dot{Node: n[0], Epoch: n[1], N: n[2]})
	}
	return v
}

// pair of a node and an epoch.
type pair struct{ node, epoch int }

// seen is what a list says, pair by pair.
type seen map[pair]int

// read tells what v says, and whether it is Right, by P9.1's words.
func read(v []api.Dot) (seen, bool) {
	s := seen{}
	for _, d := range v {
		if d.Node < 0 || d.Node > api.MaxNodes-1 || d.Epoch < 1 || d.N < 1 {
			return nil, false
		}
		if _, twice := s[pair{d.Node, d.Epoch}]; twice {
			return nil, false
		}
		s[pair{d.Node, d.Epoch}] = d.N
	}
	if !slices.Equal(v, s.list()) {
		return nil, false
	}
	return s, true
}

// list tells s as a list.
func (s seen) list() []api.Dot {
	var v []api.Dot
	for p, n := range s {
		v = append(v, api.Dot{Node: p.node, Epoch: p.epoch, N: n})
	}
	slices.SortFunc(v, compare)
	return v
}

// see puts into s that all up to d was seen.
func (s seen) see(d api.Dot) {
	p := pair{d.Node, d.Epoch}
	s[p] = max(s[p], d.N)
}

func compare(a, b api.Dot) int {
	return cmp.Or(cmp.Compare(a.Node, b.Node), cmp.Compare(a.Epoch, b.Epoch), cmp.Compare(a.N, b.N))
}

// add is P9.1's Add.
func add(v []api.Dot, d api.Dot) []api.Dot {
	s, ok := read(v)
	if !ok {
		return nil
	}
	if _, ok := read([]api.Dot{d}); ok {
		s.see(d)
	}
	return s.list()
}

// join is P9.1's Join.
func join(a, b []api.Dot) []api.Dot {
	s, aok := read(a)
	_, bok := read(b)
	if !aok || !bok {
		return nil
	}
	for _, d := range b {
		s.see(d)
	}
	return s.list()
}

// within is P9.1's Within, deed by deed.
func within(a, b []api.Dot) bool {
	s, aok := read(a)
	o, bok := read(b)
	if !aok || !bok {
		return false
	}
	for p, n := range s {
		if o[p] < n {
			return false
		}
	}
	return true
}

// edges: dots that a list may have, and others.
func edges() []api.Dot {
	return l(
		0, 1, 1, 0, 1, 3, 0, 2, 1, 1, 1, 2, api.MaxNodes-1, math.MaxInt, math.MaxInt,
		-1, 1, 1, api.MaxNodes, 1, 1, 0, 0, 1, 0, -1, 1, 0, 1, 0, 0, 1, -1,
		math.MinInt, 1, 1, math.MaxInt, 1, 1, 0, math.MinInt, 1, 0, 1, math.MinInt, 0, 0, 0,
	)
}

// lists tells all of up to n of these dots, in each order, some more than once.
func lists(n int, of []api.Dot) [][]api.Dot {
	all := [][]api.Dot{nil}
	for first := 0; n > 0; n-- {
		end := len(all)
		for _, v := range all[first:end] {
			for _, d := range of {
				all = append(all, append(slices.Clone(v), d))
			}
		}
		first = end
	}
	return all
}

// P9.1: Before

func TestBefore(t *testing.T) {
	rising := l(
		math.MinInt, 9, 9, -1, 9, 9, 0, math.MinInt, 9, 0, 0, 9, 0, 1, math.MinInt, 0, 1, -1,
		0, 1, 0, 0, 1, 1, 0, 1, 2, 0, 1, math.MaxInt, 0, 2, 1, 0, math.MaxInt, 0,
		1, 0, 9, 1, 1, 1, 1, 1, 2, 1, 2, 0, 2, 1, 1, api.MaxNodes, 0, 0, math.MaxInt, -5, -5,
	)
	for i, a := range rising {
		for k, b := range rising {
			if got := Before(a, b); got != (i < k) {
				t.Errorf("Before of %v, %v: %v", a, b, got)
			}
		}
	}
}

// P9.1: Right

func TestRight(t *testing.T) {
	for _, s := range []struct {
		v    []api.Dot
		want bool
	}{
		{nil, true},
		{[]api.Dot{}, true},
		{l(0, 1, 1), true},
		{l(0, 1, math.MaxInt), true},
		{l(0, math.MaxInt, 1), true},
		{l(api.MaxNodes-1, 1, 1), true},
		{l(0, 1, 3, 0, 2, 1, 1, 1, 7), true},
		{l(0, 9, 9, 1, 1, 1), true},
		// numbers that can't be
		{l(-1, 1, 1), false},
		{l(math.MinInt, 1, 1), false},
		{l(api.MaxNodes, 1, 1), false},
		{l(math.MaxInt, 1, 1), false},
		{l(0, 0, 1), false},
		{l(0, -1, 1), false},
		{l(0, math.MinInt, 1), false},
		{l(0, 1, 0), false},
		{l(0, 1, -1), false},
		{l(0, 1, math.MinInt), false},
		{l(0, 0, 0), false},
		{l(0, 1, 1, 1, 1, 0), false},
		{l(0, 1, 1, 1, 0, 1), false},
		{l(0, 1, 0, 1, 1, 1), false},
		{l(0, 1, 1, api.MaxNodes, 1, 1), false},
		{l(-1, 1, 1, 0, 1, 1), false},
		// not rising
		{l(1, 1, 1, 0, 1, 1), false},
		{l(0, 2, 1, 0, 1, 1), false},
		{l(0, 1, 1, 2, 1, 1, 1, 1, 1), false},
		{l(0, 1, 1, 1, 2, 1, 1, 1, 9), false},
		// a pair twice
		{l(0, 1, 1, 0, 1, 1), false},
		{l(0, 1, 1, 0, 1, 2), false},
		{l(0, 1, 2, 0, 1, 1), false},
		{l(0, 1, 1, 1, 1, 1, 1, 1, 2), false},
		{l(0, 1, 1, 1, 1, 1, 0, 1, 1), false},
	} {
		if got := Right(s.v); got != s.want {
			t.Errorf("Right of %v: %v", s.v, got)
		}
	}
}

// P9.1: Has, Top

func TestHasAndTop(t *testing.T) {
	v := l(0, 1, 3, 0, 3, 1, 2, 1, 5, 2, 2, math.MaxInt)
	for _, s := range []struct {
		d   api.Dot
		has bool
		top int
	}{
		{api.Dot{Node: 0, Epoch: 1, N: 2}, true, 3}, // the chapter's example
		{api.Dot{Node: 0, Epoch: 1, N: 1}, true, 3},
		{api.Dot{Node: 0, Epoch: 1, N: 3}, true, 3},
		{api.Dot{Node: 0, Epoch: 1, N: 4}, false, 3},
		{api.Dot{Node: 0, Epoch: 1, N: 0}, false, 3},
		{api.Dot{Node: 0, Epoch: 1, N: -1}, false, 3},
		{api.Dot{Node: 0, Epoch: 1, N: math.MinInt}, false, 3},
		{api.Dot{Node: 0, Epoch: 1, N: math.MaxInt}, false, 3},
		{api.Dot{Node: 0, Epoch: 2, N: 1}, false, 0}, // between two
		{api.Dot{Node: 0, Epoch: 3, N: 1}, true, 1},
		{api.Dot{Node: 0, Epoch: 4, N: 1}, false, 0},
		{api.Dot{Node: 1, Epoch: 1, N: 1}, false, 0},
		{api.Dot{Node: 2, Epoch: 1, N: 5}, true, 5},
		{api.Dot{Node: 2, Epoch: 1, N: 6}, false, 5},
		{api.Dot{Node: 2, Epoch: 2, N: math.MaxInt}, true, math.MaxInt},
		{api.Dot{Node: 2, Epoch: 3, N: 1}, false, 0},
		{api.Dot{Node: 3, Epoch: 1, N: 1}, false, 0},
		{api.Dot{Node: 0, Epoch: 0, N: 1}, false, 0},
		{api.Dot{Node: 0, Epoch: 0, N: 0}, false, 0},
		{api.Dot{Node: 1, Epoch: 1, N: 0}, false, 0},
		{api.Dot{Node: -1, Epoch: 1, N: 1}, false, 0},
		{api.Dot{Node: api.MaxNodes, Epoch: 1, N: 1}, false, 0},
		{api.Dot{Node: math.MaxInt, Epoch: math.MaxInt, N: 1}, false, 0},
		{api.Dot{Node: math.MinInt, Epoch: math.MinInt, N: 1}, false, 0},
	} {
		if got := Has(v, s.d); got != s.has {
			t.Errorf("Has %v: %v", s.d, got)
		}
		if got := Top(v, s.d.Node, s.d.Epoch); got != s.top {
			t.Errorf("Top %v: %d, not %d", s.d, got, s.top)
		}
	}
}

// TestListsThatAreNotRight: they have nothing, whatever else they say.
func TestListsThatAreNotRight(t *testing.T) {
	right := l(0, 1, 3, 1, 1, 2)
	for _, v := range [][]api.Dot{
		l(1, 1, 2, 0, 1, 3),
		l(0, 1, 3, 0, 1, 3),
		l(0, 1, 3, 1, 1, 2, 2, 1, 0),
		l(0, 1, 3, 1, 1, 2, 2, 0, 1),
		l(0, 1, 3, 1, 1, 2, api.MaxNodes, 1, 1),
		l(-1, 1, 1, 0, 1, 3, 1, 1, 2),
	} {
		if Has(v, api.Dot{Node: 0, Epoch: 1, N: 1}) {
			t.Errorf("%v has a dot", v)
		}
		for _, d := range v {
			if Has(v, d) || Top(v, d.Node, d.Epoch) != 0 {
				t.Errorf("%v has its %v", v, d)
			}
		}
		for _, d := range append(edges(), v...) {
			if got := Add(v, d); len(got) != 0 {
				t.Errorf("Add of %v, %v: %v", v, d, got)
			}
		}
		for _, o := range [][]api.Dot{nil, right, v} {
			if a, b := Join(v, o), Join(o, v); len(a) != 0 || len(b) != 0 {
				t.Errorf("Join of %v, %v: %v, turned about %v", v, o, a, b)
			}
			if Within(v, o) || Within(o, v) {
				t.Errorf("Within of %v, %v", v, o)
			}
		}
	}
}

// P9.1: Add

func TestAdd(t *testing.T) {
	v := l(0, 1, 3, 0, 3, 1, 2, 1, 5)
	for _, s := range []struct{ d, want []api.Dot }{
		{l(0, 1, 2), v},
		{l(0, 1, 3), v},
		{l(0, 1, 4), l(0, 1, 4, 0, 3, 1, 2, 1, 5)},
		{l(0, 1, math.MaxInt), l(0, 1, math.MaxInt, 0, 3, 1, 2, 1, 5)},
		{l(0, 3, 2), l(0, 1, 3, 0, 3, 2, 2, 1, 5)},
		{l(2, 1, 9), l(0, 1, 3, 0, 3, 1, 2, 1, 9)},
		{l(2, 1, 5), v},
		// new ones, at the ends and between
		{l(0, 2, 7), l(0, 1, 3, 0, 2, 7, 0, 3, 1, 2, 1, 5)},
		{l(0, 4, 1), l(0, 1, 3, 0, 3, 1, 0, 4, 1, 2, 1, 5)},
		{l(1, 1, 1), l(0, 1, 3, 0, 3, 1, 1, 1, 1, 2, 1, 5)},
		{l(2, 2, 1), l(0, 1, 3, 0, 3, 1, 2, 1, 5, 2, 2, 1)},
		{l(api.MaxNodes-1, 1, 1), l(0, 1, 3, 0, 3, 1, 2, 1, 5, api.MaxNodes-1, 1, 1)},
		// those that can't be
		{l(-1, 1, 9), v},
		{l(api.MaxNodes, 1, 9), v},
		{l(0, 0, 9), v},
		{l(0, -1, 9), v},
		{l(0, 1, 0), v},
		{l(1, 1, 0), v},
		{l(1, 1, -1), v},
		{l(0, 0, 0), v},
	} {
		if got := Add(v, s.d[0]); !slices.Equal(got, s.want) {
			t.Errorf("Add of %v: %v, not %v", s.d, got, s.want)
		}
	}
	if got := Add(nil, api.Dot{Node: 4, Epoch: 2, N: 6}); !slices.Equal(got, l(4, 2, 6)) {
		t.Errorf("Add to nothing: %v", got)
	}
	if got := Add(l(0, 2, 1), api.Dot{Node: 0, Epoch: 1, N: 1}); !slices.Equal(got, l(0, 1, 1, 0, 2, 1)) {
		t.Errorf("Add ahead of all: %v", got)
	}
	if got := Add(nil, api.Dot{}); len(got) != 0 {
		t.Errorf("Add of no dot to nothing: %v", got)
	}
}

// P9.1: Join, Within

func TestJoinAndWithin(t *testing.T) {
	for _, s := range []struct {
		a, b, want []api.Dot
		ab, ba     bool
	}{
		{nil, nil, nil, true, true},
		{l(0, 1, 3), nil, l(0, 1, 3), false, true},
		{l(0, 1, 3), l(0, 1, 3), l(0, 1, 3), true, true},
		{l(0, 1, 3), l(0, 1, 4), l(0, 1, 4), true, false},
		{l(0, 1, 1), l(0, 1, math.MaxInt), l(0, 1, math.MaxInt), true, false},
		{l(0, 1, 3), l(0, 2, 3), l(0, 1, 3, 0, 2, 3), false, false},
		{l(0, 1, 3), l(1, 1, 3), l(0, 1, 3, 1, 1, 3), false, false},
		{l(0, 1, 3), l(0, 1, 3, 0, 2, 1), l(0, 1, 3, 0, 2, 1), true, false},
		{l(0, 1, 3), l(0, 1, 2, 0, 2, 1), l(0, 1, 3, 0, 2, 1), false, false},
		{l(0, 1, 3, 2, 1, 1), l(0, 1, 2, 2, 1, 2), l(0, 1, 3, 2, 1, 2), false, false},
		{l(0, 1, 3, 2, 1, 1), l(0, 1, 3, 1, 5, 5, 2, 1, 2), l(0, 1, 3, 1, 5, 5, 2, 1, 2), true, false},
		{l(1, 1, 1, 3, 1, 1), l(0, 1, 1, 2, 1, 1, 4, 1, 1), l(0, 1, 1, 1, 1, 1, 2, 1, 1, 3, 1, 1, 4, 1, 1), false, false},
	} {
		if got := Join(s.a, s.b); !slices.Equal(got, s.want) {
			t.Errorf("Join of %v, %v: %v, not %v", s.a, s.b, got, s.want)
		}
		if got := Join(s.b, s.a); !slices.Equal(got, s.want) {
			t.Errorf("Join of %v, %v: %v, not %v", s.b, s.a, got, s.want)
		}
		if ab, ba := Within(s.a, s.b), Within(s.b, s.a); ab != s.ab || ba != s.ba {
			t.Errorf("Within of %v, %v: %v, turned about %v", s.a, s.b, ab, ba)
		}
	}
}

// P9.1: all calls

// hold holds all calls of one list, with each dot, against P9.1's words.
func hold(t *testing.T, v, of []api.Dot) {
	t.Helper()
	s, ok := read(v)
	if got := Right(v); got != ok {
		t.Fatalf("Right of %v: %v", v, got)
	}
	for _, d := range of {
		top := s[pair{d.Node, d.Epoch}]
		if got := Top(v, d.Node, d.Epoch); got != top {
			t.Fatalf("Top of %v, %v: %d, not %d", v, d, got, top)
		}
		if got := Has(v, d); got != (1 <= d.N && d.N <= top) {
			t.Fatalf("Has of %v, %v: %v", v, d, got)
		}
		if got, want := Add(v, d), add(v, d); !slices.Equal(got, want) {
			t.Fatalf("Add of %v, %v: %v, not %v", v, d, got, want)
		}
	}
}

// holdTwo holds all calls of two lists against P9.1's words.
func holdTwo(t *testing.T, a, b []api.Dot) {
	t.Helper()
	if got, want := Join(a, b), join(a, b); !slices.Equal(got, want) {
		t.Fatalf("Join of %v, %v: %v, not %v", a, b, got, want)
	}
	if got := Within(a, b); got != within(a, b) {
		t.Fatalf("Within of %v, %v: %v", a, b, got)
	}
}

// TestAllShortLists: of all edges.
func TestAllShortLists(t *testing.T) {
	for _, v := range lists(3, edges()) {
		hold(t, v, edges())
	}
	short := lists(2, edges())
	for _, a := range short {
		for _, b := range short {
			holdTwo(t, a, b)
		}
	}
}

// some tells a list of up to n dots, Right, or, seldom, with a dot put wrong.
func some(r *rand.Rand, n int) []api.Dot {
	s := seen{}
	for range r.Intn(n + 1) {
		s[pair{r.Intn(api.MaxNodes), 1 + r.Intn(6)}] = 1 + r.Intn(5)
	}
	v := s.list()
	if len(v) > 0 && r.Intn(10) == 0 {
		v[r.Intn(len(v))] = edges()[r.Intn(len(edges()))]
	}
	return v
}

func TestLongLists(t *testing.T) {
	r := rand.New(rand.NewSource(9))
	for range 6000 {
		a, b := some(r, 60), some(r, 60)
		if r.Intn(3) == 0 {
			b = Join(a, b)
		}
		hold(t, a, append(some(r, 9), edges()[r.Intn(len(edges()))]))
		holdTwo(t, a, b)
		holdTwo(t, b, a)
	}
}

// TestLongSeries: deeds one by one, of one list that grows.
func TestLongSeries(t *testing.T) {
	r := rand.New(rand.NewSource(91))
	var v []api.Dot
	s := seen{}
	for range 5000 {
		d := api.Dot{Node: r.Intn(api.MaxNodes), Epoch: 1 + r.Intn(8), N: 1 + r.Intn(40)}
		v = Add(v, d)
		s.see(d)
		if !slices.Equal(v, s.list()) {
			t.Fatalf("behind %v: %v, not %v", d, v, s.list())
		}
	}
}

// P9.2

// TestAllUpToTheLast: who has seen the third has seen the second.
func TestAllUpToTheLast(t *testing.T) {
	r := rand.New(rand.NewSource(92))
	for range 3000 {
		a, b := some(r, 20), some(r, 20)
		both := Join(a, b)
		for _, d := range append(slices.Clone(a), b...) {
			for n := range 8 {
				x := api.Dot{Node: d.Node, Epoch: d.Epoch, N: n}
				one := Has(a, x) || Has(b, x)
				if Right(a) && Right(b) && one != Has(both, x) {
					t.Fatalf("%v: of %v, %v %v, of both %v", x, a, b, one, Has(both, x))
				}
				next := api.Dot{Node: d.Node, Epoch: d.Epoch, N: n + 1}
				if n > 0 && Has(a, next) && !Has(a, x) {
					t.Fatalf("%v has %v and not %v", a, next, x)
				}
				if more := Add(a, x); Right(a) && Right([]api.Dot{x}) && (!Has(more, x) || !Within(a, more)) {
					t.Fatalf("%v with %v: %v", a, x, more)
				}
			}
		}
	}
}

// TestInWhateverOrder: lists that are joined come to the same.
func TestInWhateverOrder(t *testing.T) {
	r := rand.New(rand.NewSource(93))
	for range 2000 {
		var all [][]api.Dot
		for range 5 {
			if v := some(r, 12); Right(v) {
				all = append(all, v)
			}
		}
		var once, again []api.Dot
		for _, v := range all {
			once = Join(once, v)
		}
		r.Shuffle(len(all), func(i, k int) { all[i], all[k] = all[k], all[i] })
		for _, v := range append(all, all...) {
			again = Join(v, again)
		}
		if !slices.Equal(once, again) {
			t.Fatalf("%v: %v, then %v", all, once, again)
		}
	}
}

// DOC.md, what holds everywhere, 3

// roomy tells v with spare room behind it.
func roomy(v []api.Dot) []api.Dot {
	w := make([]api.Dot, len(v)+4)
	copy(w, v)
	for i := len(v); i < len(w); i++ {
		w[i] = api.Dot{Node: -7, Epoch: -7, N: -7}
	}
	return w[:len(v)]
}

// spoil overwrites a list and the room behind it.
func spoil(v []api.Dot) {
	v = v[:cap(v)]
	for i := range v {
		v[i] = api.Dot{Node: 5, Epoch: 5, N: 5}
	}
}

// TestNothingIsShared: what is handed in stays, and is no part of an answer.
func TestNothingIsShared(t *testing.T) {
	all := [][]api.Dot{
		nil, l(0, 1, 3), l(0, 1, 3, 2, 1, 1), l(1, 2, 3, 1, 3, 1, 4, 1, 1), l(4, 1, 1, 0, 1, 3), l(0, 0, 0),
	}
	added := append(edges(), l(0, 1, 9, 1, 2, 9, 4, 1, 9, 9, 9, 9)...)
	for _, v := range all {
		for _, w := range all {
			a, b := roomy(v), roomy(w)
			wasA, wasB := slices.Clone(a[:cap(a)]), slices.Clone(b[:cap(b)])
			stays := func(what string) {
				t.Helper()
				if !slices.Equal(a[:cap(a)], wasA) || !slices.Equal(b[:cap(b)], wasB) {
					t.Fatalf("%s of %v, %v changes them: %v, %v", what, v, w, a[:cap(a)], b[:cap(b)])
				}
			}
			Right(a)
			Within(a, b)
			spoil(Join(a, b))
			stays("Join")
			for _, d := range added {
				Has(a, d)
				Top(a, d.Node, d.Epoch)
				spoil(Add(a, d))
				stays("Add")
			}
		}
	}
}
