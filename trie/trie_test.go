package trie

import (
	"cmp"
	"maps"
	"math"
	"math/rand"
	"slices"
	"strconv"
	"strings"
	"testing"
	"unsafe"

	"hubbub/topic"
)

// pair of filter and key.
type pair struct{ filter, key string }

// model is what a trie has to be, pair by pair.
type model map[pair]int

// put does to a model what Put has to do.
func (m model) put(filter, key string, qos int) (int, bool) {
	if !topic.Filter(filter) {
		return 0, false
	}
	old, had := m[pair{filter, key}]
	m[pair{filter, key}] = qos
	return old, had
}

// drop does to a model what Drop has to do.
func (m model) drop(filter, key string) bool {
	_, had := m[pair{filter, key}]
	delete(m, pair{filter, key})
	return had
}

func (m model) match(name string) []Hit {
	best := map[string]int{}
	for p, qos := range m {
		if topic.Match(p.filter, name) {
			old, had := best[p.key]
			if !had {
				old = qos
			}
			best[p.key] = max(old, qos)
		}
	}
	var hits []Hit
	for key, qos := range best {
		hits = append(hits, Hit{key, qos})
	}
	slices.SortFunc(hits, func(a, b Hit) int { return cmp.Compare(a.Key, b.Key) })
	return hits
}

func (m model) keys(filter string) []string {
	set := map[string]bool{}
	for p := range m {
		if p.filter == filter {
			set[p.key] = true
		}
	}
	return slices.Sorted(maps.Keys(set))
}

func (m model) filters() []string {
	set := map[string]bool{}
	for p := range m {
		set[p.filter] = true
	}
	return slices.Sorted(maps.Keys(set))
}

// show tells s, short enough to be read.
func show(s string) string {
	if len(s) > 40 {
		return s[:40] + ".."
	}
	return s
}

// want is a trie and what it has to be.
type want struct {
	t *testing.T
	x *Trie
	m model
}

func begin(t *testing.T) want {
	return want{t, New(), model{}}
}

// put puts into both, and holds what they answer against each other.
func (w want) put(filter, key string, qos int) {
	w.t.Helper()
	old, had := w.x.Put(filter, key, qos)
	wantOld, wantHad := w.m.put(filter, key, qos)
	if old != wantOld || had != wantHad {
		w.t.Fatalf("Put %q, %q, %d: %d, %v, not %d, %v", show(filter), show(key), qos, old, had, wantOld, wantHad)
	}
}

// drop drops from both, and holds what they answer against each other.
func (w want) drop(filter, key string) {
	w.t.Helper()
	got := w.x.Drop(filter, key)
	if want := w.m.drop(filter, key); got != want {
		w.t.Fatalf("Drop %q, %q: %v", show(filter), show(key), got)
	}
}

// hold asks all that can be asked, with these names and filters.
func (w want) hold(names, filters []string) {
	w.t.Helper()
	if got := w.x.Len(); got != len(w.m) {
		w.t.Fatalf("Len: %d, not %d", got, len(w.m))
	}
	if got, want := w.x.Filters(), w.m.filters(); !slices.Equal(got, want) {
		w.t.Fatalf("Filters: %d of them, not %d: %.99q, not %.99q", len(got), len(want), got, want)
	}
	for _, filter := range slices.Concat(names, filters) {
		if got, want := w.x.Keys(filter), w.m.keys(filter); !slices.Equal(got, want) {
			w.t.Fatalf("Keys %q: %q, not %q", show(filter), got, want)
		}
	}
	for _, name := range slices.Concat(names, filters) {
		if got, want := w.x.Match(name), w.m.match(name); !slices.Equal(got, want) {
			w.t.Fatalf("Match %q: %v, not %v", show(name), got, want)
		}
	}
}

// broken: texts that are no Filter.
func broken() []string {
	return []string{
		"", "\x00", "a\x00", "\xff", "a/\xe2\x82",
		"a+", "+a", "a#", "##", "#/", "#/a", "#/#", "a/#/b", "a/+b", "a/b#", "$#", "+/#/#",
		strings.Repeat("a", 65536),
		strings.Repeat("/", 65536),
	}
}

// some tells all texts of up to n of these levels.
func some(levels []string, n int) []string {
	l := slices.Clone(levels)
	for from := 0; n > 1; n-- {
		to := len(l)
		for _, s := range l[from:to] {
			for _, level := range levels {
				l = append(l, s+"/"+level)
			}
		}
		from = to
	}
	return l
}

// names tells names that filters match; no filter has the level z.
func names() []string {
	return slices.DeleteFunc(some([]string{"", "a", "$a", "z"}, 4), func(s string) bool { return s == "" })
}

// filters tells filters that match some of names.
func filters() []string {
	return slices.DeleteFunc(some([]string{"", "a", "$a", "+", "#"}, 3), func(s string) bool { return !topic.Filter(s) })
}

// P7.1: Put

func TestPut(t *testing.T) {
	x := New()
	for i, s := range []struct {
		filter, key string
		qos         int
		old         int
		had         bool
	}{
		{"a", "k", 1, 0, false},
		{"a", "k", 2, 1, true},
		{"a", "k", 0, 2, true},
		{"a", "k", 0, 0, true}, // it had it, by 0
		{"a", "l", 2, 0, false},
		{"b", "k", 2, 0, false},
		{"a/b", "k", 1, 0, false},
		{"a/", "k", 1, 0, false},
		{"/a", "k", 1, 0, false},
		{"+", "k", 1, 0, false},
		{"#", "k", 1, 0, false},
		{"a/#", "k", 1, 0, false},
		{"a/+", "k", 1, 0, false},
		{"a", "", 1, 0, false},
		{"a", "", 2, 1, true},
		{"a", "\xff\x00", 1, 0, false},
		{"a", "k", -7, 0, true},
		{"a", "k", math.MaxInt, -7, true},
		{"a", "k", math.MinInt, math.MaxInt, true},
		{"a", "k", 1, math.MinInt, true},
	} {
		if old, had := x.Put(s.filter, s.key, s.qos); old != s.old || had != s.had {
			t.Errorf("%d: Put %q, %q, %d: %d, %v", i, s.filter, s.key, s.qos, old, had)
		}
	}
	if x.Len() != 12 {
		t.Errorf("Len: %d", x.Len())
	}
}

func TestPutOfNoFilter(t *testing.T) {
	w := begin(t)
	for _, filled := range []bool{false, true} {
		if filled {
			w.put("a/b", "k", 1)
			w.put("#", "k", 2)
		}
		for _, s := range broken() {
			if old, had := w.x.Put(s, "k", 1); old != 0 || had {
				t.Errorf("Put %q: %d, %v", show(s), old, had)
			}
			if w.x.Drop(s, "k") {
				t.Errorf("Drop %q", show(s))
			}
		}
		w.hold([]string{"a", "a/b", "b"}, broken())
	}
}

// P7.1: Drop

func TestDrop(t *testing.T) {
	w := begin(t)
	w.drop("a", "k")
	w.put("a", "k", 1)
	w.put("a", "l", 2)
	w.put("a/b", "k", 0)
	for _, p := range []pair{
		{"a", "m"}, {"a", ""}, {"b", "k"}, {"a/b", "l"}, {"a/b/c", "k"}, {"+", "k"}, {"a/#", "k"}, {"", "k"}, {"a/", "k"}, // not there
		{"a", "k"}, {"a", "k"}, // there, and not again
		{"a/b", "k"}, {"a/b", "k"},
		{"a", "l"}, {"a", "l"},
	} {
		w.drop(p.filter, p.key)
		w.hold([]string{"a", "a/b", "a/b/c", "b"}, []string{"a/#", "+"})
	}
	if w.x.Len() != 0 {
		t.Errorf("Len: %d", w.x.Len())
	}
}

// TestDropLeavesOthers: neither what a filter goes on from, nor what goes on
// from it, nor what stands beside it.
func TestDropLeavesOthers(t *testing.T) {
	all := []string{"a", "a/b", "a/b/c", "a/b/d", "a/+", "a/#", "a/+/c", "+", "#", "+/b", "b", "/", "/a", "a/"}
	for _, gone := range all {
		w := begin(t)
		for i, filter := range all {
			w.put(filter, "k"+strconv.Itoa(i), 1)
		}
		for i := range all {
			w.drop(gone, "k"+strconv.Itoa(i))
		}
		w.hold([]string{"a", "a/b", "a/b/c", "a/b/d", "b", "/", "/a", "a/", "c"}, all)
	}
}

// TestPutAfterDrop: nothing of what was there is left.
func TestPutAfterDrop(t *testing.T) {
	x := New()
	x.Put("a/b", "k", 2)
	x.Drop("a/b", "k")
	if old, had := x.Put("a/b", "k", 1); old != 0 || had {
		t.Errorf("Put: %d, %v", old, had)
	}
	if got := x.Match("a/b"); !slices.Equal(got, []Hit{{"k", 1}}) {
		t.Errorf("Match: %v", got)
	}
}

// P7.1: Match

func TestMatch(t *testing.T) {
	for _, x := range []struct {
		name    string
		filters string // by spaces; each is a key, too
		want    string
	}{
		{"a", "#", "#"}, // the chapter's example
		{"a", "a b a/ /a a/b + +/+ # a/# a/+ b/# +/# /# A", "# + +/# a a/#"},
		{"a/b", "a b a/b a/c b/a a/+ +/b +/+ + a/# a/b/# a/b/+ # +/+/+ +/# /a/b", "# +/# +/+ +/b a/# a/+ a/b a/b/#"},
		{"a/b/c", "a/b/c a/+/c +/+/c a/b/+ +/+/+ +/b a/# a/b/# a/b/c/# a/+/# +/+ a/c/+ # a/b/c/+", "# +/+/+ +/+/c a/# a/+/# a/+/c a/b/# a/b/+ a/b/c a/b/c/#"},
		{"a/", "a a/ a/+ a/# + +/ +/+ /a", "+/ +/+ a/ a/# a/+"},
		{"/a", "a /a /+ + +/+ # /# +/a a/", "# +/+ +/a /# /+ /a"},
		{"/", "/ + +/+ # /# // a/ +/", "# +/ +/+ / /#"},
		{"a//b", "a/b a/+/b a//b a//# a///b a/#", "a/# a/+/b a//# a//b"},
		{"a/$b", "a/$b a/+ a/# # +/+ $b", "# +/+ a/# a/$b a/+"},
		{"$a", "$a # + $a/# +/# $a/+ $", "$a $a/#"},
		{"$a/b", "$a/b # + +/b +/+ +/# $a/+ $a/# $a $b/#", "$a/# $a/+ $a/b"},
		{"$a/b/c", "$a/+/c $a/+/# $a/# # +/b/c", "$a/# $a/+/# $a/+/c"},
		{"$", "$ # + $/#", "$ $/#"},
		{"a$", "a$ # +", "# + a$"},
		{"\u00e9", "\u00e9 e\u0301 +", "+ \u00e9"},
		{"b", "a a/b a/+ a/#", ""},
	} {
		tr := New()
		for _, filter := range strings.Fields(x.filters) {
			tr.Put(filter, filter, 1)
		}
		var got []string
		for _, hit := range tr.Match(x.name) {
			if hit.Qos != 1 {
				t.Errorf("Match %q: %v", x.name, hit)
			}
			got = append(got, hit.Key)
		}
		want := strings.Fields(x.want)
		slices.Sort(want)
		if !slices.Equal(got, want) {
			t.Errorf("Match %q: %q, not %q", x.name, got, want)
		}
	}
}

// TestMatchOfEachPair: each filter by itself tells a name just if it matches.
func TestMatchOfEachPair(t *testing.T) {
	hits := 0
	for _, filter := range filters() {
		x := New()
		x.Put(filter, "k", 2)
		for _, name := range slices.Concat(names(), filters()) {
			var want []Hit
			if topic.Match(filter, name) {
				want = []Hit{{"k", 2}}
				hits++
			}
			if got := x.Match(name); !slices.Equal(got, want) {
				t.Fatalf("%q, Match %q: %v", filter, name, got)
			}
		}
	}
	if hits == 0 {
		t.Error("no name is matched")
	}
}

func TestMatchOfNoName(t *testing.T) {
	x := New()
	for _, filter := range []string{"#", "+", "+/+", "a/#", "a/+", "+/#", "/#", "a", "/"} {
		x.Put(filter, filter, 1)
	}
	for _, s := range slices.Concat(broken(), []string{"#", "+", "+/+", "a/#", "a/+", "+/#", "/#", "/+"}) {
		if got := x.Match(s); got != nil {
			t.Errorf("Match %q: %v", show(s), got)
		}
	}
}

// TestMatchByTheGreatestQos: of those filters that match, and of no other,
// whatever order they came in, and whatever numbers these are.
func TestMatchByTheGreatestQos(t *testing.T) {
	matching := []string{"a/b", "a/+", "+/b", "+/+", "a/#", "#", "a/b/#"}
	for _, qoses := range [][]int{
		{0, 1, 2}, {2, 1, 0}, {1, 2, 0}, {0, 0, 0}, {-1, -2, -3}, {-3, -1, -2},
		{math.MinInt, math.MinInt, math.MinInt}, {math.MinInt, math.MaxInt, 0}, {3, 1000, 128},
	} {
		for from := range matching {
			x := New()
			x.Put("b/a", "k", math.MaxInt)
			x.Put("a", "k", math.MaxInt)
			x.Put("a/b/c", "k", math.MaxInt)
			x.Put("a/b", "l", -9)
			for i, qos := range qoses {
				x.Put(matching[(from+i)%len(matching)], "k", qos)
			}
			want := []Hit{{"k", slices.Max(qoses)}, {"l", -9}}
			if got := x.Match("a/b"); !slices.Equal(got, want) {
				t.Errorf("Match: %v, not %v", got, want)
			}
		}
	}
}

// TestMatchFollowsPutAndDrop: a qos that isn't had any more isn't told.
func TestMatchFollowsPutAndDrop(t *testing.T) {
	x := New()
	hold := func(want ...Hit) {
		t.Helper()
		if got := x.Match("a"); !slices.Equal(got, want) {
			t.Errorf("Match: %v, not %v", got, want)
		}
	}
	hold()
	x.Put("a", "k", 2)
	hold(Hit{"k", 2})
	x.Put("a", "k", 0)
	hold(Hit{"k", 0})
	x.Put("#", "k", 1)
	hold(Hit{"k", 1})
	x.Put("+", "k", 2)
	hold(Hit{"k", 2})
	x.Drop("+", "k")
	hold(Hit{"k", 1})
	x.Drop("#", "k")
	hold(Hit{"k", 0})
	x.Drop("a", "k")
	hold()
}

// P7.1: in order, by bytes

func TestKeysRise(t *testing.T) {
	rising := []string{"", "\x00", "!", "#", "$x", "+", "/", "10", "9", "A", "a", "a\x00", "a!", "a/b", "aa", "b", "\u00e9", "\u20ac", "\ufffd", "\U0001f600", "\xff", "\xff\xff"}
	r := rand.New(rand.NewSource(7))
	for range 20 {
		x := New()
		for _, i := range r.Perm(len(rising)) {
			x.Put("a/b", rising[i], i)
			x.Put("#", rising[i], -1)
		}
		if got := x.Keys("a/b"); !slices.Equal(got, rising) {
			t.Fatalf("Keys: %q", got)
		}
		hits := x.Match("a/b")
		if len(hits) != len(rising) {
			t.Fatalf("Match: %v", hits)
		}
		for i, hit := range hits {
			if hit != (Hit{rising[i], i}) {
				t.Fatalf("Match: %d is %v", i, hit)
			}
		}
	}
}

// TestFiltersRise: by their bytes, not by their levels.
func TestFiltersRise(t *testing.T) {
	rising := []string{"\x01", " ", "!/a", "#", "$", "$/a", "+", "+/#", "+/+", "/", "/#", "//", "/a", "a", "a ", "a!", "a!/b", "a-/c", "a/", "a/!", "a/#", "a/+", "a//", "a/b", "a/b!", "a/b-/c", "a/b/c", "a/bb", "a0", "aa", "aa/b", "b", "\u00e9", "\u20ac/a", "\uffff", "\U0001f600"}
	if !slices.IsSorted(rising) {
		t.Fatal("the list isn't rising")
	}
	r := rand.New(rand.NewSource(7))
	for range 20 {
		x := New()
		for _, i := range r.Perm(len(rising)) {
			x.Put(rising[i], "k", 1)
			x.Put(rising[i], "l", 2)
		}
		if got := x.Filters(); !slices.Equal(got, rising) {
			t.Fatalf("Filters: %q", got)
		}
		if x.Len() != 2*len(rising) {
			t.Fatalf("Len: %d", x.Len())
		}
	}
}

// P7.1: Keys, Filters, Len

func TestKeysOfJustThisFilter(t *testing.T) {
	x := New()
	for _, filter := range []string{"a", "a/b", "a/+", "a/#", "+", "#", "+/b", "/a", "a/b/c/d"} {
		x.Put(filter, "k "+filter, 1)
		x.Put(filter, "all", 1)
	}
	for filter, want := range map[string][]string{
		"a": {"all", "k a"}, "a/b": {"all", "k a/b"}, "a/+": {"all", "k a/+"}, "a/#": {"all", "k a/#"},
		"+": {"all", "k +"}, "#": {"all", "k #"}, "/a": {"all", "k /a"},
		"": nil, "/": nil, "b": nil, "a/c": nil, "a/": nil, "a/b/c": nil, "a/b/c/d/e": nil, "+/+": nil, "+/#": nil, "a/b/#": nil, "A": nil,
	} {
		if got := x.Keys(filter); !slices.Equal(got, want) {
			t.Errorf("Keys %q: %q", filter, got)
		}
	}
}

func TestOfNothing(t *testing.T) {
	begin(t).hold(names(), slices.Concat(filters(), broken()))
}

// TestTriesAreApart: what one is told another isn't.
func TestTriesAreApart(t *testing.T) {
	a, b := begin(t), begin(t)
	a.put("#", "k", 1)
	b.put("a", "l", 2)
	for _, w := range []want{a, b} {
		w.hold([]string{"a", "b"}, []string{"#"})
	}
}

// TestAnySeries: of puts and drops, held against all pairs one by one.
func TestAnySeries(t *testing.T) {
	allFilters, allNames := filters(), names()
	asked := slices.Concat(allFilters, []string{"", "a+", "#/a", "+/#/+", "a/a/a/a/a"})
	for seed := range 60 {
		r := rand.New(rand.NewSource(int64(seed)))
		// Of few filters some come twice, of many they meet on their way.
		few := make([]string, 1+r.Intn(60))
		for i := range few {
			few[i] = allFilters[r.Intn(len(allFilters))]
		}
		w := begin(t)
		for range 40 {
			for range 5 {
				filter, key := few[r.Intn(len(few))], string(rune('a'+r.Intn(5)))
				if r.Intn(20) == 0 {
					filter = asked[r.Intn(len(asked))]
				}
				if r.Intn(5) < 3 {
					w.put(filter, key, r.Intn(6)-2)
				} else {
					w.drop(filter, key)
				}
			}
			w.hold(nil, few[:1])
		}
		w.hold(allNames, asked)
		for p := range maps.Clone(w.m) {
			w.drop(p.filter, p.key)
		}
		w.hold(nil, few)
	}
}

// TestOfLongOnes: the most bytes, and the most levels, that a filter can have.
func TestOfLongOnes(t *testing.T) {
	deep := strings.Repeat("/", 65535)
	long := strings.Repeat("a", 65535)
	plus := strings.Repeat("+/", 32767) + "+"
	all := []string{deep, deep[1:], deep[1:] + "#", deep[1:] + "+", deep[2:] + "#", long, plus, "#", "a/#"}
	w := begin(t)
	for i, filter := range all {
		w.put(filter, "k"+strconv.Itoa(i), i)
		w.put(filter, "all", i)
	}
	ask := []string{deep, deep[1:], deep[2:], deep[3:], deep[:32767], deep[:32766], long, long[1:], long + "a", deep + "/"}
	w.hold(ask, all)
	for _, filter := range all {
		w.drop(filter, "all")
		w.put(filter+strings.Repeat("/", 65536), "k", 1)
	}
	w.hold(ask, all)
}

// TestOfMany: filters of which each level can be met by two of the trie, and
// keys of which each has many.
func TestOfMany(t *testing.T) {
	x := New()
	const depth = 12
	for bits := range 1 << depth {
		levels := make([]string, depth)
		for i := range levels {
			levels[i] = []string{"a", "+"}[bits>>i&1]
		}
		x.Put(strings.Join(levels, "/"), "k"+strconv.Itoa(bits%100), bits)
	}
	name := strings.Repeat("a/", depth-1) + "a"
	if got := x.Match(name); len(got) != 100 || got[0] != (Hit{"k0", 4000}) || got[99] != (Hit{"k99", 3999}) {
		t.Errorf("Match: %d, %v", len(got), got)
	}
	if got := x.Match(name[2:]); got != nil {
		t.Errorf("Match: %v", got)
	}
	if x.Len() != 1<<depth || len(x.Filters()) != 1<<depth {
		t.Errorf("Len: %d", x.Len())
	}
}

// P7.2

// TestWhoIsntAskedIsntTold: what is told are keys that have a filter, each
// just as long as it has one that matches.
func TestWhoIsntAskedIsntTold(t *testing.T) {
	few := []string{"a", "+", "#", "a/#", "+/a", "$a/#", "$a", "/"}
	asked := []string{"a", "b", "a/a", "a/b", "b/a", "$a", "$a/a", "/", "/a", "//"}
	for bits := range 1 << len(few) {
		x := New()
		for i, filter := range few {
			x.Put(filter, filter, i)
			x.Put(filter, "gone", i)
		}
		for i, filter := range few {
			x.Drop(filter, "gone")
			if bits>>i&1 == 0 {
				x.Drop(filter, filter)
			}
		}
		for _, name := range asked {
			told := map[string]bool{}
			for _, hit := range x.Match(name) {
				told[hit.Key] = true
			}
			for i, filter := range few {
				if want := bits>>i&1 == 1 && topic.Match(filter, name); told[filter] != want {
					t.Fatalf("%b: Match %q: %q is told: %v", bits, name, filter, !want)
				}
				delete(told, filter)
			}
			if len(told) > 0 {
				t.Fatalf("%b: Match %q: %v", bits, name, told)
			}
		}
	}
}

// What holds everywhere.

// TestNoMoreIsKept: of what was dropped nothing is left.
func TestNoMoreIsKept(t *testing.T) {
	x := New()
	x.Put("a/b", "k", 1)
	for _, filter := range []string{"a", "a/b/c/d", "a/+/#", "#", "b/c/d", "/", "+/x"} {
		x.Put(filter, "k", 1)
		x.Drop(filter, "l")
		x.Drop(filter+"/e", "k")
		x.Drop(filter, "k")
	}
	if got := size(&x.root); got != 3 {
		t.Errorf("%d nodes for one filter of two levels", got)
	}
	x.Keys("c/d")
	x.Match("a/c/d")
	x.Drop("a/b", "k")
	if got := size(&x.root); got != 1 {
		t.Errorf("%d nodes for nothing", got)
	}
}

func size(n *node) int {
	k := 1
	for _, kid := range n.kids {
		k += size(kid)
	}
	return k
}

// shares: do they lie in the same memory?
func shares(a, b string) bool {
	return unsafe.StringData(a) == unsafe.StringData(b)
}

// TestALevelIsKeptAlone: not as a piece of all of its filter, most of which may
// be dropped.
func TestALevelIsKeptAlone(t *testing.T) {
	x := New()
	first, second := strings.Repeat("a", 100), strings.Repeat("b", 100)
	x.Put(first+"/"+second, "k", 1)
	for kept, kid := range x.root.kids {
		for next := range kid.kids {
			from, to := unsafe.Pointer(unsafe.StringData(kept)), unsafe.Pointer(unsafe.StringData(next))
			if uintptr(to)-uintptr(from) == uintptr(len(first)+1) {
				t.Error("two levels lie in one filter")
			}
		}
	}
}

// TestNothingIsShared: neither what is handed in nor what is answered is kept.
func TestNothingIsShared(t *testing.T) {
	x := New()
	filter, key := strings.Clone("ab"), strings.Clone("kl")
	for range 2 { // the second time the key is there
		x.Put(filter, key, 1)
		for kept := range x.root.kids {
			if shares(kept, filter) {
				t.Error("a filter is kept")
			}
		}
		for kept := range x.root.kids["ab"].keys {
			if shares(kept, key) {
				t.Error("a key is kept")
			}
		}
	}
	if shares(x.Match("ab")[0].Key, x.Match("ab")[0].Key) || shares(x.Keys("ab")[0], x.Keys("ab")[0]) || shares(x.Filters()[0], x.Filters()[0]) {
		t.Error("answers share a text")
	}
}

func TestAnswersAreNew(t *testing.T) {
	w := begin(t)
	for _, filter := range []string{"a", "a/b", "#"} {
		w.put(filter, "k", 1)
		w.put(filter, "l", 2)
	}
	blot := func(l []string) {
		for i := range l[:cap(l)] {
			l[:cap(l)][i] = "!"
		}
	}
	blot(w.x.Keys("a"))
	blot(w.x.Filters())
	hits := w.x.Match("a/b")
	for i := range hits[:cap(hits)] {
		hits[:cap(hits)][i] = Hit{"!", 9}
	}
	w.hold([]string{"a", "a/b", "!"}, []string{"#"})
}

// TestTheSameAgain: whatever order the pairs came in.
func TestTheSameAgain(t *testing.T) {
	r := rand.New(rand.NewSource(40))
	all := filters()
	build := func() *Trie {
		x := New()
		for _, i := range r.Perm(len(all)) {
			x.Put(all[i], "k"+strconv.Itoa(i%17), i%3)
		}
		return x
	}
	a := build()
	for range 20 {
		b := build()
		if !slices.Equal(a.Filters(), b.Filters()) || a.Len() != b.Len() {
			t.Fatal("Filters aren't the same again")
		}
		for _, name := range names() {
			if !slices.Equal(a.Match(name), b.Match(name)) {
				t.Fatalf("Match %q: %v, then %v", name, a.Match(name), b.Match(name))
			}
		}
	}
}

// TestAnyBytes: all calls take all texts.
func TestAnyBytes(t *testing.T) {
	r := rand.New(rand.NewSource(41))
	text := func() string {
		b := make([]byte, r.Intn(6))
		for i := range b {
			b[i] = "aa$//+#\x00\xff"[r.Intn(9)]
		}
		return string(b)
	}
	w := begin(t)
	for range 3000 {
		w.put(text(), text(), r.Int()-r.Int())
		w.drop(text(), text())
		s := text()
		if got, want := w.x.Match(s), w.m.match(s); !slices.Equal(got, want) {
			t.Fatalf("Match %q: %v, not %v", s, got, want)
		}
	}
	w.hold(nil, w.m.filters())
}
