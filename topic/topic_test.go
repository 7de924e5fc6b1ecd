package topic

import (
	"math/rand"
	"regexp"
	"slices"
	"strings"
	"testing"
	"unsafe"
)

// broken: texts that are neither a Name nor a Filter, for their bytes alone.
func broken() []string {
	return []string{
		"",
		"\x00", "a\x00", "a/\x00/b",
		"\xff", "a/\x80", "\xe2\x82", "a\xe2\x82/b",
		"\xc0\xaf",                          // a slash that isn't the shortest form
		"\xc0\xab",                          // a plus
		"\xed\xa0\x80",                      // a surrogate
		"\xf4\x90\x80\x80",                  // above U+10FFFF
		strings.Repeat("a", 65536),          // a byte too long
		strings.Repeat("/", 65536),          //
		strings.Repeat("\u00e9", 32768),     // too long by bytes, not by runes
		strings.Repeat("a", 70000),          //
		strings.Repeat("a", 65535) + "\xff", //
	}
}

// plain: texts that are both.
func plain() []string {
	return []string{
		"a", "a/b", "a b", " ", "/", "//", "/a", "a/", "a//b", "A",
		"$", "$SYS", "$SYS/a", "a/$b", "$/", "a$",
		"\x01", "\x7f", "\\", "*", "?", "-", "!",
		"a\u00e9\u20ac\U0001f600", "\ufffd", "\ufeff", "\U0010ffff", "\uffff",
		"\uff0b",        // another plus
		"\uff03/\ufe5f", // other number signs
		"\u012b\u0123",  // runes whose low bytes are + and #
		strings.Repeat("a", 65535),
		strings.Repeat("/", 65535),
		strings.Repeat("\u00e9", 32767),
		strings.Repeat("\u00e9", 32767) + "a",
	}
}

// wild: Filters that are no Name.
func wild() []string {
	return []string{
		"+", "#", "/#", "/+", "+/", "+/+", "+/#", "//#", "a/#", "a/+", "+/a", "a/+/b", "a/+/+/#",
		"$SYS/#", "$/+", "+/$", "+//#",
		"\u20ac/+", "+/\ufffd/#",
		strings.Repeat("/", 65534) + "#",
		strings.Repeat("+/", 32767) + "+",
		strings.Repeat("a", 65533) + "/+",
	}
}

// strayed: texts whose bytes are right, and whose + or # isn't.
func strayed() []string {
	return []string{
		"a+", "+a", "a#", "#a", "++", "##", "+#", "#+",
		"#/", "#/a", "#/#", "#/+", "a/#/b", "a/#/", "+/#/#",
		"a/b+", "a/+b", "a/b#", "a/#b", "a+/b", "a#/b", "a/+b/c", "a/b+/#", "a+b/#", "+/a#",
		"$+", "$#", " +", "+ ", "# ", "\u00e9+", "#\u00e9", "\ufffd#",
		strings.Repeat("a", 65534) + "+",
		"#" + strings.Repeat("/", 65534),
	}
}

// show tells s, short enough to be read.
func show(s string) string {
	if len(s) > 40 {
		return s[:40] + ".."
	}
	return s
}

// P6.1

func TestLevels(t *testing.T) {
	for s, want := range map[string][]string{
		"":              {""},
		"a":             {"a"},
		"/":             {"", ""},
		"a/b":           {"a", "b"},
		"/a":            {"", "a"},
		"a/":            {"a", ""},
		"a//b":          {"a", "", "b"},
		"///":           {"", "", "", ""},
		"+/#/a+":        {"+", "#", "a+"},
		"$SYS/a b":      {"$SYS", "a b"},
		"\\/a\\":        {"\\", "a\\"},
		"\xff/\x00":     {"\xff", "\x00"},
		"\xc0\xaf/":     {"\xc0\xaf", ""},
		"\u20ac/\uff0f": {"\u20ac", "\uff0f"},
	} {
		if got := Levels(s); !slices.Equal(got, want) {
			t.Errorf("Levels %q: %q, not %q", s, got, want)
		}
	}
}

func TestLevelsComeBack(t *testing.T) {
	for _, s := range slices.Concat(broken(), plain(), wild(), strayed()) {
		l := Levels(s)
		if len(l) != strings.Count(s, "/")+1 || strings.Join(l, "/") != s {
			t.Errorf("Levels %q: %d of them", show(s), len(l))
		}
		for _, level := range l {
			if strings.Contains(level, "/") {
				t.Errorf("Levels %q: %q", show(s), show(level))
			}
		}
	}
}

func TestNameAndFilter(t *testing.T) {
	for _, x := range []struct {
		l            []string
		name, filter bool
	}{
		{broken(), false, false},
		{plain(), true, true},
		{wild(), false, true},
		{strayed(), false, false},
	} {
		for _, s := range x.l {
			if got := Name(s); got != x.name {
				t.Errorf("Name %q of %d bytes: %v", show(s), len(s), got)
			}
			if got := Filter(s); got != x.filter {
				t.Errorf("Filter %q of %d bytes: %v", show(s), len(s), got)
			}
		}
	}
}

// eachShort calls f with all texts of up to n of these bytes.
func eachShort(letters string, n int, f func(s string)) {
	var add func(s string)
	add = func(s string) {
		f(s)
		if len(s) == n {
			return
		}
		for _, c := range []byte(letters) {
			add(s + string([]byte{c}))
		}
	}
	add("")
}

// TestShortTexts: of all short ones, by patterns.
func TestShortTexts(t *testing.T) {
	name := regexp.MustCompile(`^[^+#]+$`)
	filter := regexp.MustCompile(`^(([^+#/]*|\+)/)*(#|\+|[^+#/]*)$`)
	eachShort("a$/+#", 6, func(s string) {
		if got := Name(s); got != name.MatchString(s) {
			t.Fatalf("Name %q: %v", s, got)
		}
		if got := Filter(s); got != (s != "" && filter.MatchString(s)) {
			t.Fatalf("Filter %q: %v", s, got)
		}
	})
}

// TestLengths: bytes are counted, whatever stands in them.
func TestLengths(t *testing.T) {
	for _, piece := range []string{"a", "/", "a/", "\u20ac", "\U0001f600/"} {
		for size := 65530; size <= 65540; size++ {
			s := strings.Repeat(piece, size/len(piece))
			s += strings.Repeat("x", size-len(s))
			if got := Name(s); got != (size <= 65535) {
				t.Errorf("Name of %d bytes of %q: %v", size, piece, got)
			}
			if got := Filter(s); got != (size <= 65535) {
				t.Errorf("Filter of %d bytes of %q: %v", size, piece, got)
			}
		}
	}
}

func TestMatch(t *testing.T) {
	for _, x := range []struct {
		filter, name string
		want         bool
	}{
		{"+/b", "a/b", true},
		{"a", "a", true},
		{"a", "A", false},
		{"a", "a/", false},
		{"a", "/a", false},
		{"a/", "a", false},
		{"a", "ab", false},
		{"ab", "a", false},
		{"a/b", "a", false},
		{"a", "a/b", false},
		{"a/b/c", "a/b/c", true},
		{"a/b/c", "a/c/b", false},
		{"\u00e9", "e\u0301", false},
		{"+", "a", true},
		{"+", "a/b", false},
		{"+", "/", false},
		{"+", "/a", false},
		{"+/+", "/a", true},
		{"/+", "/a", true},
		{"+/+", "/", true},
		{"+/", "a/", true},
		{"a/+", "a", false},
		{"a/+", "a/", true},
		{"a/+", "a/b", true},
		{"a/+", "a/b/c", false},
		{"a/+/c", "a/b/c", true},
		{"a/+/c", "a//c", true},
		{"a/+/c", "a/c", false},
		{"a/+/c", "a/b/d", false},
		{"#", "a", true},
		{"#", "a/b/c", true},
		{"#", "/", true},
		{"#", "/$a", true},
		{"a/#", "a", true},
		{"a/#", "a/", true},
		{"a/#", "a/b/c", true},
		{"a/#", "ab", false},
		{"a/#", "b", false},
		{"a/#", "b/a", false},
		{"a/b/#", "a", false},
		{"a/b/#", "a/b", true},
		{"a/b/#", "a/c", false},
		{"+/#", "a", true},
		{"+/#", "/", true},
		{"a/+/#", "a", false},
		{"a/+/#", "a/b", true},
		{"a/+/#", "a/b/c/d", true},
		{"/#", "/", true},
		{"/#", "/a", true},
		{"/#", "a", false},
		{"//#", "/", true},
		{"//#", "/a", false},
	} {
		if got := Match(x.filter, x.name); got != x.want {
			t.Errorf("Match %q, %q: %v", x.filter, x.name, got)
		}
	}
}

func TestMatchOfDollar(t *testing.T) {
	for _, x := range []struct {
		filter, name string
		want         bool
	}{
		{"#", "$", false},
		{"#", "$SYS", false},
		{"#", "$SYS/a", false},
		{"#", "$/a", false},
		{"+", "$SYS", false},
		{"+", "$", false},
		{"+/a", "$SYS/a", false},
		{"+/#", "$SYS/a", false},
		{"+/+", "$/", false},
		{"$SYS", "$SYS", true},
		{"$SYS/#", "$SYS", true},
		{"$SYS/#", "$SYS/a/b", true},
		{"$SYS/+", "$SYS/a", true},
		{"$SYS/+", "$SYS/$a", true},
		{"$SYS/a", "$SYS/b", false},
		{"$/#", "$SYS/a", false},
		{"$", "$SYS", false},
		{"a/+", "a/$b", true},
		{"a/#", "a/$b", true},
		{"+/$b", "a/$b", true},
		{"+", "a$", true},
		{"#", "a$/b", true},
		{"+/+", "/$a", true},
		{"+", "\uff04", true}, // another dollar
	} {
		if got := Match(x.filter, x.name); got != x.want {
			t.Errorf("Match %q, %q: %v", x.filter, x.name, got)
		}
	}
}

// TestMatchTakesOnlyFiltersAndNames: what is neither isn't even matched by
// itself, or by #.
func TestMatchTakesOnlyFiltersAndNames(t *testing.T) {
	for _, s := range slices.Concat(broken(), strayed()) {
		if Match(s, s) || Match("#", s) || Match(s, "a") {
			t.Errorf("Match takes %q", show(s))
		}
	}
	for _, s := range wild() {
		if Match(s, s) || Match("#", s) {
			t.Errorf("Match takes %q for a name", show(s))
		}
	}
	for _, s := range plain() {
		if !Match(s, s) || Match("#", s) == strings.HasPrefix(s, "$") {
			t.Errorf("Match doesn't take %q", show(s))
		}
	}
	if Match("#/a", "a/a") || Match("a+", "ab") || Match("a/#/b", "a/b") || Match("a#", "a") {
		t.Error("Match takes what is no Filter")
	}
}

func TestMatchOfLongOnes(t *testing.T) {
	deep := strings.Repeat("/", 65535)
	for _, x := range []struct {
		filter, name string
		want         bool
	}{
		{"#", deep, true},
		{deep, deep, true},
		{deep, deep[1:], false},
		{deep[1:], deep, false},
		{deep[1:] + "#", deep, true},
		{deep[1:] + "#", deep[1:], true},
		{deep[1:] + "#", deep[2:], true}, // none is left
		{deep[1:] + "#", deep[3:], false},
		{deep[1:] + "+", deep[1:], true},
		{strings.Repeat("+/", 32767) + "+", deep[:32767], true},
		{strings.Repeat("+/", 32767) + "+", deep[:32766], false},
		{"+", strings.Repeat("a", 65535), true},
		{"+", strings.Repeat("a", 65536), false},
		{"#", strings.Repeat("a", 65536), false},
	} {
		if got := Match(x.filter, x.name); got != x.want {
			t.Errorf("Match %q of %d bytes, %q of %d bytes: %v", show(x.filter), len(x.filter), show(x.name), len(x.name), got)
		}
	}
}

// some tells all texts of up to n of these levels.
func some(levels []string, n int) []string {
	l := slices.Clone(levels)
	for from := 0; n > 1; n-- {
		to := len(l)
		for _, s := range l[from:to] {
			for _, level := range levels {
				l = append(l, s+"/"+level)
			}
		}
		from = to
	}
	return l
}

// names tells names that filters match; no filter has the level z.
func names() []string {
	return slices.DeleteFunc(some([]string{"", "a", "$a", "$", "z"}, 4), func(s string) bool { return s == "" })
}

// filters tells filters that match some of names.
func filters() []string {
	return slices.DeleteFunc(some([]string{"", "a", "$a", "+", "#"}, 3), func(s string) bool {
		return s == "" || strings.Contains(s, "#/")
	})
}

// matcher tells what P6.1 says of the names that a filter of filters matches.
func matcher(filter string) func(name string) bool {
	p := strings.ReplaceAll(regexp.QuoteMeta(filter), `\+`, `[^/]*`)
	if begin, ok := strings.CutSuffix(p, "/#"); ok {
		p = begin + `(/.*)?`
	}
	if p == "#" {
		p = `.*`
	}
	whole := regexp.MustCompile(`^` + p + `$`)
	return func(name string) bool {
		if name[0] == '$' && (filter[0] == '+' || filter[0] == '#') {
			return false
		}
		return whole.MatchString(name)
	}
}

func TestMatchByPatterns(t *testing.T) {
	hits := 0
	for _, filter := range filters() {
		match := matcher(filter)
		for _, name := range names() {
			want := match(name)
			if got := Match(filter, name); got != want {
				t.Fatalf("Match %q, %q: %v", filter, name, got)
			}
			if want {
				hits++
			}
		}
	}
	if hits == 0 {
		t.Error("no name is matched")
	}
}

// P6.2

func TestWithin(t *testing.T) {
	for _, x := range []struct {
		a, b string
		want bool
	}{
		{"a", "a", true},
		{"a", "b", false},
		{"a", "+", true},
		{"a", "#", true},
		{"a", "a/#", true},
		{"a", "a/+", false},
		{"a", "+/#", true},
		{"a", "+/+", false},
		{"a", "b/#", false},
		{"a/b", "a", false},
		{"a/b", "+", false},
		{"a/b", "a/+", true},
		{"a/b", "+/b", true},
		{"a/b", "+/a", false},
		{"a/b", "+/+", true},
		{"a/b", "a/#", true},
		{"a/b", "a/b/#", true},
		{"a/b", "a/b/+/#", false},
		{"+", "+", true},
		{"+", "#", true},
		{"+", "a", false},
		{"+", "+/#", true},
		{"+", "+/+", false},
		{"+/a", "+", false},
		{"a/+", "a/+", true},
		{"a/+", "a/#", true},
		{"a/+", "a/b", false},
		{"a/+", "a/", false},
		{"a/+", "+/+", true},
		{"a/+", "a/+/#", true},
		{"a/+/c", "a/+/+", true},
		{"a/+/c", "a/b/c", false},
		{"#", "#", true},
		{"#", "+", false},
		{"#", "a", false},
		{"#", "+/#", false}, // though each name that one matches the other does
		{"#", "/#", false},
		{"/#", "/#", true},
		{"/#", "/+/#", false}, // likewise
		{"/#", "+/+/#", false},
		{"a/#", "a/#", true},
		{"a/#", "#", true},
		{"a/#", "+/#", true},
		{"a/#", "a", false},
		{"a/#", "a/+", false},
		{"a/#", "a/+/#", false},
		{"a/#", "a/b/#", false},
		{"a/b/#", "a/#", true},
		{"a/+/#", "a/#", true},
		{"+/#", "#", true},
		{"+/#", "+/#", true},
		{"+/#", "+/+/#", false},
		{"/", "+/+", true},
		{"/", "/#", true},
		{"/", "//#", true},
		{"/", "///#", false},
		{"", "", false},
	} {
		if got := Within(x.a, x.b); got != x.want {
			t.Errorf("Within %q, %q: %v", x.a, x.b, got)
		}
	}
}

func TestWithinOfDollar(t *testing.T) {
	for _, x := range []struct {
		a, b string
		want bool
	}{
		{"$", "$", true},
		{"$", "#", false},
		{"$", "+", false},
		{"$a", "+/#", false},
		{"$a/b", "+/b", false},
		{"$a/b", "#", false},
		{"$a/#", "#", false},
		{"$a/+", "+/+", false},
		{"$a", "$b", false},
		{"$a", "$", false},
		{"$a", "$a/#", true},
		{"$a/b", "$a/+", true},
		{"$a/#", "$a/#", true},
		{"$a/+", "$a/#", true},
		{"+", "$a", false},
		{"#", "$a/#", false},
		{"a/$b", "a/+", true},
		{"a/$b", "a/#", true},
		{"a/$b", "#", true},
		{"/$b", "+/+", true},
		{"+/$b", "#", true},
		{"+/$b", "+/+", true},
		{"+", "#", true},
		{"+/a", "+/#", true},
	} {
		if got := Within(x.a, x.b); got != x.want {
			t.Errorf("Within %q, %q: %v", x.a, x.b, got)
		}
	}
}

func TestWithinTakesOnlyFilters(t *testing.T) {
	for _, s := range slices.Concat(broken(), strayed()) {
		if Within(s, s) || Within(s, "#") || Within("a", s) {
			t.Errorf("Within takes %q", show(s))
		}
	}
	for _, s := range slices.Concat(plain(), wild()) {
		if !Within(s, s) {
			t.Errorf("%q isn't within itself", show(s))
		}
		if Within(s, "#") == strings.HasPrefix(s, "$") {
			t.Errorf("Within %q, #: %v", show(s), Within(s, "#"))
		}
	}
}

func TestWithinOfLongOnes(t *testing.T) {
	deep := strings.Repeat("/", 65535)
	plus := strings.Repeat("+/", 32767) + "+"
	for _, x := range []struct {
		a, b string
		want bool
	}{
		{deep, "+/#", true},
		{deep, deep[1:] + "#", true},
		{deep[1:] + "#", deep[1:] + "#", true},
		{deep[2:], deep[1:] + "#", true},
		{deep[3:], deep[1:] + "#", false},
		{deep[:32767], plus, true},
		{plus, deep[:32767], false},
		{plus, "+/#", true},
		{plus, "+/+/#", true},
	} {
		if got := Within(x.a, x.b); got != x.want {
			t.Errorf("Within %q of %d bytes, %q of %d bytes: %v", show(x.a), len(x.a), show(x.b), len(x.b), got)
		}
	}
}

// P6.2 and P6.3

// TestWithinIsASetInASet: a filter is the set of its names, and one is within
// another just if its set is. But "a's # only by b's #", level by level: so
// those aren't within whose # is met by a +, though no name tells the two
// apart, since none is empty.
func TestWithinIsASetInASet(t *testing.T) {
	all := names()
	sets := map[string][]bool{}
	for _, filter := range filters() {
		match := matcher(filter)
		for _, name := range all {
			sets[filter] = append(sets[filter], match(name))
		}
	}
	for a, small := range sets {
		for b, great := range sets {
			want := inSet(small, great) && !onlyByLevel(a, b)
			if got := Within(a, b); got != want {
				t.Fatalf("Within %q, %q: %v", a, b, got)
			}
		}
	}
}

// onlyByLevel: isn't a within b only as their levels say so?
func onlyByLevel(a, b string) bool {
	return a == "#" && b == "+/#" || a == "/#" && (b == "/+/#" || b == "+/+/#")
}

func inSet(small, great []bool) bool {
	for i, in := range small {
		if in && !great[i] {
			return false
		}
	}
	return true
}

// TestANameIsASetOfOne: what matches a name has it within, and no other way
// about.
func TestANameIsASetOfOne(t *testing.T) {
	for _, filter := range filters() {
		for _, name := range names() {
			if Match(filter, name) != Within(name, filter) {
				t.Fatalf("%q, %q: Match %v, Within %v", filter, name, Match(filter, name), Within(name, filter))
			}
			if Within(filter, name) && filter != name {
				t.Fatalf("Within %q, %q", filter, name)
			}
		}
	}
}

// TestWithinGoesOn: what is within one is within all that this one is within.
func TestWithinGoesOn(t *testing.T) {
	r := rand.New(rand.NewSource(6))
	l := filters()
	for range 200000 {
		a, b, c := l[r.Intn(len(l))], l[r.Intn(len(l))], l[r.Intn(len(l))]
		if Within(a, b) && Within(b, c) && !Within(a, c) {
			t.Fatalf("%q within %q within %q", a, b, c)
		}
	}
}

// What holds everywhere.

func TestAnswersAreNew(t *testing.T) {
	s := "ab/cd/e"
	first := Levels(s)
	for i, level := range first {
		if at := strings.Index(s, level); unsafe.StringData(level) == unsafe.StringData(s[at:]) {
			t.Errorf("Levels shares its answer %d", i)
		}
	}
	for i := range first[:cap(first)] {
		first[:cap(first)][i] = "!"
	}
	if got := Levels(s); !slices.Equal(got, []string{"ab", "cd", "e"}) {
		t.Errorf("Levels shares its answers: %q", got)
	}
}

// TestAnyBytes: all calls take all texts, and say the same of them again.
func TestAnyBytes(t *testing.T) {
	r := rand.New(rand.NewSource(40))
	some := func() string {
		b := make([]byte, r.Intn(8))
		for i := range b {
			b[i] = "a$/+#\x00\xff\xe2\x82\xac"[r.Intn(10)]
		}
		return string(b)
	}
	for range 100000 {
		a, b := some(), some()
		if Match(a, b) && !(Filter(a) && Name(b)) || Within(a, b) && !(Filter(a) && Filter(b)) || Name(a) && !Filter(a) {
			t.Fatalf("%q, %q: Match %v, Within %v", a, b, Match(a, b), Within(a, b))
		}
		if !slices.Equal(Levels(a), Levels(a)) || Match(a, b) != Match(a, b) || Within(a, b) != Within(a, b) {
			t.Fatalf("%q, %q: not the same again", a, b)
		}
	}
}
