package utf

import (
	"bytes"
	"math"
	"slices"
	"testing"
	"unsafe"
)

// within: is b from low to high?
func within(b, low, high byte) bool { return low <= b && b <= high }

// size tells how many bytes the valid rune has with which b begins; 0, if there is none. It is the grammar of RFC 3629, section 4, written out, so that it hangs on nothing of Go's own reading of texts.
func size(b []byte) int {
	rows := []struct {
		low, high   byte // of the first byte
		low2, high2 byte // of the second one
		n           int
	}{
		{0x00, 0x7f, 0, 0, 1},
		{0xc2, 0xdf, 0x80, 0xbf, 2},
		{0xe0, 0xe0, 0xa0, 0xbf, 3},
		{0xe1, 0xec, 0x80, 0xbf, 3},
		{0xed, 0xed, 0x80, 0x9f, 3},
		{0xee, 0xef, 0x80, 0xbf, 3},
		{0xf0, 0xf0, 0x90, 0xbf, 4},
		{0xf1, 0xf3, 0x80, 0xbf, 4},
		{0xf4, 0xf4, 0x80, 0x8f, 4},
	}
	for _, r := range rows {
		if len(b) < r.n || !within(b[0], r.low, r.high) {
			continue
		}
		if r.n > 1 && !within(b[1], r.low2, r.high2) {
			continue
		}
		tail := true
		for i := 2; i < r.n; i++ {
			tail = tail && within(b[i], 0x80, 0xbf)
		}
		if tail {
			return r.n
		}
	}
	return 0
}

// number tells the rune of the bytes of a valid one.
func number(b []byte) rune {
	if len(b) == 1 {
		return rune(b[0])
	}
	r := rune(b[0]) & (1<<(7-len(b)) - 1)
	for _, c := range b[1:] {
		r = r<<6 | rune(c)&0x3f
	}
	return r
}

// plainCheck is P1.1 by the grammar.
func plainCheck(b []byte) int {
	for i := 0; i < len(b); {
		n := size(b[i:])
		if n == 0 || b[i] == 0 {
			return i
		}
		i += n
	}
	return -1
}

// plainRunes tells the runes of b and their places, by the grammar.
func plainRunes(b []byte) (l []rune, places []int) {
	for i := 0; i < len(b); {
		places = append(places, i)
		n := size(b[i:])
		if n == 0 {
			l = append(l, 0xfffd)
			i++
			continue
		}
		l = append(l, number(b[i:i+n]))
		i += n
	}
	return l, places
}

// eachText calls f with all texts of up to 4 bytes that stand at the edges of the grammar.
func eachText(f func(b []byte)) {
	edges := []byte{
		0x00, 0x01, 0x41, 0x7f, 0x80, 0x8f, 0x90, 0x9f, 0xa0, 0xbd, 0xbf,
		0xc0, 0xc1, 0xc2, 0xdf, 0xe0, 0xe1, 0xec, 0xed, 0xee, 0xef,
		0xf0, 0xf1, 0xf3, 0xf4, 0xf5, 0xf8, 0xff,
	}
	var add func(b []byte)
	add = func(b []byte) {
		f(b)
		if len(b) == 4 {
			return
		}
		for _, e := range edges {
			add(append(b[:len(b):len(b)], e))
		}
	}
	add(nil)
}

// eachRune calls f with each rune that a text can have.
func eachRune(f func(r rune)) {
	for r := rune(0); r <= 0x10ffff; r++ {
		if r < 0xd800 || r > 0xdfff {
			f(r)
		}
	}
}

// P1.1

func TestCheckPlaces(t *testing.T) {
	for _, x := range []struct {
		b    string
		want int
	}{
		{"", -1},
		{"abc", -1},
		{"a\u00e9\u20ac\U0001f600", -1},
		{"\x01\x7f", -1},
		{"\x00", 0},
		{"ab\x00", 2},
		{"\u00e9\x00\xff", 2},
		{"\xff\x00", 0},
		{"\x80", 0},
		{"\u00e9\xbf", 2},
		{"\xc2\x80", -1},
		{"\xc1\xbf", 0},
		{"\xdf\xbf", -1},
		{"\xe0\x9f\xbf", 0},
		{"\xe0\xa0\x80", -1},
		{"\xed\x9f\xbf", -1},
		{"\xed\xa0\x80", 0},
		{"\xed\xbf\xbf", 0},
		{"\xee\x80\x80", -1},
		{"\xef\xbf\xbf", -1},
		{"\xf0\x8f\xbf\xbf", 0},
		{"\xf0\x90\x80\x80", -1},
		{"\xf4\x8f\xbf\xbf", -1},
		{"\xf4\x90\x80\x80", 0},
		{"\xf5\x80\x80\x80", 0},
		{"\xf8\x88\x80\x80\x80", 0},
		{"\xfe", 0},
		{"abc\xe2\x82", 3},
		{"abc\xe2\x82d", 3},
		{"abc\xe2\x82\x00", 3},
		{"abc\xf0\x9f\x98", 3},
	} {
		if got := Check([]byte(x.b)); got != x.want {
			t.Errorf("Check %q: %d, not %d", x.b, got, x.want)
		}
	}
}

func TestCheckTakesReplacementRune(t *testing.T) {
	for b, want := range map[string]int{"\ufffd": -1, "a\ufffd\ufffdb": -1, "\ufffd\xff": 3, "\xef\xbf": 0, "\xef\xbf\xbe": -1, "\xef\xbf\xef\xbf\xbd": 0} {
		if got := Check([]byte(b)); got != want {
			t.Errorf("Check %q: %d, not %d", b, got, want)
		}
	}
}

func TestCheckByGrammar(t *testing.T) {
	eachText(func(b []byte) {
		if got, want := Check(b), plainCheck(b); got != want {
			t.Fatalf("Check %x: %d, not %d", b, got, want)
		}
	})
}

func TestCheckTakesEachRune(t *testing.T) {
	eachRune(func(r rune) {
		want := -1
		if r == 0 {
			want = 1
		}
		if got := Check([]byte("a" + string(r) + "z")); got != want {
			t.Fatalf("Check %U: %d, not %d", r, got, want)
		}
	})
}

func TestCheckLeavesBytes(t *testing.T) {
	room := []byte("a\u20ac\xffz")
	kept := bytes.Clone(room)
	Check(room[:4])
	Check(room[:5])
	if !bytes.Equal(room, kept) {
		t.Errorf("Check changed what was handed in: %q", room)
	}
}

// P1.2

func TestCountAndRunes(t *testing.T) {
	for _, x := range []struct {
		s    string
		want []rune
	}{
		{"", nil},
		{"ab", []rune{'a', 'b'}},
		{"a\u00e9", []rune{'a', 0xe9}},
		{"\u20ac\U0001f600\U0010ffff", []rune{0x20ac, 0x1f600, 0x10ffff}},
		{"\x00a\x00", []rune{0, 'a', 0}},
		{"\ufffd", []rune{0xfffd}},
		{"\xff\xfe", []rune{0xfffd, 0xfffd}},
		{"a\xe2\x82b", []rune{'a', 0xfffd, 0xfffd, 'b'}},
		{"\xed\xa0\x80", []rune{0xfffd, 0xfffd, 0xfffd}},
		{"\xf4\x90\x80\x80", []rune{0xfffd, 0xfffd, 0xfffd, 0xfffd}},
		{"\xc0\x80", []rune{0xfffd, 0xfffd}},
	} {
		if got := Runes(x.s); !slices.Equal(got, x.want) {
			t.Errorf("Runes %q: %v", x.s, got)
		}
		if got := Count(x.s); got != len(x.want) {
			t.Errorf("Count %q: %d", x.s, got)
		}
	}
}

func TestRunesByGrammar(t *testing.T) {
	eachText(func(b []byte) {
		s := string(b)
		l, places := plainRunes(b)
		if got := Runes(s); !slices.Equal(got, l) {
			t.Fatalf("Runes %q: %v, not %v", s, got, l)
		}
		if got := Count(s); got != len(l) {
			t.Fatalf("Count %q: %d, not %d", s, got, len(l))
		}
		for n, want := range append(places, len(s)) {
			if got := Place(s, n); got != want {
				t.Fatalf("Place %q, %d: %d, not %d", s, n, got, want)
			}
			if got := Cut(s, n); got != s[:want] {
				t.Fatalf("Cut %q, %d: %q, not %q", s, n, got, s[:want])
			}
		}
	})
}

func TestPlaceAndCutPastTheEnds(t *testing.T) {
	for _, s := range []string{"", "a", "a\u00e9\u20acz", "\xff\xe2\x82", "\x00"} {
		count := Count(s)
		for _, n := range []int{math.MinInt, -count - 1, -1} {
			if got := Place(s, n); got != -1 {
				t.Errorf("Place %q, %d: %d", s, n, got)
			}
			if got := Cut(s, n); got != "" {
				t.Errorf("Cut %q, %d: %q", s, n, got)
			}
		}
		if got := Place(s, count); got != len(s) {
			t.Errorf("Place %q, %d: %d", s, count, got)
		}
		if got := Cut(s, count); got != s {
			t.Errorf("Cut %q, %d: %q", s, count, got)
		}
		for _, n := range []int{count + 1, len(s) + 1, math.MaxInt} {
			if got := Place(s, n); got != -1 {
				t.Errorf("Place %q, %d: %d", s, n, got)
			}
			if got := Cut(s, n); got != s {
				t.Errorf("Cut %q, %d: %q", s, n, got)
			}
		}
	}
}

func TestCutKeepsBrokenBytes(t *testing.T) {
	if got := Cut("\xff\xe2\x82z", 3); got != "\xff\xe2\x82" {
		t.Errorf("Cut: %q", got)
	}
}

func TestBack(t *testing.T) {
	for _, x := range []struct {
		l    []rune
		want string
	}{
		{nil, ""},
		{[]rune{}, ""},
		{[]rune{'a', 0xe9, 0x20ac, 0x1f600}, "a\u00e9\u20ac\U0001f600"},
		{[]rune{0}, "\x00"},
		{[]rune{0xd7ff, 0xe000, 0x10ffff}, "\ud7ff\ue000\U0010ffff"},
		{[]rune{0xd800, 'a', 0xdfff}, "\ufffda\ufffd"},
		{[]rune{0xd83d, 0xde00}, "\ufffd\ufffd"},
		{[]rune{-1, 0x110000}, "\ufffd\ufffd"},
		{[]rune{math.MinInt32, math.MaxInt32}, "\ufffd\ufffd"},
		{[]rune{0xfffd}, "\ufffd"},
	} {
		if got := Back(x.l); got != x.want {
			t.Errorf("Back %v: %q, not %q", x.l, got, x.want)
		}
	}
}

func TestBackOfSurrogates(t *testing.T) {
	for r := rune(0xd800); r <= 0xdfff; r++ {
		if got := Back([]rune{r}); got != "\ufffd" {
			t.Fatalf("Back %U: %q", r, got)
		}
	}
}

func TestThereAndBack(t *testing.T) {
	eachRune(func(r rune) {
		s := Back([]rune{r})
		b := []byte(s)
		if size(b) != len(b) || number(b) != r {
			t.Fatalf("Back %U: %q", r, s)
		}
		if got := Runes(s); len(got) != 1 || got[0] != r || Count(s) != 1 {
			t.Fatalf("Runes %U: %v", r, got)
		}
	})
}

func TestAnswersAreNew(t *testing.T) {
	s := "a\u00e9z"
	first := Runes(s)
	first[0] = 'b'
	if got := Runes(s); got[0] != 'a' {
		t.Errorf("Runes shares its answer: %v", got)
	}
	room := []rune{'a', 0xd800, 'z'}
	Back(room[:2])
	if !slices.Equal(room, []rune{'a', 0xd800, 'z'}) {
		t.Errorf("Back changed what was handed in: %v", room)
	}
	for _, n := range []int{1, 3, 4} {
		if got := Cut(s, n); unsafe.StringData(got) == unsafe.StringData(s) {
			t.Errorf("Cut %d shares its answer", n)
		}
	}
}

// P1.3

func TestTextIsMoreThanItsBytes(t *testing.T) {
	s := "a\u00e9"
	if Count(s) != 2 || len(s) != 3 {
		t.Errorf("Count %q: %d of %d bytes", s, Count(s), len(s))
	}
	if got := Place(s+"z", 2); got != 3 {
		t.Errorf("Place: %d", got)
	}
	if broken, whole := Runes("\xff"), Runes("\ufffd"); !slices.Equal(broken, whole) {
		t.Errorf("Runes: %v, %v", broken, whole)
	}
}
