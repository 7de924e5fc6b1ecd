package varlen

import (
	"bytes"
	"math"
	"slices"
	"testing"

	"hubbub/api"
)

// edges: lengths at the ends of each size, with their bytes.
var edges = []struct {
	n int
	b []byte
}{
	{0, []byte{0x00}},
	{1, []byte{0x01}},
	{127, []byte{0x7f}},
	{128, []byte{0x80, 0x01}},
	{129, []byte{0x81, 0x01}},
	{255, []byte{0xff, 0x01}},
	{256, []byte{0x80, 0x02}},
	{300, []byte{0xac, 0x02}},
	{321, []byte{0xc1, 0x02}},
	{8192, []byte{0x80, 0x40}},
	{16383, []byte{0xff, 0x7f}},
	{16384, []byte{0x80, 0x80, 0x01}},
	{65535, []byte{0xff, 0xff, 0x03}},
	{2097151, []byte{0xff, 0xff, 0x7f}},
	{2097152, []byte{0x80, 0x80, 0x80, 0x01}},
	{0x0a0b0c0d, []byte{0x8d, 0x98, 0xac, 0x50}},
	{268435454, []byte{0xfe, 0xff, 0xff, 0x7f}},
	{268435455, []byte{0xff, 0xff, 0xff, 0x7f}},
}

// outside: numbers that are no lengths.
var outside = []int{
	math.MinInt, math.MinInt64 >> 31, -1 << 28, -268435455, -128, -1,
	268435456, 1<<28 + 1, 1<<29 - 1, 1 << 31, 1<<32 - 1, 1 << 32, 1<<32 + 1, math.MaxInt,
}

// plain tells the bytes of a length by division, as MQTT 3.1.1, section 2.2.3, does.
func plain(n int) []byte {
	var b []byte
	for {
		c := n % 128
		n /= 128
		if n == 0 {
			return append(b, byte(c))
		}
		b = append(b, byte(c+128))
	}
}

// plainRead is P2.1's Read: it holds b's beginnings against what a length's bytes are.
func plainRead(b []byte) (int, int, api.Errno) {
	for size := 1; size <= 4; size++ {
		if len(b) < size {
			return 0, 0, api.ErrShort
		}
		if b[size-1] >= 128 {
			continue
		}
		n, factor := 0, 1
		for _, c := range b[:size] {
			n += int(c) % 128 * factor
			factor *= 128
		}
		if !bytes.Equal(plain(n), b[:size]) {
			return 0, 0, api.ErrBytes
		}
		return n, size, api.OK
	}
	return 0, 0, api.ErrBytes
}

// eachLength calls f with lengths of all sizes: all small ones, a stride over the rest, and the ends of it.
func eachLength(f func(n int)) {
	for n := 0; n < 40000; n++ {
		f(n)
	}
	for n := 40000; n < 268435456; n += 211 {
		f(n)
	}
	for _, x := range edges {
		f(x.n)
	}
}

// eachBytes calls f with all lists of up to 5 bytes that stand at the edges of a length's bytes.
func eachBytes(f func(b []byte)) {
	some := []byte{0x00, 0x01, 0x02, 0x3f, 0x40, 0x7f, 0x80, 0x81, 0xbf, 0xc0, 0xfe, 0xff}
	var add func(b []byte)
	add = func(b []byte) {
		f(b)
		if len(b) == 5 {
			return
		}
		for _, c := range some {
			add(append(b[:len(b):len(b)], c))
		}
	}
	add(nil)
}

// holdRead tells whether Read(b) answers as wanted.
func holdRead(t *testing.T, b []byte, n, size int, err api.Errno) {
	t.Helper()
	gotN, gotSize, gotErr := Read(b)
	if gotN != n || gotSize != size || gotErr != err {
		t.Fatalf("Read %x: %d, %d, %d, not %d, %d, %d", b, gotN, gotSize, gotErr, n, size, err)
	}
}

// P2.1

func TestErrorsAreTheTables(t *testing.T) {
	if api.ErrRange != 31 || api.ErrShort != 20 || api.ErrBytes != 21 {
		t.Errorf("%d, %d, %d", api.ErrRange, api.ErrShort, api.ErrBytes)
	}
}

func TestPutEdges(t *testing.T) {
	for _, x := range edges {
		if got, err := Put(x.n); err != api.OK || !bytes.Equal(got, x.b) {
			t.Errorf("Put %d: %x, %d, not %x", x.n, got, err, x.b)
		}
		if got := Size(x.n); got != len(x.b) {
			t.Errorf("Size %d: %d, not %d", x.n, got, len(x.b))
		}
		holdRead(t, x.b, x.n, len(x.b), api.OK)
	}
}

func TestNoSuchLength(t *testing.T) {
	for _, n := range outside {
		if got, err := Put(n); err != api.ErrRange || len(got) != 0 {
			t.Errorf("Put %d: %x, %d", n, got, err)
		}
		if got := Size(n); got != 0 {
			t.Errorf("Size %d: %d", n, got)
		}
	}
}

func TestThereAndBack(t *testing.T) {
	eachLength(func(n int) {
		b, err := Put(n)
		if err != api.OK || !bytes.Equal(b, plain(n)) {
			t.Fatalf("Put %d: %x, %d, not %x", n, b, err, plain(n))
		}
		if got := Size(n); got != len(b) {
			t.Fatalf("Size %d: %d, not %d", n, got, len(b))
		}
		holdRead(t, b, n, len(b), api.OK)
	})
}

func TestReadTakesTheBeginning(t *testing.T) {
	for _, x := range edges {
		for _, behind := range [][]byte{{0x00}, {0x01}, {0x7f}, {0x80}, {0xff, 0xff, 0xff, 0xff, 0xff}} {
			holdRead(t, slices.Concat(x.b, behind), x.n, len(x.b), api.OK)
		}
	}
}

func TestReadRefusesAFifthByte(t *testing.T) {
	for _, b := range [][]byte{
		{0x80, 0x80, 0x80, 0x80},
		{0xff, 0xff, 0xff, 0xff},
		{0x80, 0x80, 0x80, 0x80, 0x00},
		{0x80, 0x80, 0x80, 0x80, 0x01},
		{0xff, 0xff, 0xff, 0xff, 0x7f},
		{0x81, 0x82, 0x83, 0x84, 0x85, 0x06},
	} {
		holdRead(t, b, 0, 0, api.ErrBytes)
	}
}

func TestReadRefusesLongForms(t *testing.T) {
	for _, b := range [][]byte{
		{0x80, 0x00},
		{0x81, 0x00},
		{0xff, 0x00},
		{0x80, 0x80, 0x00},
		{0xff, 0xff, 0x00},
		{0x80, 0x81, 0x00},
		{0x80, 0x80, 0x80, 0x00},
		{0xff, 0xff, 0xff, 0x00},
		{0x80, 0x00, 0x01},
	} {
		holdRead(t, b, 0, 0, api.ErrBytes)
	}
}

func TestReadOfBytesThatEnd(t *testing.T) {
	for _, b := range [][]byte{
		nil,
		{},
		{0x80},
		{0xff},
		{0x80, 0x80},
		{0x81, 0xff},
		{0x80, 0x80, 0x80},
		{0xff, 0xff, 0xff},
	} {
		holdRead(t, b, 0, 0, api.ErrShort)
	}
}

func TestReadByDivision(t *testing.T) {
	eachBytes(func(b []byte) {
		n, size, err := plainRead(b)
		holdRead(t, b, n, size, err)
		if err == api.OK {
			if got, _ := Put(n); !bytes.Equal(got, b[:size]) {
				t.Fatalf("Put %d: %x, not %x", n, got, b[:size])
			}
		}
	})
}

func TestArgumentsAndAnswers(t *testing.T) {
	room := []byte{0x80, 0x80, 0x01, 0xff, 0x7f}
	kept := bytes.Clone(room)
	for n := 0; n <= len(room); n++ {
		Read(room[:n])
	}
	if !bytes.Equal(room, kept) {
		t.Errorf("Read changed what was handed in: %x", room)
	}
	for _, x := range edges {
		first, _ := Put(x.n)
		first[0] ^= 0xff
		if got, _ := Put(x.n); !bytes.Equal(got, x.b) {
			t.Errorf("Put %d shares its answer: %x", x.n, got)
		}
	}
}

// P2.2

func TestWhatIsShortStaysIt(t *testing.T) {
	for _, x := range edges {
		for n := range x.b {
			holdRead(t, x.b[:n], 0, 0, api.ErrShort)
		}
	}
	last := 0
	eachLength(func(n int) {
		if n < 128 && Size(n) != 1 {
			t.Fatalf("Size %d: %d", n, Size(n))
		}
		if n > 0 && Size(n) < Size(n-1) {
			t.Fatalf("Size %d: %d, less than that of %d", n, Size(n), n-1)
		}
		last = max(last, n)
	})
	if last != 268435455 {
		t.Errorf("the last length was %d", last)
	}
}
