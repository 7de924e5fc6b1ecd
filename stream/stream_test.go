package stream

import (
	"bytes"
	"math/rand"
	"slices"
	"strings"
	"testing"

	"hubbub/api"
	"hubbub/wire"
)

// sample: a packet with its bytes, written out by hand from MQTT 3.1.1, chapter 3.
type sample struct {
	p api.Packet
	b string
}

func samples() []sample {
	return []sample{
		{api.Packet{Kind: api.Pingreq}, "\xc0\x00"},
		{api.Packet{Kind: api.Connect, Level: 4, Clean: true, Keep: 0x1234, Client: "ab"},
			"\x10\x0e\x00\x04MQTT\x04\x02\x12\x34\x00\x02ab"},
		{api.Packet{Kind: api.Connect, Level: 4, Keep: 1, Client: "c", HasWill: true,
			Will:    api.Will{Topic: "t", Payload: []byte("pay"), Qos: 2, Retain: true},
			HasUser: true, HasPass: true, User: "u", Pass: []byte("secret")},
			"\x10\x20\x00\x04MQTT\x04\xf4\x00\x01\x00\x01c\x00\x01t\x00\x03pay\x00\x01u\x00\x06secret"},
		{api.Packet{Kind: api.Connack, Present: true}, "\x20\x02\x01\x00"},
		{api.Packet{Kind: api.Publish, Topic: "a", Payload: []byte("\xc0\x00")}, "\x30\x05\x00\x01a\xc0\x00"},
		{api.Packet{Kind: api.Publish, Topic: "a", Qos: 1, Id: 0x0102, Dup: true, Payload: []byte("xy")},
			"\x3a\x07\x00\x01a\x01\x02xy"},
		{api.Packet{Kind: api.Publish}, "\x30\x02\x00\x00"},
		{api.Packet{Kind: api.Puback, Id: 1}, "\x40\x02\x00\x01"},
		{api.Packet{Kind: api.Pubrel, Id: 65535}, "\x62\x02\xff\xff"},
		{api.Packet{Kind: api.Subscribe, Id: 10, Subs: []api.Sub{{Filter: "a/#", Qos: 1}, {Filter: "+"}}},
			"\x82\x0c\x00\x0a\x00\x03a/#\x01\x00\x01+\x00"},
		{api.Packet{Kind: api.Suback, Id: 10, Codes: []int{1, 128}}, "\x90\x04\x00\x0a\x01\x80"},
		{api.Packet{Kind: api.Unsubscribe, Id: 11, Subs: []api.Sub{{Filter: "+"}}}, "\xa2\x05\x00\x0b\x00\x01+"},
		{api.Packet{Kind: api.Disconnect}, "\xe0\x00"},
	}
}

// long tells a Publish that has that many bytes behind its length, which is one
// of two bytes.
func long(size int) sample {
	load := strings.Repeat("x", size-3)
	return sample{api.Packet{Kind: api.Publish, Topic: "a", Payload: []byte(load)},
		string([]byte{0x30, byte(size%128 + 128), byte(size / 128), 0, 1, 'a'}) + load}
}

// fault: bytes that are no packet; that shows when the last of them is there.
type fault struct {
	b   string
	err api.Errno
}

func faults() []fault {
	return []fault{
		{"\x00", api.ErrBytes},                                 // no kind
		{"\xf0", api.ErrBytes},                                 // another
		{"\x36", api.ErrBytes},                                 // a Qos of 3
		{"\xc1", api.ErrBytes},                                 // a flag that isn't
		{"\xc0\x80\x00", api.ErrBytes},                         // a length that isn't the shortest
		{"\x30\x80\x80\x80\x80", api.ErrBytes},                 // one that is too long
		{"\x30\x81\x40", api.ErrLong},                          // MaxPacket and one
		{"\xc0\x81\x40", api.ErrLong},                          // of a kind that has no body
		{"\x10\xff\xff\xff\x7f", api.ErrLong},                  // the greatest length
		{"\xc0\x01\x00", api.ErrBytes},                         // a Pingreq with a body
		{"\x32\x05\x00\x01a\x00\x00", api.ErrBytes},            // Id 0
		{"\x30\x03\x00\x01\xff", api.ErrBytes},                 // no text
		{"\x30\x02\x00\x01", api.ErrBytes},                     // a text that ends behind its packet
		{"\x82\x05\x00\x01\x00\x00\x03", api.ErrBytes},         // a Qos of 3
		{"\x10\x0a\x00\x04MQTt\x04\x00\x00\x00", api.ErrBytes}, // no Client, nor MQTT
	}
}

// series: bytes of which it is known what is in them, and where.
type series struct {
	b     string
	l     []api.Packet
	ends  []int // behind which byte each packet of l ends
	err   api.Errno
	errAt int // behind which byte err shows; else 0
}

func (x *series) add(s sample) {
	x.b += s.b
	x.l = append(x.l, s.p)
	x.ends = append(x.ends, len(x.b))
}

// fail adds a fault, and bytes that nobody reads any more.
func (x *series) fail(f fault) {
	x.b += f.b
	x.err, x.errAt = f.err, len(x.b)
	x.b += "\xc0\x00\xe0\x00"
}

// of tells a series of these packets, and what begins behind them.
func of(l []sample, rest string) series {
	var x series
	for _, s := range l {
		x.add(s)
	}
	x.b += rest
	return x
}

// broken tells a series of these packets, and the fault behind them.
func broken(l []sample, f fault) series {
	x := of(l, "")
	x.fail(f)
	return x
}

// told tells what of x is known when n bytes of it are there: how many packets,
// how many bytes are left, the error.
func (x *series) told(n int) (count, left int, err api.Errno) {
	left = n
	for i, end := range x.ends {
		if end <= n {
			count, left = i+1, n-end
		}
	}
	if x.errAt > 0 && n >= x.errAt {
		return count, 0, x.err
	}
	return count, left, api.OK
}

// hold feeds x, parted at the places at, and asks after each part.
func hold(t *testing.T, x series, at []int) {
	t.Helper()
	s := New()
	from, had := 0, 0
	for _, to := range append(slices.Clone(at), len(x.b)) {
		l, err := s.Feed([]byte(x.b[from:to]))
		count, left, want := x.told(to)
		if err != want || !slices.EqualFunc(l, x.l[had:count], wire.Same) {
			t.Fatalf("%.99q parted at %v: bytes %d to %d: %+v, %d, not %+v, %d", x.b, at, from, to, l, err, x.l[had:count], want)
		}
		holdState(t, s, left, want != api.OK)
		from, had = to, count
	}
}

func holdState(t *testing.T, s *Stream, left int, dead bool) {
	t.Helper()
	if s.Left() != left || s.Dead() != dead {
		t.Fatalf("Left: %d, Dead: %v, not %d, %v", s.Left(), s.Dead(), left, dead)
	}
}

// holdFeed feeds s, and asks for these packets and this error.
func holdFeed(t *testing.T, s *Stream, b string, want []api.Packet, wantErr api.Errno) {
	t.Helper()
	l, err := s.Feed([]byte(b))
	if err != wantErr || !slices.EqualFunc(l, want, wire.Same) {
		t.Fatalf("Feed %.99q: %+v, %d, not %+v, %d", b, l, err, want, wantErr)
	}
}

// P5.1

func TestNew(t *testing.T) {
	s := New()
	holdState(t, s, 0, false)
	for _, b := range [][]byte{nil, {}} {
		if l, err := s.Feed(b); len(l) != 0 || err != api.OK {
			t.Errorf("Feed of nothing: %v, %d", l, err)
		}
		holdState(t, s, 0, false)
	}
}

func TestAPacket(t *testing.T) {
	s := New()
	for _, x := range samples() {
		holdFeed(t, s, x.b, []api.Packet{x.p}, api.OK)
		holdState(t, s, 0, false)
	}
}

func TestManyPackets(t *testing.T) {
	hold(t, of(samples(), ""), nil)
	l := slices.Repeat(samples(), 300)
	hold(t, of(l, ""), nil)
	hold(t, of(l, "\x30\x03\x00"), nil)
}

func TestBeginnings(t *testing.T) {
	for _, x := range append(samples(), long(128), long(api.MaxPacket)) {
		for n := range x.b {
			s := New()
			holdFeed(t, s, x.b[:n], nil, api.OK)
			holdState(t, s, n, false)
			holdFeed(t, s, "", nil, api.OK)
			holdState(t, s, n, false)
			holdFeed(t, s, x.b[n:], []api.Packet{x.p}, api.OK)
			holdState(t, s, 0, false)
		}
	}
}

func TestPacketsAndABeginning(t *testing.T) {
	l := samples()
	for _, x := range l {
		for n := range x.b {
			s := New()
			holdFeed(t, s, l[5].b+l[1].b+x.b[:n], []api.Packet{l[5].p, l[1].p}, api.OK)
			holdState(t, s, n, false)
			holdFeed(t, s, x.b[n:]+l[0].b+"\x62\x02", []api.Packet{x.p, l[0].p}, api.OK)
			holdState(t, s, 2, false)
		}
	}
}

func TestTheLongestPacket(t *testing.T) {
	x := long(api.MaxPacket)
	l := []sample{x, x, samples()[0], x}
	hold(t, of(l, ""), nil)
	hold(t, of(l, x.b[:len(x.b)-1]), nil)
	s := New()
	holdFeed(t, s, x.b+x.b[:len(x.b)-1], []api.Packet{x.p}, api.OK)
	holdState(t, s, api.MaxPacket+2, false)
	holdFeed(t, s, "x\xe0\x00", []api.Packet{x.p, {Kind: api.Disconnect}}, api.OK)
	holdState(t, s, 0, false)
}

// TestAPacketThatIsTooLong: it is known ahead of its body.
func TestAPacketThatIsTooLong(t *testing.T) {
	x := long(api.MaxPacket + 1)
	for n := range 3 {
		s := New()
		holdFeed(t, s, x.b[:n], nil, api.OK)
		holdState(t, s, n, false)
		holdFeed(t, s, x.b[n:], nil, api.ErrLong)
		holdState(t, s, 0, true)
		s = New()
		holdFeed(t, s, x.b[:n], nil, api.OK)
		holdFeed(t, s, x.b[n:3], nil, api.ErrLong)
		holdState(t, s, 0, true)
	}
}

func TestFaults(t *testing.T) {
	for _, f := range faults() {
		s := New()
		holdFeed(t, s, f.b[:len(f.b)-1], nil, api.OK)
		holdState(t, s, len(f.b)-1, false)
		holdFeed(t, s, f.b[len(f.b)-1:], nil, f.err)
		holdState(t, s, 0, true)
		s = New()
		holdFeed(t, s, f.b+samples()[0].b, nil, f.err)
		holdState(t, s, 0, true)
	}
}

func TestPacketsAheadOfAFault(t *testing.T) {
	var want []api.Packet
	for _, x := range samples() {
		want = append(want, x.p)
	}
	for _, f := range faults() {
		x := broken(samples(), f)
		s := New()
		holdFeed(t, s, x.b, want, f.err)
		holdState(t, s, 0, true)
		s = New()
		holdFeed(t, s, x.b[:1], nil, api.OK)
		holdFeed(t, s, x.b[1:], want, f.err)
		holdState(t, s, 0, true)
	}
}

func TestTheDeadStayDead(t *testing.T) {
	for _, f := range faults() {
		s := New()
		holdFeed(t, s, "\xc0\x00"+f.b, []api.Packet{{Kind: api.Pingreq}}, f.err)
		for _, x := range samples() {
			holdFeed(t, s, x.b, nil, f.err)
			holdFeed(t, s, x.b[:1], nil, f.err)
			holdState(t, s, 0, true)
		}
		for _, other := range faults() { // the first error stays
			holdFeed(t, s, other.b, nil, f.err)
		}
		if l, err := s.Feed(nil); len(l) != 0 || err != f.err {
			t.Errorf("Feed of nothing behind %d: %v, %d", f.err, l, err)
		}
		holdState(t, s, 0, true)
	}
}

func TestStreamsApart(t *testing.T) {
	a, b, c := New(), New(), New()
	holdFeed(t, a, "\x62\x02\xff", nil, api.OK)
	holdFeed(t, b, "\xe0", nil, api.OK)
	holdFeed(t, c, "\x00", nil, api.ErrBytes)
	holdState(t, a, 3, false)
	holdState(t, b, 1, false)
	holdFeed(t, b, "\x00", []api.Packet{{Kind: api.Disconnect}}, api.OK)
	holdFeed(t, a, "\xff", []api.Packet{{Kind: api.Pubrel, Id: 65535}}, api.OK)
	holdState(t, New(), 0, false)
}

// P5.2

// parting tells the places, of a text of n bytes, whose bits are set.
func parting(n, bits int) []int {
	var at []int
	for i := 1; i < n; i++ {
		if bits>>(i-1)&1 == 1 {
			at = append(at, i)
		}
	}
	return at
}

func TestAllPartings(t *testing.T) {
	l := samples()
	short := []series{
		of([]sample{l[0], l[4], l[7]}, ""),
		of([]sample{l[6], l[0]}, "\x40\x02\x00"),
		of(nil, "\x82\x0c\x00\x0a\x00\x03a/#\x01\x00"),
		of([]sample{l[12], l[12], l[12], l[12], l[12]}, "\xe0"),
	}
	for _, f := range faults() {
		if len(f.b) < 6 {
			short = append(short, broken([]sample{l[0]}, f), broken(nil, f))
		}
	}
	for _, x := range short {
		for bits := range 1 << (len(x.b) - 1) {
			hold(t, x, parting(len(x.b), bits))
		}
	}
}

func TestPartingsInTwoAndThree(t *testing.T) {
	all := []series{of(samples(), ""), of(samples(), "\x10\x0e\x00\x04MQ"), of([]sample{long(130)}, "")}
	for _, f := range faults() {
		all = append(all, broken(samples()[9:], f))
	}
	for _, x := range all {
		for i := 0; i <= len(x.b); i++ {
			for j := i; j <= len(x.b); j++ {
				hold(t, x, []int{i, j})
			}
		}
	}
}

func TestByteByByte(t *testing.T) {
	big := []sample{long(api.MaxPacket), long(api.MaxPacket - 1)}
	all := []series{of(append(samples(), big...), "\x62"), of(big, big[0].b[:api.MaxPacket])}
	for _, f := range faults() {
		all = append(all, broken(append(samples(), long(128)), f))
	}
	for _, x := range all {
		var each []int
		for i := 1; i < len(x.b); i++ {
			each = append(each, i)
		}
		hold(t, x, each)
	}
}

// someSeries tells packets by chance, and what stands behind them.
func someSeries(r *rand.Rand) series {
	var x series
	for l := samples(); r.Intn(12) > 0; {
		if r.Intn(6) == 0 {
			x.add(long(128 + r.Intn(api.MaxPacket-127)))
		} else {
			x.add(l[r.Intn(len(l))])
		}
	}
	switch l := append(samples(), long(api.MaxPacket)); r.Intn(3) {
	case 0:
		x.fail(faults()[r.Intn(len(faults()))])
	case 1:
		rest := l[r.Intn(len(l))].b
		x.b += rest[:r.Intn(len(rest))]
	}
	return x
}

func TestSomePartings(t *testing.T) {
	r := rand.New(rand.NewSource(5))
	for range 150 {
		x := someSeries(r)
		for _, most := range []int{2, 40, 9000} {
			var at []int
			for n := r.Intn(most); n < len(x.b); n += r.Intn(most) {
				at = append(at, n)
			}
			hold(t, x, at)
		}
	}
}

// TestSomeBytes: bytes that are broken anywhere come to the same, too.
func TestSomeBytes(t *testing.T) {
	r := rand.New(rand.NewSource(52))
	l := samples()
	for range 20000 {
		b := []byte(l[r.Intn(len(l))].b + l[r.Intn(len(l))].b)
		for range r.Intn(3) {
			b[r.Intn(len(b))] = byte(r.Intn(256))
		}
		whole := New()
		want, wantErr := whole.Feed(b)
		s := New()
		var got []api.Packet
		var err api.Errno
		for len(b) > 0 {
			n := 1 + r.Intn(min(len(b), 9))
			var more []api.Packet
			more, err = s.Feed(b[:n])
			got, b = append(got, more...), b[n:]
		}
		if err != wantErr || !slices.EqualFunc(got, want, wire.Same) {
			t.Fatalf("parted: %+v, %d, at once: %+v, %d", got, err, want, wantErr)
		}
		holdState(t, s, whole.Left(), whole.Dead())
	}
}

// What holds everywhere.

func TestWhatIsHandedInStays(t *testing.T) {
	for _, x := range []string{"\xc0\x00\x62\x02\xff", "\xc0\x00", "\x62", "\xc0\x00\x00", ""} {
		room := []byte(x + "spare")
		s := New()
		s.Feed(room[:len(x)])
		s.Feed([]byte("\x62\x02\xff\xff"))
		if string(room) != x+"spare" {
			t.Errorf("Feed of %q changed what it was given to %q", x, room)
		}
	}
}

func TestWhatIsHandedInIsNotKept(t *testing.T) {
	for _, x := range samples() {
		for n := range x.b {
			s := New()
			room := []byte("\xc0\x00" + x.b[:n])
			s.Feed(room)
			blot(room)
			room = append(room[:0], x.b[n:]...)
			l, err := s.Feed(room)
			blot(room)
			if err != api.OK || len(l) != 1 || !wire.Same(l[0], x.p) {
				t.Errorf("%q parted at %d hangs on what was handed in: %+v, %d", x.b, n, l, err)
			}
		}
	}
}

// blot writes over b, and the spare room behind it.
func blot(b []byte) {
	b = b[:cap(b)]
	for i := range b {
		b[i] = '!'
	}
}

func TestAnswersAreNew(t *testing.T) {
	for _, x := range samples() {
		s := New()
		all := []byte(x.b + x.b + x.b[:1])
		l, _ := s.Feed(all)
		for _, b := range [][]byte{l[0].Payload, l[0].Pass, l[0].Will.Payload} {
			blot(b)
		}
		for i := range l[0].Subs {
			l[0].Subs[:cap(l[0].Subs)][i] = api.Sub{Filter: "!", Qos: 9}
		}
		for i := range l[0].Codes {
			l[0].Codes[:cap(l[0].Codes)][i] = 9
		}
		if !wire.Same(l[1], x.p) || string(all) != x.b+x.b+x.b[:1] {
			t.Errorf("%q: an answer hangs on another one, or on what was handed in", x.b)
		}
		blotPackets(l)
		holdFeed(t, s, x.b[1:]+"\xe0\x00", []api.Packet{x.p, {Kind: api.Disconnect}}, api.OK)
	}
}

func blotPackets(l []api.Packet) {
	l = l[:cap(l)]
	for i := range l {
		l[i] = api.Packet{Kind: api.Pingresp, Topic: "!"}
	}
}

// TestNoMoreIsKept: of much that is read only the room for what is left stays.
func TestNoMoreIsKept(t *testing.T) {
	much := bytes.Repeat([]byte("\xc0\x00"), 1<<14)
	for _, x := range []struct {
		rest string
		most int
	}{{"", 0}, {"\x62\x02", 64}, {"\x00", 0}} {
		s := New()
		s.Feed(append(slices.Clone(much), x.rest...))
		if cap(s.left) > x.most {
			t.Errorf("%d bytes left keep room for %d", s.Left(), cap(s.left))
		}
	}
}

func TestTheSameAgain(t *testing.T) {
	r := rand.New(rand.NewSource(40))
	for range 50 {
		x := someSeries(r)
		a, b := New(), New()
		la, ea := a.Feed([]byte(x.b))
		lb, eb := b.Feed([]byte(x.b))
		if ea != eb || !slices.EqualFunc(la, lb, wire.Same) || a.Left() != b.Left() || a.Dead() != b.Dead() {
			t.Fatalf("%.99q: %d packets, %d, then %d packets, %d", x.b, len(la), ea, len(lb), eb)
		}
	}
}
