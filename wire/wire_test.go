package wire

import (
	"bytes"
	"math"
	"math/rand"
	"slices"
	"strings"
	"testing"
	"unicode/utf8"

	"hubbub/api"
)

// sample: a packet with its bytes, written out by hand from MQTT 3.1.1, chapter 3.
type sample struct {
	p api.Packet
	b string
}

func samples() []sample {
	return append(connectSamples(), otherSamples()...)
}

func connectSamples() []sample {
	return []sample{
		{api.Packet{Kind: api.Connect}, "\x10\x0c\x00\x04MQTT\x00\x00\x00\x00\x00\x00"},
		{api.Packet{Kind: api.Connect, Level: 4, Clean: true, Keep: 0x1234, Client: "ab"},
			"\x10\x0e\x00\x04MQTT\x04\x02\x12\x34\x00\x02ab"},
		{api.Packet{Kind: api.Connect, Level: 255, Keep: 65535, Client: "\u00e9"},
			"\x10\x0e\x00\x04MQTT\xff\x00\xff\xff\x00\x02\xc3\xa9"},
		{api.Packet{Kind: api.Connect, Level: 4, HasWill: true},
			"\x10\x10\x00\x04MQTT\x04\x04\x00\x00\x00\x00\x00\x00\x00\x00"},
		{api.Packet{Kind: api.Connect, Level: 4, HasWill: true, Will: api.Will{Topic: "w", Payload: []byte{0, 255}, Qos: 1}},
			"\x10\x13\x00\x04MQTT\x04\x0c\x00\x00\x00\x00\x00\x01w\x00\x02\x00\xff"},
		{api.Packet{Kind: api.Connect, Level: 4, HasWill: true, Will: api.Will{Topic: "w", Qos: 2, Retain: true}},
			"\x10\x11\x00\x04MQTT\x04\x34\x00\x00\x00\x00\x00\x01w\x00\x00"},
		{api.Packet{Kind: api.Connect, Level: 4, HasUser: true, User: "me"},
			"\x10\x10\x00\x04MQTT\x04\x80\x00\x00\x00\x00\x00\x02me"},
		{api.Packet{Kind: api.Connect, Level: 4, HasUser: true, HasPass: true, Pass: []byte{0xff}},
			"\x10\x11\x00\x04MQTT\x04\xc0\x00\x00\x00\x00\x00\x00\x00\x01\xff"},
		{api.Packet{Kind: api.Connect, Level: 4, Clean: true, Keep: 1, Client: "c", HasWill: true,
			Will:    api.Will{Topic: "t", Payload: []byte("p"), Qos: 2, Retain: true},
			HasUser: true, HasPass: true, User: "u", Pass: []byte("s")},
			"\x10\x19\x00\x04MQTT\x04\xf6\x00\x01\x00\x01c\x00\x01t\x00\x01p\x00\x01u\x00\x01s"},
	}
}

func otherSamples() []sample {
	return []sample{
		{api.Packet{Kind: api.Connack}, "\x20\x02\x00\x00"},
		{api.Packet{Kind: api.Connack, Present: true}, "\x20\x02\x01\x00"},
		{api.Packet{Kind: api.Connack, Code: 5}, "\x20\x02\x00\x05"},
		{api.Packet{Kind: api.Publish}, "\x30\x02\x00\x00"},
		{api.Packet{Kind: api.Publish, Topic: "a/b", Payload: []byte("\x00hi")}, "\x30\x08\x00\x03a/b\x00hi"},
		{api.Packet{Kind: api.Publish, Topic: "#", Retain: true}, "\x31\x03\x00\x01#"},
		{api.Packet{Kind: api.Publish, Topic: "a", Qos: 1, Id: 1}, "\x32\x05\x00\x01a\x00\x01"},
		{api.Packet{Kind: api.Publish, Topic: "a", Qos: 1, Id: 0x0102, Dup: true, Retain: true, Payload: []byte("xy")},
			"\x3b\x07\x00\x01a\x01\x02xy"},
		{api.Packet{Kind: api.Publish, Topic: "a", Qos: 2, Id: 65535}, "\x34\x05\x00\x01a\xff\xff"},
		{api.Packet{Kind: api.Publish, Topic: "a", Qos: 2, Id: 256, Dup: true}, "\x3c\x05\x00\x01a\x01\x00"},
		{api.Packet{Kind: api.Puback, Id: 1}, "\x40\x02\x00\x01"},
		{api.Packet{Kind: api.Pubrec, Id: 0x1234}, "\x50\x02\x12\x34"},
		{api.Packet{Kind: api.Pubrel, Id: 65535}, "\x62\x02\xff\xff"},
		{api.Packet{Kind: api.Pubcomp, Id: 256}, "\x70\x02\x01\x00"},
		{api.Packet{Kind: api.Subscribe, Id: 10, Subs: []api.Sub{{Filter: "a/+", Qos: 1}}}, "\x82\x08\x00\x0a\x00\x03a/+\x01"},
		{api.Packet{Kind: api.Subscribe, Id: 10, Subs: []api.Sub{{}, {Filter: "b", Qos: 2}, {Filter: "b"}}},
			"\x82\x0d\x00\x0a\x00\x00\x00\x00\x01b\x02\x00\x01b\x00"},
		{api.Packet{Kind: api.Suback, Id: 10, Codes: []int{0, 1, 2, 128}}, "\x90\x06\x00\x0a\x00\x01\x02\x80"},
		{api.Packet{Kind: api.Suback, Id: 1, Codes: []int{128}}, "\x90\x03\x00\x01\x80"},
		{api.Packet{Kind: api.Unsubscribe, Id: 0x0a0b, Subs: []api.Sub{{Filter: "a"}, {}, {Filter: "#"}}},
			"\xa2\x0a\x0a\x0b\x00\x01a\x00\x00\x00\x01#"},
		{api.Packet{Kind: api.Unsuback, Id: 3}, "\xb0\x02\x00\x03"},
		{api.Packet{Kind: api.Pingreq}, "\xc0\x00"},
		{api.Packet{Kind: api.Pingresp}, "\xd0\x00"},
		{api.Packet{Kind: api.Disconnect}, "\xe0\x00"},
	}
}

// zero: is p a packet of which nothing is told?
func zero(p api.Packet) bool {
	return Same(p, api.Packet{})
}

// cloned tells a packet that shares nothing with p.
func cloned(p api.Packet) api.Packet {
	p.Payload = bytes.Clone(p.Payload)
	p.Will.Payload = bytes.Clone(p.Will.Payload)
	p.Pass = bytes.Clone(p.Pass)
	p.Subs = slices.Clone(p.Subs)
	p.Codes = slices.Clone(p.Codes)
	return p
}

// holdRight tells whether Right and Put take p, as wanted.
func holdRight(t *testing.T, p api.Packet, want bool) {
	t.Helper()
	if got := Right(p); got != want {
		t.Errorf("Right %+v: %v", p, got)
	}
	b, err := Put(p)
	if want && err != api.OK || !want && (err != api.ErrKind || len(b) != 0) {
		t.Errorf("Put %+v: %x, %d", p, b, err)
	}
}

// holdError tells whether Read refuses b as wanted, with nothing beside the error.
func holdError(t *testing.T, b []byte, want api.Errno) {
	t.Helper()
	if p, n, err := Read(b); err != want || n != 0 || !zero(p) {
		t.Errorf("Read %x: %+v, %d, %d, not %d", b, p, n, err, want)
	}
}

func long(n int) string { return strings.Repeat("x", n) }

// P3.1

func TestPutAndReadSamples(t *testing.T) {
	for _, s := range samples() {
		if !Right(s.p) {
			t.Errorf("Right %+v", s.p)
		}
		if b, err := Put(s.p); err != api.OK || string(b) != s.b {
			t.Errorf("Put %+v: %x, %d, not %x", s.p, b, err, s.b)
		}
		for _, tail := range []string{"", "\xc0", "\x00\x00\x00", "\xff"} {
			if p, n, err := Read([]byte(s.b + tail)); err != api.OK || n != len(s.b) || !Same(p, s.p) {
				t.Errorf("Read %x: %+v, %d, %d", s.b+tail, p, n, err)
			}
		}
	}
}

func TestNumbersThatMayStand(t *testing.T) {
	for n := 0; n < 65536; n++ {
		c := api.Packet{Kind: api.Connect, Level: n % 256, Keep: n}
		if b, err := Put(c); err != api.OK || int(b[8]) != n%256 || int(b[10]) != n/256 || int(b[11]) != n%256 {
			t.Fatalf("Put %+v: %x, %d", c, b, err)
		}
		a := api.Packet{Kind: api.Puback, Id: n}
		if Right(a) != (n > 0) {
			t.Fatalf("Right %+v", a)
		}
		if n == 0 {
			continue
		}
		if b, err := Put(a); err != api.OK || int(b[2]) != n/256 || int(b[3]) != n%256 {
			t.Fatalf("Put %+v: %x, %d", a, b, err)
		}
	}
}

func TestLengthsOfMoreBytes(t *testing.T) {
	for _, x := range []struct {
		n    int
		head string
	}{
		{127, "\x30\x7f\x00\x01a"},
		{128, "\x30\x80\x01\x00\x01a"},
		{8192, "\x30\x80\x40\x00\x01a"},
	} {
		p := api.Packet{Kind: api.Publish, Topic: "a", Payload: []byte(long(x.n - 3))}
		if b, err := Put(p); err != api.OK || string(b) != x.head+long(x.n-3) {
			t.Errorf("Put of %d: %d", x.n, err)
		}
		if q, n, err := Read([]byte(x.head + long(x.n-3))); err != api.OK || n != x.n+len(x.head)-3 || !Same(p, q) {
			t.Errorf("Read of %d: %d, %d", x.n, n, err)
		}
	}
	p := api.Packet{Kind: api.Connect, Client: long(0x0102)}
	if b, err := Put(p); err != api.OK || b[13] != 1 || b[14] != 2 {
		t.Errorf("Put of a long text: %d", err)
	}
}

// P3.2

// change: a packet's field is set to what isn't zero.
type change struct {
	name  string
	set   func(p *api.Packet)
	kinds []int // by which it may be written
}

func changes() []change {
	ids := []int{api.Puback, api.Pubrec, api.Pubrel, api.Pubcomp, api.Subscribe, api.Suback, api.Unsubscribe, api.Unsuback}
	return []change{
		{"Dup", func(p *api.Packet) { p.Dup = true }, nil},
		{"Retain", func(p *api.Packet) { p.Retain = true }, []int{api.Publish}},
		{"Qos", func(p *api.Packet) { p.Qos = 1 }, nil},
		{"Qos, Id", func(p *api.Packet) { p.Qos, p.Id = 1, 1 }, []int{api.Publish}},
		{"Dup, Qos, Id", func(p *api.Packet) { p.Dup, p.Qos, p.Id = true, 2, 1 }, []int{api.Publish}},
		{"Id", func(p *api.Packet) { p.Id = 1 }, ids},
		{"Topic", func(p *api.Packet) { p.Topic = "a" }, []int{api.Publish}},
		{"Payload", func(p *api.Packet) { p.Payload = []byte{0} }, []int{api.Publish}},
		{"Level", func(p *api.Packet) { p.Level = 1 }, []int{api.Connect}},
		{"Client", func(p *api.Packet) { p.Client = "a" }, []int{api.Connect}},
		{"Clean", func(p *api.Packet) { p.Clean = true }, []int{api.Connect}},
		{"Keep", func(p *api.Packet) { p.Keep = 1 }, []int{api.Connect}},
		{"HasWill", func(p *api.Packet) { p.HasWill = true }, []int{api.Connect}},
		{"Will.Topic", func(p *api.Packet) { p.Will.Topic = "a" }, nil},
		{"Will.Payload", func(p *api.Packet) { p.Will.Payload = []byte{0} }, nil},
		{"Will.Qos", func(p *api.Packet) { p.Will.Qos = 1 }, nil},
		{"Will.Retain", func(p *api.Packet) { p.Will.Retain = true }, nil},
		{"HasWill, Will", func(p *api.Packet) {
			p.HasWill, p.Will = true, api.Will{Topic: "a", Payload: []byte{0}, Qos: 1, Retain: true}
		}, []int{api.Connect}},
		{"HasUser", func(p *api.Packet) { p.HasUser = true }, []int{api.Connect}},
		{"HasPass", func(p *api.Packet) { p.HasPass = true }, nil},
		{"HasUser, HasPass", func(p *api.Packet) { p.HasUser, p.HasPass = true, true }, []int{api.Connect}},
		{"User", func(p *api.Packet) { p.User = "a" }, nil},
		{"HasUser, User", func(p *api.Packet) { p.HasUser, p.User = true, "a" }, []int{api.Connect}},
		{"Pass", func(p *api.Packet) { p.Pass = []byte{0} }, nil},
		{"HasUser, Pass", func(p *api.Packet) { p.HasUser, p.Pass = true, []byte{0} }, nil},
		{"HasUser, HasPass, Pass", func(p *api.Packet) { p.HasUser, p.HasPass, p.Pass = true, true, []byte{0} }, []int{api.Connect}},
		{"Present", func(p *api.Packet) { p.Present = true }, []int{api.Connack}},
		{"Code", func(p *api.Packet) { p.Code = 1 }, []int{api.Connack}},
		{"Present, Code", func(p *api.Packet) { p.Present, p.Code = true, 1 }, nil},
		{"Subs", func(p *api.Packet) { p.Subs = []api.Sub{{}} }, []int{api.Subscribe, api.Unsubscribe}},
		{"Subs' Filter", func(p *api.Packet) { p.Subs = []api.Sub{{Filter: "a"}} }, []int{api.Subscribe, api.Unsubscribe}},
		{"Subs' Qos", func(p *api.Packet) { p.Subs = []api.Sub{{}, {Qos: 1}} }, []int{api.Subscribe}},
		{"Codes", func(p *api.Packet) { p.Codes = []int{0} }, []int{api.Suback}},
	}
}

// least tells a packet of that kind that is Right and has as little as may be.
func least(kind int) api.Packet {
	p := api.Packet{Kind: kind}
	switch kind {
	case api.Subscribe, api.Unsubscribe:
		p.Id, p.Subs = 7, []api.Sub{{}}
	case api.Suback:
		p.Id, p.Codes = 7, []int{0}
	case api.Puback, api.Pubrec, api.Pubrel, api.Pubcomp, api.Unsuback:
		p.Id = 7
	}
	return p
}

func TestFieldsThatAKindDoesNotWrite(t *testing.T) {
	for kind := api.Connect; kind <= api.Disconnect; kind++ {
		holdRight(t, least(kind), true)
		for _, c := range changes() {
			p := least(kind)
			c.set(&p)
			if want := slices.Contains(c.kinds, kind); Right(p) != want {
				t.Errorf("Right of kind %d with %s: %v", kind, c.name, !want)
			}
			holdRight(t, p, slices.Contains(c.kinds, kind))
		}
	}
}

func TestKindsThatAreNone(t *testing.T) {
	for _, kind := range []int{math.MinInt, -1, 0, 15, 16, 17, 19, 256 + api.Pingreq, 1<<32 + api.Pingreq, math.MaxInt} {
		holdRight(t, api.Packet{Kind: kind}, false)
	}
}

func TestNumbersThatMayNotStand(t *testing.T) {
	wrong := []int{math.MinInt, -65535, -256, -255, -128, -1, 1 << 16, 1<<16 + 1, 1 << 32, 1<<32 + 1, math.MaxInt}
	for _, n := range append(wrong, 3, 4, 5, 255, 256) {
		holdRight(t, api.Packet{Kind: api.Publish, Qos: n, Id: 1}, false)
		holdRight(t, api.Packet{Kind: api.Connect, HasWill: true, Will: api.Will{Qos: n}}, false)
		holdRight(t, api.Packet{Kind: api.Subscribe, Id: 1, Subs: []api.Sub{{Qos: 2}, {Qos: n}}}, false)
		holdRight(t, api.Packet{Kind: api.Suback, Id: 1, Codes: []int{2, n}}, false)
	}
	for _, n := range append(wrong, 0) {
		holdRight(t, api.Packet{Kind: api.Publish, Qos: 1, Id: n}, false)
		holdRight(t, api.Packet{Kind: api.Publish, Qos: 2, Id: n}, false)
		for kind := api.Puback; kind <= api.Unsuback; kind++ {
			p := least(kind)
			p.Id = n
			holdRight(t, p, false)
		}
	}
	for _, n := range wrong {
		holdRight(t, api.Packet{Kind: api.Connect, Keep: n}, false)
		holdRight(t, api.Packet{Kind: api.Publish, Id: n}, false)
	}
	for _, n := range append(wrong, 256) {
		holdRight(t, api.Packet{Kind: api.Connect, Level: n}, false)
	}
	for _, n := range append(wrong, 6, 256) {
		holdRight(t, api.Packet{Kind: api.Connack, Code: n}, false)
	}
	for _, n := range []int{127, 129} {
		holdRight(t, api.Packet{Kind: api.Suback, Id: 1, Codes: []int{n, 128}}, false)
	}
}

func TestNumbersAtTheirEdges(t *testing.T) {
	for n := 0; n <= 2; n++ {
		holdRight(t, api.Packet{Kind: api.Publish, Qos: n, Id: min(n, 1)}, true)
		holdRight(t, api.Packet{Kind: api.Publish, Qos: n, Id: 65535 * min(n, 1)}, true)
		holdRight(t, api.Packet{Kind: api.Connect, HasWill: true, Will: api.Will{Qos: n}}, true)
		holdRight(t, api.Packet{Kind: api.Subscribe, Id: 1, Subs: []api.Sub{{Qos: n}}}, true)
		holdRight(t, api.Packet{Kind: api.Suback, Id: 1, Codes: []int{n, 128}}, true)
	}
	for n := 0; n <= 5; n++ {
		holdRight(t, api.Packet{Kind: api.Connack, Code: n}, true)
		holdRight(t, api.Packet{Kind: api.Connack, Code: n, Present: true}, n == 0)
	}
	for _, n := range []int{0, 255} {
		holdRight(t, api.Packet{Kind: api.Connect, Level: n}, true)
	}
	for _, n := range []int{0, 65535} {
		holdRight(t, api.Packet{Kind: api.Connect, Keep: n}, true)
	}
	for kind := api.Puback; kind <= api.Unsuback; kind++ {
		for _, n := range []int{1, 65535} {
			p := least(kind)
			p.Id = n
			holdRight(t, p, true)
		}
	}
}

func TestListsOfNone(t *testing.T) {
	holdRight(t, api.Packet{Kind: api.Subscribe, Id: 1}, false)
	holdRight(t, api.Packet{Kind: api.Subscribe, Id: 1, Subs: []api.Sub{}}, false)
	holdRight(t, api.Packet{Kind: api.Unsubscribe, Id: 1}, false)
	holdRight(t, api.Packet{Kind: api.Suback, Id: 1}, false)
	holdRight(t, api.Packet{Kind: api.Suback, Id: 1, Codes: []int{}}, false)
}

func TestTextsAndLumps(t *testing.T) {
	for _, s := range []string{"\x00", "a\x00", "\xff", "\xc0\x80", "\xed\xa0\x80", "\xe2\x82", "\xf4\x90\x80\x80"} {
		holdRight(t, api.Packet{Kind: api.Connect, Client: s}, false)
		holdRight(t, api.Packet{Kind: api.Connect, HasUser: true, User: s}, false)
		holdRight(t, api.Packet{Kind: api.Connect, HasWill: true, Will: api.Will{Topic: s}}, false)
		holdRight(t, api.Packet{Kind: api.Publish, Topic: s}, false)
		holdRight(t, api.Packet{Kind: api.Subscribe, Id: 1, Subs: []api.Sub{{Filter: "a"}, {Filter: s}}}, false)
		holdRight(t, api.Packet{Kind: api.Unsubscribe, Id: 1, Subs: []api.Sub{{Filter: s}, {Filter: "a"}}}, false)
		holdRight(t, api.Packet{Kind: api.Publish, Payload: []byte(s)}, true)
		holdRight(t, api.Packet{Kind: api.Connect, HasUser: true, HasPass: true, Pass: []byte(s)}, true)
		holdRight(t, api.Packet{Kind: api.Connect, HasWill: true, Will: api.Will{Payload: []byte(s)}}, true)
	}
	for _, s := range []string{"", "\x01", "a b", "\u20ac\U0001f600\ufffd", "+/#", "$SYS"} {
		holdRight(t, api.Packet{Kind: api.Publish, Topic: s}, true)
		holdRight(t, api.Packet{Kind: api.Connect, Client: s}, true)
		holdRight(t, api.Packet{Kind: api.Unsubscribe, Id: 1, Subs: []api.Sub{{Filter: s}}}, true)
	}
}

// full tells packets whose bytes behind the length are n.
func full(n int) []api.Packet {
	many := api.Packet{Kind: api.Unsubscribe, Id: 1, Subs: make([]api.Sub, (n-2)/2)}
	many.Subs[0].Filter = long(n % 2)
	return []api.Packet{
		{Kind: api.Connect, Client: long(n - 12)},
		{Kind: api.Connect, HasUser: true, User: long(n - 14)},
		{Kind: api.Connect, HasUser: true, HasPass: true, Pass: []byte(long(n - 16))},
		{Kind: api.Connect, HasWill: true, Will: api.Will{Topic: long(n - 16)}},
		{Kind: api.Connect, HasWill: true, Will: api.Will{Payload: []byte(long(n - 16))}},
		{Kind: api.Publish, Topic: long(n - 2)},
		{Kind: api.Publish, Payload: []byte(long(n - 2))},
		{Kind: api.Publish, Qos: 1, Id: 1, Payload: []byte(long(n - 4))},
		{Kind: api.Subscribe, Id: 1, Subs: []api.Sub{{}, {Filter: long(n - 8)}}},
		{Kind: api.Unsubscribe, Id: 1, Subs: []api.Sub{{}, {Filter: long(n - 6)}}},
		many,
		{Kind: api.Suback, Id: 1, Codes: make([]int, n-2)},
	}
}

func TestBytesBehindTheLength(t *testing.T) {
	for _, n := range []int{api.MaxPacket - 1, api.MaxPacket} {
		for _, p := range full(n) {
			b, err := Put(p)
			if err != api.OK || !Right(p) || len(b) != n+3 {
				t.Errorf("Put of %d of kind %d: %d bytes, %d", n, p.Kind, len(b), err)
			}
			if q, size, err := Read(b); err != api.OK || size != n+3 || !Same(p, q) {
				t.Errorf("Read of %d of kind %d: %d, %d", n, p.Kind, size, err)
			}
		}
	}
	for _, n := range []int{api.MaxPacket + 1, 65535, 65536, 65537, 70000, 1 << 20} {
		for _, p := range full(n) {
			if b, err := Put(p); err != api.ErrKind || len(b) != 0 || Right(p) {
				t.Errorf("Put of %d of kind %d: %d bytes, %d", n, p.Kind, len(b), err)
			}
		}
	}
}

func TestWhatIsFarTooLong(t *testing.T) {
	text := long(1 << 20)
	subs := make([]api.Sub, 1<<16)
	for i := range subs {
		subs[i].Filter = text
	}
	holdTooLong := func(p api.Packet) {
		if b, err := Put(p); err != api.ErrKind || len(b) != 0 || Right(p) {
			t.Errorf("Put of kind %d: %d bytes, %d", p.Kind, len(b), err)
		}
	}
	holdTooLong(api.Packet{Kind: api.Subscribe, Id: 1, Subs: subs})
	holdTooLong(api.Packet{Kind: api.Unsubscribe, Id: 1, Subs: subs})
}

func TestSame(t *testing.T) {
	for _, s := range samples() {
		if !Same(s.p, cloned(s.p)) {
			t.Errorf("Same %+v", s.p)
		}
	}
	one := api.Packet{
		Kind: 20, Dup: true, Retain: true, Qos: -1, Id: -2, Topic: "t", Payload: []byte("p"),
		Level: -3, Client: "c", Clean: true, Keep: -4, HasWill: true,
		Will:    api.Will{Topic: "wt", Payload: []byte("wp"), Qos: -5, Retain: true},
		HasUser: true, HasPass: true, User: "u", Pass: []byte("s"), Present: true, Code: -6,
		Subs: []api.Sub{{Filter: "a", Qos: -7}, {Filter: "b"}}, Codes: []int{-8, -9},
	}
	if !Same(one, cloned(one)) {
		t.Errorf("Same %+v", one)
	}
	for i, alter := range alterations() {
		other := cloned(one)
		alter(&other)
		if Same(one, other) || Same(other, one) {
			t.Errorf("Same of alteration %d", i)
		}
		if !Same(other, other) {
			t.Errorf("Same of alteration %d and itself", i)
		}
	}
}

// alterations: each makes another packet, by one field of it.
func alterations() []func(p *api.Packet) {
	return []func(p *api.Packet){
		func(p *api.Packet) { p.Kind++ },
		func(p *api.Packet) { p.Dup = false },
		func(p *api.Packet) { p.Retain = false },
		func(p *api.Packet) { p.Qos++ },
		func(p *api.Packet) { p.Id++ },
		func(p *api.Packet) { p.Topic = "T" },
		func(p *api.Packet) { p.Payload[0]++ },
		func(p *api.Packet) { p.Payload = append(p.Payload, 0) },
		func(p *api.Packet) { p.Payload = nil },
		func(p *api.Packet) { p.Level++ },
		func(p *api.Packet) { p.Client = "C" },
		func(p *api.Packet) { p.Clean = false },
		func(p *api.Packet) { p.Keep++ },
		func(p *api.Packet) { p.HasWill = false },
		func(p *api.Packet) { p.Will.Topic = "WT" },
		func(p *api.Packet) { p.Will.Payload[1]++ },
		func(p *api.Packet) { p.Will.Payload = p.Will.Payload[:1] },
		func(p *api.Packet) { p.Will.Qos++ },
		func(p *api.Packet) { p.Will.Retain = false },
		func(p *api.Packet) { p.HasUser = false },
		func(p *api.Packet) { p.HasPass = false },
		func(p *api.Packet) { p.User = "U" },
		func(p *api.Packet) { p.Pass[0]++ },
		func(p *api.Packet) { p.Pass = nil },
		func(p *api.Packet) { p.Present = false },
		func(p *api.Packet) { p.Code++ },
		func(p *api.Packet) { p.Subs[1].Filter = "B" },
		func(p *api.Packet) { p.Subs[0].Qos++ },
		func(p *api.Packet) { p.Subs = p.Subs[:1] },
		func(p *api.Packet) { slices.Reverse(p.Subs) },
		func(p *api.Packet) { p.Codes[1]++ },
		func(p *api.Packet) { p.Codes = p.Codes[:1] },
		func(p *api.Packet) { slices.Reverse(p.Codes) },
	}
}

func TestNilListsAreEmptyOnes(t *testing.T) {
	empty := api.Packet{Payload: []byte{}, Will: api.Will{Payload: []byte{}}, Pass: []byte{}, Subs: []api.Sub{}, Codes: []int{}}
	if !Same(empty, api.Packet{}) || !Same(api.Packet{}, empty) {
		t.Errorf("Same of nil and empty lists")
	}
	for kind := api.Connect; kind <= api.Disconnect; kind++ {
		p := least(kind)
		p.Payload, p.Pass, p.Will.Payload = []byte{}, []byte{}, []byte{}
		if p.Subs == nil {
			p.Subs = []api.Sub{}
		}
		if p.Codes == nil {
			p.Codes = []int{}
		}
		holdRight(t, p, true)
	}
}

// P3.3

func TestErrorsAreTheTables(t *testing.T) {
	if api.ErrKind != 26 || api.ErrBytes != 21 || api.ErrLong != 22 || api.ErrShort != 20 {
		t.Errorf("%d, %d, %d, %d", api.ErrKind, api.ErrBytes, api.ErrLong, api.ErrShort)
	}
}

func TestErrorsInTheirOrder(t *testing.T) {
	for _, x := range []struct {
		b    string
		want api.Errno
	}{
		{"", api.ErrShort},
		{"\x00", api.ErrBytes},
		{"\xf0\x00", api.ErrBytes},
		{"\xc1", api.ErrBytes},                                  // ahead of ErrShort
		{"\x60\xff\xff\xff\xff", api.ErrBytes},                  // ahead of all that the length tells
		{"\xc0", api.ErrShort},                                  // no length
		{"\xc0\x80", api.ErrShort},                              // half a length
		{"\xc0\xff\xff\xff", api.ErrShort},                      // three quarters
		{"\xc0\x80\x00", api.ErrBytes},                          // not the shortest form
		{"\xc0\xff\xff\xff\xff", api.ErrBytes},                  // five bytes
		{"\xc0\x80\x80\x80\x80\x01", api.ErrBytes},              // five bytes
		{"\x30\x81\x40", api.ErrLong},                           // 8193, ahead of ErrShort
		{"\xc0\x81\x40", api.ErrLong},                           // ahead of ErrBytes
		{"\xc0\xff\xff\xff\x7f", api.ErrLong},                   // the longest length
		{"\x30\x81\x40" + long(8193), api.ErrLong},              // all of it
		{"\x30\x80\x40", api.ErrShort},                          // 8192
		{"\x30\x80\x40" + long(8191), api.ErrShort},             // one byte less
		{"\x30\x02", api.ErrShort},                              // no body
		{"\x30\x02\x00", api.ErrShort},                          // half of it
		{"\xc0\x01", api.ErrShort},                              // ahead of ErrBytes
		{"\x40\x02\x00", api.ErrShort},                          // whatever comes is no Id
		{"\x30\x02\xff\xff", api.ErrBytes},                      // the text isn't there
		{"\x30\x04\x00\x03ab", api.ErrBytes},                    // a byte of it isn't
		{"\x30\x01\x00", api.ErrBytes},                          // half a text's length
		{"\x30\x00", api.ErrBytes},                              // no text
		{"\x30\x03\x00\x01\x00", api.ErrBytes},                  // a zero byte
		{"\x30\x03\x00\x01\xff", api.ErrBytes},                  // no text
		{"\x32\x05\x00\x01a\x00\x00", api.ErrBytes},             // Id 0
		{"\x32\x04\x00\x01a\x01", api.ErrBytes},                 // half an Id
		{"\x32\x03\x00\x01a", api.ErrBytes},                     // no Id
		{"\x40\x02\x00\x00", api.ErrBytes},                      // Id 0
		{"\x40\x03\x00\x01\x00", api.ErrBytes},                  // a byte too many
		{"\x40\x01\x01", api.ErrBytes},                          // one too few
		{"\x40\x00", api.ErrBytes},                              // none
		{"\xc0\x01\x00", api.ErrBytes},                          // a byte too many
		{"\xe0\x02\x00\x00", api.ErrBytes},                      // two
		{"\x20\x02\x02\x00", api.ErrBytes},                      // a flag that isn't
		{"\x20\x02\x01\x01", api.ErrBytes},                      // Present and a Code
		{"\x20\x02\x00\x06", api.ErrBytes},                      // a Code that isn't
		{"\x20\x01\x00", api.ErrBytes},                          // no Code
		{"\x82\x02\x00\x01", api.ErrBytes},                      // no Subs
		{"\x82\x05\x00\x01\x00\x00\x03", api.ErrBytes},          // a Qos that isn't
		{"\x82\x04\x00\x01\x00\x00", api.ErrBytes},              // no Qos
		{"\x82\x06\x00\x01\x00\x00\x00\x00", api.ErrBytes},      // a byte too many
		{"\x82\x05\x00\x00\x00\x00\x00", api.ErrBytes},          // Id 0
		{"\x82\x06\x00\x01\x00\x01\x00\x00", api.ErrBytes},      // a zero byte in a text
		{"\xa2\x02\x00\x01", api.ErrBytes},                      // no Subs
		{"\xa2\x05\x00\x01\x00\x02a", api.ErrBytes},             // a byte too few
		{"\x90\x02\x00\x01", api.ErrBytes},                      // no Codes
		{"\x90\x03\x00\x01\x03", api.ErrBytes},                  // a Code that isn't
		{"\x90\x04\x00\x01\x00\x81", api.ErrBytes},              // another
		{"\x90\x03\x00\x00\x00", api.ErrBytes},                  // Id 0
		{"\xb0\x02\x00\x00\xff", api.ErrBytes},                  // Id 0, and what comes behind
		{"\xa2\x07\x00\x01\x00\x01a\x00\xff\xff", api.ErrBytes}, // half a text at the end
	} {
		holdError(t, []byte(x.b), x.want)
	}
}

func TestConnectsThatAreNone(t *testing.T) {
	for _, body := range []string{
		"",
		"\x00\x04MQTT",
		"\x00\x04MQTT\x04\x00\x00\x00\x00",     // half of Client's length
		"\x00\x04MQTT\x04\x00\x00\x00\x00\x01", // no Client
		"\x00\x04MQTT\x04\x00\x00\x00\x00\x00\x00",                 // a byte too many
		"\x00\x04MQTt\x04\x00\x00\x00\x00\x00",                     // another name
		"\x00\x06MQIsdp\x03\x00\x00\x00\x00\x00",                   // that of MQTT 3.1
		"\x00\x03MQT\x04\x00\x00\x00\x00\x00",                      // a shorter one
		"\x00\x05MQTTT\x04\x00\x00\x00\x00\x00",                    // a longer one
		"\x00\x00\x04\x00\x00\x00\x00\x00",                         // none
		"\x00\x04MQTT\x04\x01\x00\x00\x00\x00",                     // the flag that isn't
		"\x00\x04MQTT\x04\x08\x00\x00\x00\x00",                     // a will's Qos, no will
		"\x00\x04MQTT\x04\x20\x00\x00\x00\x00",                     // a will's Retain, no will
		"\x00\x04MQTT\x04\x1c\x00\x00\x00\x00\x00\x00\x00\x00",     // a will's Qos of 3
		"\x00\x04MQTT\x04\x04\x00\x00\x00\x00",                     // a will that isn't there
		"\x00\x04MQTT\x04\x04\x00\x00\x00\x00\x00\x00",             // half of it
		"\x00\x04MQTT\x04\x00\x00\x00\x00\x00\x00\x00\x00\x00",     // one that isn't told
		"\x00\x04MQTT\x04\x40\x00\x00\x00\x00\x00\x00",             // a password, no user
		"\x00\x04MQTT\x04\x80\x00\x00\x00\x00",                     // a user that isn't there
		"\x00\x04MQTT\x04\x80\x00\x00\x00\x00\x00\x01\x00",         // a zero byte in User
		"\x00\x04MQTT\x04\xc0\x00\x00\x00\x00\x00\x00",             // no password
		"\x00\x04MQTT\x04\x00\x00\x00\x00\x01\xff",                 // a broken Client
		"\x00\x04MQTT\x04\x04\x00\x00\x00\x00\x00\x01\xff\x00\x00", // a broken topic
	} {
		holdError(t, []byte("\x10"+string(rune(len(body)))+body), api.ErrBytes)
	}
}

func TestFirstBytes(t *testing.T) {
	have := "\x10\x20\x30\x31\x32\x33\x34\x35\x3a\x3b\x3c\x3d\x40\x50\x62\x70\x82\x90\xa2\xb0\xc0\xd0\xe0"
	for c := 0; c < 256; c++ {
		want := api.ErrBytes
		if strings.IndexByte(have, byte(c)) >= 0 {
			want = api.ErrShort
		}
		holdError(t, []byte{byte(c)}, want)
	}
}

func TestReadOfBeginnings(t *testing.T) {
	l := samples()
	for _, p := range full(api.MaxPacket) {
		b, _ := Put(p)
		l = append(l, sample{p, string(b)})
	}
	for _, s := range l {
		for n := 0; n < len(s.b); n++ {
			// The spare room behind what is handed in holds the rest, which isn't there yet.
			holdError(t, []byte(s.b)[:n], api.ErrShort)
		}
	}
}

// cursor reads a body strictly, part by part.
type cursor struct {
	b  []byte
	ok bool
}

func (c *cursor) num(size int) int {
	if len(c.b) < size {
		c.ok, c.b = false, nil
		return 0
	}
	n := int(c.b[0])
	if size == 2 {
		n = n*256 + int(c.b[1])
	}
	c.b = c.b[size:]
	return n
}

func (c *cursor) lump() []byte {
	n := c.num(2)
	if len(c.b) < n {
		c.ok, c.b = false, nil
		return nil
	}
	l := c.b[:n]
	c.b = c.b[n:]
	return l
}

func (c *cursor) text() string {
	s := string(c.lump())
	c.ok = c.ok && utf8.ValidString(s) && !strings.Contains(s, "\x00")
	return s
}

func (c *cursor) must(ok bool) { c.ok = c.ok && ok }

func (c *cursor) id() int {
	n := c.num(2)
	c.must(n > 0)
	return n
}

// plainConnect reads a Connect's body, and refuses what mustn't stand in it.
func plainConnect(c *cursor) api.Packet {
	p := api.Packet{Kind: api.Connect}
	c.must(c.text() == "MQTT")
	p.Level = c.num(1)
	f := c.num(1)
	p.Keep = c.num(2)
	p.Client = c.text()
	c.must(f%2 == 0)
	p.Clean, p.HasWill, p.HasPass, p.HasUser = f>>1&1 == 1, f>>2&1 == 1, f>>6&1 == 1, f>>7 == 1
	if p.HasWill {
		p.Will = api.Will{Qos: f >> 3 & 3, Retain: f>>5&1 == 1}
		p.Will.Topic = c.text()
		p.Will.Payload = c.lump()
		c.must(p.Will.Qos < 3)
	} else {
		c.must(f&0x38 == 0)
	}
	c.must(p.HasUser || !p.HasPass)
	if p.HasUser {
		p.User = c.text()
	}
	if p.HasPass {
		p.Pass = c.lump()
	}
	return p
}

// plainBody reads a body strictly: is it of a packet with that first byte, which some packet has?
func plainBody(first byte, body []byte) (api.Packet, bool) {
	c := &cursor{body, true}
	p := api.Packet{Kind: int(first >> 4)}
	switch first >> 4 {
	case 1:
		p = plainConnect(c)
	case 2:
		n := c.num(1)
		p.Present, p.Code = n == 1, c.num(1)
		c.must(n < 2 && p.Code < 6 && (n == 0 || p.Code == 0))
	case 3:
		p.Dup, p.Qos, p.Retain = first&8 > 0, int(first>>1&3), first&1 > 0
		p.Topic = c.text()
		if p.Qos > 0 {
			p.Id = c.id()
		}
		p.Payload, c.b = c.b, nil
	case 4, 5, 6, 7, 11:
		p.Id = c.id()
	case 8, 10:
		p.Id = c.id()
		for c.ok && (len(c.b) > 0 || len(p.Subs) == 0) {
			s := api.Sub{Filter: c.text()}
			if first>>4 == 8 {
				s.Qos = c.num(1)
			}
			c.must(s.Qos < 3)
			p.Subs = append(p.Subs, s)
		}
	case 9:
		p.Id = c.id()
		for c.ok && (len(c.b) > 0 || len(p.Codes) == 0) {
			n := c.num(1)
			c.must(n < 3 || n == 128)
			p.Codes = append(p.Codes, n)
		}
	}
	return p, c.ok && len(c.b) == 0
}

// holdPlain tells whether Read finds in these bytes, a first one that some packet has and a body, what the strict reading does.
func holdPlain(t *testing.T, first byte, body []byte) {
	t.Helper()
	b := append([]byte{first, byte(len(body))}, body...)
	if len(body) > 127 {
		b = append([]byte{first, byte(len(body)%128 + 128), byte(len(body) / 128)}, body...)
	}
	want, ok := plainBody(first, body)
	if !ok {
		holdError(t, b, api.ErrBytes)
		return
	}
	p, n, err := Read(b)
	if err != api.OK || n != len(b) || !Same(p, want) {
		t.Fatalf("Read %x: %+v, %d, %d, not %+v", b, p, n, err, want)
	}
	if again, err := Put(p); err != api.OK || !bytes.Equal(again, b) {
		t.Fatalf("Put %+v: %x, %d, not %x", p, again, err, b)
	}
}

func TestReadOfAllShortBodies(t *testing.T) {
	some := []byte{0, 1, 2, 3, 5, 6, 0x7f, 0x80, 0xff}
	for _, first := range []byte("\x20\x30\x3d\x40\x62\x82\x90\xa2\xb0\xc0\xe0") {
		var add func(body []byte)
		add = func(body []byte) {
			holdPlain(t, first, body)
			if len(body) == 5 {
				return
			}
			for _, c := range some {
				add(append(body[:len(body):len(body)], c))
			}
		}
		add(nil)
	}
}

func TestReadOfChangedBodies(t *testing.T) {
	for _, s := range samples() {
		first, body := s.b[0], []byte(s.b[2:])
		for i := range body {
			kept := body[i]
			for c := 0; c < 256; c++ {
				body[i] = byte(c)
				holdPlain(t, first, body)
			}
			body[i] = kept
			holdPlain(t, first, body[:i])
			holdPlain(t, first, slices.Delete(slices.Clone(body), i, i+1))
			holdPlain(t, first, slices.Insert(slices.Clone(body), i, 0))
		}
		holdPlain(t, first, append(slices.Clone(body), 0))
		holdPlain(t, first, append(slices.Clone(body), body...))
	}
}

func TestReadOfChangedConnects(t *testing.T) {
	last := connectSamples()[8]
	body := []byte(last.b[2:])
	for flags := 0; flags < 256; flags++ {
		body[7] = byte(flags)
		for n := range body {
			holdPlain(t, 0x10, body[:n+1])
		}
	}
}

// P3.4

// someText tells a text of a few runes.
func someText(r *rand.Rand) string {
	l := make([]rune, r.Intn(6))
	for i := range l {
		l[i] = []rune{'a', '/', '#', 0x7f, 0xe9, 0x20ac, 0x1f600, 0xfffd, 1}[r.Intn(9)]
	}
	return string(l)
}

// someLump tells a few bytes.
func someLump(r *rand.Rand) []byte {
	b := make([]byte, r.Intn(200))
	r.Read(b)
	return b
}

// somePacket tells a packet that is Right.
func somePacket(r *rand.Rand) api.Packet {
	p := least(1 + r.Intn(14))
	if p.Id > 0 {
		p.Id = 1 + r.Intn(65535)
	}
	switch p.Kind {
	case api.Connect:
		p.Level, p.Keep, p.Client, p.Clean = r.Intn(256), r.Intn(65536), someText(r), r.Intn(2) == 0
		if p.HasWill = r.Intn(2) == 0; p.HasWill {
			p.Will = api.Will{Topic: someText(r), Payload: someLump(r), Qos: r.Intn(3), Retain: r.Intn(2) == 0}
		}
		if p.HasUser = r.Intn(2) == 0; p.HasUser {
			p.User = someText(r)
			if p.HasPass = r.Intn(2) == 0; p.HasPass {
				p.Pass = someLump(r)
			}
		}
	case api.Connack:
		p.Code = r.Intn(6)
		p.Present = p.Code == 0 && r.Intn(2) == 0
	case api.Publish:
		p.Qos, p.Retain, p.Topic, p.Payload = r.Intn(3), r.Intn(2) == 0, someText(r), someLump(r)
		if p.Qos > 0 {
			p.Dup, p.Id = r.Intn(2) == 0, 1+r.Intn(65535)
		}
	case api.Subscribe, api.Unsubscribe:
		for i := r.Intn(5); i > 0; i-- {
			s := api.Sub{Filter: someText(r)}
			if p.Kind == api.Subscribe {
				s.Qos = r.Intn(3)
			}
			p.Subs = append(p.Subs, s)
		}
	case api.Suback:
		for i := r.Intn(5); i > 0; i-- {
			p.Codes = append(p.Codes, []int{0, 1, 2, 128}[r.Intn(4)])
		}
	}
	return p
}

func TestThereAndBack(t *testing.T) {
	r := rand.New(rand.NewSource(3))
	forms := map[string]api.Packet{}
	for range 20000 {
		p := somePacket(r)
		b, err := Put(p)
		if err != api.OK {
			t.Fatalf("Put %+v: %d", p, err)
		}
		if q, n, err := Read(append(slices.Clone(b), someLump(r)...)); err != api.OK || n != len(b) || !Same(p, q) {
			t.Fatalf("Read %x: %+v, %d, %d, not %+v", b, q, n, err, p)
		}
		if q, ok := forms[string(b)]; ok && !Same(p, q) {
			t.Fatalf("Put of %+v and of %+v: %x", p, q, b)
		}
		forms[string(b)] = p
	}
}

func TestWhatIsHandedInStays(t *testing.T) {
	for _, s := range samples() {
		p := cloned(s.p)
		p.Payload = append(p.Payload, "spare"...)[:len(p.Payload)]
		p.Subs = append(p.Subs, api.Sub{Filter: "spare"})[:len(p.Subs)]
		p.Codes = append(p.Codes, 77)[:len(p.Codes)]
		Put(p)
		Right(p)
		Same(p, p)
		if !Same(p, s.p) || string(p.Payload[:len(p.Payload)+5][len(p.Payload):]) != "spare" ||
			p.Subs[:len(p.Subs)+1][len(p.Subs)].Filter != "spare" || p.Codes[:len(p.Codes)+1][len(p.Codes)] != 77 {
			t.Errorf("Put changed %+v to %+v", s.p, p)
		}
		b := []byte(s.b + "\xc0\x00")
		Read(b[:len(s.b)])
		if string(b) != s.b+"\xc0\x00" {
			t.Errorf("Read changed %x to %x", s.b, b)
		}
	}
}

// blot writes over all bytes and items of p, the spare room behind them included.
func blot(p api.Packet) {
	for _, b := range [][]byte{p.Payload, p.Pass, p.Will.Payload} {
		b = b[:cap(b)]
		for i := range b {
			b[i] = '!'
		}
	}
	for i := range p.Subs {
		p.Subs[i] = api.Sub{Filter: "!", Qos: 9}
	}
	for i := range p.Codes {
		p.Codes[i] = 9
	}
}

func TestAnswersAreNew(t *testing.T) {
	for _, s := range samples() {
		room := []byte(s.b)
		p, _, _ := Read(room)
		for i := range room {
			room[i] = '!'
		}
		if !Same(p, s.p) {
			t.Errorf("Read shares its answer: %+v, not %+v", p, s.p)
		}
		room = []byte(s.b)
		p, _, _ = Read(room)
		blot(p)
		if string(room) != s.b {
			t.Errorf("Read of %x shares its answer", s.b)
		}
		p = cloned(s.p)
		b, _ := Put(p)
		blot(p)
		if string(b) != s.b {
			t.Errorf("Put shares its answer: %x, not %x", b, s.b)
		}
	}
	last := connectSamples()[8]
	p, _, _ := Read([]byte(last.b))
	_ = append(p.Will.Payload, "????????"...)
	if !Same(p, last.p) {
		t.Errorf("two lists of an answer share memory: %+v", p)
	}
}
