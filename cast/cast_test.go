package cast

import (
	"errors"
	"fmt"
	"math"
	"reflect"
	"runtime"
	"slices"
	"strings"
	"testing"
	"unsafe"

	"hubbub/api"
	"hubbub/wire"
)

// form: what chapter 4 says of the kinds that are cast alike.
type form struct {
	name  string
	hasId bool
	kinds []int
	wrap  func(p api.Packet) any
}

// forms tells the forms in the order in which Count tells them.
func forms() []form {
	return []form{
		{"greeting", false, []int{1, 2}, func(p api.Packet) any { return api.Greeting{P: p} }},
		{"message", true, []int{3}, func(p api.Packet) any { return api.Message{P: p} }},
		{"ack", true, []int{4, 5, 6, 7, 9, 11}, func(p api.Packet) any { return api.Ack{P: p} }},
		{"ask", true, []int{8, 10}, func(p api.Packet) any { return api.Ask{P: p} }},
		{"signal", false, []int{12, 13, 14}, func(p api.Packet) any { return api.Signal{P: p} }},
	}
}

// kindsOfNone tells numbers that are no kind, some of which end as a kind does.
func kindsOfNone() []int {
	return []int{math.MinInt, -256 + api.Publish, -3, -1, 0, 15, 16, 16 * api.Publish, 256 + api.Publish, 1<<32 + api.Publish, math.MaxInt}
}

// full tells a packet of that kind of which each other field isn't zero.
func full(kind int) api.Packet {
	return api.Packet{
		Kind: kind, Dup: true, Retain: true, Qos: 2, Id: 0x0102, Topic: "topic", Payload: []byte("payload"),
		Level: 4, Client: "client", Clean: true, Keep: 5, HasWill: true,
		Will:    api.Will{Topic: "will", Payload: []byte("last"), Qos: 1, Retain: true},
		HasUser: true, HasPass: true, User: "user", Pass: []byte("pass"), Present: true, Code: 3,
		Subs: []api.Sub{{Filter: "a/#", Qos: 1}, {Filter: "b", Qos: 2}}, Codes: []int{0, 128},
	}
}

func TestFullIsFull(t *testing.T) {
	v := reflect.ValueOf(full(api.Connect))
	for i := 0; i < v.NumField(); i++ {
		if v.Field(i).IsZero() {
			t.Errorf("%s is zero", v.Type().Field(i).Name)
		}
	}
}

// packets tells packets of that kind: with nothing, all, and out-of-range numbers.
func packets(kind int) []api.Packet {
	return []api.Packet{
		{Kind: kind},
		full(kind),
		{Kind: kind, Payload: []byte{}, Pass: []byte{}, Subs: []api.Sub{}, Codes: []int{}},
		{Kind: kind, Id: math.MinInt, Qos: -1, Topic: "\xff\x00", Codes: []int{math.MaxInt}},
		{Kind: kind, Id: math.MaxInt, Level: -1, Keep: 1 << 20, Subs: []api.Sub{{}}},
	}
}

type (
	ownMessage   api.Message
	ownPacket    api.Packet
	withMessage  struct{ api.Message }
	asksMessages interface{ Message() api.Message }
	stranger     struct{ m api.Message }
)

func (s stranger) Message() api.Message { return s.m }

// others tells what is none of the five.
func others() []any {
	p := full(api.Publish)
	var inner any = api.Message{P: p}
	var asks asksMessages = stranger{api.Message{P: p}}
	l := []any{
		nil, p, &p, &inner, asks, ownMessage{P: p}, ownPacket(p), withMessage{api.Message{P: p}},
		struct{ P api.Packet }{p}, []api.Message{{P: p}}, [1]api.Message{{P: p}},
		map[string]api.Message{"": {P: p}}, func() api.Message { return api.Message{P: p} }, make(chan api.Message),
		0, 3, "message", []byte("message"), true, 1.5, 1i, errors.New("message"), api.ErrKind, api.Msg{Topic: "a"},
		api.Frame{}, api.Sub{}, struct{}{}, []any{inner}, any([]any(nil)), unsafe.Pointer(nil),
	}
	l = append(l, (*api.Greeting)(nil), (*api.Message)(nil), (*api.Ack)(nil), (*api.Ask)(nil), (*api.Signal)(nil), (**api.Message)(nil))
	m := &api.Message{P: p}
	return append(l, &api.Greeting{P: p}, m, &m, &api.Ack{P: p}, &api.Ask{P: p}, &api.Signal{P: p})
}

// mustPanic tells what Must panics with, and what it answers.
func mustPanic(x any) (m api.Message, e any) {
	defer func() { e = recover() }()
	return Must(x), nil
}

// P4.1

func TestAnyByKind(t *testing.T) {
	seen := 0
	for _, f := range forms() {
		for _, kind := range f.kinds {
			seen++
			for _, p := range packets(kind) {
				if x := Any(p); !reflect.DeepEqual(x, f.wrap(p)) {
					t.Errorf("Any %+v: %T %+v", p, x, x)
				}
			}
		}
	}
	if seen != api.Disconnect {
		t.Errorf("%d kinds of %d", seen, api.Disconnect)
	}
}

func TestAnyOfOtherKinds(t *testing.T) {
	for _, kind := range kindsOfNone() {
		for _, p := range packets(kind) {
			if x := Any(p); x != nil {
				t.Errorf("Any of kind %d: %T %+v", kind, x, x)
			}
		}
	}
}

func TestPacketOfTheFive(t *testing.T) {
	for _, f := range forms() {
		for _, kind := range append(kindsOfNone(), 1, 2, 3, 4, 5, 6, 7, 8, 9, 10, 11, 12, 13, 14) {
			for _, p := range packets(kind) {
				if q, ok := Packet(f.wrap(p)); !ok || !reflect.DeepEqual(q, p) {
					t.Errorf("Packet of a %s %+v: %+v, %v", f.name, p, q, ok)
				}
			}
		}
	}
}

func TestPacketOfOthers(t *testing.T) {
	for _, x := range others() {
		if p, ok := Packet(x); ok || !reflect.DeepEqual(p, api.Packet{}) {
			t.Errorf("Packet %T: %+v, %v", x, p, ok)
		}
	}
}

func TestThereAndBack(t *testing.T) {
	for kind := api.Connect; kind <= api.Disconnect; kind++ {
		for _, p := range packets(kind) {
			if q, ok := Packet(Any(p)); !ok || !wire.Same(p, q) {
				t.Errorf("Packet of Any %+v: %+v, %v", p, q, ok)
			}
		}
	}
}

func TestMessages(t *testing.T) {
	for _, kind := range append(kindsOfNone(), api.Publish, api.Connect, api.Puback) {
		for _, p := range packets(kind) {
			want := api.Message{P: p}
			if m, e := mustPanic(want); e != nil || !reflect.DeepEqual(m, want) {
				t.Errorf("Must %+v: %+v, %v", p, m, e)
			}
			if m, ok := Try(want); !ok || !reflect.DeepEqual(m, want) {
				t.Errorf("Try %+v: %+v, %v", p, m, ok)
			}
		}
	}
}

// noMessages tells what isn't a Message: of the five the other four, with a
// Publish, too, and what is none.
func noMessages() []any {
	l := others()
	for _, f := range forms() {
		if f.name != "message" {
			l = append(l, f.wrap(full(f.kinds[0])), f.wrap(full(api.Publish)), f.wrap(api.Packet{}))
		}
	}
	return l
}

func TestMustPanics(t *testing.T) {
	for _, x := range noMessages() {
		m, e := mustPanic(x)
		if _, ok := e.(*runtime.TypeAssertionError); !ok {
			t.Errorf("Must %T: %+v, %v", x, m, e)
		}
		err, ok := e.(runtime.Error)
		if !ok {
			t.Errorf("Must %T panics with a %T, which is no runtime.Error", x, e)
			continue
		}
		had := "nil"
		if x != nil {
			had = fmt.Sprintf("%T", x)
		}
		if s := err.Error(); !strings.HasPrefix(s, "interface conversion: ") || !strings.Contains(s, "not api.Message") {
			t.Errorf("Must of %s panics with %q", had, s)
		}
	}
}

func TestTryOfOthers(t *testing.T) {
	for _, x := range noMessages() {
		if m, ok := Try(x); ok || !reflect.DeepEqual(m, api.Message{}) {
			t.Errorf("Try %T: %+v, %v", x, m, ok)
		}
	}
}

// P4.2

func TestIds(t *testing.T) {
	for _, f := range forms() {
		for kind := 0; kind <= 15; kind++ {
			for _, id := range []int{math.MinInt, -1, 0, 1, 2, 255, 256, 65535, 65536, math.MaxInt} {
				want := 0
				if f.hasId {
					want = id
				}
				if got := Id(f.wrap(api.Packet{Kind: kind, Id: id})); got != want {
					t.Errorf("Id of a %s of kind %d with %d: %d", f.name, kind, id, got)
				}
			}
		}
	}
	for _, x := range others() {
		if got := Id(x); got != 0 {
			t.Errorf("Id %T: %d", x, got)
		}
	}
}

func TestNames(t *testing.T) {
	for _, f := range forms() {
		for _, kind := range f.kinds {
			if got := Name(Any(api.Packet{Kind: kind})); got != f.name {
				t.Errorf("Name of kind %d: %s", kind, got)
			}
		}
		for kind := 0; kind <= 15; kind++ {
			if got := Name(f.wrap(full(kind))); got != f.name {
				t.Errorf("Name of a %s of kind %d: %s", f.name, kind, got)
			}
		}
	}
	for _, kind := range kindsOfNone() {
		if got := Name(Any(full(kind))); got != "none" {
			t.Errorf("Name of kind %d: %s", kind, got)
		}
	}
	for _, x := range others() {
		if got := Name(x); got != "none" {
			t.Errorf("Name %T: %s", x, got)
		}
	}
}

func TestCountOfOne(t *testing.T) {
	for i, f := range forms() {
		for _, kind := range f.kinds {
			for _, p := range packets(kind) {
				var want [5]int
				want[i] = 1
				if got := Count([]api.Packet{p}); got != want {
					t.Errorf("Count of kind %d: %v", kind, got)
				}
			}
		}
	}
	for _, kind := range kindsOfNone() {
		if got := Count(packets(kind)); got != [5]int{} {
			t.Errorf("Count of kind %d: %v", kind, got)
		}
	}
}

func TestCountOfMany(t *testing.T) {
	if got := Count(nil); got != [5]int{} {
		t.Errorf("Count of nil: %v", got)
	}
	if got := Count([]api.Packet{}); got != [5]int{} {
		t.Errorf("Count of none: %v", got)
	}
	var l []api.Packet
	for kind := -2; kind <= 17; kind++ {
		for k := 0; k < 1+max(kind, 0); k++ {
			l = append(l, full(kind))
		}
	}
	want := [5]int{2 + 3, 4, 5 + 6 + 7 + 8 + 10 + 12, 9 + 11, 13 + 14 + 15}
	if got := Count(l); got != want {
		t.Errorf("Count: %v, not %v", got, want)
	}
	slices.Reverse(l)
	if got := Count(l); got != want {
		t.Errorf("Count, the other way round: %v, not %v", got, want)
	}
	first := 18 + 17 + 16 + 15 + 14 + 13 + 1 // three kinds of none, all signals, one ack
	if got := Count(l[:first]); got != [5]int{0, 0, 1, 0, 15 + 14 + 13} {
		t.Errorf("Count of some: %v", got)
	}
}

// P4.3

// TestWhoAsksFirst: of whatever is no Message, that is known ahead of Must, and
// no question panics.
func TestWhoAsksFirst(t *testing.T) {
	all := noMessages()
	for kind := -1; kind <= 16; kind++ {
		all = append(all, Any(full(kind)))
	}
	for _, x := range all {
		p, held := Packet(x)
		m, ok := Try(x)
		_, e := mustPanic(x)
		if asked := Name(x) == "message"; asked != ok || asked != (e == nil) {
			t.Errorf("%T: Name says %v, Try %v, Must %v", x, asked, ok, e)
		}
		if ok && (!held || !wire.Same(m.P, p) || Id(x) != p.Id) {
			t.Errorf("%T: Packet %+v, Try %+v, Id %d", x, p, m, Id(x))
		}
		if held == (Name(x) == "none") {
			t.Errorf("%T: Packet %v, Name %s", x, held, Name(x))
		}
	}
}

// What holds everywhere.

// roomy tells a packet whose lists have spare room behind them, and what lies
// in that room.
func roomy(kind int) (api.Packet, func() string) {
	p := full(kind)
	p.Payload = append(p.Payload, "spare"...)[:len(p.Payload)]
	p.Will.Payload = append(p.Will.Payload, "spare"...)[:len(p.Will.Payload)]
	p.Pass = append(p.Pass, "spare"...)[:len(p.Pass)]
	p.Subs = append(p.Subs, api.Sub{Filter: "spare"})[:len(p.Subs)]
	p.Codes = append(p.Codes, 77)[:len(p.Codes)]
	return p, func() string {
		return fmt.Sprint(p.Payload[:12], p.Will.Payload[:9], p.Pass[:9], p.Subs[:3], p.Codes[:3])
	}
}

// blot overwrites all that hangs on p, and the room behind it.
func blot(p api.Packet) {
	for _, b := range [][]byte{p.Payload, p.Will.Payload, p.Pass} {
		b = b[:cap(b)]
		for i := range b {
			b[i] = '!'
		}
	}
	for i := range p.Subs[:cap(p.Subs)] {
		p.Subs[:cap(p.Subs)][i] = api.Sub{Filter: "!", Qos: 9}
	}
	for i := range p.Codes[:cap(p.Codes)] {
		p.Codes[:cap(p.Codes)][i] = 99
	}
}

// answers tells by which calls a Publish is answered.
func answers() map[string]func(p api.Packet) api.Packet {
	return map[string]func(p api.Packet) api.Packet{
		"Any":    func(p api.Packet) api.Packet { return Any(p).(api.Message).P },
		"Packet": func(p api.Packet) api.Packet { q, _ := Packet(api.Message{P: p}); return q },
		"Must":   func(p api.Packet) api.Packet { return Must(api.Message{P: p}).P },
		"Try":    func(p api.Packet) api.Packet { m, _ := Try(api.Message{P: p}); return m.P },
	}
}

func TestAnswersAreNew(t *testing.T) {
	for name, answer := range answers() {
		p, room := roomy(api.Publish)
		was := room()
		q := answer(p)
		blot(q)
		if room() != was || !wire.Same(p, full(api.Publish)) {
			t.Errorf("%s: what was handed in hangs on the answer: %+v", name, p)
		}
		q = answer(p)
		blot(p)
		if !wire.Same(q, full(api.Publish)) {
			t.Errorf("%s: the answer hangs on what was handed in: %+v", name, q)
		}
		p, _ = roomy(api.Publish)
		x, y := answer(p), answer(p)
		blot(x)
		if !wire.Same(y, full(api.Publish)) {
			t.Errorf("%s: two answers hang together: %+v", name, y)
		}
	}
}

// TestListsOfAnAnswer: what is put behind one list of an answer is in no other.
func TestListsOfAnAnswer(t *testing.T) {
	one := []byte("payloadlastpass")
	for name, answer := range answers() {
		p := full(api.Publish)
		p.Payload, p.Will.Payload, p.Pass = one[:7], one[7:11], one[11:]
		q := answer(p)
		_ = append(q.Payload, "????????"...)
		_ = append(q.Will.Payload, "????????"...)
		if !wire.Same(q, full(api.Publish)) || string(one) != "payloadlastpass" {
			t.Errorf("%s: lists of an answer hang together: %+v, %s", name, q, one)
		}
	}
}

func TestTextsOfAnAnswer(t *testing.T) {
	texts := func(p api.Packet) []string {
		return []string{p.Topic, p.Client, p.Will.Topic, p.User, p.Subs[0].Filter, p.Subs[1].Filter}
	}
	for name, answer := range answers() {
		p := full(api.Publish)
		had, got := texts(p), texts(answer(p))
		for i := range had {
			if had[i] != got[i] || unsafe.StringData(had[i]) == unsafe.StringData(got[i]) {
				t.Errorf("%s: text %d: %q lies where %q does", name, i, got[i], had[i])
			}
		}
	}
}

func TestQuestionsChangeNothing(t *testing.T) {
	for kind := -1; kind <= 16; kind++ {
		p, room := roomy(kind)
		was := room()
		Count([]api.Packet{p, p})
		for _, f := range forms() {
			Name(f.wrap(p))
			Id(f.wrap(p))
		}
		if room() != was || !reflect.DeepEqual(p, full(kind)) {
			t.Errorf("kind %d: changed to %+v, %s", kind, p, room())
		}
	}
}
