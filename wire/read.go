package wire

import (
	"bytes"

	"hubbub/api"
)

// begins: is c the first byte of any packet?
func begins(c byte) bool {
	p := headOf(c)
	if p.Kind == api.Publish {
		return isQos(p.Qos) && (p.Qos > 0 || !p.Dup)
	}
	return within(p.Kind, api.Connect, api.Disconnect) && head(p) == c
}

// headOf tells a packet with what its first byte tells.
func headOf(c byte) api.Packet {
	n := int(c)
	p := api.Packet{Kind: n / kind}
	if p.Kind == api.Publish {
		p.Dup, p.Qos, p.Retain = n&dup != 0, n/qos&3, n&retain != 0
	}
	return p
}

// parse tells the packet of these bytes, if there is one, else anything.
func parse(first byte, body []byte) api.Packet {
	p := headOf(first)
	r := reader{body}
	switch p.Kind {
	case api.Connect:
		r.connect(&p)
	case api.Connack:
		p.Present = r.number(1)&present != 0
		p.Code = r.number(1)
	case api.Publish:
		r.publish(&p)
	case api.Puback, api.Pubrec, api.Pubrel, api.Pubcomp, api.Unsuback:
		p.Id = r.number(2)
	case api.Subscribe, api.Unsubscribe:
		p.Id = r.number(2)
		p.Subs = r.subs(p.Kind == api.Subscribe)
	case api.Suback:
		p.Id = r.number(2)
		p.Codes = r.codes()
	}
	return p
}

// reader takes the parts of a body, one behind the other. Of a part that isn't
// there whole it takes what is there.
type reader struct{ left []byte }

func (r *reader) connect(p *api.Packet) {
	r.take(r.number(2)) // the protocol's name, which is always the same
	p.Level = r.number(1)
	flags := r.number(1)
	p.Keep = r.number(2)
	p.Client = r.text()
	p.Clean = flags&clean != 0
	p.HasWill, p.HasUser, p.HasPass = flags&hasWill != 0, flags&hasUser != 0, flags&hasPass != 0
	if p.HasWill {
		p.Will.Topic = r.text()
		p.Will.Payload = r.lump()
		p.Will.Qos = flags / willQos & 3
		p.Will.Retain = flags&willRetain != 0
	}
	if p.HasUser {
		p.User = r.text()
	}
	if p.HasPass {
		p.Pass = r.lump()
	}
}

func (r *reader) publish(p *api.Packet) {
	p.Topic = r.text()
	if p.Qos != 0 {
		p.Id = r.number(2)
	}
	p.Payload = bytes.Clone(r.left)
}

func (r *reader) subs(withQos bool) []api.Sub {
	var l []api.Sub
	for len(r.left) > 0 {
		s := api.Sub{Filter: r.text()}
		if withQos {
			s.Qos = r.number(1)
		}
		l = append(l, s)
	}
	return l
}

func (r *reader) codes() []int {
	var l []int
	for _, c := range r.left {
		l = append(l, int(c))
	}
	return l
}

func (r *reader) text() string {
	return string(r.take(r.number(2)))
}

func (r *reader) lump() []byte {
	return bytes.Clone(r.take(r.number(2)))
}

// number takes a number of that many bytes, the higher ones first.
func (r *reader) number(size int) int {
	n := 0
	for _, c := range r.take(size) {
		n = n<<8 | int(c)
	}
	return n
}

func (r *reader) take(n int) []byte {
	n = min(n, len(r.left))
	b := r.left[:n]
	r.left = r.left[n:]
	return b
}
