package wire

import (
	"hubbub/api"
	"hubbub/varlen"
)

// protocol: the name with which each Connect begins.
const protocol = "MQTT"

// Flags of a packet's first byte. Its kind stands above them.
const (
	retain = 1 << iota
	qos    // two bits
	_
	dup
	kind
)

// fixed: the flags of the kinds that ask for an answer, but Publish.
const fixed = 2

// Flags of a Connect.
const (
	clean = 2 << iota
	hasWill
	willQos // two bits
	_
	willRetain
	hasPass
	hasUser
)

// present: the flag of a Connack.
const present = 1

// bytesOf tells the bytes of a packet that is Right.
func bytesOf(p api.Packet) []byte {
	size, _ := varlen.Put(length(p))
	b := append([]byte{head(p)}, size...)
	switch p.Kind {
	case api.Connect:
		return addConnect(b, p)
	case api.Connack:
		return append(b, byte(flag(p.Present, present)), byte(p.Code))
	case api.Publish:
		return addPublish(b, p)
	case api.Puback, api.Pubrec, api.Pubrel, api.Pubcomp, api.Unsuback:
		return addPair(b, p.Id)
	case api.Subscribe, api.Unsubscribe:
		return addSubs(addPair(b, p.Id), p)
	case api.Suback:
		return addCodes(addPair(b, p.Id), p.Codes)
	}
	return b
}

// head tells the first byte of p.
func head(p api.Packet) byte {
	c := p.Kind * kind
	switch p.Kind {
	case api.Publish:
		c += flag(p.Dup, dup) + p.Qos*qos + flag(p.Retain, retain)
	case api.Pubrel, api.Subscribe, api.Unsubscribe:
		c += fixed
	}
	return byte(c)
}

// flag tells the flag, if it is on, else 0.
func flag(on bool, f int) int {
	if on {
		return f
	}
	return 0
}

func addConnect(b []byte, p api.Packet) []byte {
	b = addText(b, protocol)
	b = append(b, byte(p.Level), byte(connectFlags(p)))
	b = addPair(b, p.Keep)
	b = addText(b, p.Client)
	if p.HasWill {
		b = addText(b, p.Will.Topic)
		b = addLump(b, p.Will.Payload)
	}
	if p.HasUser {
		b = addText(b, p.User)
	}
	if p.HasPass {
		b = addLump(b, p.Pass)
	}
	return b
}

func connectFlags(p api.Packet) int {
	return flag(p.Clean, clean) + flag(p.HasWill, hasWill) +
		p.Will.Qos*willQos + flag(p.Will.Retain, willRetain) +
		flag(p.HasPass, hasPass) + flag(p.HasUser, hasUser)
}

func addPublish(b []byte, p api.Packet) []byte {
	b = addText(b, p.Topic)
	if p.Qos != 0 {
		b = addPair(b, p.Id)
	}
	return append(b, p.Payload...)
}

func addSubs(b []byte, p api.Packet) []byte {
	for _, s := range p.Subs {
		b = addText(b, s.Filter)
		if p.Kind == api.Subscribe {
			b = append(b, byte(s.Qos))
		}
	}
	return b
}

func addCodes(b []byte, l []int) []byte {
	for _, c := range l {
		b = append(b, byte(c))
	}
	return b
}

func addText(b []byte, s string) []byte {
	return append(addPair(b, len(s)), s...)
}

func addLump(b []byte, l []byte) []byte {
	return append(addPair(b, len(l)), l...)
}

// addPair adds two bytes of n, the higher first.
func addPair(b []byte, n int) []byte {
	return append(b, byte(n>>8), byte(n))
}

// length tells how many bytes stand behind the length of p. It writes none, so
// that what is too long is told without being written out.
func length(p api.Packet) int {
	switch p.Kind {
	case api.Connect:
		return connectLength(p)
	case api.Connack:
		return 2
	case api.Publish:
		n := 2 + len(p.Topic) + len(p.Payload)
		if p.Qos != 0 {
			n += 2
		}
		return n
	case api.Puback, api.Pubrec, api.Pubrel, api.Pubcomp, api.Unsuback:
		return 2
	case api.Subscribe:
		return 2 + subsLength(p.Subs) + len(p.Subs)
	case api.Unsubscribe:
		return 2 + subsLength(p.Subs)
	case api.Suback:
		return 2 + len(p.Codes)
	}
	return 0
}

func connectLength(p api.Packet) int {
	n := 2 + len(protocol) + 4 + 2 + len(p.Client)
	if p.HasWill {
		n += 2 + len(p.Will.Topic) + 2 + len(p.Will.Payload)
	}
	if p.HasUser {
		n += 2 + len(p.User)
	}
	if p.HasPass {
		n += 2 + len(p.Pass)
	}
	return n
}

func subsLength(l []api.Sub) int {
	n := 0
	for _, s := range l {
		n += 2 + len(s.Filter)
	}
	return n
}
