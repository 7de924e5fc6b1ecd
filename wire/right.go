package wire

import (
	"hubbub/api"
	"hubbub/utf"
)

const (
	maxByte = 1<<8 - 1
	maxPair = 1<<16 - 1
	maxQos  = 2
	maxCode = 5
	refused = 128 // a Suback's code of a filter that wasn't taken
)

// written tells p without the fields that its kind doesn't write.
func written(p api.Packet) api.Packet {
	w := api.Packet{Kind: p.Kind}
	switch p.Kind {
	case api.Connect:
		return writtenConnect(p)
	case api.Connack:
		w.Present, w.Code = p.Present, p.Code
	case api.Publish:
		w.Dup, w.Qos, w.Retain = p.Dup, p.Qos, p.Retain
		w.Topic, w.Payload = p.Topic, p.Payload
		if p.Qos != 0 {
			w.Id = p.Id
		}
	case api.Puback, api.Pubrec, api.Pubrel, api.Pubcomp, api.Unsuback:
		w.Id = p.Id
	case api.Subscribe, api.Unsubscribe:
		w.Id, w.Subs = p.Id, p.Subs
	case api.Suback:
		w.Id, w.Codes = p.Id, p.Codes
	}
	return w
}

func writtenConnect(p api.Packet) api.Packet {
	w := api.Packet{
		Kind: p.Kind, Level: p.Level, Clean: p.Clean, Keep: p.Keep, Client: p.Client,
		HasWill: p.HasWill, HasUser: p.HasUser, HasPass: p.HasPass,
	}
	if p.HasWill {
		w.Will = p.Will
	}
	if p.HasUser {
		w.User = p.User
	}
	if p.HasPass {
		w.Pass = p.Pass
	}
	return w
}

// fits: has each field of p that is written a value that its bytes can have?
// Of a text or a lump no length is asked for here, since MaxPacket is less
// than two bytes of length can tell.
func fits(p api.Packet) bool {
	switch p.Kind {
	case api.Connect:
		return connectFits(p)
	case api.Connack:
		return within(p.Code, 0, maxCode) && (p.Code == 0 || !p.Present)
	case api.Publish:
		return publishFits(p)
	case api.Puback, api.Pubrec, api.Pubrel, api.Pubcomp, api.Unsuback:
		return isId(p.Id)
	case api.Subscribe:
		return isId(p.Id) && subsFit(p.Subs, maxQos)
	case api.Unsubscribe:
		return isId(p.Id) && subsFit(p.Subs, 0)
	case api.Suback:
		return isId(p.Id) && codesFit(p.Codes)
	case api.Pingreq, api.Pingresp, api.Disconnect:
		return true
	}
	return false
}

func connectFits(p api.Packet) bool {
	return within(p.Level, 0, maxByte) && within(p.Keep, 0, maxPair) &&
		isText(p.Client) && isText(p.User) && isText(p.Will.Topic) &&
		isQos(p.Will.Qos) && (p.HasUser || !p.HasPass)
}

func publishFits(p api.Packet) bool {
	if !isText(p.Topic) || !isQos(p.Qos) {
		return false
	}
	if p.Qos == 0 {
		return !p.Dup
	}
	return isId(p.Id)
}

func subsFit(l []api.Sub, most int) bool {
	for _, s := range l {
		if !isText(s.Filter) || !within(s.Qos, 0, most) {
			return false
		}
	}
	return len(l) > 0
}

func codesFit(l []int) bool {
	for _, c := range l {
		if !isQos(c) && c != refused {
			return false
		}
	}
	return len(l) > 0
}

func within(n, low, high int) bool { return low <= n && n <= high }

func isQos(n int) bool { return within(n, 0, maxQos) }

func isId(n int) bool { return within(n, 1, maxPair) }

func isText(s string) bool { return utf.Check([]byte(s)) < 0 }
