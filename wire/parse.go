package wire

import "sallyport/api"

const (
	version4 = 4
	version6 = 6
)

// sizeFrag is how many bytes a fragment header has, which stands behind an IPv6 header.
const sizeFrag = 8

// maxEnd is where the last byte of a packet that was parted may end, its network header left away.
const maxEnd = 65535

// Parse answers what a packet's network header tells.
func Parse(b []byte) (View, api.Errno) {
	v, e := parse(b)
	if e != api.OK {
		return View{}, e
	}
	if v.Off+v.Total-v.Head > maxEnd || !familyOf(v.V6).carries(v.Proto) {
		return View{}, api.ErrHeader
	}
	return v, api.OK
}

// parse looks for all faults that are of one family alone.
func parse(b []byte) (View, api.Errno) {
	switch {
	case len(b) == 0:
		return View{}, api.ErrShort
	case len(b) > api.MaxPacket:
		return View{}, api.ErrHeader
	}
	switch b[0] >> 4 {
	case version4:
		return parse4(b)
	case version6:
		return parse6(b)
	}
	return View{}, api.ErrVersion
}

func parse4(b []byte) (View, api.Errno) {
	f := familyOf(false)
	if len(b) < f.size {
		return View{}, api.ErrShort
	}
	total, parts := int(number(b[2:4])), number(b[6:8])
	switch {
	case b[0]&15 != 5, total < f.size:
		return View{}, api.ErrHeader
	case total > len(b):
		return View{}, api.ErrShort
	case Sum(b[:f.size]) != 0:
		return View{}, api.ErrSum
	case parts>>15 != 0:
		return View{}, api.ErrHeader
	}
	v := f.view(b, total)
	v.ID = uint32(number(b[4:6]))
	v.part(parts&(1<<13-1)*8, parts>>13&1)
	return v, api.OK
}

func parse6(b []byte) (View, api.Errno) {
	f := familyOf(true)
	if len(b) < f.size {
		return View{}, api.ErrShort
	}
	total := int(number(b[4:6])) + f.size
	if total > len(b) {
		return View{}, api.ErrShort
	}
	v := f.view(b, total)
	switch {
	case !f.has(v.Src, v.Dst):
		return View{}, api.ErrHeader
	case v.Proto != api.ProtoFrag:
		return v, api.OK
	case total < f.size+sizeFrag:
		return View{}, api.ErrShort
	}
	head := b[f.size : f.size+sizeFrag]
	v.Head += sizeFrag
	v.Proto = int(head[0])
	if v.Proto == api.ProtoFrag {
		return View{}, api.ErrHeader
	}
	v.ID = uint32(number(head[4:8]))
	parts := number(head[2:4])
	v.part(parts&^7, parts&1)
	return v, api.OK
}

// view answers what stands in the headers of both families.
func (f family) view(b []byte, total int) View {
	l := f.addresses(b)
	return View{V6: f.v6, Head: f.size, Total: total, TTL: int(b[f.ttl]), Proto: int(b[f.proto]), Src: l[0], Dst: l[1]}
}

// part says where a packet's bytes belong, and whether others are behind them.
func (v *View) part(off, more uint64) {
	v.Off, v.More = int(off), more == 1
	v.Frag = v.More || v.Off != 0
}
