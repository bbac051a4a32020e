package wire

import (
	"slices"

	"sallyport/api"
)

// How an answer goes that a packet is not taken.
const (
	refusalTTL = 64
	noWay4     = 3
	noWay6     = 1
)

// quotedBytes is how many bytes behind its network header an error must quote, and a refusal quotes.
const quotedBytes = 8

// Refusal answers a packet that tells the sender of b that it was not taken.
func Refusal(b []byte, own api.Addr, code int) ([]byte, api.Errno) {
	v, e := Parse(b)
	if e != api.OK {
		return nil, e
	}
	f := familyOf(v.V6)
	if !f.has(own) || !isByte(code) {
		return nil, api.ErrArg
	}
	proto, kind, most := api.ProtoICMP, byte(noWay4), 28
	if v.V6 {
		proto, kind, most = api.ProtoICMP6, noWay6, 56
	}
	// The other family's ICMP was no packet already.
	if v.Proto == proto {
		return nil, api.ErrHeader
	}
	body := make([]byte, sizeICMP)
	body[0], body[1] = kind, byte(code)
	body = append(body, b[:min(most, v.Total)]...)
	return Packet(own, v.Src, proto, refusalTTL, body)
}

// Quoted answers the key of the packet that an ICMP error quotes; false, if b is no error, or quotes none.
func Quoted(b []byte) (api.Key, bool) {
	v, t, e := open(b)
	if e != api.OK || !isError(v, t) {
		return api.Key{}, false
	}
	return quotedKey(b[t.Head:v.Total], familyOf(v.V6))
}

// Requote answers an ICMP error with other addresses, which quotes other addresses and ports.
func Requote(b []byte, outer, inner api.Key, ttl int) ([]byte, api.Errno) {
	quoted, ok := Quoted(b)
	if !ok {
		return nil, api.ErrHeader
	}
	v, t, _ := open(b)
	f := familyOf(v.V6)
	if !f.has(outer.Src, outer.Dst, inner.Src, inner.Dst) || outer.Proto != v.Proto || inner.Proto != quoted.Proto || !havePorts(outer, inner) || !isByte(ttl) {
		return nil, api.ErrArg
	}
	p := slices.Clone(b[:v.Total])
	f.readdress(p, outer, ttl)
	quote := p[t.Head:]
	f.setAddresses(quote, [2]api.Addr{inner.Src, inner.Dst})
	behind := quote[f.size:]
	if at, ok := portPlaces(behind, f.v6, inner.Proto); ok {
		at.put(behind, inner)
	}
	v.Src, v.Dst = outer.Src, outer.Dst
	setBodySum(p[v.Head:], v)
	return p, api.OK
}

// isError tells whether a packet is an ICMP error.
func isError(v View, t Trans) bool {
	switch v.Proto {
	case api.ProtoICMP:
		return t.Type == 3 || t.Type == 11 || t.Type == 12
	case api.ProtoICMP6:
		return t.Type >= 1 && t.Type <= 4
	}
	return false
}

// quotedKey answers the key of a packet whose first bytes are the quote.
func quotedKey(quote []byte, f family) (api.Key, bool) {
	if len(quote) < f.size+quotedBytes || !isQuote(quote, f) {
		return api.Key{}, false
	}
	l, proto, behind := f.addresses(quote), int(quote[f.proto]), quote[f.size:]
	p, ok := portPlaces(behind, f.v6, proto)
	if !ok || !f.carries(proto) || !f.has(l[0], l[1]) {
		return api.Key{}, false
	}
	sport, dport := p.read(behind)
	return api.Key{Proto: proto, Src: l[0], Dst: l[1], SPort: sport, DPort: dport}, true
}

// isQuote tells whether a quote, which is long enough, begins as a packet of the family whose transport header stands right behind.
func isQuote(quote []byte, f family) bool {
	if f.v6 {
		return quote[0]>>4 == version6 && quote[f.proto] != api.ProtoFrag
	}
	return quote[0] == version4<<4|5 && number(quote[6:8])&(1<<13-1) == 0
}
