package nat

import (
	"math"
	"testing"

	"sallyport/addr"
	"sallyport/api"
	"sallyport/flow"
	"sallyport/lang"
)

// v4 answers the IPv4 address whose bytes they are.
func v4(a, b, c, d uint32) api.Addr { return addr.Of4(a<<24 | b<<16 | c<<8 | d) }

// v6 answers an IPv6 address.
func v6(n uint64) api.Addr { return api.Addr{Hi: 0x20010db800000000, Lo: n} }

// Who calls, and who is called.
var (
	host   = v4(10, 0, 0, 1)
	other  = v4(10, 0, 0, 2)
	server = v4(8, 8, 8, 8)
	outer  = v4(1, 2, 3, 4)
	own    = v4(10, 0, 0, 254) // the gateway's, within
)

// places are the zones and the routes of most tests: in is zone 0, of interface 0, out zone 1, of interface 1.
const places = "zone in 10.0.0.254 0\nzone out 1.2.3.4 1\nroute 0.0.0.0/0 1\nroute 10.0.0.0/8 0\nroute ::/0 1\nroute 2001:db8::/64 0\n"

// text answers the configuration that a text says.
func text(t *testing.T, s string) api.Config {
	t.Helper()
	c, n, e := lang.Parse(s)
	if e != api.OK {
		t.Fatalf("%q: %d, %d", s, n, e)
	}
	return c
}

// edge is places and what s says of translations.
func edge(t *testing.T, s string) api.Config {
	t.Helper()
	return text(t, places+s)
}

// key answers a key of UDP.
func key(src api.Addr, sport int, dst api.Addr, dport int) api.Key {
	return api.Key{Proto: api.ProtoUDP, Src: src, Dst: dst, SPort: sport, DPort: dport}
}

// of answers k with that protocol.
func of(proto int, k api.Key) api.Key {
	k.Proto = proto
	return k
}

// call is what the host within calls: the server without.
func call() api.Key { return key(host, 5001, server, 53) }

// back answers the key of what comes back of what goes out so.
func back(out api.Key) api.Key { return flow.Turned(out) }

// plan answers the plan of k, which goes to judge, and out so.
func plan(k, judge, out api.Key, iface, zone int) Plan {
	return Plan{Judge: judge, Open: k, Out: out, Back: back(out), Home: back(k), Iface: iface, Zone: zone}
}

// wantMake checks the plan of a flow.
func wantMake(t *testing.T, what string, c api.Config, in int, k api.Key, taken []api.Key, want Plan) {
	t.Helper()
	if got, reason := Make(c, in, k, taken); got != want || reason != api.DropNone {
		t.Errorf("%s: %+v, %d; want %+v", what, got, reason, want)
	}
}

// wantNone checks that there is no plan, and why.
func wantNone(t *testing.T, what string, c api.Config, in int, k api.Key, taken []api.Key, want int) {
	t.Helper()
	if got, reason := Make(c, in, k, taken); got != (Plan{}) || reason != want {
		t.Errorf("%s: %+v, %d; want none, %d", what, got, reason, want)
	}
}

// wantPort checks the port that is tried behind i others.
func wantPort(t *testing.T, from, to, want, i, port int) {
	t.Helper()
	if got, ok := Port(from, to, want, i); got != port || !ok {
		t.Errorf("Port(%d, %d, %d, %d): %d, %v; want %d", from, to, want, i, got, ok, port)
	}
}

// wantNoPort checks that no port is tried behind i others.
func wantNoPort(t *testing.T, from, to, want, i int) {
	t.Helper()
	if got, ok := Port(from, to, want, i); got != 0 || ok {
		t.Errorf("Port(%d, %d, %d, %d): %d, %v; want none", from, to, want, i, got, ok)
	}
}

// ported are the protocols of which ports are looked for.
func ported() []int { return []int{api.ProtoTCP, api.ProtoUDP, api.ProtoICMP, api.ProtoICMP6} }

// unported are others, and numbers that are none.
func unported() []int {
	return []int{math.MinInt, -6, -1, 0, 2, 5, 7, 16, 18, api.ProtoFrag, 47, 57, 59, 255, 256, 256 + api.ProtoTCP, math.MaxInt}
}

// numbers are of no port, and the first and last ones that are.
func numbers() []int {
	return []int{math.MinInt, math.MinInt + 1, math.MinInt32, -65536, -2, -1, 0, 1, 2, 5, 1023, 1024, 1025, 5000, 65533, 65534, 65535, 65536, 65537, 1 << 17, math.MaxInt32, math.MaxInt - 1, math.MaxInt}
}
