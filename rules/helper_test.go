package rules

import (
	"math"
	"slices"
	"testing"

	"sallyport/addr"
	"sallyport/api"
	"sallyport/lang"
)

// v4 answers the IPv4 address whose bytes they are.
func v4(a, b, c, d uint32) api.Addr { return addr.Of4(a<<24 | b<<16 | c<<8 | d) }

// v6 answers an IPv6 address.
func v6(n uint64) api.Addr { return api.Addr{Hi: 0x20010db800000000, Lo: n} }

// top is the greatest address.
var top = api.Addr{Hi: math.MaxUint64, Lo: math.MaxUint64}

// all is every address.
var all = api.Range{To: top}

func only(a api.Addr) api.Range { return api.Range{From: a, To: a} }

// text answers the configuration that a text says.
func text(t *testing.T, s string) api.Config {
	t.Helper()
	c, n, e := lang.Parse(s)
	if e != api.OK {
		t.Fatalf("%q: %d, %d", s, n, e)
	}
	return c
}

// edge is the configuration of the chapter's examples.
func edge(t *testing.T) api.Config {
	t.Helper()
	return text(t, "zone in 10.0.0.254 0\nzone out 1.2.3.4 1\nservice web tcp 80\nobject lan 10.0.0.0/8\nrule in out lan any web accept\ndefault drop\n")
}

// call is what a host within calls: a server without, at port 80.
func call() api.Key {
	return api.Key{Proto: api.ProtoTCP, Src: v4(10, 1, 1, 1), Dst: v4(8, 8, 8, 8), SPort: 5000, DPort: 80}
}

// copyOf answers a configuration that shares no list with c.
func copyOf(c api.Config) api.Config {
	c.Zones, c.Objects = slices.Clone(c.Zones), slices.Clone(c.Objects)
	for i := range c.Zones {
		c.Zones[i].Ifaces = slices.Clone(c.Zones[i].Ifaces)
	}
	for i := range c.Objects {
		c.Objects[i].Ranges = slices.Clone(c.Objects[i].Ranges)
	}
	c.Services, c.Limits, c.Routes = slices.Clone(c.Services), slices.Clone(c.Limits), slices.Clone(c.Routes)
	c.Nats, c.Rules = slices.Clone(c.Nats), slices.Clone(c.Rules)
	return c
}

// extremes are numbers of no zone, interface, port or protocol, and the first and last ones that are.
func extremes() []int {
	return []int{math.MinInt, math.MinInt32, -2, -1, 0, 1, 7, 8, 15, 16, 255, 256, 65535, 65536, 1 << 20, math.MaxInt32, math.MaxInt}
}
