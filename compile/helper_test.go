package compile

import (
	"math"
	"slices"
	"strconv"
	"strings"
	"testing"

	"sallyport/addr"
	"sallyport/api"
	"sallyport/lang"
)

// top is the greatest number.
var top = api.Addr{Hi: math.MaxUint64, Lo: math.MaxUint64}

// all is every number.
var all = api.Range{To: top}

// v4 answers the IPv4 address whose bytes they are.
func v4(a, b, c, d uint32) api.Addr { return addr.Of4(a<<24 | b<<16 | c<<8 | d) }

// v6 answers an IPv6 address.
func v6(n uint64) api.Addr { return api.Addr{Hi: 0x20010db800000000, Lo: n} }

func num(n int) api.Addr { return api.Addr{Lo: uint64(n)} }

func rng(from, to int) api.Range { return api.Range{From: num(from), To: num(to)} }

// net10, net192 are what the object lan of edge has; net8, net6 and host what net has.
var (
	net10  = api.Range{From: v4(10, 0, 0, 0), To: v4(10, 255, 255, 255)}
	net192 = api.Range{From: v4(192, 168, 0, 0), To: v4(192, 168, 255, 255)}
	net8   = api.Range{From: v4(8, 8, 8, 0), To: v4(8, 8, 8, 255)}
	net6   = api.Range{From: v6(0), To: v6(math.MaxUint64)}
	host   = api.Range{From: v4(1, 1, 1, 1), To: v4(1, 1, 1, 1)}
)

// edge is a configuration with things of all kinds, and with the rules that are handed in.
func edge(t *testing.T, rules ...string) api.Config {
	t.Helper()
	return text(t, `zone in 10.0.0.254 0 2
zone out 1.2.3.4 1
zone dmz 10.9.0.1 3
object lan 10.0.0.0/8 192.168.0.0/16
object net 8.8.8.0/24 2001:db8::/64 1.1.1.1
service web tcp 80
service dns udp 53-54
service tcp tcp
service ping icmp
service ping6 icmp6
service every all
service gre 47
limit slow 1 2
limit fast 5 9 source
`+strings.Join(rules, "\n")+"\n")
}

// text answers the configuration that a text says.
func text(t *testing.T, s string) api.Config {
	t.Helper()
	c, n, e := lang.Parse(s)
	if e != api.OK {
		t.Fatalf("%q: %d, %d", s, n, e)
	}
	return c
}

// entry answers what belongs to a rule: all source ports, and these ranges.
func entry(rule int, zones, proto, ports, src, dst api.Range) api.Entry {
	e := api.Entry{Rule: rule}
	e.Box.F = [api.Fields]api.Range{zones, proto, rng(0, 65535), ports, src, dst}
	return e
}

// call is what a host within calls: a server without, at port 80.
func call() api.Header {
	return api.Header{In: 0, Out: 1, Key: api.Key{Proto: api.ProtoTCP, Src: v4(10, 1, 1, 1), Dst: v4(8, 8, 8, 8), SPort: 5000, DPort: 80}}
}

// bars answers a configuration whose rules' boxes are a grid: n sources that follow one another, from 0 to the greatest number, each to all; then as many destinations, each from all.
// Of the grid's cells each one that is 4 wide and 4 high is a leaf: with 64 bars there are 256 of these, the most that there may be with NodeCap nodes.
func bars(n int) api.Config {
	c := api.Config{Default: api.Drop}
	for i := range n {
		if i%api.MaxRanges == 0 {
			c.Objects = append(c.Objects, api.Object{Name: "o" + strconv.Itoa(len(c.Objects))})
		}
		r := rng(i, i)
		if i == n-1 {
			r.To = top
		}
		o := &c.Objects[len(c.Objects)-1]
		o.Ranges = append(o.Ranges, r)
	}
	for _, o := range c.Objects {
		c.Rules = append(c.Rules, api.Rule{In: "any", Out: "any", Src: o.Name, Dst: "any", Service: "any", Action: api.Accept})
	}
	for _, o := range c.Objects {
		c.Rules = append(c.Rules, api.Rule{In: "any", Out: "any", Src: "any", Dst: o.Name, Service: "any", Action: api.Accept})
	}
	return c
}

// sized answers a configuration with objects o1 to o8 of 1 to 8 ranges, with the rules that are handed in as OUT SRC DST, and a zone z.
func sized(rules ...string) api.Config {
	c := api.Config{Zones: []api.Zone{{Name: "z", Ifaces: []int{0}}}, Default: api.Drop}
	for n := 1; n <= api.MaxRanges; n++ {
		o := api.Object{Name: "o" + strconv.Itoa(n)}
		for i := range n {
			o.Ranges = append(o.Ranges, rng(10*i, 10*i+n))
		}
		c.Objects = append(c.Objects, o)
	}
	for _, r := range rules {
		w := strings.Fields(r)
		c.Rules = append(c.Rules, api.Rule{In: "any", Out: w[0], Src: w[1], Dst: w[2], Service: "any", Action: api.Accept})
	}
	return c
}

// entriesOf answers the entries of c.
func entriesOf(t *testing.T, c api.Config) []api.Entry {
	t.Helper()
	l, e := Entries(c)
	if e != api.OK {
		t.Fatalf("Entries: %d", e)
	}
	return l
}

// lower answers the table of c.
func lower(t *testing.T, c api.Config) *Table {
	t.Helper()
	x, e := Lower(c)
	if e != api.OK || x == nil {
		t.Fatalf("Lower: %v, %d", x, e)
	}
	return x
}

// wantNoTable checks that there is no table of c.
func wantNoTable(t *testing.T, what string, c api.Config, want api.Errno) {
	t.Helper()
	if x, e := Lower(c); x != nil || e != want {
		t.Errorf("%s: Lower: %v, %d; want nil, %d", what, x, e, want)
	}
}

// wantRefused checks that there is neither a table nor a list of entries of c.
func wantRefused(t *testing.T, what string, c api.Config, want api.Errno) {
	t.Helper()
	wantNoTable(t, what, c, want)
	if l, e := Entries(c); len(l) > 0 || e != want {
		t.Errorf("%s: Entries: %d of them, %d; want none, %d", what, len(l), e, want)
	}
}

func wantEntries(t *testing.T, what string, c api.Config, want ...api.Entry) {
	t.Helper()
	l := entriesOf(t, c)
	if len(l) != len(want) {
		t.Errorf("%s: %d entries, want %d", what, len(l), len(want))
		return
	}
	for i, e := range l {
		if e != want[i] {
			t.Errorf("%s: entry %d: %x, want %x", what, i, e, want[i])
			return
		}
	}
}

func wantProgram(t *testing.T, x *Table, rule int, want ...Op) {
	t.Helper()
	if p := x.Program(rule); !slices.Equal(p, want) {
		t.Errorf("Program(%d): %v, want %v", rule, p, want)
	}
}

func wantChoose(t *testing.T, what string, x *Table, h api.Header, want api.Choice, visited, compared int) {
	t.Helper()
	if got, v, n := x.Choose(h); got != want || v != visited || n != compared {
		t.Errorf("%s: %+v, %d, %d; want %+v, %d, %d", what, got, v, n, want, visited, compared)
	}
}

// extremes are numbers that a point has no room for, and the first and last ones that it has.
func extremes() []int {
	return []int{math.MinInt, math.MinInt32, -65536, -256, -16, -2, -1, 0, 1, 14, 15, 16, 17, 254, 255, 256, 257, 65534, 65535, 65536, 65537, 1 << 20, math.MaxInt32, 1 << 32, 1 << 40, math.MaxInt}
}

// copyOf answers a configuration that shares no list with c.
func copyOf(c api.Config) api.Config {
	c.Zones, c.Objects = slices.Clone(c.Zones), slices.Clone(c.Objects)
	for i := range c.Zones {
		c.Zones[i].Ifaces = slices.Clone(c.Zones[i].Ifaces)
	}
	for i := range c.Objects {
		c.Objects[i].Ranges = slices.Clone(c.Objects[i].Ranges)
	}
	c.Services, c.Limits, c.Routes = slices.Clone(c.Services), slices.Clone(c.Limits), slices.Clone(c.Routes)
	c.Nats, c.Rules = slices.Clone(c.Nats), slices.Clone(c.Rules)
	return c
}
