package lang

import (
	"math"
	"math/rand"
	"slices"
	"strconv"

	"sallyport/addr"
	"sallyport/api"
)

// v4 answers the IPv4 address whose bytes they are.
func v4(a, b, c, d uint32) api.Addr { return addr.Of4(a<<24 | b<<16 | c<<8 | d) }

// v6 answers an IPv6 address.
func v6(n uint64) api.Addr { return api.Addr{Hi: 0x20010db800000000, Lo: n} }

// top is the greatest address.
var top = api.Addr{Hi: math.MaxUint64, Lo: math.MaxUint64}

// full is a configuration with things of each kind, two of each at least.
func full() api.Config {
	return api.Config{
		Zones: []api.Zone{
			{Name: "in", Addr: v4(10, 0, 0, 254), Ifaces: []int{0, 3}},
			{Name: "out", Addr: v4(1, 2, 3, 4), Ifaces: []int{1}},
			{Name: "six", Addr: v6(1), Ifaces: []int{15, 2}},
		},
		Objects: []api.Object{
			{Name: "lan", Ranges: []api.Range{{From: v4(10, 0, 0, 0), To: v4(10, 255, 255, 255)}}},
			{Name: "some", Ranges: []api.Range{{From: v4(10, 0, 0, 1), To: v4(10, 0, 0, 4)}, {From: v6(7), To: v6(7)}, {To: top}}},
			{Name: "in", Ranges: []api.Range{{From: v4(10, 0, 0, 9), To: v4(10, 0, 0, 9)}}},
		},
		Services: []api.Service{
			{Name: "web", Proto: api.ProtoTCP, From: 80, To: 80},
			{Name: "dns", Proto: api.ProtoUDP, From: 53, To: 54},
			{Name: "tcp", Proto: api.ProtoTCP, To: 65535},
			{Name: "ping", Proto: api.ProtoICMP, To: 65535},
			{Name: "ping6", Proto: api.ProtoICMP6, To: 65535},
			{Name: "every", To: 65535},
			{Name: "gre", Proto: 47, To: 65535},
		},
		Limits: []api.Limit{
			{Name: "slow", Rate: 1, Burst: 2, Source: true},
			{Name: "limit", Rate: 0, Burst: api.MaxBurst},
		},
		Routes: []api.Route{
			{To: api.Range{From: v4(0, 0, 0, 0), To: v4(255, 255, 255, 255)}, Iface: 1},
			{To: api.Range{From: v4(10, 0, 0, 9), To: v4(10, 0, 0, 9)}, Bits: 32, Iface: 0},
			{To: api.Range{To: addr.Of4(math.MaxUint32)}, Bits: 80, Iface: 15}, // it ends at an IPv4 address
		},
		Nats: []api.Nat{
			{Kind: api.NatSource, Zone: "out", Object: "lan", Outer: v4(1, 2, 3, 4), From: 5000, To: 5001},
			{Kind: api.NatDest, Outer: v4(1, 2, 3, 4), Service: "web", Inner: v4(10, 0, 0, 5), From: 8080},
			{Kind: api.NatStatic, Zone: "out", Outer: v4(1, 2, 3, 5), Inner: v4(10, 0, 0, 6)},
			{Kind: api.NatSource, Zone: "six", Object: "any", Outer: v6(2), From: 1, To: 65535},
			{Kind: api.NatDest, Outer: v6(3), Service: "any", Inner: v6(4)},
			{Kind: api.NatStatic, Zone: "six", Outer: v6(5), Inner: v6(6)},
		},
		Rules: []api.Rule{
			{In: "any", Out: "in", Src: "lan", Dst: "any", Service: "web", Action: api.Accept, Limit: "slow", Proxy: true},
			{In: "in", Out: "any", Src: "any", Dst: "some", Service: "any", Action: api.Drop},
			{In: "any", Out: "any", Src: "any", Dst: "any", Service: "gre", Action: api.Reject},
			{In: "six", Out: "out", Src: "in", Dst: "lan", Service: "every", Action: api.Accept, Limit: "limit"},
			{In: "six", Out: "out", Src: "in", Dst: "lan", Service: "tcp", Action: api.Accept, Proxy: true},
		},
		Default: api.Accept,
	}
}

// fullText is what full is printed as.
const fullText = `zone in 10.0.0.254 0 3
zone out 1.2.3.4 1
zone six 2001:db8::1 15 2
object lan 10.0.0.0/8
object some 10.0.0.1-10.0.0.4 2001:db8::7 ::/0
object in 10.0.0.9
service web tcp 80
service dns udp 53-54
service tcp tcp 0-65535
service ping icmp
service ping6 icmp6
service every all
service gre 47
limit slow 1 2 source
limit limit 0 1048576
route 0.0.0.0/0 1
route 10.0.0.9/32 0
route ::/80 15
snat out lan 1.2.3.4 5000-5001
dnat 1.2.3.4 web 10.0.0.5 8080
static out 1.2.3.5 10.0.0.6
snat six any 2001:db8::2 1-65535
dnat 2001:db8::3 any 2001:db8::4
static six 2001:db8::5 2001:db8::6
rule any in lan any web accept limit slow proxy
rule in any any some any drop
rule any any any any gre reject
rule six out in lan every accept limit limit
rule six out in lan tcp accept proxy
default accept
`

// copyOf answers a configuration that shares no list with c.
func copyOf(c api.Config) api.Config {
	c.Zones, c.Objects = slices.Clone(c.Zones), slices.Clone(c.Objects)
	for i := range c.Zones {
		c.Zones[i].Ifaces = slices.Clone(c.Zones[i].Ifaces)
	}
	for i := range c.Objects {
		c.Objects[i].Ranges = slices.Clone(c.Objects[i].Ranges)
	}
	c.Services, c.Limits, c.Routes = slices.Clone(c.Services), slices.Clone(c.Limits), slices.Clone(c.Routes)
	c.Nats, c.Rules = slices.Clone(c.Nats), slices.Clone(c.Rules)
	return c
}

// maker makes configurations that may be, without an order.
type maker struct{ *rand.Rand }

// addr answers an address; of IPv6 ones such as are no small numbers.
func (m maker) addr(v6 bool) api.Addr {
	if !v6 {
		return addr.Of4(m.Uint32())
	}
	return api.Addr{Hi: 1<<63 | m.Uint64(), Lo: m.Uint64()}
}

// prefix answers a range that its first bits tell, and how many these are.
func (m maker) prefix() (api.Range, int) {
	a, bits, rest := m.addr(false), m.Intn(33), 32
	if m.Intn(2) == 0 {
		a, bits, rest = m.addr(true), m.Intn(129), 128
	}
	rest -= bits
	a.Lo = a.Lo >> rest << rest
	a.Hi = a.Hi >> max(rest-64, 0) << max(rest-64, 0)
	r, e := addr.Prefix(a, bits)
	if e != api.OK {
		panic(e)
	}
	return r, bits
}

// rng answers a range that has a text.
func (m maker) rng() api.Range {
	v6 := m.Intn(2) == 0
	r := api.Range{From: m.addr(v6), To: m.addr(v6)}
	switch m.Intn(3) {
	case 0:
		r, _ = m.prefix()
	case 1:
		r.To = r.From
	}
	if addr.Compare(r.From, r.To) > 0 {
		r.From, r.To = r.To, r.From
	}
	return r
}

// names answers n names of a kind.
func (m maker) names(n int) []string {
	const letters = "abcdefghijklmnopqrstuvwxyz0123456789_"
	var l []string
	for len(l) < n {
		b := []byte{letters[m.Intn(26)]}
		for range m.Intn(maxName) {
			b = append(b, letters[m.Intn(len(letters))])
		}
		if s := string(b); s != "any" && !slices.Contains(l, s) {
			l = append(l, s)
		}
	}
	return l
}

func (m maker) pick(l []string) string { return l[m.Intn(len(l))] }

// namesOf answers the names of a kind's things.
func namesOf[T any](l []T, nameOf func(T) string) []string {
	var names []string
	for _, x := range l {
		names = append(names, nameOf(x))
	}
	return names
}

func (m maker) config() api.Config {
	c := api.Config{Default: []int{api.Accept, api.Drop}[m.Intn(2)]}
	ifaces := m.Perm(16)
	for _, name := range m.names(m.Intn(7)) {
		n := 1 + m.Intn(2)
		c.Zones = append(c.Zones, api.Zone{Name: name, Addr: m.addr(m.Intn(2) == 0), Ifaces: slices.Clone(ifaces[:n])})
		ifaces = ifaces[n:]
	}
	for _, name := range m.names(m.Intn(6)) {
		o := api.Object{Name: name}
		for range 1 + m.Intn(4) {
			o.Ranges = append(o.Ranges, m.rng())
		}
		c.Objects = append(c.Objects, o)
	}
	for _, name := range m.names(m.Intn(8)) {
		s := api.Service{Name: name, Proto: []int{0, 1, 6, 17, 58, m.Intn(256)}[m.Intn(6)], To: 65535}
		if s.Proto == 6 || s.Proto == 17 {
			s.From = m.Intn(65536)
			s.To = s.From + m.Intn(2)*m.Intn(65536-s.From)
		}
		c.Services = append(c.Services, s)
	}
	for _, name := range m.names(m.Intn(5)) {
		c.Limits = append(c.Limits, api.Limit{Name: name, Rate: m.Intn(1<<20 + 1), Burst: 1 + m.Intn(1<<20), Source: m.Intn(2) == 0})
	}
	if len(c.Zones) > 0 {
		m.places(&c)
	}
	m.rules(&c)
	return c
}

// places makes routes and translations.
func (m maker) places(c *api.Config) {
	for range m.Intn(6) {
		z := c.Zones[m.Intn(len(c.Zones))]
		to, bits := m.prefix()
		if !slices.ContainsFunc(c.Routes, func(r api.Route) bool { return r.To == to }) {
			c.Routes = append(c.Routes, api.Route{To: to, Bits: bits, Iface: z.Ifaces[m.Intn(len(z.Ifaces))]})
		}
	}
	zones := namesOf(c.Zones, zoneName)
	objects, services := append(namesOf(c.Objects, objectName), "any"), append(namesOf(c.Services, serviceName), "any")
	for range m.Intn(8) {
		v6 := m.Intn(2) == 0
		n := api.Nat{Kind: 1 + m.Intn(3), Outer: m.addr(v6), Inner: m.addr(v6)}
		switch n.Kind {
		case api.NatSource:
			n.Zone, n.Object, n.Inner = m.pick(zones), m.pick(objects), api.Addr{}
			n.From = 1 + m.Intn(65535)
			n.To = n.From + m.Intn(65536-n.From)
		case api.NatDest:
			n.Service, n.From = m.pick(services), m.Intn(2)*m.Intn(65536)
		case api.NatStatic:
			n.Zone = m.pick(zones)
		}
		c.Nats = append(c.Nats, n)
	}
}

func (m maker) rules(c *api.Config) {
	zones := append(namesOf(c.Zones, zoneName), "any")
	objects, services := append(namesOf(c.Objects, objectName), "any"), append(namesOf(c.Services, serviceName), "any")
	for range m.Intn(8) {
		r := api.Rule{In: m.pick(zones), Out: m.pick(zones), Src: m.pick(objects), Dst: m.pick(objects), Service: m.pick(services), Action: 1 + m.Intn(3)}
		if r.Action == api.Accept {
			r.Limit = m.pick(append(namesOf(c.Limits, limitName), ""))
			i := slices.IndexFunc(c.Services, func(s api.Service) bool { return s.Name == r.Service && s.Proto == 6 })
			r.Proxy = i >= 0 && m.Intn(2) == 0
		}
		c.Rules = append(c.Rules, r)
	}
}

// named answers n names, each of that many bytes.
func named(n, size int) []string {
	var l []string
	for i := range n {
		s := strconv.Itoa(i)
		for len(s) < size-1 {
			s = "x" + s
		}
		l = append(l, "n"+s)
	}
	return l
}
