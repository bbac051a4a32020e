package rules

import (
	"math/rand"
	"reflect"
	"testing"

	"sallyport/addr"
	"sallyport/api"
)

// What the chapter says, said once more: with sets of places instead of searches, and with the questions of a rule as one condition.

// places answers those of the numbers below n of which it holds.
func places(n int, holds func(int) bool) []int {
	var l []int
	for i := range n {
		if holds(i) {
			l = append(l, i)
		}
	}
	return l
}

// least answers the first of l; -1, if there is none.
func least(l []int) int {
	if len(l) == 0 {
		return -1
	}
	return l[0]
}

func modelZone(c api.Config, iface int) int {
	return least(places(len(c.Zones), func(i int) bool {
		for _, n := range c.Zones[i].Ifaces {
			if n == iface {
				return true
			}
		}
		return false
	}))
}

func modelRoute(c api.Config, dst api.Addr) (int, int) {
	having := places(len(c.Routes), func(i int) bool { return modelHas(c.Routes[i].To, dst) })
	best := least(places(len(c.Routes), func(i int) bool {
		if !modelHas(c.Routes[i].To, dst) {
			return false
		}
		for _, k := range having {
			if c.Routes[k].Bits > c.Routes[i].Bits {
				return false
			}
		}
		return true
	}))
	if best < 0 {
		return -1, -1
	}
	return c.Routes[best].Iface, modelZone(c, c.Routes[best].Iface)
}

func modelHas(r api.Range, a api.Addr) bool {
	return (r.From.Hi < a.Hi || r.From.Hi == a.Hi && r.From.Lo <= a.Lo) && (a.Hi < r.To.Hi || a.Hi == r.To.Hi && a.Lo <= r.To.Lo)
}

func modelServes(c api.Config, service string, k api.Key) bool {
	first := least(places(len(c.Services), func(i int) bool { return c.Services[i].Name == service }))
	switch {
	case service == "any":
		return true
	case first < 0:
		return false
	}
	s := c.Services[first]
	if s.Proto != 0 && s.Proto != k.Proto {
		return false
	}
	if s.Proto == 6 || s.Proto == 17 {
		return k.DPort >= s.From && k.DPort <= s.To
	}
	return true
}

func modelWithin(c api.Config, object string, a api.Addr) bool {
	first := least(places(len(c.Objects), func(i int) bool { return c.Objects[i].Name == object }))
	switch {
	case object == "any":
		return true
	case first < 0:
		return false
	}
	for _, r := range c.Objects[first].Ranges {
		if modelHas(r, a) {
			return true
		}
	}
	return false
}

// modelNames answers the names by which the zone with a number is meant: its own, if there is one.
func modelNames(c api.Config, number int) map[string]bool {
	names := map[string]bool{}
	for i, z := range c.Zones {
		if i == number {
			names[z.Name] = true
		}
	}
	return names
}

func modelMatches(c api.Config, r api.Rule, h api.Header) bool {
	return (r.In == "any" || modelNames(c, h.In)[r.In]) && (r.Out == "any" || modelNames(c, h.Out)[r.Out]) &&
		modelWithin(c, r.Src, h.Key.Src) && modelWithin(c, r.Dst, h.Key.Dst) && modelServes(c, r.Service, h.Key)
}

func modelChoose(c api.Config, h api.Header) api.Choice {
	rule := least(places(len(c.Rules), func(i int) bool { return modelMatches(c, c.Rules[i], h) }))
	if rule < 0 {
		return api.Choice{Action: c.Default, Rule: -1, Limit: -1}
	}
	r := c.Rules[rule]
	limit := least(places(len(c.Limits), func(i int) bool { return r.Limit != "" && c.Limits[i].Name == r.Limit }))
	return api.Choice{Action: r.Action, Rule: rule, Limit: limit, Proxy: r.Proxy}
}

func modelDest(c api.Config, k api.Key) (api.Addr, int, int) {
	for i, n := range c.Nats {
		switch {
		case n.Kind == 3 && n.Outer == k.Dst:
			return n.Inner, k.DPort, i
		case n.Kind == 2 && n.Outer == k.Dst && modelServes(c, n.Service, k) && (n.From == 0 || k.Proto != 6 && k.Proto != 17):
			return n.Inner, k.DPort, i
		case n.Kind == 2 && n.Outer == k.Dst && modelServes(c, n.Service, k):
			return n.Inner, n.From, i
		}
	}
	return k.Dst, k.DPort, -1
}

func modelSource(c api.Config, out int, k api.Key) int {
	for i, n := range c.Nats {
		if !modelNames(c, out)[n.Zone] {
			continue
		}
		if n.Kind == 3 && n.Inner == k.Src {
			return i
		}
		if n.Kind == 1 && modelWithin(c, n.Object, k.Src) && addr.Is4(n.Outer) == addr.Is4(k.Src) {
			return i
		}
	}
	return -1
}

// maker makes configurations of few names, addresses and numbers, which may be or not.
type maker struct{ *rand.Rand }

func newMaker(seed int64) maker { return maker{rand.New(rand.NewSource(seed))} }

func pick[T any](m maker, l ...T) T { return l[m.Intn(len(l))] }

// name answers what is named: of each kind there are things so named, and not.
func (m maker) name() string { return pick(m, "", "any", "any", "any", "a", "b", "c") }

func (m maker) zoneName() string { return pick(m, "", "any", "a", "a", "b") }

func (m maker) addr() api.Addr {
	return pick(m, api.Addr{}, v4(10, 0, 0, 1), v4(10, 0, 0, 2), v4(255, 255, 255, 255), v6(1), v6(2), top)
}

func (m maker) proto() int { return pick(m, 0, 1, 6, 6, 17, 17, 47, 58) }

func (m maker) port() int { return pick(m, -1, 0, 79, 80, 81, 65535, 65536) }

// rng answers a range, now and then an empty one.
func (m maker) rng() api.Range { return api.Range{From: m.addr(), To: m.addr()} }

func (m maker) header() api.Header {
	return api.Header{In: m.Intn(6) - 1, Out: m.Intn(6) - 1, Key: api.Key{Proto: m.proto(), Src: m.addr(), Dst: m.addr(), SPort: m.port(), DPort: m.port()}}
}

func (m maker) config() api.Config {
	c := api.Config{Default: m.Intn(4)}
	for range m.Intn(6) {
		z := api.Zone{Name: m.zoneName(), Addr: m.addr()}
		for range m.Intn(4) {
			z.Ifaces = append(z.Ifaces, m.Intn(8)-1)
		}
		c.Zones = append(c.Zones, z)
	}
	for range m.Intn(5) {
		o := api.Object{Name: m.name()}
		for range m.Intn(3) {
			o.Ranges = append(o.Ranges, m.rng())
		}
		c.Objects = append(c.Objects, o)
	}
	for range m.Intn(5) {
		c.Services = append(c.Services, api.Service{Name: m.name(), Proto: m.proto(), From: m.port(), To: m.port()})
	}
	for range m.Intn(5) {
		c.Limits = append(c.Limits, api.Limit{Name: m.name(), Rate: m.Intn(3), Burst: m.Intn(3)})
	}
	for range m.Intn(5) {
		c.Routes = append(c.Routes, api.Route{To: m.rng(), Bits: pick(m, -8, 0, 8, 8, 32, 128), Iface: m.Intn(9) - 1})
	}
	for range m.Intn(6) {
		c.Nats = append(c.Nats, api.Nat{Kind: m.Intn(5), Zone: m.zoneName(), Object: m.name(), Service: m.name(), Outer: m.addr(), Inner: m.addr(), From: m.port(), To: m.port()})
	}
	for range m.Intn(12) {
		c.Rules = append(c.Rules, api.Rule{In: m.name(), Out: m.name(), Src: m.name(), Dst: m.name(), Service: m.name(), Action: m.Intn(5), Limit: m.name(), Proxy: m.Intn(2) == 0})
	}
	return c
}

// same tells of a call whether what it answered is what the model says.
func same[T comparable](t *testing.T, what string, c api.Config, h api.Header, got, want T) {
	t.Helper()
	if got != want {
		t.Fatalf("%s: %v, want %v\n%+v\n%+v", what, got, want, c, h)
	}
}

// destination is what Dest answers.
type destination struct {
	a           api.Addr
	port, place int
}

// way is what Route answers.
type way struct{ iface, zone int }

func TestIsTheModel(t *testing.T) {
	m := newMaker(3)
	told := map[string]int{}
	count := func(what string, n int) {
		if n >= 0 {
			told[what]++
		} else {
			told["no "+what]++
		}
	}
	for range 60000 {
		c, h, r := m.config(), m.header(), api.Rule{In: m.name(), Out: m.name(), Src: m.name(), Dst: m.name(), Service: m.name()}
		k, name, iface := h.Key, m.name(), m.Intn(9)-1
		was := copyOf(c)

		same(t, "Zone", c, h, Zone(c, iface), modelZone(c, iface))
		var got, want way
		got.iface, got.zone = Route(c, k.Dst)
		want.iface, want.zone = modelRoute(c, k.Dst)
		same(t, "Route", c, h, got, want)
		same(t, "Serves "+name, c, h, Serves(c, name, k), modelServes(c, name, k))
		same(t, "Within "+name, c, h, Within(c, name, k.Src), modelWithin(c, name, k.Src))
		same(t, "Matches", c, h, Matches(c, r, h), modelMatches(c, r, h))
		choice := modelChoose(c, h)
		same(t, "Choose", c, h, Choose(c, h), choice)
		var to, wantTo destination
		to.a, to.port, to.place = Dest(c, k)
		wantTo.a, wantTo.port, wantTo.place = modelDest(c, k)
		same(t, "Dest", c, h, to, wantTo)
		source := modelSource(c, h.Out, k)
		same(t, "Source", c, h, Source(c, h.Out, k), source)

		count("zone", want.zone)
		count("rule", choice.Rule)
		count("limit", choice.Limit)
		count("destination", wantTo.place)
		count("source", source)
		if !reflect.DeepEqual(c, was) {
			t.Fatalf("it is changed: %+v, was %+v", c, was)
		}
	}
	for _, what := range []string{"zone", "rule", "limit", "destination", "source"} {
		if told[what] < 1000 || told["no "+what] < 1000 {
			t.Error("too few are so:", what, told[what], told["no "+what])
		}
	}
}

// TestOneAnswer asks twice, with lists that have room behind their length: what lies there does not count (R3, R5).
func TestOneAnswer(t *testing.T) {
	m := newMaker(4)
	for range 5000 {
		c, h := m.config(), m.header()
		choice, source := Choose(c, h), Source(c, h.Out, h.Key)
		dst, port, place := Dest(c, h.Key)
		iface, zone := Route(c, h.Key.Dst)

		more := copyOf(c)
		other := m.config()
		more.Zones = append(more.Zones, other.Zones...)[:len(c.Zones)]
		more.Objects = append(more.Objects, other.Objects...)[:len(c.Objects)]
		more.Services = append(more.Services, other.Services...)[:len(c.Services)]
		more.Limits = append(more.Limits, other.Limits...)[:len(c.Limits)]
		more.Routes = append(more.Routes, other.Routes...)[:len(c.Routes)]
		more.Nats = append(more.Nats, other.Nats...)[:len(c.Nats)]
		more.Rules = append(more.Rules, other.Rules...)[:len(c.Rules)]
		same(t, "Choose", more, h, Choose(more, h), choice)
		same(t, "Source", more, h, Source(more, h.Out, h.Key), source)
		a, p, i := Dest(more, h.Key)
		same(t, "Dest", more, h, destination{a, p, i}, destination{dst, port, place})
		n, z := Route(more, h.Key.Dst)
		same(t, "Route", more, h, way{n, z}, way{iface, zone})
		if len(other.Rules) > 0 && !reflect.DeepEqual(append(c.Rules[:len(c.Rules):len(c.Rules)], other.Rules...), more.Rules[:len(c.Rules)+len(other.Rules)]) {
			t.Fatal("what lies behind the rules is changed")
		}
	}
}
