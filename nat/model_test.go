package nat

import (
	"iter"
	"math/rand"
	"slices"
	"testing"

	"sallyport/addr"
	"sallyport/api"
	"sallyport/flow"
	"sallyport/rules"
)

// What the chapter says, said once more: with rows of all ports, and of all keys with which a flow might go out, of which the first one that is free is taken.

// modelPorts are the ports that are tried, in their order: all, one behind the other, of which those from want on are told first.
func modelPorts(from, to, want int) iter.Seq[int] {
	return func(yield func(int) bool) {
		if from < 0 || from > 65535 || to < from || to > 65535 {
			return
		}
		for _, first := range []bool{true, false} {
			for p := from; p <= to; p++ {
				behind := p < want && want <= to
				if behind != first && !yield(p) {
					return
				}
			}
		}
	}
}

// turned is a key that comes the other way.
func turned(k api.Key) api.Key {
	return api.Key{Proto: k.Proto, Src: k.Dst, Dst: k.Src, SPort: k.DPort, DPort: k.SPort}
}

// modelOuts are the keys with which the flow of k, which goes to judge in the zone number zone, might go out, and by which of the chapter's cases.
func modelOuts(c api.Config, in, zone int, k, judge api.Key, called bool) (iter.Seq[api.Key], string) {
	out := judge
	place := rules.Source(c, zone, judge)
	var ports iter.Seq[int]
	what := "as it is"
	switch {
	case place >= 0 && c.Nats[place].Kind == 3:
		out.Src = c.Nats[place].Outer
		return slices.Values([]api.Key{out}), "static"
	case place >= 0:
		what, out.Src, ports = "snat", c.Nats[place].Outer, modelPorts(c.Nats[place].From, c.Nats[place].To, k.SPort)
	case called && zone == in && addr.Is4(c.Zones[zone].Addr) == addr.Is4(k.Src):
		what, out.Src, ports = "hairpin", c.Zones[zone].Addr, modelPorts(1024, 65535, k.SPort)
	default:
		return slices.Values([]api.Key{out}), what
	}
	if k.Proto != 1 && k.Proto != 6 && k.Proto != 17 && k.Proto != 58 {
		return slices.Values([]api.Key{out}), what + " without ports"
	}
	return func(yield func(api.Key) bool) {
		for p := range ports {
			o := out
			o.SPort = p
			if k.Proto == 1 || k.Proto == 58 {
				o.DPort = p
			}
			if !yield(o) {
				return
			}
		}
	}, what
}

// modelMake tells what Make answers, and by which case.
func modelMake(c api.Config, in int, k api.Key, taken []api.Key) (Plan, int, string) {
	dst, port, place := rules.Dest(c, k)
	judge := api.Key{Proto: k.Proto, Src: k.Src, Dst: dst, SPort: k.SPort, DPort: port}
	if k.Proto == 1 || k.Proto == 58 {
		judge.DPort = k.DPort
	}
	iface, zone := rules.Route(c, dst)
	if iface == -1 {
		return Plan{}, 8, "no route"
	}
	if zone == -1 {
		return Plan{}, 3, "no zone"
	}
	outs, what := modelOuts(c, in, zone, k, judge, place != -1)
	tried := 0
	for out := range outs {
		if b := turned(out); !slices.Contains(taken, b) && b != k {
			if tried > 0 {
				what += ", not the first port"
			}
			return Plan{Judge: judge, Open: k, Out: out, Back: b, Home: turned(k), Iface: iface, Zone: zone}, 0, what
		}
		tried++
	}
	return Plan{}, 15, what + ", no port"
}

// tally counts which cases there were.
type tally map[string]int

// cases are all that there may be.
func cases() []string {
	l := []string{"no route", "no zone"}
	for _, what := range []string{"as it is", "static", "snat", "hairpin", "snat without ports", "hairpin without ports"} {
		l = append(l, what)
		if what == "snat" || what == "hairpin" {
			l = append(l, what+", not the first port")
		}
		if what != "hairpin" { // it has more ports than are taken here
			l = append(l, what+", no port")
		}
	}
	return l
}

func (n tally) wantEach(t *testing.T, least int) {
	t.Helper()
	for _, what := range cases() {
		if n[what] < least {
			t.Errorf("%s: just %d", what, n[what])
		}
	}
	if len(n) != len(cases()) {
		t.Errorf("%v: other cases", n)
	}
}

// wantModel checks one Make, and answers it.
func wantModel(t *testing.T, c api.Config, in int, k api.Key, taken []api.Key, n tally) (Plan, int) {
	t.Helper()
	got, reason := Make(c, in, k, taken)
	want, why, what := modelMake(c, in, k, taken)
	if got != want || reason != why {
		t.Fatalf("Make(%+v, %d, %v, %v): %+v, %d; want %+v, %d: %s", c, in, k, taken, got, reason, want, why, what)
	}
	n[what]++
	return got, reason
}

func TestPortAgainstTheModel(t *testing.T) {
	for from := range 8 {
		for to := from; to < 8; to++ {
			for want := -2; want < 10; want++ {
				wantPortsOfModel(t, from, to, want)
				wantPortsOfModel(t, from+65528, to+65528, want+65528)
			}
		}
	}
	// Few of the rest, as there are many ports.
	m := newMaker(2)
	for range 3000 {
		from, to, want := pick(m, numbers()...), pick(m, numbers()...), pick(m, numbers()...)
		l := slices.Collect(modelPorts(from, to, want))
		for _, i := range append(numbers(), len(l)-1, len(l)) {
			if i >= 0 && i < len(l) {
				wantPort(t, from, to, want, i, l[i])
			} else {
				wantNoPort(t, from, to, want, i)
			}
		}
	}
}

// wantPortsOfModel checks all ports of a few.
func wantPortsOfModel(t *testing.T, from, to, want int) {
	t.Helper()
	l := slices.Collect(modelPorts(from, to, want))
	for i, p := range l {
		wantPort(t, from, to, want, i, p)
	}
	wantNoPort(t, from, to, want, -1)
	wantNoPort(t, from, to, want, len(l))
	wantNoPort(t, from, to, want, len(l)+1)
}

// maker makes configurations and keys of few addresses, ports and names, which may be or not.
type maker struct{ *rand.Rand }

func newMaker(seed int64) maker { return maker{rand.New(rand.NewSource(seed))} }

func pick[T any](m maker, l ...T) T { return l[m.Intn(len(l))] }

func (m maker) addr() api.Addr {
	return pick(m, host, host, other, server, outer, own, v6(1), v6(2))
}

func (m maker) proto() int { return pick(m, 1, 6, 17, 17, 17, 58, 47, 0) }

func (m maker) port() int { return pick(m, 1024, 1025, 1026, 1026, 1027, 5, 0, -1, 65536) }

func (m maker) key() api.Key {
	return api.Key{Proto: m.proto(), Src: m.addr(), Dst: m.addr(), SPort: m.port(), DPort: m.port()}
}

// some answers all addresses, those of one family, or but one.
func (m maker) some() api.Range {
	a := m.addr()
	return pick(m, api.Range{From: a, To: a}, api.Range{To: api.Addr{Hi: 1 << 63}}, api.Range{From: v4(0, 0, 0, 0), To: v4(255, 255, 255, 255)}, api.Range{From: v4(10, 0, 0, 0), To: v4(10, 255, 255, 255)})
}

func (m maker) nat() api.Nat {
	n := api.Nat{Kind: pick(m, 1, 1, 2, 2, 2, 3, 0), Zone: pick(m, "a", "b"), Object: pick(m, "any", "lan", "none"), Service: pick(m, "any", "any", "web", "none"), Outer: m.addr(), Inner: m.addr(), From: pick(m, 1024, 1025, 0, 1026, -1)}
	n.To = n.From + m.Intn(4) - m.Intn(2)
	if n.Kind == api.NatDest && m.Intn(2) == 0 {
		n.From, n.Outer = 0, outer
	}
	return n
}

func (m maker) config() api.Config {
	c := api.Config{
		Objects:  []api.Object{{Name: "lan", Ranges: []api.Range{m.some()}}},
		Services: []api.Service{{Name: "web", Proto: m.proto(), From: 0, To: m.port()}},
	}
	for range 1 + m.Intn(3) {
		c.Zones = append(c.Zones, api.Zone{Name: pick(m, "a", "b"), Addr: m.addr(), Ifaces: []int{m.Intn(3), m.Intn(4) - 1}})
	}
	for range m.Intn(4) {
		c.Routes = append(c.Routes, api.Route{To: m.some(), Bits: m.Intn(3), Iface: pick(m, 0, 0, 0, 1, 1, 2, 3, -1)})
	}
	for range m.Intn(5) {
		c.Nats = append(c.Nats, m.nat())
	}
	return c
}

// near answers keys that are mostly those which come back of what goes out like out.
func (m maker) near(out api.Key, n int) []api.Key {
	var l []api.Key
	for range m.Intn(n) {
		k := turned(out)
		if m.Intn(3) > 0 {
			k.DPort += m.Intn(7) - 3
		}
		if k.Proto == 1 || k.Proto == 58 {
			k.SPort = k.DPort
		}
		switch m.Intn(12) {
		case 0:
			k = m.key()
		case 1:
			k.Src = m.addr()
		case 2:
			k.Proto = m.proto()
		case 3:
			k.SPort = m.port()
		}
		l = append(l, k)
	}
	return l
}

func TestAgainstTheModel(t *testing.T) {
	n, m := tally{}, newMaker(1)
	for range 40000 {
		c, k, in := m.config(), m.key(), m.Intn(4)-1
		for range 3 {
			taken := []api.Key{}
			// Mostly those are taken that it would get.
			for range m.Intn(4) {
				p, reason := wantModel(t, c, in, k, taken, n)
				if reason != api.DropNone {
					break
				}
				taken = append(taken, m.near(p.Out, 8)...)
			}
			wantModel(t, c, in, k, taken, n)
			if k.Src = m.addr(); m.Intn(2) == 0 {
				k = m.key()
			}
		}
	}
	n.wantEach(t, 100)
}

// few are the flows of a small world: of two hosts and a server, by two ports, of each kind of protocol.
func few() []api.Key {
	var l []api.Key
	for _, proto := range []int{api.ProtoTCP, api.ProtoICMP, 47} {
		for _, src := range []api.Addr{host, other, server} {
			for _, dst := range []api.Addr{server, outer} {
				l = append(l, of(proto, key(src, 5000, dst, 5000)))
			}
		}
		l = append(l, of(proto, key(host, 5001, outer, 5000)))
	}
	return l
}

// TestAllShortRows plans all rows of up to three flows, one behind the other, in a few configurations; each knows the keys of those ahead.
func TestAllShortRows(t *testing.T) {
	n := tally{}
	for _, s := range []string{
		"",
		"snat out any 1.2.3.4 5000-5001\n",
		"snat out any 1.2.3.4 5000-5001\ndnat 1.2.3.4 any 10.0.0.2\n",
		"static out 1.2.3.4 10.0.0.1\nsnat out any 1.2.3.5 5000-5000\n",
		"dnat 1.2.3.4 any 8.8.8.8 5000\nsnat in any 10.0.0.254 5000-5000\n",
	} {
		c := edge(t, s)
		var walk func(table []api.Key, left int)
		walk = func(table []api.Key, left int) {
			for _, k := range few() {
				for in := range 2 {
					p, reason := wantModel(t, c, in, k, table, n)
					if reason == api.DropNone && left > 1 {
						walk(append(table, p.Open, p.Back), left-1)
					}
				}
			}
		}
		walk(nil, 3)
	}
	for _, what := range []string{"as it is", "static", "snat", "hairpin", "as it is, no port", "static, no port", "snat, no port", "snat, not the first port", "hairpin, not the first port", "snat without ports", "hairpin without ports"} {
		if n[what] < 100 {
			t.Errorf("%s: just %d", what, n[what])
		}
	}
}

// P16.3

// tableKeys are the keys of all flows of a table.
func tableKeys(t *flow.Table) []api.Key {
	var l []api.Key
	for _, f := range t.List() {
		l = append(l, f.Open, f.Back)
	}
	return l
}

// TestWhatFollows puts flow behind flow into a table, which takes each whose Open is not there: they share no key.
func TestWhatFollows(t *testing.T) {
	planned := 0
	for seed := range 4000 {
		m := newMaker(int64(seed))
		c, table := m.config(), flow.New()
		for range 30 {
			k, taken := m.key(), tableKeys(table)
			p, reason := Make(c, m.Intn(4)-1, k, taken)
			if reason != api.DropNone {
				continue
			}
			planned++
			if slices.Contains(taken, p.Back) || p.Back == p.Open || p.Open != k {
				t.Fatalf("%+v, %v: %+v", c, taken, p)
			}
			if flow.Turned(p.Out) != p.Back || flow.Turned(p.Back) != p.Out || flow.Turned(p.Home) != p.Open || flow.Turned(flow.Turned(k)) != k {
				t.Fatalf("%+v: not turned", p)
			}
			if p.Home.Dst != k.Src || p.Home.DPort != k.SPort || p.Home.Src != k.Dst || p.Home.SPort != k.DPort {
				t.Fatalf("%+v: not who opened it", p)
			}
			_, _, e := table.Add(flow.Flow{Open: p.Open, Back: p.Back})
			if twice := slices.Contains(taken, k); twice != (e == api.ErrTwice) || !twice && e != api.OK {
				t.Fatalf("%v, %+v: %d", taken, p, e)
			}
		}
	}
	if planned < 10000 {
		t.Errorf("just %d", planned)
	}
}
