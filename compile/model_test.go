package compile

import (
	"math/bits"
	"math/rand"
	"reflect"
	"slices"
	"strconv"
	"testing"

	"sallyport/addr"
	"sallyport/api"
	"sallyport/classify"
	"sallyport/cuts"
	"sallyport/lang"
	"sallyport/rules"
)

// What the chapter says, said once more: a rule's ranges are told by the rows of those numbers of which rules.Matches and rules.Serves hold, and which box is the n-th by n's digits.

// rows answers the rows of numbers below n of which it holds, as ranges.
func rows(n int, holds func(int) bool) []api.Range {
	var l []api.Range
	for from := 0; from < n; from++ {
		to := from
		for to < n && holds(to) {
			to++
		}
		if to > from {
			l = append(l, rng(from, to-1))
			from = to
		}
	}
	return l
}

// modelZones answers the zone ranges of a rule: zones that c does not have are there for any, too.
func modelZones(c api.Config, r api.Rule) []api.Range {
	matches := func(name string, zone int) bool {
		return rules.Matches(c, api.Rule{In: name, Out: "any", Src: "any", Dst: "any", Service: "any"}, api.Header{In: zone})
	}
	return rows(256, func(n int) bool { return matches(r.In, n/16) && matches(r.Out, n%16) })
}

// modelService answers the protocols and the ports of a service: those of one protocol that it has.
func modelService(c api.Config, s api.Service) (protos, ports api.Range) {
	serves := func(proto, port int) bool {
		return rules.Serves(c, s.Name, api.Key{Proto: proto, DPort: port})
	}
	protos = rows(256, func(n int) bool { return serves(n, s.From) })[0]
	return protos, rows(65536, func(n int) bool { return serves(int(protos.To.Lo), n) })[0]
}

func modelAddresses(c api.Config, name string) []api.Range {
	for _, o := range c.Objects {
		if o.Name == name {
			return o.Ranges
		}
	}
	return []api.Range{all}
}

func modelEntries(c api.Config) []api.Entry {
	var l []api.Entry
	type told struct{ protos, ports api.Range }
	services := map[string]told{"any": {rng(0, 255), rng(0, 65535)}}
	for _, s := range c.Services {
		protos, ports := modelService(c, s)
		services[s.Name] = told{protos, ports}
	}
	for i, r := range c.Rules {
		zones, sources, destinations := modelZones(c, r), modelAddresses(c, r.Src), modelAddresses(c, r.Dst)
		service := services[r.Service]
		for n := range len(zones) * len(sources) * len(destinations) {
			dst := n % len(destinations)
			src := n / len(destinations) % len(sources)
			zone := n / len(destinations) / len(sources)
			l = append(l, entry(i, zones[zone], service.protos, service.ports, sources[src], destinations[dst]))
		}
	}
	return l
}

// modelProgram answers what a rule does, as what it comes to says it.
func modelProgram(o api.Choice) []Op {
	var p []Op
	if o.Limit >= 0 {
		p = append(p, Op{1, o.Limit})
	}
	if o.Proxy {
		p = append(p, Op{2, 0})
	}
	return append(p, Op{3, o.Action})
}

// maker makes configurations that lang.Check takes, and headers beside what their rules say.
type maker struct{ *rand.Rand }

func newMaker(seed int64) maker { return maker{rand.New(rand.NewSource(seed))} }

func pick[T any](m maker, l ...T) T { return l[m.Intn(len(l))] }

// names answers n names, in any order: things of all kinds bear the same.
func (m maker) names(n int) []string {
	var l []string
	for i := range n {
		l = append(l, "n"+strconv.Itoa(i))
	}
	m.Shuffle(n, func(i, k int) { l[i], l[k] = l[k], l[i] })
	return l
}

// oneOf answers one of n names, or any.
func (m maker) oneOf(n int) string {
	if i := m.Intn(n + 2); i < n {
		return "n" + strconv.Itoa(i)
	}
	return "any"
}

func (m maker) addr(v6bits bool) api.Addr {
	if v6bits {
		return pick(m, api.Addr{}, num(m.Intn(20)), v6(uint64(m.Intn(20))), api.Addr{Hi: 5, Lo: uint64(m.Intn(5)) - 2}, top)
	}
	return v4(10, 0, uint32(m.Intn(2)), uint32(m.Intn(40)))
}

// rng answers a range that has a text.
func (m maker) rng() api.Range {
	six := m.Intn(3) == 0
	r := api.Range{From: m.addr(six), To: m.addr(six)}
	switch {
	case m.Intn(3) == 0:
		r.To = r.From
	case addr.Compare(r.From, r.To) > 0:
		r.From, r.To = r.To, r.From
	}
	return r
}

func (m maker) service(name string) api.Service {
	s := api.Service{Name: name, Proto: pick(m, 0, 1, 6, 6, 6, 17, 17, 58, 255, m.Intn(256)), To: 65535}
	if s.Proto == 6 || s.Proto == 17 {
		s.From = pick(m, 0, 79, 80, 81, 443, 65535)
		s.To = min(s.From+pick(m, 0, 0, 1, 400, 65535), 65535)
	}
	return s
}

// config answers a configuration with at most that many rules.
func (m maker) config(most int) api.Config {
	c := api.Config{Default: pick(m, api.Accept, api.Drop)}
	for i, name := range m.names(m.Intn(api.MaxZones + 1)) {
		c.Zones = append(c.Zones, api.Zone{Name: name, Ifaces: []int{i}})
	}
	for _, name := range m.names(m.Intn(6)) {
		o := api.Object{Name: name}
		for range pick(m, 1, 2, 3, 8) {
			o.Ranges = append(o.Ranges, m.rng())
		}
		c.Objects = append(c.Objects, o)
	}
	for _, name := range m.names(m.Intn(8)) {
		c.Services = append(c.Services, m.service(name))
	}
	for _, name := range m.names(m.Intn(5)) {
		c.Limits = append(c.Limits, api.Limit{Name: name, Burst: 1, Source: m.Intn(2) == 0})
	}
	for range m.Intn(most + 1) {
		c.Rules = append(c.Rules, m.rule(c))
	}
	return c
}

func (m maker) rule(c api.Config) api.Rule {
	r := api.Rule{In: m.oneOf(len(c.Zones)), Out: m.oneOf(len(c.Zones)), Action: pick(m, api.Accept, api.Accept, api.Drop, api.Reject)}
	r.Src, r.Dst, r.Service = m.oneOf(len(c.Objects)), m.oneOf(len(c.Objects)), m.oneOf(len(c.Services))
	if r.Action != api.Accept {
		return r
	}
	if len(c.Limits) > 0 && m.Intn(2) == 0 {
		r.Limit = c.Limits[m.Intn(len(c.Limits))].Name
	}
	i := slices.IndexFunc(c.Services, func(s api.Service) bool { return s.Name == r.Service })
	r.Proxy = i >= 0 && c.Services[i].Proto == api.ProtoTCP && m.Intn(2) == 0
	return r
}

// beside answers an address at an end of one of the ranges, just outside, or anywhere.
func (m maker) beside(l []api.Range) api.Addr {
	if m.Intn(6) == 0 {
		return m.addr(m.Intn(2) == 0)
	}
	r := pick(m, l...)
	a := pick(m, r.From, r.To, r.From, r.To)
	if a == r.From && m.Intn(3) == 0 {
		a.Lo--
	} else if a == r.To && m.Intn(3) == 0 {
		a.Lo++
	}
	return a
}

// header answers one that a rule of c has, but for one thing or two.
func (m maker) header(c api.Config) api.Header {
	h := api.Header{In: m.Intn(len(c.Zones) + 1), Out: m.Intn(len(c.Zones) + 1)}
	h.Key = api.Key{Proto: pick(m, 0, 1, 6, 17, 58, 255), Src: m.addr(false), Dst: m.addr(true), SPort: pick(m, 0, 80, 65535), DPort: pick(m, 0, 79, 80, 82, 65535)}
	if len(c.Rules) == 0 {
		return h
	}
	r := pick(m, c.Rules...)
	for i, z := range c.Zones {
		if z.Name == r.In && m.Intn(4) > 0 {
			h.In = i
		}
		if z.Name == r.Out && m.Intn(4) > 0 {
			h.Out = i
		}
	}
	if i := slices.IndexFunc(c.Services, func(s api.Service) bool { return s.Name == r.Service }); i >= 0 {
		s := c.Services[i]
		h.Key.Proto = pick(m, s.Proto, s.Proto, s.Proto, h.Key.Proto)
		h.Key.DPort = min(max(pick(m, s.From-1, s.From, s.From, s.To, s.To, s.To+1), 0), 65535)
	}
	h.Key.Src, h.Key.Dst = m.beside(modelAddresses(c, r.Src)), m.beside(modelAddresses(c, r.Dst))
	return h
}

func TestEntriesAreTheModel(t *testing.T) {
	m := newMaker(1)
	told := map[string]int{}
	for n := range 300 {
		c := m.config(1 + n%48)
		was := copyOf(c)
		want := modelEntries(c)
		l, e := Entries(c)
		switch {
		case lang.Check(c) != api.OK:
			t.Fatalf("the model makes what may not be: %+v", c)
		case len(want) > 1024 && e == api.ErrComplex && len(l) == 0:
			told["too many"]++
		case len(want) > 1024 || e != api.OK || !slices.Equal(l, want):
			t.Fatalf("%d entries, %d; want %d\n%+v", len(l), e, len(want), c)
		case len(l) > 100:
			told["many"]++
		default:
			told["few"]++
		}
		if !reflect.DeepEqual(c, was) {
			t.Fatalf("it is changed: %+v, was %+v", c, was)
		}
	}
	if told["too many"] < 20 || told["many"] < 20 || told["few"] < 20 {
		t.Error("too few are so:", told)
	}
}

// P10.5, W2

// wantMeaning holds what a table chooses for a header against what the configuration means, and the way to it against the tree of its entries.
func wantMeaning(t *testing.T, c api.Config, x *Table, tree *classify.Tree, h api.Header) api.Choice {
	t.Helper()
	got, visited, compared := x.Choose(h)
	if want := rules.Choose(c, h); got != want {
		t.Fatalf("%+v: %+v, want %+v\n%+v", h, got, want, c)
	}
	p, ok := Point(h)
	rule, v, n := tree.Find(p)
	if !ok || got.Rule != rule || visited != v || compared != n {
		t.Fatalf("%+v: %+v, %d, %d; want %d, %d, %d\n%+v", h, got, visited, compared, rule, v, n, c)
	}
	if visited < 1 || visited > 24 || compared < 0 || compared > 8 {
		t.Fatalf("%+v: %d nodes, %d entries", h, visited, compared)
	}
	if p := x.Program(rule); !slices.Equal(p, modelProgram(got)) {
		t.Fatalf("Program(%d): %v, want %v", rule, p, modelProgram(got))
	}
	return got
}

func TestChooseIsTheMeaning(t *testing.T) {
	m := newMaker(2)
	told := map[string]int{}
	for n := range 800 {
		c := m.config(1 + n%15)
		entries, e := Entries(c)
		if e != api.OK { // that it is so of too many alone is held above
			wantNoTable(t, "too many", c, api.ErrComplex)
			told["too many"]++
			continue
		}
		tree, e := classify.Build(entries)
		if e != api.OK {
			wantNoTable(t, "too complex", c, api.ErrComplex)
			told["too complex"]++
			continue
		}
		x := lower(t, c)
		if x.Nodes() != tree.Nodes() || x.Nodes() > 512 {
			t.Fatalf("%d nodes, want %d\n%+v", x.Nodes(), tree.Nodes(), c)
		}
		told["trees of "+strconv.Itoa(bits.Len(uint(x.Nodes())))+" bits"]++
		for range 100 {
			choice := wantMeaning(t, c, x, tree, m.header(c))
			told["rule "+strconv.FormatBool(choice.Rule >= 0)]++
			told["limit "+strconv.FormatBool(choice.Limit >= 0)]++
			told["proxy "+strconv.FormatBool(choice.Proxy)]++
		}
	}
	for _, what := range []string{"rule true", "rule false", "limit true", "limit false", "proxy true", "proxy false"} {
		if told[what] < 500 {
			t.Error("too few are so:", what, told[what])
		}
	}
	for _, what := range []string{"too many", "too complex", "trees of 1 bits", "trees of 4 bits", "trees of 7 bits", "trees of 9 bits"} {
		if told[what] < 10 {
			t.Error("too few are so:", what, told)
		}
	}
}

// TestEachCornerIsTheMeaning goes to all zones, and to each corner of the boxes of one configuration.
func TestEachCornerIsTheMeaning(t *testing.T) {
	c := edge(t,
		"rule in out lan any web accept limit fast proxy",
		"rule any dmz net lan dns drop",
		"rule out any any lan gre reject",
		"rule any in any any ping accept limit slow",
		"rule dmz any lan net every accept",
		"rule out in net any tcp accept proxy",
		"default accept")
	x := lower(t, c)
	tree, e := classify.Build(modelEntries(c))
	if e != api.OK {
		t.Fatal(e)
	}
	ends := []api.Addr{{}, net10.From, net10.To, net192.From, net8.To, net6.From, net6.To, host.From, top}
	chosen := map[int]int{}
	for zones := range 9 { // in, out and dmz, each to each
		for _, proto := range []int{0, 1, 6, 17, 47, 255} {
			for _, port := range []int{0, 52, 53, 54, 55, 79, 80, 81, 65535} {
				for _, src := range ends {
					for _, dst := range ends {
						h := api.Header{In: zones / 3, Out: zones % 3, Key: api.Key{Proto: proto, Src: src, Dst: dst, DPort: port}}
						chosen[wantMeaning(t, c, x, tree, h).Rule]++
					}
				}
			}
		}
	}
	for rule := -1; rule < len(c.Rules); rule++ {
		if chosen[rule] == 0 {
			t.Errorf("rule %d is never chosen", rule)
		}
	}
}

// spoil changes one thing in c, so that it may be or not.
func (m maker) spoil(c *api.Config) {
	name := pick(m, "", "any", "n0", "n1", "n9", "N")
	n := pick(m, extremes()...)
	switch i := m.Intn(8); {
	case i == 0 && len(c.Zones) > 0:
		c.Zones[m.Intn(len(c.Zones))] = api.Zone{Name: name, Ifaces: []int{n}}
	case i == 1 && len(c.Objects) > 0:
		c.Objects[m.Intn(len(c.Objects))] = api.Object{Name: name, Ranges: []api.Range{{From: m.addr(false), To: m.addr(true)}}}
	case i == 2 && len(c.Services) > 0:
		c.Services[m.Intn(len(c.Services))] = api.Service{Name: name, Proto: n, To: 65535}
	case i == 3 && len(c.Limits) > 0:
		c.Limits[m.Intn(len(c.Limits))] = api.Limit{Name: name, Burst: n}
	case i == 4:
		c.Default = n
	default:
		r := m.rule(*c)
		*pick(m, &r.In, &r.Out, &r.Src, &r.Dst, &r.Service, &r.Limit) = name
		c.Rules = append(c.Rules, r)
	}
}

// TestRefusesWhatCheckRefuses has configurations with one thing that may not be, or with names of what is there no more (R1, P10.2, P10.3).
func TestRefusesWhatCheckRefuses(t *testing.T) {
	m := newMaker(5)
	told := map[api.Errno]int{}
	for range 3000 {
		c := m.config(4)
		m.spoil(&c)
		e := lang.Check(c)
		told[e]++
		if e != api.OK {
			wantRefused(t, "what may not be", c, e)
			continue
		}
		if x, e := Lower(c); e == api.OK {
			wantProgram(t, x, -1, Op{OpVerdict, c.Default})
		} else if e != api.ErrComplex {
			t.Errorf("Lower: %d", e)
		}
	}
	for _, e := range []api.Errno{api.OK, api.ErrArg, api.ErrRange, api.ErrNumber, api.ErrName, api.ErrTwice} {
		if told[e] < 50 {
			t.Error("too few are so:", e, told)
		}
	}
}

// TestOneAnswer asks again, with lists that have room behind their length: what lies there does not count, and is left as it is (R3, R5).
func TestOneAnswer(t *testing.T) {
	m := newMaker(3)
	for range 200 {
		c, other := m.config(4), m.config(4)
		more := copyOf(c)
		more.Zones = append(more.Zones, other.Zones...)[:len(c.Zones)]
		more.Objects = append(more.Objects, other.Objects...)[:len(c.Objects)]
		more.Services = append(more.Services, other.Services...)[:len(c.Services)]
		more.Limits = append(more.Limits, other.Limits...)[:len(c.Limits)]
		more.Rules = append(more.Rules, other.Rules...)[:len(c.Rules)]
		l, e := Entries(c)
		again, f := Entries(more)
		if e != f || !slices.Equal(l, again) {
			t.Fatalf("%d entries, %d; want %d, %d", len(again), f, len(l), e)
		}
		x, e := Lower(c)
		y, f := Lower(more)
		if e != f || (x == nil) != (y == nil) {
			t.Fatalf("%d, want %d", f, e)
		}
		for range 50 {
			if x == nil {
				break
			}
			h := m.header(c)
			choice, visited, compared := x.Choose(h)
			wantChoose(t, "again", x, h, choice, visited, compared)
			wantChoose(t, "another table", y, h, choice, visited, compared)
		}
		if len(other.Rules) > 0 && !slices.Equal(more.Rules[:len(c.Rules)+len(other.Rules)][len(c.Rules):], other.Rules) {
			t.Fatal("what lies behind the rules is changed")
		}
	}
}

// TestBoxesHaveWhatTheyMatch holds each box by itself against what its rule matches, whatever the rules ahead of it are.
func TestBoxesHaveWhatTheyMatch(t *testing.T) {
	m := newMaker(4)
	had := map[bool]int{}
	for range 300 {
		c := m.config(6)
		l, e := Entries(c)
		if e != api.OK {
			continue
		}
		for range 30 {
			h := m.header(c)
			p, _ := Point(h)
			for i, r := range c.Rules {
				has := slices.ContainsFunc(l, func(e api.Entry) bool { return e.Rule == i && cuts.HasPoint(e.Box, p) })
				if want := rules.Matches(c, r, h); has != want {
					t.Fatalf("rule %d, %+v: %v, want %v\n%+v", i, h, has, want, c)
				}
				had[has]++
			}
		}
	}
	if had[true] < 1000 || had[false] < 1000 {
		t.Error("too few are so:", had)
	}
}
