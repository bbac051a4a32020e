package compile

import (
	"math"
	"reflect"
	"slices"
	"testing"

	"sallyport/api"
	"sallyport/classify"
	"sallyport/lang"
)

// P10.1

func wantPoint(t *testing.T, h api.Header, want api.Point) {
	t.Helper()
	if p, ok := Point(h); p != want || !ok {
		t.Errorf("Point(%+v): %x, %v; want %x", h, p, ok, want)
	}
}

func wantNoPoint(t *testing.T, h api.Header) {
	t.Helper()
	if p, ok := Point(h); p != (api.Point{}) || ok {
		t.Errorf("Point(%+v): %x, %v; want none", h, p, ok)
	}
}

func point(zones, proto, sport, dport int, src, dst api.Addr) api.Point {
	return api.Point{F: [api.Fields]api.Addr{num(zones), num(proto), num(sport), num(dport), src, dst}}
}

func TestPoint(t *testing.T) {
	wantPoint(t, api.Header{}, api.Point{})
	wantPoint(t, api.Header{In: 3, Out: 9, Key: api.Key{Proto: 47, Src: v6(7), Dst: v4(1, 2, 3, 4), SPort: 5000, DPort: 80}}, point(57, 47, 5000, 80, v6(7), v4(1, 2, 3, 4)))
	wantPoint(t, call(), point(1, 6, 5000, 80, v4(10, 1, 1, 1), v4(8, 8, 8, 8)))
	wantPoint(t, api.Header{In: 15, Out: 15, Key: api.Key{Proto: 255, Src: top, Dst: top, SPort: 65535, DPort: 65535}}, point(255, 255, 65535, 65535, top, top))
	for _, a := range []api.Addr{{}, {Lo: 1}, {Lo: math.MaxUint64}, {Hi: 1}, {Hi: math.MaxUint64}, v4(255, 255, 255, 255), top} {
		wantPoint(t, api.Header{Key: api.Key{Src: a}}, point(0, 0, 0, 0, a, api.Addr{}))
		wantPoint(t, api.Header{Key: api.Key{Dst: a}}, point(0, 0, 0, 0, api.Addr{}, a))
	}
	for in := range 16 {
		for out := range 16 {
			wantPoint(t, api.Header{In: in, Out: out}, point(16*in+out, 0, 0, 0, api.Addr{}, api.Addr{}))
		}
	}
}

// TestPointHasNoRoom has each number of a header by itself, at its ends and beyond them, in a header that is small else, and in one that is great.
func TestPointHasNoRoom(t *testing.T) {
	small := api.Header{}
	great := api.Header{In: 15, Out: 15, Key: api.Key{Proto: 255, Src: top, Dst: top, SPort: 65535, DPort: 65535}}
	for _, n := range extremes() {
		for what, x := range map[string]struct {
			most  int
			field int
			unit  int
			put   func(h *api.Header)
		}{
			"in":               {15, api.FieldZones, 16, func(h *api.Header) { h.In = n }},
			"out":              {15, api.FieldZones, 1, func(h *api.Header) { h.Out = n }},
			"protocol":         {255, api.FieldProto, 1, func(h *api.Header) { h.Key.Proto = n }},
			"source port":      {65535, api.FieldSPort, 1, func(h *api.Header) { h.Key.SPort = n }},
			"destination port": {65535, api.FieldDPort, 1, func(h *api.Header) { h.Key.DPort = n }},
		} {
			low, high := small, great
			x.put(&low)
			x.put(&high)
			if n < 0 || n > x.most {
				wantNoPoint(t, low)
				wantNoPoint(t, high)
			} else {
				var p api.Point
				p.F[x.field] = num(x.unit * n)
				wantPoint(t, low, p)
				p = point(255, 255, 65535, 65535, top, top)
				p.F[x.field].Lo -= uint64(x.unit * (x.most - n))
				wantPoint(t, high, p)
			}
			if t.Failed() {
				t.Fatal(what)
			}
		}
	}
}

// P10.2

func TestEntriesOfNoRules(t *testing.T) {
	wantEntries(t, "an empty text", text(t, ""))
	wantEntries(t, "no rules", edge(t))
}

func TestEntriesOfAny(t *testing.T) {
	want := entry(0, rng(0, 255), rng(0, 255), rng(0, 65535), all, all)
	wantEntries(t, "nothing but a rule", text(t, "rule any any any any any accept"), want)
	for _, does := range []string{"accept", "drop", "reject", "accept limit slow"} {
		wantEntries(t, does, edge(t, "rule any any any any any "+does), want)
	}
}

func TestEntriesOfZones(t *testing.T) {
	of := func(ranges ...api.Range) []api.Entry {
		var l []api.Entry
		for _, r := range ranges {
			l = append(l, entry(0, r, rng(0, 255), rng(0, 65535), all, all))
		}
		return l
	}
	to := func(out int) []api.Entry {
		var l []api.Range
		for n := out; n < 256; n += 16 {
			l = append(l, rng(n, n))
		}
		return of(l...)
	}
	for zones, want := range map[string][]api.Entry{
		"in in":   of(rng(0, 0)),
		"in out":  of(rng(1, 1)),
		"in dmz":  of(rng(2, 2)),
		"out in":  of(rng(16, 16)),
		"out out": of(rng(17, 17)),
		"dmz in":  of(rng(32, 32)),
		"dmz dmz": of(rng(34, 34)),
		"in any":  of(rng(0, 15)),
		"out any": of(rng(16, 31)),
		"dmz any": of(rng(32, 47)),
		"any in":  to(0),
		"any out": to(1),
		"any dmz": to(2),
		"any any": of(rng(0, 255)),
	} {
		wantEntries(t, zones, edge(t, "rule "+zones+" any any any accept"), want...)
	}
}

// TestEntriesOfTheLastZone has as many zones as there may be.
func TestEntriesOfTheLastZone(t *testing.T) {
	c := text(t, "zone a ::1 0\nzone b ::1 1\nzone c ::1 2\nzone d ::1 3\nzone e ::1 4\nzone f ::1 5\nzone g ::1 6\nzone h ::1 7 15\nrule h h any any any drop\nrule h any any any any drop\nrule g h any any any drop\nrule any h any any any drop")
	of := func(rule, from, to int) api.Entry {
		return entry(rule, rng(from, to), rng(0, 255), rng(0, 65535), all, all)
	}
	want := []api.Entry{of(0, 119, 119), of(1, 112, 127), of(2, 103, 103)}
	for k := range 16 {
		want = append(want, of(3, 16*k+7, 16*k+7))
	}
	wantEntries(t, "eight zones", c, want...)
}

func TestEntriesOfServices(t *testing.T) {
	for service, want := range map[string][2]api.Range{
		"any":   {rng(0, 255), rng(0, 65535)},
		"web":   {rng(6, 6), rng(80, 80)},
		"dns":   {rng(17, 17), rng(53, 54)},
		"tcp":   {rng(6, 6), rng(0, 65535)},
		"ping":  {rng(1, 1), rng(0, 65535)},
		"ping6": {rng(58, 58), rng(0, 65535)},
		"every": {rng(0, 255), rng(0, 65535)},
		"gre":   {rng(47, 47), rng(0, 65535)},
	} {
		wantEntries(t, service, edge(t, "rule any any any any "+service+" accept"), entry(0, rng(0, 255), want[0], want[1], all, all))
	}
	c := text(t, "service first tcp 0\nservice last udp 65535\nservice high tcp 1024-65535\nservice top 255\nrule any any any any first drop\nrule any any any any last drop\nrule any any any any high drop\nrule any any any any top drop")
	wantEntries(t, "the outermost numbers", c,
		entry(0, rng(0, 255), rng(6, 6), rng(0, 0), all, all),
		entry(1, rng(0, 255), rng(17, 17), rng(65535, 65535), all, all),
		entry(2, rng(0, 255), rng(6, 6), rng(1024, 65535), all, all),
		entry(3, rng(0, 255), rng(255, 255), rng(0, 65535), all, all))
}

func TestEntriesOfObjects(t *testing.T) {
	of := func(src, dst api.Range) api.Entry {
		return entry(0, rng(0, 255), rng(0, 255), rng(0, 65535), src, dst)
	}
	for objects, want := range map[string][]api.Entry{
		"lan any": {of(net10, all), of(net192, all)},
		"any lan": {of(all, net10), of(all, net192)},
		"net any": {of(net8, all), of(net6, all), of(host, all)},
		"lan net": {of(net10, net8), of(net10, net6), of(net10, host), of(net192, net8), of(net192, net6), of(net192, host)},
		"net lan": {of(net8, net10), of(net8, net192), of(net6, net10), of(net6, net192), of(host, net10), of(host, net192)},
		"lan lan": {of(net10, net10), of(net10, net192), of(net192, net10), of(net192, net192)},
	} {
		wantEntries(t, objects, edge(t, "rule any any "+objects+" any accept"), want...)
	}
	// Each of an object's ranges counts, also one that stands twice, or lies within another.
	c := text(t, "object o 10.0.0.0/8 10.0.0.1 10.0.0.0/8\nrule any any o any any drop")
	wantEntries(t, "ranges that meet", c, of(net10, all), of(api.Range{From: v4(10, 0, 0, 1), To: v4(10, 0, 0, 1)}, all), of(net10, all))
}

// TestEntriesTurn has several of all three that turn: destinations fastest, then sources, then zones.
func TestEntriesTurn(t *testing.T) {
	var want []api.Entry
	for _, k := range []int{1, 17, 33, 49, 65, 81, 97, 113, 129, 145, 161, 177, 193, 209, 225, 241} {
		for _, src := range []api.Range{net10, net192} {
			for _, dst := range []api.Range{net8, net6, host} {
				want = append(want, entry(0, rng(k, k), rng(6, 6), rng(80, 80), src, dst))
			}
		}
	}
	wantEntries(t, "zones, sources, destinations", edge(t, "rule any out lan net web accept"), want...)
}

func TestEntriesOfSeveralRules(t *testing.T) {
	c := edge(t, "rule in out lan any web accept", "rule any any any any any drop", "rule any any any any any drop", "rule out dmz any net dns reject")
	web, dns := rng(80, 80), rng(53, 54)
	wantEntries(t, "four rules", c,
		entry(0, rng(1, 1), rng(6, 6), web, net10, all),
		entry(0, rng(1, 1), rng(6, 6), web, net192, all),
		entry(1, rng(0, 255), rng(0, 255), rng(0, 65535), all, all),
		entry(2, rng(0, 255), rng(0, 255), rng(0, 65535), all, all),
		entry(3, rng(18, 18), rng(17, 17), dns, all, net8),
		entry(3, rng(18, 18), rng(17, 17), dns, all, net6),
		entry(3, rng(18, 18), rng(17, 17), dns, all, host))
}

// TestEntriesOfOneName has things of all kinds that bear one name, each at another place.
func TestEntriesOfOneName(t *testing.T) {
	c := text(t, `zone a ::1 0
zone b ::1 1
zone x ::1 2
object x 10.0.0.0/8
object a 192.168.0.0/16
object b 1.1.1.1
service b udp 53-54
service x tcp 80
service a 47
limit a 1 1
limit b 1 1
limit x 1 1
rule x a x a x accept limit x
rule a b b x a accept limit b
`)
	wantEntries(t, "one name", c,
		entry(0, rng(32, 32), rng(6, 6), rng(80, 80), net10, net192),
		entry(1, rng(1, 1), rng(47, 47), rng(0, 65535), host, net10))
}

// TestMostEntries: 1024 of them are not too many, whatever they are; one more is, also where the tree of all would not be too complex.
func TestMostEntries(t *testing.T) {
	for n, rules := range map[int][]string{
		1:    {"any any any"},
		16:   {"z any any"},
		64:   {"any o8 o8"},
		1008: {"z o7 o8", "any o8 o8", "any o8 o6"},
		1023: {"z o8 o7", "any o8 o8", "any o7 o8", "any any o7"},
		1024: {"z o8 o7", "any o8 o8", "any o7 o8", "any any o7", "any any any"},
	} {
		if l := entriesOf(t, sized(rules...)); len(l) != n {
			t.Errorf("%v: %d entries, want %d", rules, len(l), n)
		}
	}
	most := sized("z o8 o8")
	l := entriesOf(t, most)
	if len(l) != 1024 {
		t.Errorf("%d entries", len(l))
	}
	if n := lower(t, most).Nodes(); n != 255 {
		t.Errorf("the tree of the most entries has %d nodes", n)
	}
	if x, e := classify.Build(append(l, l...)); e != api.OK || x.Nodes() != 511 {
		t.Errorf("the tree of twice as many: %d", e)
	}
	for what, rules := range map[string][]string{
		"1025":                   {"z o8 o8", "any any any"},
		"1025, the one ahead":    {"any any any", "z o8 o8"},
		"1025, rule by rule":     {"z o8 o7", "any o8 o8", "any o7 o8", "any any o7", "any any any", "any any any"},
		"2048":                   {"z o8 o8", "z o8 o8"},
		"more, and then one":     {"z o8 o8", "z o8 o8", "any any any"},
		"1024, then six hundred": {"z o8 o8", "z o6 o6"},
	} {
		wantRefused(t, what, sized(rules...), api.ErrComplex)
	}
	most = sized()
	for range api.MaxRules {
		most.Rules = append(most.Rules, sized("z o8 o8").Rules...)
	}
	wantRefused(t, "49152", most, api.ErrComplex)
}

// wrong are configurations that lang.Check refuses, each by another error.
func wrong(t *testing.T) map[api.Errno]api.Config {
	t.Helper()
	l := map[api.Errno]api.Config{}
	for e, do := range map[api.Errno]func(c *api.Config){
		api.ErrArg:    func(c *api.Config) { c.Default = api.Reject },
		api.ErrAddr:   func(c *api.Config) { c.Nats = []api.Nat{{Kind: api.NatDest, Service: "any", Outer: v4(1, 2, 3, 4)}} },
		api.ErrRange:  func(c *api.Config) { c.Objects[1].Ranges[0] = rng(9, 8) },
		api.ErrNumber: func(c *api.Config) { c.Services[0].To = 65536 },
		api.ErrName:   func(c *api.Config) { c.Rules[1].Src = "nothing" },
		api.ErrTwice:  func(c *api.Config) { c.Zones[1].Ifaces[0] = 0 },
		api.ErrMany:   func(c *api.Config) { c.Rules = slices.Repeat(c.Rules, 30) },
	} {
		c := edge(t, "rule in out lan any web accept limit slow", "rule any any any any any drop")
		do(&c)
		l[e] = c
	}
	return l
}

func TestEntriesOfWhatMayNotBe(t *testing.T) {
	for e, c := range wrong(t) {
		if got := lang.Check(c); got != e {
			t.Errorf("lang.Check: %d, want %d", got, e)
		}
		wantRefused(t, "what may not be", c, e)
	}
	wantRefused(t, "nothing at all", api.Config{}, api.ErrArg)
	for _, name := range []string{"", "Any", "in", "nothing"} {
		for what, do := range map[string]func(r *api.Rule){
			"in": func(r *api.Rule) { r.In = "x" + name }, "out": func(r *api.Rule) { r.Out = "x" + name },
			"source": func(r *api.Rule) { r.Src = name }, "destination": func(r *api.Rule) { r.Dst = name },
			"service": func(r *api.Rule) { r.Service = name }, "limit": func(r *api.Rule) { r.Limit = "x" + name },
		} {
			c := edge(t, "rule in out lan net web accept")
			do(&c.Rules[0])
			wantRefused(t, what+" "+name, c, api.ErrName)
		}
	}
	// What lang.Check says goes ahead, also where there are too many entries.
	c := sized("z o8 o8", "z o8 o8")
	c.Default = 0
	wantRefused(t, "too many, and what may not be", c, api.ErrArg)
}

// R3

// TestEntriesAreNewMemory changes what was answered, and what was handed in.
func TestEntriesAreNewMemory(t *testing.T) {
	c := edge(t, "rule any out lan net web accept", "rule in in net lan any drop")
	was := copyOf(c)
	first, second := entriesOf(t, c), entriesOf(t, c)
	if !slices.Equal(first, second) {
		t.Error("asked twice it answers something else")
	}
	want := slices.Clone(second)
	first = first[:cap(first)]
	for i := range first {
		first[i] = api.Entry{}
	}
	if !slices.Equal(second, want) {
		t.Error("two answers share memory")
	}
	if !reflect.DeepEqual(c, was) {
		t.Error("what is handed in is changed by what changes the answer")
	}
	clear(c.Objects[0].Ranges)
	clear(c.Objects)
	clear(c.Rules)
	if !slices.Equal(second, want) {
		t.Error("an answer shares memory with what was handed in")
	}
}
