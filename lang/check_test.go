package lang

import (
	"math"
	"math/rand"
	"reflect"
	"testing"

	"sallyport/addr"
	"sallyport/api"
)

// P6.2

// change makes something else of a configuration.
type change struct {
	what string
	do   func(c *api.Config)
	want api.Errno
}

func TestCheckOfWhatMayBe(t *testing.T) {
	for _, c := range []change{
		{what: "full", do: func(c *api.Config) {}},
		{what: "nothing", do: func(c *api.Config) { *c = api.Config{Default: api.Drop} }},
		{what: "names of other kinds", do: func(c *api.Config) { c.Limits[1].Name, c.Services[3].Name = "in", "in"; c.Rules[3].Limit = "in" }},
		{what: "names that are words", do: func(c *api.Config) { c.Objects[1].Name = "accept"; c.Rules[1].Dst = "accept" }},
		{what: "all interfaces of one", do: func(c *api.Config) {
			c.Zones = []api.Zone{{Name: "one", Ifaces: []int{0, 1, 2, 3, 4, 5, 6, 7, 8, 9, 10, 11, 12, 13, 14, 15}}}
			c.Routes, c.Nats, c.Rules = c.Routes[:1], nil, nil
		}},
		{what: "eight ranges, some twice, one of them inside another", do: func(c *api.Config) {
			r := c.Objects[0].Ranges[0]
			c.Objects[0].Ranges = []api.Range{r, r, r, r, r, r, {From: r.From, To: r.From}, {From: v6(1), To: v6(2)}}
		}},
		{what: "ports 0", do: func(c *api.Config) { c.Services[0].From, c.Services[0].To = 0, 0 }},
		{what: "ports 65535", do: func(c *api.Config) { c.Services[1].From, c.Services[1].To = 65535, 65535 }},
		{what: "protocol 255", do: func(c *api.Config) { c.Services[6].Proto = 255 }},
		{what: "rate and burst greatest", do: func(c *api.Config) { c.Limits[0].Rate, c.Limits[0].Burst = 1<<20, 1<<20 }},
		{what: "rate and burst least", do: func(c *api.Config) { c.Limits[0].Rate, c.Limits[0].Burst = 0, 1 }},
		{what: "routes in one another", do: func(c *api.Config) {
			c.Routes[1] = api.Route{To: api.Range{From: v4(10, 0, 0, 0), To: v4(10, 255, 255, 255)}, Bits: 8, Iface: 3}
		}},
		{what: "a route of all", do: func(c *api.Config) { c.Routes[1] = api.Route{To: api.Range{To: top}, Iface: 0} }},
		{what: "a NatSource of the other family", do: func(c *api.Config) { c.Nats[0].Outer = v6(1) }},
		{what: "a NatSource of one port", do: func(c *api.Config) { c.Nats[0].From, c.Nats[0].To = 65535, 65535 }},
		{what: "a NatSource twice", do: func(c *api.Config) { c.Nats[3] = c.Nats[0] }},
		{what: "a NatDest of port 65535", do: func(c *api.Config) { c.Nats[1].From = 65535 }},
		{what: "a NatDest twice", do: func(c *api.Config) { c.Nats[4] = c.Nats[1] }},
		{what: "a NatStatic whose Outer is the Inner of one ahead", do: func(c *api.Config) { c.Nats[5].Outer, c.Nats[5].Inner = c.Nats[2].Inner, c.Nats[2].Outer }},
		{what: "a NatStatic with the Outer of a NatDest", do: func(c *api.Config) { c.Nats[2].Outer, c.Nats[2].Inner = c.Nats[1].Outer, c.Nats[1].Inner }},
		{what: "a rule twice", do: func(c *api.Config) { c.Rules[1] = c.Rules[0] }},
		{what: "a limit without proxy", do: func(c *api.Config) { c.Rules[0].Proxy = false }},
		{what: "most of all", do: most},
	} {
		f := full()
		c.do(&f)
		if e := Check(f); e != api.OK {
			t.Errorf("%s: %d", c.what, e)
		}
	}
}

// most makes as many of all things as may be.
func most(c *api.Config) {
	var m api.Config
	for i, n := range named(8, 2) {
		m.Zones = append(m.Zones, api.Zone{Name: n, Ifaces: []int{i, i + 8}})
	}
	for _, n := range named(32, 3) {
		m.Objects = append(m.Objects, api.Object{Name: n, Ranges: []api.Range{{}}})
		m.Services = append(m.Services, api.Service{Name: n, To: 65535})
	}
	for i, n := range named(16, 3) {
		m.Limits = append(m.Limits, api.Limit{Name: n, Burst: 1})
		a := addr.Of4(uint32(i))
		m.Routes = append(m.Routes, api.Route{To: api.Range{From: a, To: a}, Bits: 32, Iface: i})
		m.Nats = append(m.Nats, api.Nat{Kind: api.NatStatic, Zone: "n0", Outer: a, Inner: a})
	}
	for range 48 {
		m.Rules = append(m.Rules, api.Rule{In: "n0", Out: "n7", Src: "nx0", Dst: "n31", Service: "n31", Action: api.Accept, Limit: "n15"})
	}
	m.Default = api.Drop
	*c = m
}

func TestCheckOfTooMany(t *testing.T) {
	for what, do := range map[string]func(c *api.Config){
		"zones":    func(c *api.Config) { c.Zones = append(c.Zones, api.Zone{}) },
		"objects":  func(c *api.Config) { c.Objects = append(c.Objects, api.Object{}) },
		"services": func(c *api.Config) { c.Services = append(c.Services, api.Service{}) },
		"limits":   func(c *api.Config) { c.Limits = append(c.Limits, api.Limit{}) },
		"routes":   func(c *api.Config) { c.Routes = append(c.Routes, api.Route{}) },
		"nats":     func(c *api.Config) { c.Nats = append(c.Nats, api.Nat{}) },
		"rules":    func(c *api.Config) { c.Rules = append(c.Rules, api.Rule{}) },
	} {
		var c api.Config
		most(&c)
		do(&c)
		if e := Check(c); e != api.ErrMany {
			t.Errorf("%s: %d", what, e)
		}
		c.Zones[0].Name, c.Default = "", 0
		if e := Check(c); e != api.ErrMany {
			t.Errorf("%s, and else: %d", what, e)
		}
	}
}

func TestCheckOfNamesAndIfaces(t *testing.T) {
	testWrong(t, []change{
		{"no name", func(c *api.Config) { c.Zones[2].Name = "" }, api.ErrName},
		{"a zone any", func(c *api.Config) { c.Zones[2].Name = "any" }, api.ErrName},
		{"a zone twice", func(c *api.Config) { c.Zones[2].Name = "in" }, api.ErrTwice},
		{"an object any", func(c *api.Config) { c.Objects[1].Name = "any" }, api.ErrName},
		{"an object twice", func(c *api.Config) { c.Objects[2].Name = "lan" }, api.ErrTwice},
		{"a service of 13 bytes", func(c *api.Config) { c.Services[6].Name = "abcdefghijklm" }, api.ErrName},
		{"a service twice", func(c *api.Config) { c.Services[6].Name = "ping" }, api.ErrTwice},
		{"a limit Slow", func(c *api.Config) { c.Limits[1].Name = "Slow" }, api.ErrName},
		{"a limit twice", func(c *api.Config) { c.Limits[1].Name = "slow" }, api.ErrTwice},
		{"a name that is none, twice", func(c *api.Config) { c.Zones[0].Name, c.Zones[1].Name = "any", "any" }, api.ErrName},

		{"no interfaces", func(c *api.Config) { c.Zones[1].Ifaces = nil }, api.ErrArg},
		{"no interfaces, not nil", func(c *api.Config) { c.Zones[1].Ifaces = []int{} }, api.ErrArg},
		{"17 interfaces", func(c *api.Config) { c.Zones[0].Ifaces = make([]int, 17) }, api.ErrArg},
		{"interface 16", func(c *api.Config) { c.Zones[1].Ifaces = []int{16} }, api.ErrNumber},
		{"interface -1", func(c *api.Config) { c.Zones[1].Ifaces = []int{4, -1} }, api.ErrNumber},
		{"interface greatest", func(c *api.Config) { c.Zones[1].Ifaces = []int{math.MaxInt} }, api.ErrNumber},
		{"interface twice in a zone", func(c *api.Config) { c.Zones[0].Ifaces = []int{5, 6, 5} }, api.ErrTwice},
		{"interface twice in two", func(c *api.Config) { c.Zones[2].Ifaces = []int{4, 1} }, api.ErrTwice},
		{"16 interfaces, all the same", func(c *api.Config) { c.Zones[0].Ifaces = make([]int, 16) }, api.ErrTwice},
		{"an interface that is none, twice", func(c *api.Config) { c.Zones[0].Ifaces = []int{16, 16} }, api.ErrNumber},
		{"an interface twice, then one that is none", func(c *api.Config) { c.Zones[0].Ifaces = []int{4, 4, 16} }, api.ErrTwice},
	})
}

func TestCheckOfObjectsServicesAndLimits(t *testing.T) {
	testWrong(t, []change{
		{"no ranges", func(c *api.Config) { c.Objects[1].Ranges = nil }, api.ErrArg},
		{"9 ranges", func(c *api.Config) { c.Objects[1].Ranges = make([]api.Range, 9) }, api.ErrArg},
		{"an empty range", func(c *api.Config) { c.Objects[1].Ranges[2] = api.Range{From: v6(2), To: v6(1)} }, api.ErrRange},
		{"a range of both families", func(c *api.Config) { c.Objects[1].Ranges[0] = api.Range{From: v4(1, 2, 3, 4), To: v6(1)} }, api.ErrRange},
		{"a prefix that ends at an IPv4 address", func(c *api.Config) { c.Objects[1].Ranges[0] = c.Routes[2].To }, api.ErrRange},

		{"protocol -1", func(c *api.Config) { c.Services[6].Proto = -1 }, api.ErrNumber},
		{"protocol 256", func(c *api.Config) { c.Services[6].Proto = 256 }, api.ErrNumber},
		{"from -1", func(c *api.Config) { c.Services[0].From = -1 }, api.ErrNumber},
		{"to 65536", func(c *api.Config) { c.Services[0].To = 65536 }, api.ErrNumber},
		{"both above", func(c *api.Config) { c.Services[0].From, c.Services[0].To = 65536, 65536 }, api.ErrNumber},
		{"both below", func(c *api.Config) { c.Services[0].From, c.Services[0].To = -2, -1 }, api.ErrNumber},
		{"from above to", func(c *api.Config) { c.Services[1].From = 55 }, api.ErrNumber},
		{"ports of 47", func(c *api.Config) { c.Services[6].From = 1 }, api.ErrNumber},
		{"ports of icmp", func(c *api.Config) { c.Services[3].To = 65534 }, api.ErrNumber},
		{"ports of icmp6", func(c *api.Config) { c.Services[4].From, c.Services[4].To = 7, 7 }, api.ErrNumber},
		{"ports of all", func(c *api.Config) { c.Services[5].To = 0 }, api.ErrNumber},

		{"rate -1", func(c *api.Config) { c.Limits[0].Rate = -1 }, api.ErrNumber},
		{"rate above", func(c *api.Config) { c.Limits[0].Rate = 1<<20 + 1 }, api.ErrNumber},
		{"burst 0", func(c *api.Config) { c.Limits[1].Burst = 0 }, api.ErrNumber},
		{"burst above", func(c *api.Config) { c.Limits[1].Burst = 1<<20 + 1 }, api.ErrNumber},
		{"burst least", func(c *api.Config) { c.Limits[1].Burst = math.MinInt }, api.ErrNumber},
	})
}

func TestCheckOfRoutes(t *testing.T) {
	testWrong(t, []change{
		{"bits that are others", func(c *api.Config) { c.Routes[0].Bits = 1 }, api.ErrRange},
		{"bits -1", func(c *api.Config) { c.Routes[0].Bits = -1 }, api.ErrRange},
		{"bits 33", func(c *api.Config) { c.Routes[1].Bits = 33 }, api.ErrRange},
		{"bits 128 of an IPv4 address", func(c *api.Config) { c.Routes[1].Bits = 128 }, api.ErrRange},
		{"an end that is another", func(c *api.Config) { c.Routes[0].To.To = v4(255, 255, 255, 254) }, api.ErrRange},
		{"a begin that is another", func(c *api.Config) { c.Routes[0].To.From = v4(0, 0, 0, 1) }, api.ErrRange},
		{"no prefix", func(c *api.Config) { c.Routes[1].To = api.Range{From: v4(10, 0, 0, 1), To: v4(10, 0, 0, 2)} }, api.ErrRange},
		{"an empty one", func(c *api.Config) { c.Routes[1].To = api.Range{From: v6(2), To: v6(1)} }, api.ErrRange},
		{"an interface of no zone", func(c *api.Config) { c.Routes[1].Iface = 4 }, api.ErrNumber},
		{"interface -1", func(c *api.Config) { c.Routes[1].Iface = -1 }, api.ErrNumber},
		{"interface 16", func(c *api.Config) { c.Routes[1].Iface = 16 }, api.ErrNumber},
		{"twice", func(c *api.Config) { c.Routes[2] = c.Routes[0] }, api.ErrTwice},
		{"twice, of two interfaces", func(c *api.Config) { c.Routes[2] = c.Routes[1]; c.Routes[2].Iface = 3 }, api.ErrTwice},
	})
}

func TestCheckOfNats(t *testing.T) {
	testWrong(t, []change{
		{"kind 0", func(c *api.Config) { c.Nats[0] = api.Nat{} }, api.ErrArg},
		{"kind 4", func(c *api.Config) { c.Nats[5].Kind = 4 }, api.ErrArg},
		{"kind -1", func(c *api.Config) { c.Nats[5].Kind = -1 }, api.ErrArg},

		{"source: no zone", func(c *api.Config) { c.Nats[0].Zone = "" }, api.ErrName},
		{"source: zone any", func(c *api.Config) { c.Nats[0].Zone = "any" }, api.ErrName},
		{"source: an object as zone", func(c *api.Config) { c.Nats[0].Zone = "lan" }, api.ErrName},
		{"source: no object", func(c *api.Config) { c.Nats[0].Object = "" }, api.ErrName},
		{"source: a zone as object", func(c *api.Config) { c.Nats[0].Object = "out" }, api.ErrName},
		{"source: from 0", func(c *api.Config) { c.Nats[0].From = 0 }, api.ErrNumber},
		{"source: from above to", func(c *api.Config) { c.Nats[0].From = 5002 }, api.ErrNumber},
		{"source: to 65536", func(c *api.Config) { c.Nats[0].To = 65536 }, api.ErrNumber},
		{"source: service", func(c *api.Config) { c.Nats[0].Service = "web" }, api.ErrArg},
		{"source: service any", func(c *api.Config) { c.Nats[0].Service = "any" }, api.ErrArg},
		{"source: inner", func(c *api.Config) { c.Nats[0].Inner = addr.Of(1) }, api.ErrArg},
		{"source: name, number and arg", func(c *api.Config) { c.Nats[0] = api.Nat{Kind: api.NatSource, Inner: addr.Of(1)} }, api.ErrName},
		{"source: number and arg", func(c *api.Config) { c.Nats[0].From, c.Nats[0].Inner = 0, addr.Of(1) }, api.ErrNumber},

		{"dest: no service", func(c *api.Config) { c.Nats[1].Service = "" }, api.ErrName},
		{"dest: service of none", func(c *api.Config) { c.Nats[1].Service = "lan" }, api.ErrName},
		{"dest: inner IPv6", func(c *api.Config) { c.Nats[1].Inner = v6(1) }, api.ErrAddr},
		{"dest: outer IPv6", func(c *api.Config) { c.Nats[1].Outer = v6(1) }, api.ErrAddr},
		{"dest: from -1", func(c *api.Config) { c.Nats[1].From = -1 }, api.ErrNumber},
		{"dest: from 65536", func(c *api.Config) { c.Nats[1].From = 65536 }, api.ErrNumber},
		{"dest: zone", func(c *api.Config) { c.Nats[1].Zone = "in" }, api.ErrArg},
		{"dest: object", func(c *api.Config) { c.Nats[1].Object = "lan" }, api.ErrArg},
		{"dest: to", func(c *api.Config) { c.Nats[1].To = 8080 }, api.ErrArg},
		{"dest: name and addr", func(c *api.Config) { c.Nats[1].Service, c.Nats[1].Inner = "", v6(1) }, api.ErrName},
		{"dest: addr and number", func(c *api.Config) { c.Nats[1].From, c.Nats[1].Inner = -1, v6(1) }, api.ErrAddr},
		{"dest: number and arg", func(c *api.Config) { c.Nats[1].From, c.Nats[1].To = -1, 1 }, api.ErrNumber},

		{"static: no zone", func(c *api.Config) { c.Nats[2].Zone = "" }, api.ErrName},
		{"static: zone any", func(c *api.Config) { c.Nats[2].Zone = "any" }, api.ErrName},
		{"static: inner IPv6", func(c *api.Config) { c.Nats[2].Inner = v6(9) }, api.ErrAddr},
		{"static: outer IPv6", func(c *api.Config) { c.Nats[2].Outer = v6(9) }, api.ErrAddr},
		{"static: outer twice", func(c *api.Config) { c.Nats[5].Outer, c.Nats[5].Inner = c.Nats[2].Outer, v4(10, 0, 0, 7) }, api.ErrTwice},
		{"static: inner twice", func(c *api.Config) { c.Nats[5].Outer, c.Nats[5].Inner = v4(1, 2, 3, 6), c.Nats[2].Inner }, api.ErrTwice},
		{"static: twice, of two zones", func(c *api.Config) { c.Nats[5] = c.Nats[2]; c.Nats[5].Zone = "in" }, api.ErrTwice},
		{"static: object", func(c *api.Config) { c.Nats[2].Object = "any" }, api.ErrArg},
		{"static: service", func(c *api.Config) { c.Nats[2].Service = "any" }, api.ErrArg},
		{"static: from", func(c *api.Config) { c.Nats[2].From = 1 }, api.ErrArg},
		{"static: to", func(c *api.Config) { c.Nats[2].To = -1 }, api.ErrArg},
		{"static: name and addr", func(c *api.Config) { c.Nats[2].Zone, c.Nats[2].Inner = "", v6(9) }, api.ErrName},
		{"static: addr and twice", func(c *api.Config) { c.Nats[5].Outer = c.Nats[2].Outer }, api.ErrAddr},
		{"static: twice and arg", func(c *api.Config) { c.Nats[5] = c.Nats[2]; c.Nats[5].To = 1 }, api.ErrTwice},
	})
}

func TestCheckOfRules(t *testing.T) {
	testWrong(t, []change{
		{"no in", func(c *api.Config) { c.Rules[1].In = "" }, api.ErrName},
		{"no zone in", func(c *api.Config) { c.Rules[1].In = "lan" }, api.ErrName},
		{"no zone out", func(c *api.Config) { c.Rules[1].Out = "some" }, api.ErrName},
		{"no object from", func(c *api.Config) { c.Rules[1].Src = "out" }, api.ErrName},
		{"no object to", func(c *api.Config) { c.Rules[1].Dst = "web" }, api.ErrName},
		{"no service", func(c *api.Config) { c.Rules[1].Service = "slow" }, api.ErrName},
		{"service udp", func(c *api.Config) { c.Rules[1].Service = "udp" }, api.ErrName},
		{"no limit", func(c *api.Config) { c.Rules[0].Limit = "web" }, api.ErrName},
		{"limit any", func(c *api.Config) { c.Rules[0].Limit = "any" }, api.ErrName},
		{"no limit, and drop", func(c *api.Config) { c.Rules[1].Limit = "none" }, api.ErrName},
		{"action 0", func(c *api.Config) { c.Rules[1].Action = 0 }, api.ErrArg},
		{"action 4", func(c *api.Config) { c.Rules[1].Action = 4 }, api.ErrArg},
		{"action -1", func(c *api.Config) { c.Rules[1].Action = -1 }, api.ErrArg},
		{"drop with limit", func(c *api.Config) { c.Rules[1].Limit = "slow" }, api.ErrArg},
		{"reject with limit", func(c *api.Config) { c.Rules[2].Limit = "slow" }, api.ErrArg},
		{"drop with proxy", func(c *api.Config) { c.Rules[1].Proxy, c.Rules[1].Service = true, "web" }, api.ErrArg},
		{"reject with proxy", func(c *api.Config) { c.Rules[2].Proxy, c.Rules[2].Service = true, "web" }, api.ErrArg},
		{"proxy of any", func(c *api.Config) { c.Rules[0].Service = "any" }, api.ErrArg},
		{"proxy of udp", func(c *api.Config) { c.Rules[0].Service = "dns" }, api.ErrArg},
		{"proxy of all", func(c *api.Config) { c.Rules[0].Service = "every" }, api.ErrArg},
		{"proxy of 47", func(c *api.Config) { c.Rules[0].Service = "gre" }, api.ErrArg},
		{"name and action", func(c *api.Config) { c.Rules[1].Action, c.Rules[1].Src = 0, "none" }, api.ErrName},
		{"action, then name", func(c *api.Config) { c.Rules[1].Action, c.Rules[2].Src = 0, "none" }, api.ErrArg},
		{"default 0", func(c *api.Config) { c.Default = 0 }, api.ErrArg},
		{"default reject", func(c *api.Config) { c.Default = api.Reject }, api.ErrArg},
		{"default -1", func(c *api.Config) { c.Default = -1 }, api.ErrArg},
	})
}

// testWrong does each change to a configuration that may be.
func testWrong(t *testing.T, l []change) {
	t.Helper()
	for _, c := range l {
		f := full()
		c.do(&f)
		before := copyOf(f)
		if e := Check(f); e != c.want {
			t.Errorf("%s: %d; want %d", c.what, e, c.want)
		}
		if s, e := Print(f); s != "" || e != c.want {
			t.Errorf("Print, %s: %q, %d; want %d", c.what, s, e, c.want)
		}
		if !reflect.DeepEqual(f, before) {
			t.Errorf("%s: it is changed", c.what)
		}
	}
}

// TestCheckTellsTheFirst lays two faults down: the one that the chapter names first is told.
func TestCheckTellsTheFirst(t *testing.T) {
	l := []change{
		{"many", func(c *api.Config) { c.Rules = append(c.Rules, make([]api.Rule, 48)...) }, api.ErrMany},
		{"zone 0 name", func(c *api.Config) { c.Zones[0].Name = "" }, api.ErrName},
		{"zone 0 ifaces", func(c *api.Config) { c.Zones[0].Ifaces = nil }, api.ErrArg},
		{"zone 1 twice", func(c *api.Config) { c.Zones[1].Name = c.Zones[0].Name }, api.ErrTwice},
		{"zone 1 iface", func(c *api.Config) { c.Zones[1].Ifaces[0] = 16 }, api.ErrNumber},
		{"zone 2 name", func(c *api.Config) { c.Zones[2].Name = "Six" }, api.ErrName},
		{"zone 2 iface", func(c *api.Config) { c.Zones[2].Ifaces = []int{2, 2} }, api.ErrTwice},
		{"object 0 name", func(c *api.Config) { c.Objects[0].Name = "" }, api.ErrName},
		{"object 0 ranges", func(c *api.Config) { c.Objects[0].Ranges = nil }, api.ErrArg},
		{"object 1 twice", func(c *api.Config) { c.Objects[1].Name = c.Objects[0].Name }, api.ErrTwice},
		{"object 1 range", func(c *api.Config) { c.Objects[1].Ranges[0].To = api.Addr{} }, api.ErrRange},
		{"service 0 name", func(c *api.Config) { c.Services[0].Name = "" }, api.ErrName},
		{"service 0 port", func(c *api.Config) { c.Services[0].From = 81 }, api.ErrNumber},
		{"service 1 twice", func(c *api.Config) { c.Services[1].Name = c.Services[0].Name }, api.ErrTwice},
		{"service 1 port", func(c *api.Config) { c.Services[1].From = 81 }, api.ErrNumber},
		{"limit 0 name", func(c *api.Config) { c.Limits[0].Name = "" }, api.ErrName},
		{"limit 0 rate", func(c *api.Config) { c.Limits[0].Rate = -1 }, api.ErrNumber},
		{"limit 1 twice", func(c *api.Config) { c.Limits[1].Name = c.Limits[0].Name }, api.ErrTwice},
		{"limit 1 rate", func(c *api.Config) { c.Limits[1].Rate = -1 }, api.ErrNumber},
		{"route 0 range", func(c *api.Config) { c.Routes[0].Bits++ }, api.ErrRange},
		{"route 1 iface", func(c *api.Config) { c.Routes[1].Iface = 9 }, api.ErrNumber},
		{"route 2 twice", func(c *api.Config) { c.Routes[2] = c.Routes[1]; c.Routes[2].Iface = 1 }, api.ErrTwice},
		{"nat 0 name", func(c *api.Config) { c.Nats[0].Object = "none" }, api.ErrName},
		{"nat 0 port", func(c *api.Config) { c.Nats[0].From = 0 }, api.ErrNumber},
		{"nat 0 inner", func(c *api.Config) { c.Nats[0].Inner = v6(1) }, api.ErrArg},
		{"nat 1 addr", func(c *api.Config) { c.Nats[1].Inner = v6(1) }, api.ErrAddr},
		{"nat 1 port", func(c *api.Config) { c.Nats[1].From = -1 }, api.ErrNumber},
		{"nat 4 kind", func(c *api.Config) { c.Nats[4].Kind = 0 }, api.ErrArg},
		{"nat 5 twice", func(c *api.Config) { c.Nats[5].Outer, c.Nats[5].Inner = c.Nats[2].Outer, c.Nats[2].Inner }, api.ErrTwice},
		{"rule 0 name", func(c *api.Config) { c.Rules[0].Src = "none" }, api.ErrName},
		{"rule 0 action", func(c *api.Config) { c.Rules[0].Action = 0 }, api.ErrArg},
		{"rule 1 name", func(c *api.Config) { c.Rules[1].Src = "none" }, api.ErrName},
		{"default", func(c *api.Config) { c.Default = 0 }, api.ErrArg},
	}
	for i, a := range l {
		for _, b := range l[i+1:] {
			c := full()
			b.do(&c)
			a.do(&c)
			if e := Check(c); e != a.want {
				t.Errorf("%s, %s: %d; want %d", a.what, b.what, e, a.want)
			}
		}
	}
}

func TestCheckChangesNothing(t *testing.T) {
	c := full()
	if e := Check(c); e != api.OK || !reflect.DeepEqual(c, full()) {
		t.Error(e, c)
	}
}

// R1: whatever a configuration is, Check and Print end.

func TestCheckOfWhatever(t *testing.T) {
	m := maker{rand.New(rand.NewSource(1))}
	for range 20000 {
		c := m.config()
		if e := Check(c); e != api.OK {
			t.Fatalf("%+v: %d", c, e)
		}
		m.spoil(reflect.ValueOf(&c).Elem())
		e := Check(c)
		if _, printed := Print(c); e != api.OK && printed != e {
			t.Fatalf("%+v: %d, %d", c, e, printed)
		}
	}
}

// spoil changes some of the numbers, texts and lists that a value has.
func (m maker) spoil(v reflect.Value) {
	switch v.Kind() {
	case reflect.Struct:
		for i := range v.NumField() {
			m.spoil(v.Field(i))
		}
	case reflect.Slice:
		for i := range v.Len() {
			m.spoil(v.Index(i))
		}
		if m.Intn(40) == 0 {
			v.Set(reflect.MakeSlice(v.Type(), m.Intn(60), 60))
		}
	case reflect.Int:
		if m.Intn(80) == 0 {
			v.SetInt([]int64{math.MinInt64, -1, 0, 1, 2, 3, 4, 16, 255, 256, 65535, 65536, math.MaxInt64}[m.Intn(13)])
		}
	case reflect.Uint64:
		if m.Intn(80) == 0 {
			v.SetUint([]uint64{0, 1, 0xffff00000000, math.MaxUint64}[m.Intn(4)])
		}
	case reflect.String:
		if m.Intn(80) == 0 {
			v.SetString([]string{"", "any", "a", "\x00", "in\n", "A"}[m.Intn(6)])
		}
	}
}

func TestCheckOfHugeLists(t *testing.T) {
	c := full()
	c.Zones[0].Ifaces = make([]int, 1<<20)
	if e := Check(c); e != api.ErrArg {
		t.Error(e)
	}
	c = full()
	c.Objects[0].Ranges = make([]api.Range, 1<<20)
	if e := Check(c); e != api.ErrArg {
		t.Error(e)
	}
	c = full()
	c.Rules = make([]api.Rule, 1<<20)
	c.Zones = make([]api.Zone, 1<<20)
	if e := Check(c); e != api.ErrMany {
		t.Error(e)
	}
}
