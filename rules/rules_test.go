package rules

import (
	"math"
	"testing"

	"sallyport/addr"
	"sallyport/api"
)

// P7.1

func wantZone(t *testing.T, c api.Config, iface, want int) {
	t.Helper()
	if got := Zone(c, iface); got != want {
		t.Errorf("Zone(%d): %d, want %d", iface, got, want)
	}
}

func TestZone(t *testing.T) {
	c := text(t, "zone in 10.0.0.254 2 0\nzone out 1.2.3.4 1\nzone six ::1 7 15 4")
	for iface, want := range map[int]int{2: 0, 0: 0, 1: 1, 7: 2, 15: 2, 4: 2, 3: -1, 5: -1, 14: -1, 16: -1, -1: -1} {
		wantZone(t, c, iface, want)
	}
	for _, n := range extremes() {
		wantZone(t, api.Config{}, n, -1)
	}
}

func TestZoneOfWhatMayNotBe(t *testing.T) {
	c := api.Config{Zones: []api.Zone{
		{Name: "a"},
		{Name: "b", Ifaces: []int{5, 5, 6}},
		{Name: "b", Ifaces: []int{6, 7, 5, -3}},
		{Name: "", Ifaces: []int{math.MaxInt, 8, math.MinInt, -1}},
		{Name: "any", Ifaces: []int{8, 16}},
	}}
	for iface, want := range map[int]int{5: 1, 6: 1, 7: 2, -3: 2, 8: 3, -1: 3, math.MaxInt: 3, math.MinInt: 3, 16: 4, 0: -1, 1: -1} {
		wantZone(t, c, iface, want)
	}
}

func wantRoute(t *testing.T, c api.Config, dst api.Addr, iface, zone int) {
	t.Helper()
	if i, z := Route(c, dst); i != iface || z != zone {
		t.Errorf("Route(%s): %d and %d, want %d and %d", addr.Print(dst), i, z, iface, zone)
	}
}

func TestRoute(t *testing.T) {
	c := text(t, `zone in 10.0.0.254 3
zone out 1.2.3.4 1 2
zone six ::1 15
route 10.0.0.0/8 3
route 10.1.0.0/16 2
route 10.1.2.3 15
route 10.1.2.0/24 1
route 2001:db8::/32 15
route 2001:db8::/64 1
`)
	for _, w := range []struct {
		dst         api.Addr
		iface, zone int
	}{
		{v4(10, 0, 0, 0), 3, 0},
		{v4(10, 255, 255, 255), 3, 0},
		{v4(9, 255, 255, 255), -1, -1},
		{v4(11, 0, 0, 0), -1, -1},
		{v4(10, 0, 255, 255), 3, 0},
		{v4(10, 1, 0, 0), 2, 1},
		{v4(10, 1, 255, 255), 2, 1},
		{v4(10, 2, 0, 0), 3, 0},
		{v4(10, 1, 2, 2), 1, 1},
		{v4(10, 1, 2, 3), 15, 2},
		{v4(10, 1, 2, 4), 1, 1},
		{v6(7), 1, 1},
		{v6(math.MaxUint64), 1, 1},
		{api.Addr{Hi: 0x20010db800000001}, 15, 2},
		{api.Addr{Hi: 0x20010db8ffffffff, Lo: math.MaxUint64}, 15, 2},
		{api.Addr{Hi: 0x20010db900000000}, -1, -1},
		{api.Addr{}, -1, -1},
		{top, -1, -1},
		{api.Addr{Lo: 0x0a010203}, -1, -1}, // an IPv6 address with the last bits of an IPv4 one
	} {
		wantRoute(t, c, w.dst, w.iface, w.zone)
	}
	wantRoute(t, api.Config{}, v4(10, 0, 0, 0), -1, -1)
}

// TestRouteOfAll has a route to all numbers of 128 bits: the IPv4 addresses are among them.
func TestRouteOfAll(t *testing.T) {
	c := text(t, "zone in 10.0.0.254 0\nzone out 1.2.3.4 1\nroute ::/0 1\nroute 10.0.0.0/8 0")
	wantRoute(t, c, v4(8, 8, 8, 8), 1, 1)
	wantRoute(t, c, v4(10, 8, 8, 8), 0, 0)
	wantRoute(t, c, api.Addr{}, 1, 1)
	wantRoute(t, c, top, 1, 1)
}

// routes answers a configuration with routes of these bits to all, each by the interface that is its place, which is in a zone of its own.
func routes(bits ...int) api.Config {
	var c api.Config
	for i, n := range bits {
		c.Zones = append(c.Zones, api.Zone{Ifaces: []int{i}})
		c.Routes = append(c.Routes, api.Route{To: all, Bits: n, Iface: i})
	}
	return c
}

// TestRouteOfBits has Bits that their ranges do not have: they are what counts, not how narrow a range is.
func TestRouteOfBits(t *testing.T) {
	for _, w := range []struct {
		bits []int
		want int
	}{
		{[]int{0}, 0}, {[]int{-1}, 0}, {[]int{math.MinInt}, 0},
		{[]int{8, 8}, 0}, {[]int{8, 8, 8}, 0}, {[]int{-5, -5}, 0},
		{[]int{8, 9, 9, 8}, 1}, {[]int{9, 8, 9}, 0}, {[]int{0, 8, 16}, 2}, {[]int{16, 8, 0}, 0}, {[]int{8, 24, 16}, 1},
		{[]int{-2, -1, -3}, 1}, {[]int{math.MinInt, math.MinInt + 1}, 1}, {[]int{math.MinInt, math.MinInt}, 0},
		{[]int{128, 200, math.MaxInt, math.MaxInt}, 2}, {[]int{-1, 0}, 1},
	} {
		wantRoute(t, routes(w.bits...), v4(1, 2, 3, 4), w.want, w.want)
	}

	c := routes(8, 7)
	c.Routes[1].To = only(v4(1, 2, 3, 4))
	wantRoute(t, c, v4(1, 2, 3, 4), 0, 0)
}

// TestRouteOfOthers has a route with more bits that does not have the destination.
func TestRouteOfOthers(t *testing.T) {
	c := routes(32, 8, 32)
	c.Routes[0].To = only(v4(1, 2, 3, 5))
	c.Routes[2].To = api.Range{From: v4(1, 2, 3, 5), To: v4(1, 2, 3, 3)} // empty
	for _, last := range []uint32{3, 4, 6} {
		wantRoute(t, c, v4(1, 2, 3, last), 1, 1)
	}
	wantRoute(t, c, v4(1, 2, 3, 5), 0, 0)
}

func TestRouteOfIfacesWithoutZone(t *testing.T) {
	c := routes(8)
	for _, n := range extremes() {
		if n != 0 {
			c.Routes[0].Iface = n
			wantRoute(t, c, v4(1, 2, 3, 4), n, -1)
		}
	}
	c.Zones = append(c.Zones, api.Zone{Ifaces: []int{-1}}, api.Zone{Ifaces: []int{-1, 0}})
	c.Routes[0].Iface = -1
	wantRoute(t, c, v4(1, 2, 3, 4), -1, 1)

	// The best route counts, also where another one would have a zone.
	c = routes(8, 7)
	c.Zones[0].Ifaces = nil
	wantRoute(t, c, v4(1, 2, 3, 4), 0, -1)
}

// P7.2

func wantServes(t *testing.T, c api.Config, service string, proto, dport int, want bool) {
	t.Helper()
	// Source ports, and addresses, do not count.
	for _, sport := range []int{0, 80, 65535} {
		k := api.Key{Proto: proto, Src: v4(1, 2, 3, 4), Dst: v6(1), SPort: sport, DPort: dport}
		if got := Serves(c, service, k); got != want {
			t.Errorf("Serves(%q) of protocol %d, port %d: %v", service, proto, dport, got)
		}
	}
}

func TestServes(t *testing.T) {
	c := text(t, "service web tcp 80\nservice dns udp 53-55\nservice tcp tcp\nservice ping icmp\nservice every all\nservice gre 47\nservice ends tcp 0-65535")
	for _, w := range []struct {
		service      string
		proto, dport int
		want         bool
	}{
		{"web", api.ProtoTCP, 80, true}, {"web", api.ProtoTCP, 79, false}, {"web", api.ProtoTCP, 81, false}, {"web", api.ProtoTCP, 0, false},
		{"web", api.ProtoUDP, 80, false}, {"web", api.ProtoICMP, 80, false}, {"web", 0, 80, false}, {"web", 255, 80, false},
		{"dns", api.ProtoUDP, 52, false}, {"dns", api.ProtoUDP, 53, true}, {"dns", api.ProtoUDP, 54, true}, {"dns", api.ProtoUDP, 55, true}, {"dns", api.ProtoUDP, 56, false}, {"dns", api.ProtoTCP, 54, false},
		{"tcp", api.ProtoTCP, 0, true}, {"tcp", api.ProtoTCP, 65535, true}, {"tcp", api.ProtoTCP, -1, false}, {"tcp", api.ProtoTCP, 65536, false}, {"tcp", api.ProtoUDP, 1, false},
		{"ends", api.ProtoTCP, 0, true}, {"ends", api.ProtoTCP, 65535, true},
		{"ping", api.ProtoICMP, 0, true}, {"ping", api.ProtoICMP, 70000, true}, {"ping", api.ProtoICMP6, 0, false}, {"ping", api.ProtoTCP, 0, false},
		{"every", 0, 0, true}, {"every", api.ProtoTCP, 80, true}, {"every", api.ProtoUDP, -1, true}, {"every", 255, 65536, true}, {"every", 1000, 0, true}, {"every", -1, 0, true},
		{"gre", 47, 0, true}, {"gre", 47, -7, true}, {"gre", 46, 0, false}, {"gre", 0, 0, false},
		{"any", 0, 0, true}, {"any", -1, -1, true}, {"any", api.ProtoTCP, 65536, true},
		{"", api.ProtoTCP, 80, false}, {"we", api.ProtoTCP, 80, false}, {"webs", api.ProtoTCP, 80, false}, {"Web", api.ProtoTCP, 80, false}, {"Any", api.ProtoTCP, 80, false},
	} {
		wantServes(t, c, w.service, w.proto, w.dport, w.want)
	}
	wantServes(t, api.Config{}, "any", 6, 80, true)
	wantServes(t, api.Config{}, "web", 6, 80, false)
	wantServes(t, api.Config{}, "", 0, 0, false)
}

func TestServesOfWhatMayNotBe(t *testing.T) {
	c := api.Config{Services: []api.Service{
		{Name: "two", Proto: api.ProtoTCP, From: 80, To: 80},
		{Name: "two", Proto: api.ProtoTCP, From: 81, To: 81},
		{Name: "any", Proto: api.ProtoTCP, From: 80, To: 80},
		{Name: "", Proto: api.ProtoUDP, From: 53, To: 53},
		{Name: "zero", Proto: 0, From: 80, To: 80},
		{Name: "gre", Proto: 47, From: 80, To: 80},
		{Name: "empty", Proto: api.ProtoUDP, From: 80, To: 79},
		{Name: "far", Proto: api.ProtoTCP, From: -5, To: 70000},
		{Name: "minus", Proto: -1, From: 80, To: 80},
		{Name: "Not A Name", Proto: 300, From: 1, To: 0},
	}}
	for _, w := range []struct {
		service      string
		proto, dport int
		want         bool
	}{
		// The first of a name counts, also where one behind it would say yes.
		{"two", api.ProtoTCP, 80, true}, {"two", api.ProtoTCP, 81, false},
		{"any", api.ProtoTCP, 81, true}, {"any", api.ProtoUDP, 80, true},
		{"", api.ProtoUDP, 53, true}, {"", api.ProtoUDP, 54, false},
		// Ports count of the services of TCP and UDP alone.
		{"zero", api.ProtoTCP, 80, true}, {"zero", api.ProtoTCP, 81, true}, {"zero", api.ProtoUDP, 79, true}, {"zero", 47, 0, true},
		{"gre", 47, 0, true}, {"gre", 47, 80, true}, {"gre", api.ProtoTCP, 80, false},
		{"empty", api.ProtoUDP, 79, false}, {"empty", api.ProtoUDP, 80, false},
		{"far", api.ProtoTCP, -6, false}, {"far", api.ProtoTCP, -5, true}, {"far", api.ProtoTCP, 70000, true}, {"far", api.ProtoTCP, 70001, false},
		{"minus", -1, 0, true}, {"minus", 0, 80, false},
		{"Not A Name", 300, 7, true}, {"Not A Name", 301, 7, false},
	} {
		wantServes(t, c, w.service, w.proto, w.dport, w.want)
	}
}

func wantWithin(t *testing.T, c api.Config, object string, a api.Addr, want bool) {
	t.Helper()
	if got := Within(c, object, a); got != want {
		t.Errorf("Within(%q) of %s: %v", object, addr.Print(a), got)
	}
}

func TestWithin(t *testing.T) {
	c := text(t, "object lan 10.0.0.0/8\nobject some 10.0.0.1-10.0.0.4 1.2.3.4 2001:db8::7-2001:db8::9\nobject world ::/0")
	for _, w := range []struct {
		object string
		a      api.Addr
		want   bool
	}{
		{"lan", v4(10, 0, 0, 0), true}, {"lan", v4(10, 255, 255, 255), true}, {"lan", v4(9, 255, 255, 255), false}, {"lan", v4(11, 0, 0, 0), false},
		{"lan", api.Addr{Lo: 0x0a000001}, false}, {"lan", api.Addr{Hi: 1, Lo: v4(10, 0, 0, 1).Lo}, false},
		{"some", v4(10, 0, 0, 0), false}, {"some", v4(10, 0, 0, 1), true}, {"some", v4(10, 0, 0, 3), true}, {"some", v4(10, 0, 0, 4), true}, {"some", v4(10, 0, 0, 5), false},
		{"some", v4(1, 2, 3, 4), true}, {"some", v4(1, 2, 3, 3), false}, {"some", v4(1, 2, 3, 5), false},
		{"some", v6(6), false}, {"some", v6(7), true}, {"some", v6(8), true}, {"some", v6(9), true}, {"some", v6(10), false},
		{"world", api.Addr{}, true}, {"world", top, true}, {"world", v4(10, 0, 0, 1), true},
		{"any", api.Addr{}, true}, {"any", top, true}, {"any", v4(10, 0, 0, 1), true},
		{"", v4(10, 0, 0, 1), false}, {"la", v4(10, 0, 0, 1), false}, {"lans", v4(10, 0, 0, 1), false}, {"Any", v4(10, 0, 0, 1), false},
	} {
		wantWithin(t, c, w.object, w.a, w.want)
	}
	wantWithin(t, api.Config{}, "any", v4(10, 0, 0, 1), true)
	wantWithin(t, api.Config{}, "lan", v4(10, 0, 0, 1), false)
	wantWithin(t, api.Config{}, "", api.Addr{}, false)
}

func TestWithinOfWhatMayNotBe(t *testing.T) {
	c := api.Config{Objects: []api.Object{
		{Name: "two", Ranges: []api.Range{only(v6(1))}},
		{Name: "two", Ranges: []api.Range{only(v6(2))}},
		{Name: "any", Ranges: []api.Range{only(v6(1))}},
		{Name: "", Ranges: []api.Range{only(v6(1))}},
		{Name: "none"},
		{Name: "none", Ranges: []api.Range{all}},
		{Name: "empty", Ranges: []api.Range{{From: v6(3), To: v6(1)}, {From: top}, only(v6(5))}},
		{Name: "both", Ranges: []api.Range{{From: v4(255, 255, 255, 255), To: v6(2)}}},
	}}
	for _, w := range []struct {
		object string
		a      api.Addr
		want   bool
	}{
		{"two", v6(1), true}, {"two", v6(2), false},
		{"any", v6(2), true},
		{"", v6(1), true}, {"", v6(2), false},
		{"none", v6(1), false},
		{"empty", v6(1), false}, {"empty", v6(2), false}, {"empty", v6(3), false}, {"empty", api.Addr{}, false}, {"empty", top, false}, {"empty", v6(5), true},
		{"both", v4(255, 255, 255, 254), false}, {"both", v4(255, 255, 255, 255), true}, {"both", api.Addr{Hi: 1}, true}, {"both", v6(2), true}, {"both", v6(3), false},
	} {
		wantWithin(t, c, w.object, w.a, w.want)
	}
}
