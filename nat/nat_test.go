package nat

import (
	"math"
	"reflect"
	"slices"
	"testing"

	"sallyport/api"
)

// P16.1

func TestPort(t *testing.T) {
	for i, want := range []int{6, 7, 5} {
		wantPort(t, 5, 7, 6, i, want)
	}
	for i, want := range []int{5, 6, 7} {
		wantPort(t, 5, 7, 5, i, want)
	}
	for i, want := range []int{7, 5, 6} {
		wantPort(t, 5, 7, 7, i, want)
	}
	wantNoPort(t, 5, 7, 6, 3)
	wantPort(t, 9, 9, 9, 0, 9)
	wantNoPort(t, 9, 9, 9, 1)
}

// A port that is wanted, but not one of them, says nothing.
func TestPortThatIsNotAmongThem(t *testing.T) {
	for _, want := range append(numbers(), 4, 8) {
		if want == 5 {
			continue
		}
		for i, port := range []int{5, 6, 7} {
			wantPort(t, 5, 7, want, i, port)
		}
		wantNoPort(t, 5, 7, want, 3)
	}
}

func TestPortOfAll(t *testing.T) {
	wantPort(t, 0, 65535, 0, 0, 0)
	wantPort(t, 0, 65535, 0, 65535, 65535)
	wantPort(t, 0, 65535, 65535, 0, 65535)
	wantPort(t, 0, 65535, 65535, 1, 0)
	wantPort(t, 0, 65535, 65535, 65535, 65534)
	wantPort(t, 0, 65535, 40000, 25535, 65535)
	wantPort(t, 0, 65535, 40000, 25536, 0)
	wantPort(t, 0, 65535, 40000, 65535, 39999)
	for _, want := range []int{0, 1, 40000, 65535} {
		wantNoPort(t, 0, 65535, want, 65536)
		wantNoPort(t, 0, 65535, want, -1)
	}
	wantPort(t, 0, 0, 0, 0, 0)
	wantPort(t, 65535, 65535, 65535, 0, 65535)
	wantNoPort(t, 65535, 65535, 65535, 1)
}

func TestPortOfNoPorts(t *testing.T) {
	for _, n := range []int{math.MinInt, math.MinInt32, -65536, -1} {
		wantNoPort(t, n, 65535, 0, 0)
		wantNoPort(t, n, n, n, 0)
		wantNoPort(t, n, 5, 3, 2)
		wantNoPort(t, 0, n, 0, 0)
		wantNoPort(t, 5, 7, 6, n)
	}
	for _, n := range []int{65536, 65537, math.MaxInt32, math.MaxInt} {
		wantNoPort(t, 0, n, 0, 0)
		wantNoPort(t, 65535, n, 65535, 0)
		wantNoPort(t, n, n, n, 0)
		wantNoPort(t, n, 65535, 65535, 0)
		wantNoPort(t, 5, 7, 6, n)
	}
	wantNoPort(t, 6, 5, 6, 0)
	wantNoPort(t, 6, 5, 5, 0)
	wantNoPort(t, 65535, 0, 0, 0)
	wantNoPort(t, math.MinInt, math.MaxInt, 0, 0)
	wantNoPort(t, math.MaxInt, math.MinInt, 0, 0)
}

// P16.2, 1

func TestWithoutTranslations(t *testing.T) {
	c, k := edge(t, ""), call()
	for _, proto := range append(ported(), unported()...) {
		k := of(proto, k)
		wantMake(t, "to the server", c, 0, k, nil, plan(k, k, k, 1, 1))
	}
	k = key(server, 53, host, 5001)
	wantMake(t, "from the server", c, 1, k, nil, plan(k, k, k, 0, 0))
	k = key(host, 5001, other, 53)
	wantMake(t, "to another host", c, 0, k, nil, plan(k, k, k, 0, 0))
	k = key(v6(1), 5001, v6(2), 53)
	wantMake(t, "to another host by IPv6", c, 0, k, nil, plan(k, k, k, 0, 0))
	for _, n := range numbers() {
		k := key(host, n, server, n-1)
		wantMake(t, "any ports", c, n, k, nil, plan(k, k, k, 1, 1))
	}
}

func TestAnotherDestination(t *testing.T) {
	c := edge(t, "service web tcp 80\nservice dns udp 53\ndnat 1.2.3.4 web 10.0.0.2 8080\ndnat 1.2.3.4 dns 10.0.0.1\nstatic out 1.2.3.5 10.0.0.3\n")
	k := of(api.ProtoTCP, key(server, 5000, outer, 80))
	to := of(api.ProtoTCP, key(server, 5000, other, 8080))
	wantMake(t, "web", c, 1, k, nil, plan(k, to, to, 0, 0))
	k, to = key(server, 5000, outer, 53), key(server, 5000, host, 53)
	wantMake(t, "dns", c, 1, k, nil, plan(k, to, to, 0, 0))
	k = key(server, 5000, outer, 54)
	wantMake(t, "none", c, 1, k, nil, plan(k, k, k, 1, 1))
	for _, proto := range append(ported(), unported()...) {
		k, to = of(proto, key(server, 5000, v4(1, 2, 3, 5), 7)), of(proto, key(server, 5000, v4(10, 0, 0, 3), 7))
		wantMake(t, "static", c, 1, k, nil, plan(k, to, to, 0, 0))
	}
}

// A translation may tell another port of TCP and UDP alone.
func TestAnotherPort(t *testing.T) {
	c := edge(t, "dnat 1.2.3.4 any 10.0.0.2 8080\n")
	for _, proto := range append(ported(), unported()...) {
		k, to := of(proto, key(server, 77, outer, 77)), of(proto, key(server, 77, other, 77))
		if proto == api.ProtoTCP || proto == api.ProtoUDP {
			to.DPort = 8080
		}
		wantMake(t, "dnat", c, 1, k, nil, plan(k, to, to, 0, 0))
	}
}

// P16.2, 2

func TestNoWay(t *testing.T) {
	c, k := text(t, "zone in 10.0.0.254 0\nzone out 1.2.3.4 1\nroute 8.0.0.0/8 1\ndnat 1.2.3.4 any 8.8.8.8\ndnat 8.1.1.1 any 9.9.9.9\n"), call()
	wantMake(t, "the server", c, 0, k, nil, plan(k, k, k, 1, 1))
	k.Dst = v4(9, 9, 9, 9)
	wantNone(t, "elsewhere", c, 0, k, nil, api.DropRoute)
	k.Dst = v6(1)
	wantNone(t, "IPv6", c, 0, k, nil, api.DropRoute)
	wantNone(t, "nothing", api.Config{}, 0, api.Key{}, nil, api.DropRoute)

	// The way is that of the destination that it gets.
	k = key(host, 5001, outer, 53)
	to := key(host, 5001, server, 53)
	wantMake(t, "called otherwise", c, 0, k, nil, plan(k, to, to, 1, 1))
	k.Dst = v4(8, 1, 1, 1)
	wantNone(t, "called so that there is none", c, 0, k, nil, api.DropRoute)
}

// A route may name any interface, in configurations that may be any.
func TestRoutesOfAnyInterface(t *testing.T) {
	k := call()
	all := api.Range{From: v4(0, 0, 0, 0), To: v4(255, 255, 255, 255)}
	for _, n := range append(numbers(), 7, 8, 15, 16) {
		c := api.Config{Routes: []api.Route{{To: all, Iface: n}}}
		want := api.DropZone
		if n == -1 {
			want = api.DropRoute // also where a zone has that interface
		}
		wantNone(t, "no zones", c, 0, k, nil, want)
		c.Zones = []api.Zone{{Name: "a", Ifaces: []int{n - 1}}}
		wantNone(t, "no zone of it", c, 0, k, nil, want)
		c.Zones = append(c.Zones, api.Zone{Name: "a"}, api.Zone{Name: "b", Ifaces: []int{3, n}}, api.Zone{Name: "c", Ifaces: []int{n}})
		if n == -1 {
			wantNone(t, "a zone of no interface", c, 0, k, nil, want)
		} else {
			wantMake(t, "a zone of it", c, 0, k, nil, plan(k, k, k, n, 2))
		}
	}
}

// What is wrong first is told, also if more is wrong.
func TestTheFirstReason(t *testing.T) {
	k := call()
	c := edge(t, "snat out any 1.2.3.4 5001-5001\n")
	taken := []api.Key{back(key(outer, 5001, server, 53))}
	wantNone(t, "no port", c, 0, k, taken, api.DropPort)
	c.Zones[1].Ifaces = nil
	wantNone(t, "no zone and no port", c, 0, k, taken, api.DropZone)
	c.Routes = nil
	wantNone(t, "no route, no zone and no port", c, 0, k, taken, api.DropRoute)
	c.Nats = nil
	wantNone(t, "no route, and what comes back is taken", c, 0, k, []api.Key{back(k)}, api.DropRoute)
}

// P16.2, 3

func TestStaticSource(t *testing.T) {
	c := edge(t, "static out 1.2.3.5 10.0.0.1\nsnat out any 1.2.3.4 6000-6001\n")
	for _, proto := range append(ported(), unported()...) {
		k := of(proto, call())
		out := k
		out.Src = v4(1, 2, 3, 5)
		wantMake(t, "the port that it had", c, 0, k, nil, plan(k, k, out, 1, 1))
		wantNone(t, "no port is looked for", c, 0, k, []api.Key{back(out)}, api.DropPort)
	}
	k := key(host, 5001, other, 53)
	wantMake(t, "to another zone", c, 0, k, nil, plan(k, k, k, 0, 0))
	k.Dst = outer
	wantMake(t, "to the zone", c, 1, k, nil, plan(k, k, key(v4(1, 2, 3, 5), 5001, outer, 53), 1, 1))
}

// Of any configuration the first translation counts, and what it tells is taken as it is.
func TestSourcesOfAnyKind(t *testing.T) {
	c, k := edge(t, ""), call()
	static := api.Nat{Kind: api.NatStatic, Zone: "out", Outer: v6(9), Inner: host, From: 7000, To: 7001}
	snat := api.Nat{Kind: api.NatSource, Zone: "out", Object: "any", Outer: outer, From: 6000, To: 6001}
	c.Nats = []api.Nat{static, snat}
	wantMake(t, "a static one of IPv6", c, 0, k, nil, plan(k, k, key(v6(9), 5001, server, 53), 1, 1))
	c.Nats = []api.Nat{snat, static}
	wantMake(t, "the snat ahead", c, 0, k, nil, plan(k, k, key(outer, 6000, server, 53), 1, 1))
	snat.Outer = v6(9)
	c.Nats = []api.Nat{snat}
	wantMake(t, "a snat of IPv6", c, 0, k, nil, plan(k, k, k, 1, 1))
	for _, kind := range []int{math.MinInt, -1, 0, api.NatDest, 4, math.MaxInt} {
		snat.Kind, snat.Outer = kind, outer
		c.Nats = []api.Nat{snat}
		wantMake(t, "another kind", c, 0, k, nil, plan(k, k, k, 1, 1))
	}
}

func TestSource(t *testing.T) {
	c := edge(t, "object lan 10.0.0.1\nsnat out lan 1.2.3.4 6000-6001\n")
	for _, proto := range ported() {
		k := of(proto, call())
		out := of(proto, key(outer, 6000, server, 53))
		if proto == api.ProtoICMP || proto == api.ProtoICMP6 {
			out.DPort = 6000
		}
		wantMake(t, "of the object", c, 0, k, nil, plan(k, k, out, 1, 1))
	}
	k := key(other, 5001, server, 53)
	wantMake(t, "not of the object", c, 0, k, nil, plan(k, k, k, 1, 1))
	k = key(host, 5001, other, 53)
	wantMake(t, "to another zone", c, 0, k, nil, plan(k, k, k, 0, 0))
	k = key(host, 5001, outer, 53)
	wantMake(t, "from the zone to itself", c, 1, k, nil, plan(k, k, key(outer, 6000, outer, 53), 1, 1))
	k = key(v6(1), 5001, api.Addr{Hi: 1}, 53)
	wantMake(t, "of IPv6", c, 0, k, nil, plan(k, k, k, 1, 1))
}

// Who is called by another name, and goes out by another source: both are told of.
func TestSourceAndDestination(t *testing.T) {
	c := edge(t, "service web tcp 80\ndnat 9.9.9.9 web 8.8.8.8 8080\nsnat out any 1.2.3.4 5000-5001\n")
	k := of(api.ProtoTCP, key(host, 5001, v4(9, 9, 9, 9), 80))
	to := of(api.ProtoTCP, key(host, 5001, server, 8080))
	out := of(api.ProtoTCP, key(outer, 5001, server, 8080))
	wantMake(t, "from within", c, 0, k, nil, plan(k, to, out, 1, 1))
	wantMake(t, "from its own zone: by the snat", c, 1, k, nil, plan(k, to, out, 1, 1))
}

func TestHairpin(t *testing.T) {
	c := edge(t, "dnat 1.2.3.4 any 10.0.0.2\nstatic out 1.2.3.5 10.0.0.3\n")
	for _, proto := range ported() {
		k, to, out := of(proto, key(host, 5001, outer, 5001)), of(proto, key(host, 5001, other, 5001)), of(proto, key(own, 5001, other, 5001))
		wantMake(t, "dnat", c, 0, k, nil, plan(k, to, out, 0, 0))
		k.Dst, to.Dst, out.Dst = v4(1, 2, 3, 5), v4(10, 0, 0, 3), v4(10, 0, 0, 3)
		wantMake(t, "static", c, 0, k, nil, plan(k, to, out, 0, 0))
	}
	for _, in := range []int{math.MinInt, -2, -1, 1, 2, math.MaxInt} {
		k, to := key(host, 5001, outer, 53), key(host, 5001, other, 53)
		wantMake(t, "from another zone", c, in, k, nil, plan(k, to, to, 0, 0))
	}
	k := key(host, 5001, other, 53)
	wantMake(t, "called by its own name", c, 0, k, nil, plan(k, k, k, 0, 0))
}

func TestPortsOfAHairpin(t *testing.T) {
	c := edge(t, "dnat 1.2.3.4 any 10.0.0.2\n")
	for _, row := range []struct{ want, port int }{{0, 1024}, {1023, 1024}, {1024, 1024}, {1025, 1025}, {65534, 65534}, {65535, 65535}, {65536, 1024}, {-1, 1024}, {math.MinInt, 1024}, {math.MaxInt, 1024}} {
		k := key(host, row.want, outer, 53)
		to, out := key(host, row.want, other, 53), key(own, row.port, other, 53)
		wantMake(t, "a port", c, 0, k, nil, plan(k, to, out, 0, 0))
		next := out
		if next.SPort++; next.SPort > 65535 {
			next.SPort = 1024
		}
		wantMake(t, "the next one", c, 0, k, []api.Key{back(out)}, plan(k, to, next, 0, 0))
	}
}

func TestHairpinOfBothFamilies(t *testing.T) {
	c, k := edge(t, ""), key(host, 5001, v6(7), 53)
	c.Nats = []api.Nat{{Kind: api.NatDest, Service: "any", Outer: v6(7), Inner: v6(8)}}
	to := key(host, 5001, v6(8), 53)
	// It is the source, and not the destination, that is of the zone's address's family.
	wantMake(t, "both IPv4", c, 0, k, nil, plan(k, to, key(own, 5001, v6(8), 53), 0, 0))
	k.Src, to.Src = v6(1), v6(1)
	wantMake(t, "a source of IPv6", c, 0, k, nil, plan(k, to, to, 0, 0))
	c.Zones[0].Addr = v6(254)
	wantMake(t, "both IPv6", c, 0, k, nil, plan(k, to, key(v6(254), 5001, v6(8), 53), 0, 0))
	k.Src, to.Src = host, host
	wantMake(t, "an address of IPv6", c, 0, k, nil, plan(k, to, to, 0, 0))
}

// The last zone that bears an interface, or a name, has an address of its own: that of the zone which it goes to counts.
func TestHairpinOfZonesThatAreTwice(t *testing.T) {
	c, k := edge(t, "dnat 1.2.3.4 any 10.0.0.2\n"), key(host, 5001, outer, 53)
	c.Zones = []api.Zone{{Name: "in", Addr: server}, {Name: "in", Addr: own, Ifaces: []int{1, 0}}, {Name: "in", Addr: server, Ifaces: []int{0}}}
	to := key(host, 5001, other, 53)
	wantMake(t, "the zone of the interface", c, 1, k, nil, plan(k, to, key(own, 5001, other, 53), 0, 1))
	wantMake(t, "another one of its name ahead", c, 0, k, nil, plan(k, to, to, 0, 1))
	wantMake(t, "another one of its name behind", c, 2, k, nil, plan(k, to, to, 0, 1))
}

// Where a source is told, the hairpin is none.
func TestSourceOfAHairpin(t *testing.T) {
	k, to := key(host, 5001, outer, 53), key(host, 5001, other, 53)
	c := edge(t, "dnat 1.2.3.4 any 10.0.0.2\nsnat in any 10.0.0.9 6000-6001\n")
	wantMake(t, "snat", c, 0, k, nil, plan(k, to, key(v4(10, 0, 0, 9), 6000, other, 53), 0, 0))
	c = edge(t, "dnat 1.2.3.4 any 10.0.0.2\nstatic in 10.0.0.9 10.0.0.1\n")
	wantMake(t, "static", c, 0, k, nil, plan(k, to, key(v4(10, 0, 0, 9), 5001, other, 53), 0, 0))
}

// P16.2, 4

func TestPortsInTheirOrder(t *testing.T) {
	c := edge(t, "snat out any 1.2.3.4 5000-5003\n")
	for _, proto := range ported() {
		k := of(proto, call())
		k.SPort = 5002
		var taken []api.Key
		for _, port := range []int{5002, 5003, 5000, 5001} {
			out := of(proto, key(outer, port, server, 53))
			if proto == api.ProtoICMP || proto == api.ProtoICMP6 {
				out.DPort = port
			}
			wantMake(t, "the next one that is free", c, 0, k, taken, plan(k, k, out, 1, 1))
			taken = append(taken, back(out))
		}
		wantNone(t, "none is free", c, 0, k, taken, api.DropPort)
		for i, b := range taken {
			gone := slices.Delete(slices.Clone(taken), i, i+1)
			wantMake(t, "just this one is free", c, 0, k, gone, plan(k, k, back(b), 1, 1))
		}
	}
}

// A port is free as long as the whole key is not taken.
func TestPortsOfOtherKeys(t *testing.T) {
	c, k := edge(t, "snat out any 1.2.3.4 5000-5001\n"), call()
	out := key(outer, 5001, server, 53)
	want := plan(k, k, out, 1, 1)
	b := back(out)
	taken := []api.Key{k, out, back(k), {}}
	for _, do := range []func(k *api.Key){
		func(k *api.Key) { k.Proto = api.ProtoTCP },
		func(k *api.Key) { k.Src = other },
		func(k *api.Key) { k.Dst = other },
		func(k *api.Key) { k.SPort++ },
		func(k *api.Key) { k.DPort-- },
	} {
		like := b
		do(&like)
		taken = append(taken, like)
	}
	wantMake(t, "others are taken", c, 0, k, taken, want)
	taken = append(taken, b, b)
	wantNone(t, "this one, too", c, 0, k, taken, api.DropPort) // 5000 was among those
	wantNone(t, "twice", c, 0, k, append(taken, taken...), api.DropPort)
}

// Of a protocol without ports none is looked for, also of a snat and a hairpin.
func TestNoPortIsLookedFor(t *testing.T) {
	c := edge(t, "dnat 1.2.3.4 any 10.0.0.2\nsnat out any 1.2.3.4 6000-6001\n")
	for _, proto := range unported() {
		for _, port := range []int{0, 7, 6000} {
			k := of(proto, key(host, port, server, port))
			out := of(proto, key(outer, port, server, port))
			wantMake(t, "snat", c, 0, k, nil, plan(k, k, out, 1, 1))
			wantNone(t, "snat, taken", c, 0, k, []api.Key{back(out)}, api.DropPort)
			k, to := of(proto, key(host, port, outer, port)), of(proto, key(host, port, other, port))
			out = of(proto, key(own, port, other, port))
			wantMake(t, "hairpin", c, 0, k, nil, plan(k, to, out, 0, 0))
			wantNone(t, "hairpin, taken", c, 0, k, []api.Key{back(out)}, api.DropPort)
		}
	}
}

func TestTakenWithoutTranslation(t *testing.T) {
	c := edge(t, "dnat 1.2.3.4 any 10.0.0.2\n")
	for _, proto := range append(ported(), unported()...) {
		k := of(proto, call())
		wantNone(t, "as it is", c, 0, k, []api.Key{{}, back(k)}, api.DropPort)
		wantMake(t, "its own key", c, 0, k, []api.Key{k}, plan(k, k, k, 1, 1))
		k, to := of(proto, key(server, 9, outer, 9)), of(proto, key(server, 9, other, 9))
		wantNone(t, "another destination", c, 1, k, []api.Key{back(to)}, api.DropPort)
		wantMake(t, "the key as it is called", c, 1, k, []api.Key{back(k)}, plan(k, to, to, 0, 0))
	}
}

// Ports that may not be are none, in configurations that may be any.
func TestPortsThatAreNone(t *testing.T) {
	c := edge(t, "snat out any 1.2.3.4 5000-5001\n")
	for _, row := range []struct{ from, to int }{{-1, 5001}, {5001, 5000}, {5000, 65536}, {65536, 65536}, {0, -1}, {math.MinInt, math.MaxInt}, {math.MaxInt, math.MinInt}} {
		c.Nats[0].From, c.Nats[0].To = row.from, row.to
		for _, proto := range ported() {
			wantNone(t, "no ports", c, 0, of(proto, call()), nil, api.DropPort)
		}
		k, out := of(47, call()), of(47, key(outer, 5001, server, 53))
		wantMake(t, "none is looked for", c, 0, k, nil, plan(k, k, out, 1, 1))
	}
	c.Nats[0].From, c.Nats[0].To = 0, 0
	k := call()
	wantMake(t, "the port 0", c, 0, k, nil, plan(k, k, key(outer, 0, server, 53), 1, 1))
}

// All ports may be gone through, and each key that is taken counts.
func TestAllPorts(t *testing.T) {
	c, k := edge(t, "snat out any 1.2.3.4 1-65535\n"), call()
	var taken []api.Key
	for port := range 65536 {
		taken = append(taken, back(key(outer, port, server, 53)))
	}
	wantNone(t, "all are taken", c, 0, k, taken, api.DropPort)
	for _, port := range []int{1, 5000, 5001, 65535} {
		some := slices.Clone(taken)
		some[port].DPort = 0
		wantMake(t, "all but one", c, 0, k, some, plan(k, k, key(outer, port, server, 53), 1, 1))
	}
}

// P16.2, 5

// What comes back must be told from what goes.
func TestBackIsOpen(t *testing.T) {
	c := edge(t, "")
	for _, proto := range append(ported(), unported()...) {
		k := of(proto, key(server, 9, server, 9))
		wantNone(t, "to itself", c, 0, k, nil, api.DropPort)
		k.DPort++
		wantMake(t, "to itself, another port", c, 0, k, nil, plan(k, k, k, 1, 1))
	}
	c = edge(t, "static out 1.2.3.4 8.8.8.8\n")
	k := key(server, 9, outer, 9)
	to, out := key(server, 9, server, 9), key(outer, 9, server, 9)
	wantNone(t, "to its own outer address", c, 1, k, nil, api.DropPort)
	k.SPort, to.SPort, out.SPort = 8, 8, 8
	wantMake(t, "to its own outer address, another port", c, 1, k, nil, plan(k, to, out, 1, 1))
}

// A port with which what comes back is what goes is not free.
func TestPortWithWhichBackIsOpen(t *testing.T) {
	c := edge(t, "dnat 10.0.0.254 any 10.0.0.2\n")
	k, to := key(other, 5000, own, 5000), key(other, 5000, other, 5000)
	wantMake(t, "hairpin", c, 0, k, nil, plan(k, to, key(own, 5001, other, 5000), 0, 0))
	c = edge(t, "dnat 1.2.3.4 any 8.8.8.8\nsnat out any 1.2.3.4 5000-5001\n")
	k, to = key(server, 5000, outer, 5000), key(server, 5000, server, 5000)
	wantMake(t, "snat", c, 1, k, nil, plan(k, to, key(outer, 5001, server, 5000), 1, 1))
	wantNone(t, "snat, the other one is taken", c, 1, k, []api.Key{back(key(outer, 5001, server, 5000))}, api.DropPort)
}

// R3, R5

func TestWhatIsHandedInStays(t *testing.T) {
	c, k := edge(t, "service web tcp 80\nobject lan 10.0.0.0/8\ndnat 9.9.9.9 web 8.8.8.8 8080\nsnat out lan 1.2.3.4 5000-5001\n"), call()
	was := edge(t, "service web tcp 80\nobject lan 10.0.0.0/8\ndnat 9.9.9.9 web 8.8.8.8 8080\nsnat out lan 1.2.3.4 5000-5001\n")
	room := []api.Key{back(key(outer, 5001, server, 53)), {}, back(key(outer, 5000, server, 53)), back(k)}
	had := slices.Clone(room)
	want := plan(k, k, key(outer, 5000, server, 53), 1, 1)
	for range 3 {
		wantMake(t, "what lies behind the list's length says nothing", c, 0, k, room[:2], want)
	}
	wantNone(t, "the whole list", c, 0, k, room, api.DropPort)
	wantMake(t, "an empty list", c, 0, k, room[:0], plan(k, k, key(outer, 5001, server, 53), 1, 1))
	if !slices.Equal(room, had) || !reflect.DeepEqual(c, was) {
		t.Errorf("%v, %+v: changed", room, c)
	}
	room[0] = api.Key{}
	wantMake(t, "nothing is kept", c, 0, k, room[:2], plan(k, k, key(outer, 5001, server, 53), 1, 1))
}

func TestExamples(t *testing.T) {
	for i, want := range []int{6, 7, 5} {
		wantPort(t, 5, 7, 6, i, want)
	}
	wantNoPort(t, 5, 7, 6, 3)
	c := text(t, "zone in 10.0.0.254 0\nzone out 1.2.3.4 1\nroute 0.0.0.0/0 1\nsnat out any 1.2.3.4 5000-5001\n")
	k, first, next := key(host, 5001, server, 53), key(outer, 5001, server, 53), key(outer, 5000, server, 53)
	wantMake(t, "a call", c, 0, k, nil, Plan{Judge: k, Open: k, Out: first, Back: key(server, 53, outer, 5001), Home: key(server, 53, host, 5001), Iface: 1, Zone: 1})
	wantMake(t, "with that Back taken", c, 0, k, []api.Key{back(first)}, plan(k, k, next, 1, 1))
	wantNone(t, "with both ports' taken", c, 0, k, []api.Key{back(first), back(next)}, api.DropPort)
}
