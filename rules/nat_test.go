package rules

import (
	"testing"

	"sallyport/addr"
	"sallyport/api"
)

// P7.4

func wantDest(t *testing.T, what string, c api.Config, k api.Key, dst api.Addr, port, place int) {
	t.Helper()
	if a, p, i := Dest(c, k); a != dst || p != port || i != place {
		t.Errorf("%s: %s, %d, %d, want %s, %d, %d", what, addr.Print(a), p, i, addr.Print(dst), port, place)
	}
}

func TestDest(t *testing.T) {
	c := text(t, `zone in 10.0.0.254 0
zone out 1.2.3.4 1
service web tcp 80
service dns udp 53
service ping icmp
snat out any 1.2.3.4 5000-5001
dnat 1.2.3.4 web 10.0.0.5 8080
dnat 1.2.3.4 dns 10.0.0.6
static out 1.2.3.5 10.0.0.7
dnat 1.2.3.5 any 10.0.0.8 1
dnat 1.2.3.4 ping 10.0.0.9 7
dnat 1.2.3.6 any 10.0.0.10 9
dnat 2001:db8::1 web 2001:db8::2 8081
`)
	outer := v4(1, 2, 3, 4)
	for _, w := range []struct {
		what         string
		proto        int
		dst          api.Addr
		dport        int
		want         api.Addr
		port, atNats int
	}{
		{"a service, another port", api.ProtoTCP, outer, 80, v4(10, 0, 0, 5), 8080, 1},
		{"a service, as it is", api.ProtoUDP, outer, 53, v4(10, 0, 0, 6), 53, 2},
		{"a static", api.ProtoTCP, v4(1, 2, 3, 5), 80, v4(10, 0, 0, 7), 80, 3},
		{"a static of any protocol", 47, v4(1, 2, 3, 5), 0, v4(10, 0, 0, 7), 0, 3},
		{"a protocol without ports", api.ProtoICMP, outer, 1234, v4(10, 0, 0, 9), 1234, 5},
		{"any service, TCP", api.ProtoTCP, v4(1, 2, 3, 6), 80, v4(10, 0, 0, 10), 9, 6},
		{"any service, UDP", api.ProtoUDP, v4(1, 2, 3, 6), 80, v4(10, 0, 0, 10), 9, 6},
		{"any service, ICMP", api.ProtoICMP, v4(1, 2, 3, 6), 80, v4(10, 0, 0, 10), 80, 6},
		{"any service, ICMP6", api.ProtoICMP6, v4(1, 2, 3, 6), 80, v4(10, 0, 0, 10), 80, 6},
		{"any service, another protocol", 47, v4(1, 2, 3, 6), 0, v4(10, 0, 0, 10), 0, 6},
		{"any service, no protocol", 0, v4(1, 2, 3, 6), 65536, v4(10, 0, 0, 10), 65536, 6},
		{"IPv6", api.ProtoTCP, v6(1), 80, v6(2), 8081, 7},
		{"no service", api.ProtoTCP, outer, 81, outer, 81, -1},
		{"another protocol", api.ProtoTCP, outer, 53, outer, 53, -1},
		{"no destination", api.ProtoTCP, v4(1, 2, 3, 7), 80, v4(1, 2, 3, 7), 80, -1},
		{"an inner address", api.ProtoTCP, v4(10, 0, 0, 7), 80, v4(10, 0, 0, 7), 80, -1},
		{"IPv6, not there", api.ProtoTCP, v6(3), 80, v6(3), 80, -1},
		{"a port that is none", api.ProtoTCP, outer, -1, outer, -1, -1},
	} {
		k := api.Key{Proto: w.proto, Src: v4(9, 9, 9, 9), Dst: w.dst, SPort: 5000, DPort: w.dport}
		wantDest(t, w.what, c, k, w.want, w.port, w.atNats)
	}
	wantDest(t, "no translations", api.Config{}, call(), call().Dst, 80, -1)
	wantDest(t, "nothing", api.Config{}, api.Key{}, api.Addr{}, 0, -1)
}

// TestDestOfOrder has translations of one outer address: the first that is meant counts.
func TestDestOfOrder(t *testing.T) {
	dst := v4(1, 2, 3, 4)
	static := api.Nat{Kind: api.NatStatic, Outer: dst, Inner: v6(1)}
	dnat := api.Nat{Kind: api.NatDest, Outer: dst, Inner: v6(2), Service: "any", From: 7}
	never := api.Nat{Kind: api.NatDest, Outer: dst, Inner: v6(3), Service: "not there", From: 8}
	source := api.Nat{Kind: api.NatSource, Outer: dst, Inner: v6(4), Service: "any", Object: "any", Zone: "any", From: 9}
	k := api.Key{Proto: api.ProtoTCP, Dst: dst, DPort: 80}
	for _, w := range []struct {
		nats        []api.Nat
		want        api.Addr
		port, place int
	}{
		{[]api.Nat{static, dnat}, v6(1), 80, 0},
		{[]api.Nat{dnat, static}, v6(2), 7, 0},
		{[]api.Nat{source, never, dnat, static}, v6(2), 7, 2},
		{[]api.Nat{never, source, static, dnat}, v6(1), 80, 2},
		{[]api.Nat{never, source}, dst, 80, -1},
	} {
		wantDest(t, "in order", api.Config{Nats: w.nats}, k, w.want, w.port, w.place)
	}
}

// TestDestOfWhatMayNotBe has translations that say what their kind has not.
func TestDestOfWhatMayNotBe(t *testing.T) {
	dst := v4(1, 2, 3, 4)
	c := api.Config{
		Services: []api.Service{{Name: "", Proto: api.ProtoTCP, From: 80, To: 80}, {Name: "a", Proto: api.ProtoUDP, From: 80, To: 80}, {Name: "a", Proto: api.ProtoTCP, From: 80, To: 80}},
		Nats:     []api.Nat{{Outer: dst, Inner: v6(1), Zone: "no zone", Object: "no object", To: 5}},
	}
	n := &c.Nats[0]
	k := api.Key{Proto: api.ProtoTCP, Src: v6(5), Dst: dst, SPort: 7, DPort: 80}
	for _, kind := range append(extremes(), api.NatSource) {
		n.Kind, n.From, n.Service = kind, 5, "any"
		if kind != api.NatDest && kind != api.NatStatic {
			wantDest(t, "a kind that is none", c, k, dst, 80, -1)
		}
	}
	for _, port := range extremes() {
		n.From, n.Service = port, "not there"
		n.Kind = api.NatStatic
		wantDest(t, "a static with a port and a service", c, k, v6(1), 80, 0)

		n.Kind, n.Service = api.NatDest, ""
		want := port
		if port == 0 {
			want = 80
		}
		wantDest(t, "a service without a name", c, k, v6(1), want, 0)
		n.Service = "a"
		wantDest(t, "the first service of a name says no", c, k, dst, 80, -1)
		udp := k
		udp.Proto = api.ProtoUDP
		wantDest(t, "the first service of a name says yes", c, udp, v6(1), want, 0)

		n.Service = "any"
		for _, other := range extremes() {
			if other != api.ProtoTCP && other != api.ProtoUDP {
				wantDest(t, "protocols without ports", c, api.Key{Proto: other, Dst: dst, DPort: 99}, v6(1), 99, 0)
			}
		}
	}
}

// TestDestOfAddresses has every bit of the outer address count.
func TestDestOfAddresses(t *testing.T) {
	for _, kind := range []int{api.NatDest, api.NatStatic} {
		c := api.Config{Nats: []api.Nat{{Kind: kind, Service: "any", Outer: v6(1), Inner: v6(2)}}}
		wantDest(t, "the outer one", c, api.Key{Dst: v6(1)}, v6(2), 0, 0)
		for i := range 64 {
			for _, a := range []api.Addr{{Hi: v6(1).Hi ^ 1<<i, Lo: 1}, {Hi: v6(1).Hi, Lo: 1 ^ 1<<i}} {
				wantDest(t, "another one", c, api.Key{Dst: a, Src: v6(1)}, a, 0, -1)
			}
		}
	}
}

// P7.5

func wantSource(t *testing.T, what string, c api.Config, out int, src api.Addr, want int) {
	t.Helper()
	// Ports, the protocol and the destination do not count.
	for _, n := range extremes() {
		k := api.Key{Proto: n, Src: src, Dst: v4(1, 2, 3, 5), SPort: n, DPort: n}
		if got := Source(c, out, k); got != want {
			t.Fatalf("%s: %d, want %d", what, got, want)
		}
	}
}

func TestSource(t *testing.T) {
	c := text(t, `zone in 10.0.0.254 0
zone out 1.2.3.4 1
zone six ::1 2
object lan 10.0.0.0/24 2001:db8::1-2001:db8::9
dnat 1.2.3.4 any 10.0.0.5 8080
static out 1.2.3.5 10.0.0.7
static six 2001:db8::5 2001:db8::6
snat out lan 1.2.3.4 5000-5001
snat out any 1.2.3.8 1-2
snat six lan 2001:db8::7 1-65535
snat in lan 1.2.3.9 1-2
`)
	for _, w := range []struct {
		what string
		out  int
		src  api.Addr
		want int
	}{
		{"a static", 1, v4(10, 0, 0, 7), 1},
		{"a static of IPv6", 2, v6(6), 2},
		{"a static of another zone", 1, v6(6), -1},
		{"a source", 1, v4(10, 0, 0, 8), 3},
		{"the first source", 1, v4(10, 0, 0, 0), 3},
		{"the last source", 1, v4(10, 0, 0, 255), 3},
		{"not of the object", 1, v4(10, 0, 1, 0), 4},
		{"of the object, not of the family", 1, v6(1), -1},
		{"another zone", 2, v6(1), 5},
		{"another zone, the last source", 2, v6(9), 5},
		{"another zone, not of the object", 2, v6(10), -1},
		{"another zone, of the other family", 2, v4(10, 0, 0, 8), -1},
		{"a static's source, in another zone", 0, v4(10, 0, 0, 7), 6},
		{"the first zone", 0, v4(10, 0, 0, 8), 6},
		{"the first zone, not of the object", 0, v4(10, 0, 1, 0), -1},
		{"no zone", 3, v4(10, 0, 0, 8), -1},
		{"below all zones", -1, v4(10, 0, 0, 8), -1},
	} {
		wantSource(t, w.what, c, w.out, w.src, w.want)
	}
	wantSource(t, "no translations", api.Config{Zones: c.Zones}, 1, v4(10, 0, 0, 7), -1)
	wantSource(t, "nothing", api.Config{}, 0, api.Addr{}, -1)
}

// TestSourceOfFamilies asks whether both are IPv4, or neither; a static is not asked so.
func TestSourceOfFamilies(t *testing.T) {
	c := api.Config{Zones: []api.Zone{{Name: "a"}}, Nats: []api.Nat{{Kind: api.NatSource, Zone: "a", Object: "any"}}}
	edges := []api.Addr{{}, {Lo: v4(0, 0, 0, 0).Lo - 1}, v4(0, 0, 0, 0), v4(255, 255, 255, 255), {Lo: v4(255, 255, 255, 255).Lo + 1}, {Hi: 1, Lo: v4(1, 2, 3, 4).Lo}, v6(1), top}
	for _, outer := range edges {
		for _, src := range edges {
			c.Nats[0].Kind, c.Nats[0].Outer, c.Nats[0].Inner = api.NatSource, outer, v4(1, 1, 1, 1)
			want := -1
			if addr.Is4(outer) == addr.Is4(src) {
				want = 0
			}
			wantSource(t, "a source", c, 0, src, want)
			c.Nats[0].Kind, c.Nats[0].Inner = api.NatStatic, src
			wantSource(t, "a static", c, 0, src, 0)
		}
	}
}

// TestSourceOfWhatMayNotBe has zones and translations that lang.Check refuses.
func TestSourceOfWhatMayNotBe(t *testing.T) {
	src := v6(1)
	c := api.Config{
		Zones:   []api.Zone{{Name: "a"}, {Name: "b"}, {Name: "a"}, {Name: ""}, {Name: "any"}},
		Objects: []api.Object{{Name: "o", Ranges: []api.Range{only(v6(9))}}, {Name: "o", Ranges: []api.Range{all}}, {Name: "", Ranges: []api.Range{only(src)}}},
		Nats: []api.Nat{
			{Kind: api.NatDest, Zone: "a", Object: "any", Service: "any", Outer: src, Inner: src},
			{Kind: 0, Zone: "a", Object: "any", Inner: src},
			{Kind: 4, Zone: "a", Object: "any", Inner: src},
			{Kind: api.NatSource, Zone: "a", Object: "o"},
			{Kind: api.NatSource, Zone: "a", Object: "not there"},
			{Kind: api.NatSource, Zone: "a", Object: ""},
			{Kind: api.NatStatic, Zone: "", Inner: src, Object: "o", Service: "o", From: 9},
			{Kind: api.NatSource, Zone: "any", Object: "any"},
		},
	}
	// A zone's name counts, also where one ahead bears it; any is a name here like others.
	for out, want := range map[int]int{-1: -1, 0: 5, 1: -1, 2: 5, 3: 6, 4: 7, 5: -1} {
		wantSource(t, "zones", c, out, src, want)
	}
	for _, n := range extremes() {
		if n < 0 || n > 4 {
			wantSource(t, "numbers of no zone", c, n, src, -1)
		}
	}
	wantSource(t, "the first object of a name", c, 0, v6(9), 3)
	wantSource(t, "a static of another source", c, 3, v6(9), -1)
}

// TestSourceOfOrder has translations of one source: the first counts.
func TestSourceOfOrder(t *testing.T) {
	static := api.Nat{Kind: api.NatStatic, Zone: "a", Inner: v6(1)}
	source := api.Nat{Kind: api.NatSource, Zone: "a", Object: "any"}
	c := api.Config{Zones: []api.Zone{{Name: "a"}}}
	for range 2 {
		c.Nats = []api.Nat{static, source, static, source}
		wantSource(t, "both", c, 0, v6(1), 0)
		static, source = source, static
	}
	c.Nats = []api.Nat{static, source}
	wantSource(t, "the second", c, 0, v6(2), 1)
}
