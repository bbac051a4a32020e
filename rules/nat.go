package rules

import (
	"slices"

	"sallyport/addr"
	"sallyport/api"
)

// Dest answers the destination and the port that k gets, and the place of the translation that says so.
func Dest(c api.Config, k api.Key) (api.Addr, int, int) {
	i := slices.IndexFunc(c.Nats, func(n api.Nat) bool { return isCalled(c, n, k) })
	if i == none {
		return k.Dst, k.DPort, none
	}
	n := c.Nats[i]
	if n.Kind == api.NatDest && n.From != 0 && hasPorts(k.Proto) {
		return n.Inner, n.From, i
	}
	return n.Inner, k.DPort, i
}

// isCalled tells whether the translation n gives k another destination.
func isCalled(c api.Config, n api.Nat, k api.Key) bool {
	switch {
	case n.Outer != k.Dst:
		return false
	case n.Kind == api.NatDest:
		return Serves(c, n.Service, k)
	}
	return n.Kind == api.NatStatic
}

// Source answers the place of the translation that gives k, which goes to the zone number out, another source.
func Source(c api.Config, out int, k api.Key) int {
	return slices.IndexFunc(c.Nats, func(n api.Nat) bool { return bears(c, out, n.Zone) && isSource(c, n, k.Src) })
}

// isSource tells whether the translation n is for that source.
func isSource(c api.Config, n api.Nat, src api.Addr) bool {
	switch n.Kind {
	case api.NatStatic:
		return n.Inner == src
	case api.NatSource:
		return Within(c, n.Object, src) && addr.Is4(n.Outer) == addr.Is4(src)
	}
	return false
}
