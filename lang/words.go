package lang

import (
	"slices"

	"sallyport/api"
)

// The words with which commands begin.
const (
	zoneWord    = "zone"
	objectWord  = "object"
	serviceWord = "service"
	limitWord   = "limit" // of a rule's limit, too
	routeWord   = "route"
	snatWord    = "snat"
	dnatWord    = "dnat"
	staticWord  = "static"
	ruleWord    = "rule"
	defaultWord = "default"
)

// The words that may stand at a command's end.
const (
	sourceWord = "source"
	proxyWord  = "proxy"
)

const (
	maxPort  = 65535
	maxProto = 255
	bits4    = 32 // of an IPv4 address
	bits6    = 128
)

// meaning is a word that stands for a number.
type meaning struct {
	word   string
	number int
}

func (m meaning) text() string { return m.word }

func (m meaning) value() int { return m.number }

func protocols() []meaning {
	return []meaning{{"tcp", api.ProtoTCP}, {"udp", api.ProtoUDP}, {"icmp", api.ProtoICMP}, {"icmp6", api.ProtoICMP6}, {"all", 0}}
}

// hasPorts tells whether a protocol's services are told apart by ports.
func hasPorts(proto int) bool { return proto == api.ProtoTCP || proto == api.ProtoUDP }

// defaults are the actions that a configuration may have as its default.
func defaults() []meaning {
	return []meaning{{"accept", api.Accept}, {"drop", api.Drop}}
}

// actions are those that a rule may have.
func actions() []meaning {
	return append(defaults(), meaning{"reject", api.Reject})
}

// find answers the first of l whose key it is, and whether there is one.
func find[T any, K comparable](l []T, keyOf func(T) K, key K) (T, bool) {
	i := slices.IndexFunc(l, func(x T) bool { return keyOf(x) == key })
	if i < 0 {
		var none T
		return none, false
	}
	return l[i], true
}

// has tells whether there is one in l whose key it is.
func has[T any, K comparable](l []T, keyOf func(T) K, key K) bool {
	_, ok := find(l, keyOf, key)
	return ok
}

// hasOrAny tells whether the name is that of one in l, or stands for any.
func hasOrAny[T any](l []T, nameOf func(T) string, name string) bool {
	return name == anyName || has(l, nameOf, name)
}

func zoneName(z api.Zone) string { return z.Name }

func objectName(o api.Object) string { return o.Name }

func serviceName(s api.Service) string { return s.Name }

func limitName(l api.Limit) string { return l.Name }

func routeTo(r api.Route) api.Range { return r.To }
