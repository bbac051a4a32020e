package addr

import (
	"math"
	"math/big"
	"math/rand"
	"slices"
	"testing"

	"sallyport/api"
)

const top = math.MaxUint64

// v4 is the number of the first IPv4 address.
const v4 = 0xffff00000000

// edges are addresses where something begins or ends, from the lowest to the greatest.
func edges() []api.Addr {
	return []api.Addr{
		{}, {Lo: 1}, {Lo: 2}, {Lo: 0xffff}, {Lo: 0x10000}, {Lo: 1<<32 - 1}, {Lo: 1 << 32},
		{Lo: v4 - 1}, {Lo: v4}, {Lo: v4 + 1}, {Lo: v4 + 0x0a000000}, {Lo: v4 + 0x0a000001}, {Lo: v4 + 0x80000000}, {Lo: v4 + 0xfffffffe}, {Lo: v4 + 0xffffffff}, {Lo: v4 + 1<<32},
		{Lo: 1 << 63}, {Lo: top - 1}, {Lo: top},
		{Hi: 1}, {Hi: 1, Lo: 1}, {Hi: 1, Lo: v4}, {Hi: 1, Lo: v4 + 0x0a000001}, {Hi: 1, Lo: top},
		{Hi: v4}, {Hi: 0x0001000000000002, Lo: 0x30000}, {Hi: 0x20010db800000000, Lo: 1},
		{Hi: 1 << 63}, {Hi: top - 1, Lo: top}, {Hi: top}, {Hi: top, Lo: 1 << 63}, {Hi: top, Lo: top - 1}, {Hi: top, Lo: top},
	}
}

// someAddrs are the edges, and others without an order: short ones, and such with many groups that are 0.
func someAddrs(r *rand.Rand, n int) []api.Addr {
	l := edges()
	for range n {
		a := api.Addr{Hi: r.Uint64(), Lo: r.Uint64()}
		for range r.Intn(8) {
			if shift := 16 * r.Intn(4); r.Intn(2) == 0 {
				a.Hi &^= 0xffff << shift
			} else {
				a.Lo &^= 0xffff << shift
			}
		}
		switch r.Intn(4) {
		case 0:
			a = Of4(uint32(a.Lo))
		case 1:
			a.Hi = 0
		}
		l = append(l, a)
	}
	return l
}

// number answers a as a whole number.
func number(a api.Addr) *big.Int {
	n := new(big.Int).SetUint64(a.Hi)
	return n.Lsh(n, 64).Or(n, new(big.Int).SetUint64(a.Lo))
}

// power answers 2 to the n.
func power(n int) *big.Int { return new(big.Int).Lsh(big.NewInt(1), uint(n)) }

// P3.1

func TestIs4(t *testing.T) {
	for _, a := range edges() {
		want := a.Hi == 0 && a.Lo >= v4 && a.Lo <= v4+math.MaxUint32
		if Is4(a) != want {
			t.Errorf("Is4(%x): %v", a, !want)
		}
	}
	for _, a := range []api.Addr{{Hi: v4}, {Lo: 0xffff}, {Lo: 0xffff0000}, {Lo: 0x1ffff00000000}, {Lo: 0x7fff00000000}, {Lo: v4 << 16}, {Hi: 1, Lo: v4}, {Hi: 1 << 63, Lo: v4}} {
		if Is4(a) {
			t.Errorf("Is4(%x): true", a)
		}
	}
}

func TestOf4(t *testing.T) {
	for _, n := range []uint32{0, 1, 255, 256, 0x0a000001, 0x7fffffff, 0x80000000, math.MaxUint32} {
		if a := Of4(n); a != (api.Addr{Lo: v4 + uint64(n)}) || !Is4(a) {
			t.Errorf("Of4(%x): %x", n, a)
		}
	}
}

func TestOf(t *testing.T) {
	for n, want := range map[int]uint64{math.MinInt: 0, -5: 0, -1: 0, 0: 0, 1: 1, 255: 255, 65535: 65535, v4: v4, math.MaxInt: math.MaxInt} {
		if a := Of(n); a != (api.Addr{Lo: want}) {
			t.Errorf("Of(%d): %x", n, a)
		}
	}
	if Of(v4+0x0a000001) != Of4(0x0a000001) {
		t.Error("an IPv4 address is no other number")
	}
}

func TestCompare(t *testing.T) {
	l := someAddrs(rand.New(rand.NewSource(1)), 60)
	for _, a := range l {
		for _, b := range l {
			if got, want := Compare(a, b), number(a).Cmp(number(b)); got != want {
				t.Fatalf("Compare(%x, %x): %d; want %d", a, b, got, want)
			}
		}
	}
}

func TestNextAndPrevCount(t *testing.T) {
	one := big.NewInt(1)
	for _, a := range someAddrs(rand.New(rand.NewSource(2)), 200) {
		if n, ok := Next(a); ok != (a != api.Addr{Hi: top, Lo: top}) || ok && number(n).Cmp(new(big.Int).Add(number(a), one)) != 0 {
			t.Errorf("Next(%x): %x, %v", a, n, ok)
		}
		if n, ok := Prev(a); ok != (a != api.Addr{}) || ok && number(n).Cmp(new(big.Int).Sub(number(a), one)) != 0 {
			t.Errorf("Prev(%x): %x, %v", a, n, ok)
		}
	}
}

func TestNextAndPrevEnd(t *testing.T) {
	if a, ok := Next(api.Addr{Hi: top, Lo: top}); a != (api.Addr{}) || ok {
		t.Errorf("Next of the greatest: %x, %v", a, ok)
	}
	if a, ok := Prev(api.Addr{}); a != (api.Addr{}) || ok {
		t.Errorf("Prev of 0: %x, %v", a, ok)
	}
	if a, ok := Next(api.Addr{Lo: top}); a != (api.Addr{Hi: 1}) || !ok {
		t.Errorf("Next of 2^64-1: %x, %v", a, ok)
	}
	if a, ok := Prev(api.Addr{Hi: 1}); a != (api.Addr{Lo: top}) || !ok {
		t.Errorf("Prev of 2^64: %x, %v", a, ok)
	}
	if a, ok := Next(Of4(math.MaxUint32)); a != (api.Addr{Lo: 1 << 48}) || !ok || Is4(a) {
		t.Errorf("Next of the last IPv4 address: %x, %v", a, ok)
	}
}

// P3.3

// wantPrefix checks a prefix by whole numbers.
func wantPrefix(t *testing.T, a api.Addr, bits int) {
	t.Helper()
	width := 128
	if Is4(a) {
		width = 32
	}
	r, e := Prefix(a, bits)
	if bits < 0 || bits > width || new(big.Int).Mod(number(a), power(width-bits)).Sign() != 0 {
		if e != api.ErrRange || r != (api.Range{}) {
			t.Errorf("Prefix(%x, %d): %x, %d; want ErrRange", a, bits, r, e)
		}
		return
	}
	to := new(big.Int).Add(number(a), power(width-bits))
	to.Sub(to, big.NewInt(1))
	if e != api.OK || r.From != a || number(r.To).Cmp(to) != 0 {
		t.Errorf("Prefix(%x, %d): %x, %d; want up to %x", a, bits, r, e, to)
	}
}

func TestPrefixOfEachNumberOfBits(t *testing.T) {
	for _, a := range someAddrs(rand.New(rand.NewSource(3)), 100) {
		for bits := -2; bits <= 131; bits++ {
			wantPrefix(t, a, bits)
		}
		for _, bits := range []int{math.MinInt, math.MinInt + 96, -128, -96, -64, 160, 256, math.MaxInt - 96, math.MaxInt} {
			wantPrefix(t, a, bits)
		}
	}
}

func TestPrefixOfAddressesWithLowBitsAway(t *testing.T) {
	r := rand.New(rand.NewSource(4))
	for n := range 129 {
		rest := ones(n)
		a := api.Addr{Hi: r.Uint64() &^ rest.Hi, Lo: r.Uint64() &^ rest.Lo}
		for bits := -1; bits <= 129; bits++ {
			wantPrefix(t, a, bits)
		}
		if n <= 32 {
			a := Of4(uint32(uint64(r.Uint32()) << (32 - n)))
			for bits := -1; bits <= 33; bits++ {
				wantPrefix(t, a, bits)
			}
		}
	}
}

func TestPrefixByHand(t *testing.T) {
	for _, c := range []struct {
		a        api.Addr
		bits     int
		from, to api.Addr
	}{
		{Of4(0), 0, api.Addr{Lo: v4}, api.Addr{Lo: v4 + math.MaxUint32}},
		{Of4(0x0a000000), 8, Of4(0x0a000000), Of4(0x0affffff)},
		{Of4(0x0a000001), 32, Of4(0x0a000001), Of4(0x0a000001)},
		{api.Addr{}, 0, api.Addr{}, api.Addr{Hi: top, Lo: top}},
		{api.Addr{}, 64, api.Addr{}, api.Addr{Lo: top}},
		{api.Addr{}, 65, api.Addr{}, api.Addr{Lo: math.MaxInt64}},
		{api.Addr{}, 80, api.Addr{}, Of4(math.MaxUint32)}, // it ends at an IPv4 address, but is not of one
		{api.Addr{Hi: 0x20010db800000000}, 32, api.Addr{Hi: 0x20010db800000000}, api.Addr{Hi: 0x20010db8ffffffff, Lo: top}},
		{api.Addr{Hi: 1}, 63, api.Addr{}, api.Addr{}}, // ErrRange
		{api.Addr{Hi: top, Lo: top}, 128, api.Addr{Hi: top, Lo: top}, api.Addr{Hi: top, Lo: top}},
	} {
		want := api.OK
		if c.to == (api.Addr{}) {
			want = api.ErrRange
		}
		if r, e := Prefix(c.a, c.bits); r != (api.Range{From: c.from, To: c.to}) || e != want {
			t.Errorf("Prefix(%x, %d): %x, %d", c.a, c.bits, r, e)
		}
	}
}

// P3.5

func TestHas(t *testing.T) {
	l := edges()
	for f, from := range l {
		for u, to := range l {
			for n, a := range l {
				if got, want := Has(api.Range{From: from, To: to}, a), f <= n && n <= u; got != want {
					t.Fatalf("Has(%x to %x, %x): %v", from, to, a, got)
				}
			}
		}
	}
}

// P3.6

func TestNextAndPrevUndoOneAnother(t *testing.T) {
	for _, a := range someAddrs(rand.New(rand.NewSource(5)), 200) {
		if n, ok := Next(a); ok {
			if p, ok := Prev(n); p != a || !ok {
				t.Errorf("Prev of Next of %x: %x, %v", a, p, ok)
			}
		}
		if p, ok := Prev(a); ok {
			if n, ok := Next(p); n != a || !ok {
				t.Errorf("Next of Prev of %x: %x, %v", a, n, ok)
			}
		}
	}
}

func TestNumbersInOrderAreAddressesInOrder(t *testing.T) {
	if l := edges(); !slices.IsSortedFunc(l, Compare) {
		t.Error("the edges are out of order")
	}
	for _, n := range []int{0, 1, 255, 65535, v4, math.MaxInt - 1} {
		if a, ok := Next(Of(n)); a != Of(n+1) || !ok || Compare(Of(n), a) != -1 || Compare(a, Of(n)) != 1 {
			t.Errorf("behind %d: %x, %v", n, a, ok)
		}
	}
	for _, n := range []uint32{0, 255, 0x0a000001, math.MaxUint32 - 1} {
		if a, ok := Next(Of4(n)); a != Of4(n+1) || !ok || Compare(Of4(n), a) != -1 {
			t.Errorf("behind the IPv4 address %x: %x, %v", n, a, ok)
		}
	}
}
