package cookie

import (
	"math"
	"testing"

	"sallyport/addr"
	"sallyport/api"
)

// P17.2

// Where each number stands, and its highest byte first.
func TestBytesOfACookie(t *testing.T) {
	k := api.Key{
		Proto: 0x0102,
		Src:   api.Addr{Hi: 0x030405060708090a, Lo: 0x0b0c0d0e0f101112},
		Dst:   api.Addr{Hi: 0x131415161718191a, Lo: 0x1b1c1d1e1f202122},
		SPort: 0x2324, DPort: 0x2526,
	}
	b := bytes(47)[1:]
	for _, s := range append(some[:], counted()) {
		wantCookie(t, s, k, 0x2728292a2b2c2d2e, uint32(Hash(s, b)))
	}
}

func TestCookies(t *testing.T) {
	const all = 1<<64 - 1
	a, b := addr.Of4(0x0a000001), addr.Of4(0x01020304)
	c, d := api.Addr{Hi: 0x20010db800000000, Lo: 1}, api.Addr{Hi: 0x20010db800000000, Lo: 2}
	e := api.Addr{Hi: all, Lo: all}
	for _, row := range []struct {
		k    api.Key
		w    int
		want uint32
	}{
		{api.Key{Proto: 6, Src: a, Dst: b, SPort: 5000, DPort: 80}, 0, 0x21c6bff4},
		{api.Key{Proto: 6, Src: a, Dst: b, SPort: 5000, DPort: 80}, 1, 0x69aa5dfc},
		{api.Key{Proto: 6, Src: a, Dst: b, SPort: 5000, DPort: 80}, -1, 0xc85104d4},
		{api.Key{Proto: 17, Src: c, Dst: d, SPort: 1, DPort: 65535}, 1 << 40, 0xe7d31396},
		{api.Key{}, 0, 0x9bd0a574},
		{api.Key{Proto: 65535, Src: e, Dst: e, SPort: 65535, DPort: 65535}, -1, 0x9cd6e2be},
		{api.Key{Proto: -1, Src: e, Dst: e, SPort: -1, DPort: -1}, math.MinInt, 0xf57e3052},
		{api.Key{Proto: 65536 + 6, Src: a, Dst: b, SPort: 5000 - 65536, DPort: 80 + 1<<40}, math.MaxInt, 0xf8b2678e},
	} {
		wantCookie(t, counted(), row.k, row.w, row.want)
	}
}

func TestEachFieldCounts(t *testing.T) {
	seen := map[uint32]bool{}
	for _, k := range append(likes(), call()) {
		for _, w := range numbers() {
			n := Cookie(counted(), k, w)
			if seen[n] {
				t.Errorf("Cookie of %v, %d: %08x, as another one", k, w, n)
			}
			seen[n] = true
		}
	}
}

// Of ports and the protocol the lowest 16 bits count, and nothing else; of a window all 64.
func TestLowestBits(t *testing.T) {
	for _, n := range numbers() {
		k, low := call(), call()
		k.Proto, low.Proto = n, n&65535
		wantCookie(t, counted(), k, 3, Cookie(counted(), low, 3))
		k.SPort, low.SPort = n+1, (n+1)&65535
		wantCookie(t, counted(), k, 3, Cookie(counted(), low, 3))
		k.DPort, low.DPort = n+2, (n+2)&65535
		wantCookie(t, counted(), k, 3, Cookie(counted(), low, 3))
	}
	for i := range 64 {
		k, one := call(), call()
		k.Proto ^= 1 << i
		one.SPort ^= 1 << i
		two := call()
		two.DPort ^= 1 << i
		plain := Cookie(counted(), call(), 3)
		for _, like := range []api.Key{k, one, two} {
			if got := Cookie(counted(), like, 3) == plain; got != (i >= 16) {
				t.Errorf("bit %d of %v: as without it: %v", i, like, got)
			}
		}
		if Cookie(counted(), call(), 3^1<<i) == plain {
			t.Errorf("bit %d of the window does not count", i)
		}
	}
}

func TestWindow(t *testing.T) {
	for now, want := range map[int]int{
		0: 0, 1: 0, 14: 0, 15: 0, 16: 1, 17: 1, 31: 1, 32: 2, 47: 2, 48: 3,
		-1: -1, -2: -1, -15: -1, -16: -1, -17: -2, -32: -2, -33: -3, -48: -3, -49: -4,
		1 << 32: 1 << 28, 1<<32 - 1: 1<<28 - 1, -1 << 32: -1 << 28, -1<<32 - 1: -1<<28 - 1,
		math.MaxInt: 1<<59 - 1, math.MaxInt - 15: 1<<59 - 1, math.MaxInt - 16: 1<<59 - 2,
		math.MinInt: -1 << 59, math.MinInt + 15: -1 << 59, math.MinInt + 16: -1<<59 + 1,
	} {
		if got := Window(now); got != want {
			t.Errorf("Window(%d): %d; want %d", now, got, want)
		}
	}
}

func TestExampleOfWindow(t *testing.T) {
	if a, b, c := Window(15), Window(16), Window(-1); a != 0 || b != 1 || c != -1 {
		t.Errorf("%d, %d, %d", a, b, c)
	}
}
