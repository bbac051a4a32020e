package cookie

import (
	"math"
	"testing"

	"sallyport/addr"
	"sallyport/api"
)

// counted is the secret whose bytes are 0, 1, 2 and so on, the lowest one first.
func counted() Secret { return Secret{A: 0x0706050403020100, B: 0x0f0e0d0c0b0a0908} }

// some are secrets that have nothing in common.
var some = [4]Secret{{A: 1}, {B: 1}, {A: 1, B: 1}, {}}

// bytes answers the bytes 0, 1, 2 and so on; behind 255 they begin anew.
func bytes(n int) []byte {
	b := make([]byte, n)
	for i := range b {
		b[i] = byte(i)
	}
	return b
}

// call is a key of TCP, as a peer has it who opens a connection.
func call() api.Key {
	return api.Key{Proto: api.ProtoTCP, Src: addr.Of4(0x0a000001), Dst: addr.Of4(0x01020304), SPort: 5000, DPort: 80}
}

// likes are keys that differ from call in one thing each.
func likes() []api.Key {
	var l []api.Key
	for _, do := range []func(k *api.Key){
		func(k *api.Key) { k.Proto = api.ProtoUDP },
		func(k *api.Key) { k.Src.Hi++ },
		func(k *api.Key) { k.Src.Lo++ },
		func(k *api.Key) { k.Dst.Hi++ },
		func(k *api.Key) { k.Dst.Lo++ },
		func(k *api.Key) { k.SPort++ },
		func(k *api.Key) { k.DPort++ },
		func(k *api.Key) { k.Src, k.Dst = k.Dst, k.Src },
		func(k *api.Key) { k.SPort, k.DPort = k.DPort, k.SPort },
		func(k *api.Key) { *k = api.Key{} },
	} {
		k := call()
		do(&k)
		l = append(l, k)
	}
	return l
}

// numbers are windows, ports and protocols of all kinds, from the least one to the greatest one.
func numbers() []int {
	return []int{math.MinInt, math.MinInt + 1, math.MinInt32, -65537, -65536, -65535, -256, -2, -1, 0, 1, 2, 6, 255, 256, 32767, 32768, 65534, 65535, 65536, 65537, math.MaxInt32, 1 << 32, math.MaxInt - 1, math.MaxInt}
}

// starts are the first ticks of windows that have two ahead of them and three behind them, from the least ones to the greatest ones.
func starts() []int {
	return []int{math.MinInt + 32, math.MinInt + 48, -1 << 40, -64, -48, -32, -16, 0, 16, 32, 48, 1 << 40, math.MaxInt - 15 - 64, math.MaxInt - 15 - 48}
}

// wantHash checks a hash.
func wantHash(t *testing.T, s Secret, b []byte, want uint64) {
	t.Helper()
	if got := Hash(s, b); got != want {
		t.Errorf("Hash(%x, %x): %016x; want %016x", s, b, got, want)
	}
}

// wantCookie checks a cookie.
func wantCookie(t *testing.T, s Secret, k api.Key, w int, want uint32) {
	t.Helper()
	if got := Cookie(s, k, w); got != want {
		t.Errorf("Cookie(%x, %v, %d): %08x; want %08x", s, k, w, got, want)
	}
}

// wantCheck checks whether a number is taken.
func wantCheck(t *testing.T, what string, k *Keeper, key api.Key, now int, n uint32, want bool) {
	t.Helper()
	if got := k.Check(key, now, n); got != want {
		t.Errorf("%s: Check(%v, %d, %08x): %v", what, key, now, n, got)
	}
}

// wantMake checks the number that a peer is told, and answers it.
func wantMake(t *testing.T, what string, k *Keeper, key api.Key, now int, want uint32) uint32 {
	t.Helper()
	got := k.Make(key, now)
	if got != want {
		t.Errorf("%s: Make(%v, %d): %08x; want %08x", what, key, now, got, want)
	}
	return got
}

// wantNow checks the secret of now.
func wantNow(t *testing.T, k *Keeper, want Secret) {
	t.Helper()
	if got := k.Now(); got != want {
		t.Errorf("Now: %x; want %x", got, want)
	}
}
