package cookie

import (
	"math"
	"testing"

	"sallyport/api"
)

// P17.3

func TestNow(t *testing.T) {
	for _, s := range append(some[:], counted(), Secret{math.MaxUint64, math.MaxUint64}) {
		k := NewKeeper(s)
		wantNow(t, k, s)
		for _, now := range numbers() {
			for _, next := range append(some[:], s) {
				k.Rotate(next, now)
				wantNow(t, k, next)
			}
		}
	}
}

// A new keeper has no older secret: not the one of noughts either.
func TestNoOlderSecret(t *testing.T) {
	for _, now := range append(numbers(), starts()...) {
		k := NewKeeper(counted())
		for _, s := range some {
			for _, w := range []int{Window(now) - 1, Window(now), Window(now) + 1} {
				wantCheck(t, "another secret", k, call(), now, Cookie(s, call(), w), false)
			}
		}
	}
}

// The secret of noughts is one as any other.
func TestOlderSecretOfNoughts(t *testing.T) {
	k := NewKeeper(Secret{})
	k.Rotate(counted(), 0)
	wantCheck(t, "the older one", k, call(), 0, Cookie(Secret{}, call(), 0), true)
	wantCheck(t, "the older one", k, call(), 31, Cookie(Secret{}, call(), 1), true)
	wantCheck(t, "the older one, too late", k, call(), 32, Cookie(Secret{}, call(), 1), false)
}

// wantOlder checks that s counts as the older secret up to the window till, and in none behind it; each time with its own window's number, and with that of the one ahead.
func wantOlder(t *testing.T, what string, k *Keeper, s Secret, till int) {
	t.Helper()
	for _, w := range []int{-1 << 59, till - 1000, till - 3, till - 2, till - 1, till, till + 1, till + 2, till + 3, till + 1000, 1<<59 - 1} {
		if w < -1<<59 || w >= 1<<59 {
			continue
		}
		for _, now := range []int{16 * w, 16*w + 7, 16*w + 15} {
			wantCheck(t, what, k, call(), now, Cookie(s, call(), w), w <= till)
			wantCheck(t, what+", the window ahead", k, call(), now, Cookie(s, call(), w-1), w <= till)
			wantCheck(t, what+", two windows ahead", k, call(), now, Cookie(s, call(), w-2), false)
			wantCheck(t, what+", the window behind", k, call(), now, Cookie(s, call(), w+1), false)
		}
	}
}

// always is a window till which what counts always counts.
const always = math.MaxInt - 1000

func TestOlderSecretCountsTillTheNextWindow(t *testing.T) {
	for _, start := range starts() {
		for _, at := range []int{start, start + 1, start + 8, start + 14, start + 15} {
			k := NewKeeper(some[0])
			k.Rotate(some[1], at)
			wantOlder(t, "the older one", k, some[0], Window(start)+1)
			wantOlder(t, "the secret", k, some[1], always)
			wantOlder(t, "one that never was", k, some[2], math.MinInt)
		}
	}
}

// At both ends of time there are windows with no other one ahead of them, or behind them.
func TestRotateAtTheEnds(t *testing.T) {
	for _, at := range []int{math.MinInt, math.MinInt + 15, math.MinInt + 16, math.MaxInt, math.MaxInt - 15, math.MaxInt - 16} {
		k := NewKeeper(some[0])
		k.Rotate(some[1], at)
		wantOlder(t, "the older one", k, some[0], Window(at)+1)
		wantOlder(t, "the secret", k, some[1], always)
	}
}

func TestOneOlderSecretAlone(t *testing.T) {
	for _, at := range []int{-100, -16, 0, 1, 15, 16, 40} {
		k := NewKeeper(some[0])
		k.Rotate(some[1], 0)
		k.Rotate(some[2], at)
		wantOlder(t, "the first one", k, some[0], math.MinInt)
		wantOlder(t, "the older one", k, some[1], Window(at)+1)
		wantOlder(t, "the secret", k, some[2], always)
		k.Rotate(some[0], at)
		wantOlder(t, "the one ahead of the older one", k, some[1], math.MinInt)
		wantOlder(t, "the older one of three", k, some[2], Window(at)+1)
		wantOlder(t, "the first one, which is the secret again", k, some[0], always)
	}
}

// Who rotates to the very same secret has it as the older one, too, which changes nothing; the one that was older goes.
func TestRotateToTheSameSecret(t *testing.T) {
	k := NewKeeper(some[0])
	k.Rotate(some[0], 0)
	wantOlder(t, "the secret", k, some[0], always)
	wantOlder(t, "none", k, some[3], math.MinInt)
	k.Rotate(some[1], 0)
	k.Rotate(some[1], 0)
	wantOlder(t, "the secret", k, some[1], always)
	wantOlder(t, "the one ahead", k, some[0], math.MinInt)
}

// A later Rotate's time counts, also where it lies ahead of that of the one so far.
func TestTimesThatGoBack(t *testing.T) {
	k := NewKeeper(some[0])
	k.Rotate(some[1], 1600)
	wantOlder(t, "the first one", k, some[0], 101)
	k.Rotate(some[2], 80)
	wantOlder(t, "the second one", k, some[1], 6)
	k.Rotate(some[3], 1600)
	wantOlder(t, "the third one", k, some[2], 101)
}

// P17.4

func TestMake(t *testing.T) {
	for _, now := range append(numbers(), starts()...) {
		k := NewKeeper(some[0])
		for i, s := range some {
			for _, key := range append(likes(), call()) {
				wantMake(t, "a cookie", k, key, now, Cookie(s, key, Window(now)))
			}
			k.Rotate(some[(i+1)%len(some)], now)
		}
	}
}

func TestCheck(t *testing.T) {
	for _, start := range starts() {
		k, w := NewKeeper(counted()), Window(start)
		for ahead, want := range map[int]bool{-2: false, -1: true, 0: true, 1: false, 2: false} {
			n := Cookie(counted(), call(), w+ahead)
			for now := start; now < start+16; now++ {
				wantCheck(t, "a window's number", k, call(), now, n, want)
			}
		}
		wantCheck(t, "the tick ahead", k, call(), start-1, Cookie(counted(), call(), w), false)
		wantCheck(t, "the last tick", k, call(), start+31, Cookie(counted(), call(), w), true)
		wantCheck(t, "the tick behind", k, call(), start+32, Cookie(counted(), call(), w), false)
	}
}

// In the first window of all the one ahead of it counts, too, though no tick is in it.
func TestCheckAtTheEnds(t *testing.T) {
	k := NewKeeper(counted())
	for _, now := range []int{math.MinInt, math.MinInt + 15, math.MaxInt, math.MaxInt - 15} {
		w := Window(now)
		wantCheck(t, "its own", k, call(), now, Cookie(counted(), call(), w), true)
		wantCheck(t, "the one ahead", k, call(), now, Cookie(counted(), call(), w-1), true)
		wantCheck(t, "two ahead", k, call(), now, Cookie(counted(), call(), w-2), false)
		wantCheck(t, "the one behind", k, call(), now, Cookie(counted(), call(), w+1), false)
	}
}

func TestCheckOfOtherNumbers(t *testing.T) {
	k := NewKeeper(some[0])
	k.Rotate(some[1], 5)
	for _, s := range some[:2] {
		for _, w := range []int{0, 1} {
			n := Cookie(s, call(), w)
			wantCheck(t, "it itself", k, call(), 16, n, true)
			for i := range 32 {
				wantCheck(t, "one bit of it", k, call(), 16, n^1<<i, false)
			}
			for _, other := range []uint32{0, 1, math.MaxUint32, n + 1, n - 1, ^n, -n} {
				wantCheck(t, "another one", k, call(), 16, other, false)
			}
			for _, key := range likes() {
				wantCheck(t, "of another key", k, key, 16, n, false)
			}
		}
	}
}

// Bits of a key beyond those that a cookie has don't count.
func TestCheckOfKeysThatAreOne(t *testing.T) {
	k, key := NewKeeper(counted()), call()
	key.Proto += 1 << 16
	key.SPort -= 1 << 16
	key.DPort += 1 << 40
	wantCheck(t, "beyond 16 bits", k, key, 20, k.Make(call(), 5), true)
	wantCheck(t, "the other way", k, call(), 20, k.Make(key, 5), true)
}

// Asking changes nothing, and two keepers have nothing in common.
func TestNothingIsKeptOfAPeer(t *testing.T) {
	k, other := NewKeeper(some[0]), NewKeeper(some[0])
	k.Rotate(some[1], 0)
	for range 3 {
		for _, now := range append(numbers(), 0, 16, 31, 32) {
			for _, key := range append(likes(), call()) {
				n := wantMake(t, "k", k, key, now, Cookie(some[1], key, Window(now)))
				wantCheck(t, "k", k, key, now, n, true)
				wantCheck(t, "k", k, key, now, n+1, false)
				wantMake(t, "other", other, key, now, Cookie(some[0], key, Window(now)))
				wantCheck(t, "other", other, key, now, n, false)
			}
		}
		wantNow(t, k, some[1])
		wantOlder(t, "k's older one", k, some[0], 1)
		wantNow(t, other, some[0])
		wantOlder(t, "other's secret", other, some[0], always)
	}
}

// P17.5

// What was told is taken in the same window and in the next one, whenever in between the secret is exchanged, or not.
func TestWhatWasToldIsTaken(t *testing.T) {
	for _, start := range append(starts(), math.MinInt, math.MinInt+16, math.MaxInt-31) {
		for told := start; told < start+16; told++ {
			for now := told; now < start+32; now++ {
				k := NewKeeper(some[0])
				wantCheck(t, "without a Rotate", k, call(), now, k.Make(call(), told), true)
				for at := told; at <= now; at += 1 + (now-told)/5 {
					wantTaken(t, told, at, now)
				}
				wantTaken(t, told, now, now)
			}
		}
	}
}

// wantTaken checks that what is told at a time is taken at another one, behind one Rotate in between; and behind another Rotate ahead of them.
func wantTaken(t *testing.T, told, at, now int) {
	t.Helper()
	k := NewKeeper(some[0])
	for _, next := range []Secret{some[1], some[2]} {
		n := k.Make(call(), told)
		k.Rotate(next, at)
		wantCheck(t, "behind a Rotate", k, call(), now, n, true)
	}
}

func TestWhatWasToldIsTakenNoMore(t *testing.T) {
	for _, start := range starts() {
		for told := start; told < start+16; told++ {
			for _, now := range []int{start - 16, start - 1, start + 32, start + 47} {
				k := NewKeeper(some[0])
				n := k.Make(call(), told)
				wantCheck(t, "without a Rotate", k, call(), now, n, false)
				k.Rotate(some[1], told)
				wantCheck(t, "behind a Rotate", k, call(), now, n, false)
			}
			k := NewKeeper(some[0])
			n := k.Make(call(), told)
			k.Rotate(some[1], told)
			k.Rotate(some[2], told)
			wantCheck(t, "behind two of them", k, call(), told, n, false)
		}
	}
}

func TestExampleOfAKeeper(t *testing.T) {
	k, key := NewKeeper(Secret{A: 1}), api.Key{Proto: 6, SPort: 5, DPort: 80}
	n := k.Make(key, 5)
	wantCheck(t, "at 5", k, key, 5, n, true)
	wantCheck(t, "at 20", k, key, 20, n, true)
	wantCheck(t, "at 40", k, key, 40, n, false)
}
