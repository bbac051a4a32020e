package bucket

import (
	"math"
	"testing"

	"sallyport/api"
)

// wantTake checks what a Take answers.
func wantTake(t *testing.T, b *Bucket, now, n int, want bool) {
	t.Helper()
	if got := b.Take(now, n); got != want {
		t.Errorf("Take(%d, %d): %v; want %v", now, n, got, want)
	}
}

// wantTokens checks how many tokens there are, and whether that is all that fit in.
func wantTokens(t *testing.T, b *Bucket, now, want, burst int) {
	t.Helper()
	if got := b.Tokens(now); got != want {
		t.Errorf("Tokens(%d): %d; want %d", now, got, want)
	}
	if got := b.Full(now); got != (want == burst) {
		t.Errorf("Full(%d): %v with %d tokens of %d", now, got, want, burst)
	}
}

// emptied answers a bucket without tokens that knows now.
func emptied(t *testing.T, rate, burst, now int) *Bucket {
	t.Helper()
	b := New(rate, burst, now)
	wantTake(t, b, now, burst, true)
	wantTokens(t, b, now, 0, burst)
	return b
}

// times are times of all kinds, from the least one to the greatest one.
func times() []int {
	return []int{math.MinInt, math.MinInt + 1, -1 << 32, -1, 0, 1, 7, 1 << 20, 1 << 32, math.MaxInt - 1, math.MaxInt}
}

// rates are rates, each with what it is cut to.
func rates() map[int]int {
	return map[int]int{
		math.MinInt: 0, -1 << 40: 0, -2: 0, -1: 0, 0: 0, 1: 1, 2: 2, 7: 7,
		api.MaxBurst - 1: api.MaxBurst - 1, api.MaxBurst: api.MaxBurst, api.MaxBurst + 1: api.MaxBurst,
		1 << 32: api.MaxBurst, 1 << 44: api.MaxBurst, 1 << 62: api.MaxBurst, math.MaxInt - 1: api.MaxBurst, math.MaxInt: api.MaxBurst,
	}
}

// bursts are bursts, each with what it is cut to.
func bursts() map[int]int {
	m := rates()
	for n, cut := range m {
		m[n] = max(cut, 1)
	}
	return m
}

// P11.1

func TestNewIsFull(t *testing.T) {
	for _, now := range times() {
		for rate := range rates() {
			for burst, cut := range bursts() {
				b := New(rate, burst, now)
				wantTokens(t, b, now, cut, cut)
				wantTake(t, b, now, cut+1, false)
				wantTake(t, b, now, cut, true)
				wantTake(t, b, now, 1, false)
				wantTokens(t, b, now, 0, cut)
			}
		}
	}
}

// A new bucket knows its time: nothing comes for the ticks ahead of it.
func TestNewKnowsItsTime(t *testing.T) {
	for _, now := range times() {
		b := emptied(t, 3, 10, now)
		for _, at := range times() {
			if at <= now {
				wantTokens(t, b, at, 0, 10)
			}
		}
		if now < math.MaxInt {
			wantTokens(t, b, now+1, 3, 10)
		}
	}
}

func TestRateIsCut(t *testing.T) {
	for rate, cut := range rates() {
		b := emptied(t, rate, api.MaxBurst, 0)
		wantTokens(t, b, 1, cut, api.MaxBurst)
	}
}

func TestBurstIsCut(t *testing.T) {
	for burst, cut := range bursts() {
		b := emptied(t, 1, cut, 0)
		c := New(1, burst, 0)
		wantTake(t, c, 0, cut, true)
		for _, now := range []int{0, 1, 2, cut - 1, cut, cut + 1, math.MaxInt} {
			wantTokens(t, c, now, b.Tokens(now), cut)
		}
	}
}

func TestTwoBucketsHaveNothingInCommon(t *testing.T) {
	a, b := New(2, 5, 0), New(2, 5, 0)
	wantTake(t, a, 0, 5, true)
	wantTokens(t, b, 0, 5, 5)
	wantTake(t, b, 0, 4, true)
	wantTokens(t, a, 2, 4, 5)
	wantTokens(t, b, 0, 1, 5)
	wantTokens(t, b, 1, 3, 5)
}

// P11.2

func TestTokensComeEachTick(t *testing.T) {
	for _, c := range []struct{ rate, burst, ticks, want int }{
		{0, 5, 1, 0}, {0, 5, 1000, 0}, {0, api.MaxBurst, math.MaxInt, 0},
		{1, 5, 1, 1}, {1, 5, 4, 4}, {1, 5, 5, 5}, {1, 5, 6, 5},
		{2, 5, 1, 2}, {2, 5, 2, 4}, {2, 5, 3, 5}, {2, 5, 4, 5},
		{7, 5, 1, 5}, {5, 5, 1, 5}, {4, 5, 1, 4},
		{1, 1, 1, 1}, {1, 1, math.MaxInt, 1},
		{1, api.MaxBurst, api.MaxBurst - 1, api.MaxBurst - 1},
		{1, api.MaxBurst, api.MaxBurst, api.MaxBurst},
		{1, api.MaxBurst, api.MaxBurst + 1, api.MaxBurst},
		{3, api.MaxBurst, 349525, api.MaxBurst - 1}, // 2^20 is 3 * 349525 + 1
		{3, api.MaxBurst, 349526, api.MaxBurst},
		{api.MaxBurst - 1, api.MaxBurst, 1, api.MaxBurst - 1},
		{api.MaxBurst - 1, api.MaxBurst, 2, api.MaxBurst},
		{api.MaxBurst, api.MaxBurst, 1, api.MaxBurst},
	} {
		wantTokens(t, emptied(t, c.rate, c.burst, 0), c.ticks, c.want, c.burst)
		if c.ticks < math.MaxInt-9 {
			wantTokens(t, emptied(t, c.rate, c.burst, -4), c.ticks-4, c.want, c.burst)
		}
		wantTokens(t, emptied(t, c.rate, c.burst, math.MinInt), math.MinInt+c.ticks, c.want, c.burst)
		wantTokens(t, emptied(t, c.rate, c.burst, math.MaxInt-c.ticks), math.MaxInt, c.want, c.burst)
	}
}

// Products and sums that go over the ints' end: what comes fills the bucket, and is at most what fits in.
func TestTimesFarApart(t *testing.T) {
	for rate, cut := range rates() {
		for burst, fits := range bursts() {
			want := fits
			if cut == 0 {
				want = 0
			}
			for _, ends := range [][2]int{
				{math.MinInt, math.MaxInt}, {math.MinInt, 0}, {math.MinInt, -1}, {-1, math.MaxInt}, {0, math.MaxInt},
				{math.MinInt + 1, math.MaxInt - 1}, {0, 1 << 43}, {0, 1 << 44}, {0, 1 << 62}, {-1 << 62, 1 << 62},
			} {
				b := New(rate, burst, ends[0])
				wantTake(t, b, ends[0], fits, true)
				wantTokens(t, b, ends[1], want, fits)
			}
		}
	}
}

// What does not fit in is lost: it does not come later.
func TestTokensAboveTheBurstAreLost(t *testing.T) {
	b := New(3, 5, 0)
	wantTokens(t, b, 100, 5, 5)
	wantTake(t, b, 100, 5, true)
	wantTake(t, b, 100, 1, false)
	wantTokens(t, b, 101, 3, 5)
	wantTokens(t, b, 102, 5, 5) // 6, cut
	wantTake(t, b, 102, 5, true)
	wantTokens(t, b, 102, 0, 5)
}

func TestEarlierTimesChangeNothing(t *testing.T) {
	b := emptied(t, 2, 9, 10)
	for _, now := range []int{10, 9, 0, -10, math.MinInt, 10} {
		wantTokens(t, b, now, 0, 9)
		wantTake(t, b, now, 1, false)
		wantTake(t, b, now, 0, true)
	}
	wantTokens(t, b, 11, 2, 9) // of the one tick since 10, not of those since an earlier time
	wantTokens(t, b, 11, 2, 9) // the same time brings nothing again
	wantTokens(t, b, 10, 2, 9) // nor does an earlier one take anything back
	wantTake(t, b, -5, 1, true)
	wantTokens(t, b, 11, 1, 9)
	wantTokens(t, b, 12, 3, 9)
}

// Each call learns its time, whatever it answers.
func TestEveryCallLearns(t *testing.T) {
	calls := map[string]func(b *Bucket, now int){
		"Tokens":              func(b *Bucket, now int) { b.Tokens(now) },
		"Full":                func(b *Bucket, now int) { b.Full(now) },
		"Take of 0":           func(b *Bucket, now int) { b.Take(now, 0) },
		"Take of too many":    func(b *Bucket, now int) { b.Take(now, 100) },
		"Take of less than 0": func(b *Bucket, now int) { b.Take(now, -1) },
	}
	for name, call := range calls {
		b := emptied(t, 2, 9, 0)
		call(b, 3)
		wantTokens(t, b, 0, 6, 9) // what came at 3 is there, though this time is an earlier one
		wantTokens(t, b, 4, 8, 9)
		call(b, math.MaxInt)
		wantTake(t, b, math.MaxInt, 9, true)
		wantTokens(t, b, math.MaxInt, 0, 9)
		if t.Failed() {
			t.Fatal(name)
		}
	}
}

// Asked at each tick or at the last one alone: the same tokens have come.
func TestAskingInBetweenChangesNothing(t *testing.T) {
	for rate := range 5 {
		for burst := 1; burst < 12; burst++ {
			for left := range burst + 1 {
				often, once := New(rate, burst, -3), New(rate, burst, -3)
				often.Take(-3, burst-left)
				once.Take(-3, burst-left)
				for now := -3; now < 12; now++ {
					often.Full(now)
				}
				wantTokens(t, once, 11, min(left+14*rate, burst), burst)
				wantTokens(t, often, 11, min(left+14*rate, burst), burst)
			}
		}
	}
}

// P11.3

func TestTakeAllOrNothing(t *testing.T) {
	for burst, cut := range bursts() {
		for _, left := range []int{0, 1, 2, cut / 2, cut - 1, cut} {
			for _, n := range []int{0, 1, 2, left - 1, left, left + 1, cut, cut + 1, api.MaxBurst + 1, 1 << 32, math.MaxInt} {
				if left > cut || n < 0 {
					continue
				}
				b := New(0, burst, 5)
				wantTake(t, b, 5, cut-left, true)
				wantTake(t, b, 5, n, n <= left)
				if n <= left {
					wantTokens(t, b, 5, left-n, cut)
				} else {
					wantTokens(t, b, 5, left, cut)
				}
			}
		}
	}
}

func TestTakeOfLessThanNothing(t *testing.T) {
	for _, n := range []int{-1, -2, -5, -api.MaxBurst, -1 << 32, math.MinInt + 1, math.MinInt} {
		b := New(1, 5, 0)
		wantTake(t, b, 0, n, false)
		wantTokens(t, b, 0, 5, 5)
		wantTake(t, b, 0, 3, true)
		wantTake(t, b, 0, n, false)
		wantTokens(t, b, 0, 2, 5)
		wantTake(t, b, 0, 2, true)
		wantTake(t, b, 0, n, false)
		wantTokens(t, b, 0, 0, 5)
		wantTake(t, b, 1, n, false)
		wantTokens(t, b, 1, 1, 5)
	}
}

func TestTakeOfNothing(t *testing.T) {
	b := New(1, 3, 0)
	for left := 3; left >= 0; left-- {
		wantTake(t, b, 0, 0, true)
		wantTokens(t, b, 0, left, 3)
		wantTake(t, b, 0, 1, left > 0)
	}
}

// What comes with the time of a Take may be taken by it.
func TestTakeLearnsAheadOfTaking(t *testing.T) {
	b := emptied(t, 2, 5, 0)
	wantTake(t, b, 1, 3, false)
	wantTake(t, b, 1, 2, true)
	wantTake(t, b, 3, 4, true)
	wantTake(t, b, 9, 6, false)
	wantTake(t, b, 9, 5, true)
	wantTokens(t, b, 9, 0, 5)
}

func TestTokensAndFullTakeNothing(t *testing.T) {
	b := New(0, 4, 0)
	for left := 4; left >= 0; left-- {
		for now := range 5 {
			wantTokens(t, b, now, left, 4)
		}
		wantTake(t, b, 0, 1, left > 0)
	}
}

// The chapter's examples.

func TestExamples(t *testing.T) {
	b := New(2, 5, 0)
	wantTake(t, b, 0, 5, true)
	wantTake(t, b, 0, 1, false)
	wantTake(t, b, 1, 2, true)
	wantTake(t, b, 1, 1, false)
	wantTokens(t, b, 100, 5, 5)
	wantTokens(t, b, 50, 5, 5)

	b = New(-1, 0, 0)
	wantTake(t, b, 0, 1, true)
	wantTake(t, b, 9, 1, false)
	wantTake(t, b, 9, -1, false)
	wantTake(t, b, 9, 0, true)
}
