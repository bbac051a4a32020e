package meter

import (
	"math"
	"slices"
	"testing"

	"sallyport/api"
)

// P12.1

func TestNewHasNone(t *testing.T) {
	for _, rate := range sizes() {
		for _, burst := range sizes() {
			m := New(rate, burst)
			wantSources(t, m)
			for _, now := range times() {
				wantTokens(t, m, source(0), now, 0)
			}
			wantSources(t, m)
		}
	}
}

func TestLenAndHas(t *testing.T) {
	m := New(0, 1)
	for i := range api.MaxMeters {
		wantSources(t, m, span(0, i-1)...)
		takeAll(t, m, 0, i)
		wantSources(t, m, span(0, i)...)
		wantTake(t, m, source(i), 0, false, true) // one that is refused keeps its meter, and gets no second one
		wantSources(t, m, span(0, i)...)
	}
}

// Sources are told apart by all of their 128 bits.
func TestEachBitOfASourceCounts(t *testing.T) {
	for bit := range 64 {
		m := New(0, 1)
		for _, src := range []api.Addr{{}, {Lo: 1 << bit}, {Hi: 1 << bit}, {Hi: 1 << bit, Lo: 1 << bit}} {
			if m.Has(src) {
				t.Errorf("%v has a meter", src)
			}
			wantTake(t, m, src, 0, true, true)
			if !m.Has(src) {
				t.Errorf("%v has no meter", src)
			}
			wantTake(t, m, src, 0, false, true)
		}
		if m.Len() != 4 {
			t.Errorf("Len: %d", m.Len())
		}
	}
}

func TestTwoMetersHaveNothingInCommon(t *testing.T) {
	a, b := New(1, 2), New(2, 5)
	takeAll(t, a, 0, 0, 0)
	wantSources(t, b)
	wantTake(t, a, source(0), 0, false, true)
	takeAll(t, b, 0, 0, 0, 1)
	wantTokens(t, b, source(0), 0, 3)
	wantTokens(t, b, source(0), 1, 5)
	wantTokens(t, a, source(0), 0, 0)
	wantTokens(t, a, source(0), 1, 1)
	wantSources(t, a, 0)
	wantSources(t, b, 0, 1)
}

// P12.2: a meter of one's own.

func TestNewMeterIsFullAndKnowsItsTime(t *testing.T) {
	for _, now := range times() {
		for _, burst := range sizes() {
			m := New(1, burst)
			takeAll(t, m, now, 0)
			for _, early := range times() {
				if early <= now {
					wantTokens(t, m, source(0), early, cut(burst, 1)-1)
				}
			}
			if now < math.MaxInt {
				wantTokens(t, m, source(0), now+1, cut(burst, 1))
			}
		}
	}
}

func TestRateOfAMeter(t *testing.T) {
	for _, rate := range sizes() {
		m := New(rate, 5)
		takeAll(t, m, 0, 0, 0, 0, 0, 0)
		wantTake(t, m, source(0), 0, false, true)
		comes := min(cut(rate, 0), 5)
		wantTokens(t, m, source(0), 1, comes)
		for range comes {
			takeAll(t, m, 1, 0)
		}
		wantTake(t, m, source(0), 1, false, true)
		wantTokens(t, m, source(0), 9, min(8*cut(rate, 0), 5))
	}
}

// A Take takes just one token, of its own source.
func TestEachSourceHasItsOwn(t *testing.T) {
	m := New(1, 3)
	takeAll(t, m, 0, 0, 0, 0, 1, 2, 2)
	for i, want := range []int{0, 2, 1} {
		wantTokens(t, m, source(i), 0, want)
	}
	wantTake(t, m, source(0), 0, false, true)
	takeAll(t, m, 1, 0) // what comes with its time may be taken by it
	wantTake(t, m, source(0), 1, false, true)
	wantTake(t, m, source(0), -9, false, true) // an earlier time brings nothing
	for i, want := range []int{0, 2, 1} {
		wantTokens(t, m, source(i), 0, want) // the others were not asked at 1
	}
}

// Nobody else's bucket is asked as long as there is room, or by a source that has a meter.
func TestOthersAreNotAskedWithoutNeed(t *testing.T) {
	m := New(1, 5)
	takeAll(t, m, 0, span(0, api.MaxMeters-2)...)
	takeAll(t, m, 3, api.MaxMeters-1) // the last one for whom there is room
	takeAll(t, m, 3, 7)               // one that is there
	for i := range api.MaxMeters {
		wantTokens(t, m, source(i), 0, 4)
	}
	wantSources(t, m, span(0, api.MaxMeters-1)...)
}

// P12.2: no room.

func TestNoneIsFull(t *testing.T) {
	m := filled(t, 0, 2, 0)
	for _, now := range times() {
		for i := 40; i < 50; i++ {
			wantTake(t, m, source(i), now, false, false)
		}
		wantSources(t, m, span(0, api.MaxMeters-1)...)
	}
	for i := range api.MaxMeters {
		wantTokens(t, m, source(i), math.MaxInt, 1)
		wantTake(t, m, source(i), 0, true, true) // who has a meter is asked as ever
		wantTake(t, m, source(i), 0, false, true)
	}
}

// What takes a place is the number of meters, not what is asked of them.
func TestRoomForTheLastOne(t *testing.T) {
	m := New(0, 1)
	takeAll(t, m, 0, span(0, api.MaxMeters-2)...)
	for i := range api.MaxMeters - 1 {
		wantTake(t, m, source(i), 0, false, true)
	}
	takeAll(t, m, 0, 50)
	wantSources(t, m, append(span(0, api.MaxMeters-2), 50)...)
	wantTake(t, m, source(51), 0, false, false)
	wantSources(t, m, append(span(0, api.MaxMeters-2), 50)...)
}

// A Take without room changes nothing: neither the order in which the others were asked, nor how many there are.
func TestNoRoomChangesNothing(t *testing.T) {
	m := filled(t, 1, 2, 0)
	for i := 40; i < 90; i++ {
		wantTake(t, m, source(i), 0, false, false)
	}
	for i := range api.MaxMeters {
		takeAll(t, m, 1, 60+i)
		wantSources(t, m, append(span(i+1, api.MaxMeters-1), span(60, 60+i)...)...)
	}
}

// Each bucket learns the time of a Take without room.
func TestNoRoomIsLearned(t *testing.T) {
	m := filled(t, 1, 9, 0)
	for i := range api.MaxMeters {
		takeAll(t, m, 0, i, i, i)
	}
	wantTake(t, m, source(50), 3, false, false)
	for i := range api.MaxMeters {
		wantTokens(t, m, source(i), 0, 8)
		wantTokens(t, m, source(i), 3, 8)
	}
	wantTake(t, m, source(50), 2, false, false) // an earlier time is none to learn
	for i := range api.MaxMeters {
		wantTokens(t, m, source(i), 0, 8)
	}
}

// P12.2: which one goes.

// All buckets learn the time, not just those up to the first full one, nor just those that were asked longest ago.
func TestWhoGoesIsLearned(t *testing.T) {
	for full := range api.MaxMeters {
		m := filled(t, 1, 9, 0)
		for i := range api.MaxMeters {
			if i != full {
				takeAll(t, m, 0, i, i, i)
			}
		}
		takeAll(t, m, 1, 50) // the full one was asked first
		rest := append(slices.Delete(span(0, api.MaxMeters-1), full, full+1), 50)
		wantSources(t, m, rest...)
		for _, i := range rest {
			want := 6
			if i == 50 {
				want = 8
			}
			wantTokens(t, m, source(i), 0, want)
		}
		wantTokens(t, m, source(full), 0, 0)
	}
}

// The only full one goes, whenever it was asked.
func TestJustFullOnesGo(t *testing.T) {
	for full := range api.MaxMeters {
		m := New(1, 2)
		for i := range api.MaxMeters {
			takeAll(t, m, 0, i)
			if i != full {
				takeAll(t, m, 0, i)
			}
		}
		takeAll(t, m, 1, 50)
		wantSources(t, m, append(slices.Delete(span(0, api.MaxMeters-1), full, full+1), 50)...)
		wantTake(t, m, source(51), 1, false, false)
	}
}

// One token less than the burst is not full.
func TestAlmostFullStays(t *testing.T) {
	for _, burst := range []int{1, 2, 3, 9, api.MaxBurst} {
		m := filled(t, 0, burst, 0)
		wantTake(t, m, source(50), math.MaxInt, false, false)
		m = filled(t, 1, burst, 0)
		wantTake(t, m, source(50), 0, false, false)
		takeAll(t, m, 1, 50)
		wantSources(t, m, append(span(1, api.MaxMeters-1), 50)...)
	}
}

// They go in the order in which they were asked last, which is not that in which they came.
func TestLongestAgoGoesFirst(t *testing.T) {
	m := filled(t, 1, 3, 0)
	order := []int{}
	for i := range api.MaxMeters {
		order = append(order, i*13%api.MaxMeters)
	}
	takeAll(t, m, 0, order...)
	for n := range api.MaxMeters {
		takeAll(t, m, 2, 50+n)
		want := append(slices.Clone(order[n+1:]), span(50, 50+n)...)
		wantSources(t, m, want...)
	}
}

// The order is that of the calls: times that go back change nothing of it.
func TestOrderOfCallsNotOfTimes(t *testing.T) {
	m := New(1, 1)
	for i := range api.MaxMeters {
		takeAll(t, m, 100-i, i)
	}
	for i := range api.MaxMeters {
		takeAll(t, m, 200-i, 50+i)
		wantSources(t, m, append(span(i+1, api.MaxMeters-1), span(50, 50+i)...)...)
	}
}

// A Take that is refused asks all the same.
func TestRefusedIsAsked(t *testing.T) {
	m := filled(t, 1, 1, 0)
	wantTake(t, m, source(0), 0, false, true)
	takeAll(t, m, 1, 50)
	wantSources(t, m, append([]int{0, 50}, span(2, api.MaxMeters-1)...)...)
}

// Tokens and Has are no Takes.
func TestOnlyTakeAsks(t *testing.T) {
	m := filled(t, 1, 2, 0)
	for i := range 5 {
		wantTokens(t, m, source(i), i, min(1+i, 2))
		m.Has(source(i))
		m.Len()
	}
	for i := range api.MaxMeters {
		takeAll(t, m, 5, 50+i)
		wantSources(t, m, append(span(i+1, api.MaxMeters-1), span(50, 50+i)...)...)
	}
}

// Who was full once, but is not any more, stays.
func TestFullAtAnEarlierTime(t *testing.T) {
	m := filled(t, 1, 2, 0)
	wantTokens(t, m, source(0), 9, 2)
	takeAll(t, m, 9, 0)
	wantTokens(t, m, source(3), 9, 2)
	takeAll(t, m, 0, 50) // at 0 just source 3, which knows 9, is full
	wantSources(t, m, append(slices.Delete(span(0, api.MaxMeters-1), 3, 4), 50)...)
	wantTake(t, m, source(51), 0, false, false)
}

// A new meter knows the time of its own Take, however late those of the others are.
func TestNewMeterInAnothersPlace(t *testing.T) {
	m := filled(t, 1, 3, 100)
	wantTokens(t, m, source(0), 101, 3)
	takeAll(t, m, -5, 50)
	wantTokens(t, m, source(50), -5, 2)
	wantTokens(t, m, source(50), -6, 2)
	takeAll(t, m, -5, 50, 50)
	wantTake(t, m, source(50), -5, false, true)
	wantTokens(t, m, source(50), -4, 1)
	wantTokens(t, m, source(0), 101, 0)
}

// Who comes back behind its meter is as one that was never there.
func TestWhoComesBack(t *testing.T) {
	m := filled(t, 1, 2, 0)
	takeAll(t, m, 1, 50) // 0 goes
	takeAll(t, m, 1, 0)  // 1 goes
	wantSources(t, m, append([]int{0, 50}, span(2, api.MaxMeters-1)...)...)
	wantTokens(t, m, source(0), 1, 1)
	takeAll(t, m, 1, span(2, api.MaxMeters-1)...) // 50 and 0 are those that were asked longest ago
	takeAll(t, m, 2, 60, 61)
	wantSources(t, m, append([]int{60, 61}, span(2, api.MaxMeters-1)...)...)
}

func TestTimesFarApart(t *testing.T) {
	m := filled(t, 1, api.MaxBurst, math.MinInt)
	wantTake(t, m, source(50), math.MinInt, false, false)
	takeAll(t, m, math.MaxInt, 50)
	wantSources(t, m, append([]int{50}, span(1, api.MaxMeters-1)...)...)
	takeAll(t, m, math.MinInt, 51) // the others know the greatest time by now
	wantSources(t, m, append([]int{50, 51}, span(2, api.MaxMeters-1)...)...)
	wantTokens(t, m, source(51), math.MinInt, api.MaxBurst-1)
	wantTokens(t, m, source(51), math.MinInt+1, api.MaxBurst)
}

// P12.3

func TestTokensOfNoMeter(t *testing.T) {
	m := New(3, 5)
	takeAll(t, m, 0, 0)
	for _, now := range times() {
		wantTokens(t, m, source(1), now, 0)
	}
	wantSources(t, m, 0)
	full := filled(t, 3, 5, 0)
	for _, now := range times() {
		wantTokens(t, full, source(50), now, 0)
	}
	wantSources(t, full, span(0, api.MaxMeters-1)...)
}

func TestTokensLearnsAndTakesNothing(t *testing.T) {
	m := New(2, 9)
	for range 9 {
		takeAll(t, m, 0, 0)
	}
	wantTokens(t, m, source(0), 3, 6)
	wantTokens(t, m, source(0), 3, 6)
	wantTokens(t, m, source(0), 0, 6) // what came at 3 is there
	wantTokens(t, m, source(0), math.MinInt, 6)
	wantTokens(t, m, source(0), 4, 8)
	wantTokens(t, m, source(0), math.MaxInt, 9)
	takeAll(t, m, 0, 0)
	wantTokens(t, m, source(0), math.MaxInt, 8)
}

// Tokens of one source tells the time to its bucket alone.
func TestTokensIsOfOneSource(t *testing.T) {
	m := filled(t, 1, 2, 0)
	wantTokens(t, m, source(3), 1, 2)
	for i := range api.MaxMeters {
		if i != 3 {
			wantTokens(t, m, source(i), 0, 1)
		}
	}
}

// The chapter's examples.

func TestExamples(t *testing.T) {
	m := New(1, 2)
	a, b := source(0), source(1)
	wantTake(t, m, a, 0, true, true)
	wantTake(t, m, a, 0, true, true)
	wantTake(t, m, a, 0, false, true)
	wantTake(t, m, b, 0, true, true)

	m = filled(t, 1, 2, 0)
	c := source(50)
	wantTake(t, m, c, 0, false, false)
	wantTake(t, m, c, 1, true, true)
	wantSources(t, m, append(span(1, api.MaxMeters-1), 50)...)
}
