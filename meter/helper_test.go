package meter

import (
	"math"
	"testing"

	"sallyport/addr"
	"sallyport/api"
)

// source answers addresses of which any two differ: in one half alone, or in both.
func source(i int) api.Addr {
	switch i % 4 {
	case 0:
		return api.Addr{Lo: uint64(i)} // of 0: the zero value
	case 1:
		return api.Addr{Hi: uint64(i)}
	case 2:
		return addr.Of4(uint32(i))
	}
	return api.Addr{Hi: math.MaxUint64, Lo: math.MaxUint64 - uint64(i)}
}

// wantTake checks what a Take answers.
func wantTake(t *testing.T, m *Meters, src api.Addr, now int, ok, room bool) {
	t.Helper()
	if gotOK, gotRoom := m.Take(src, now); gotOK != ok || gotRoom != room {
		t.Errorf("Take(%v, %d): %v, %v; want %v, %v", src, now, gotOK, gotRoom, ok, room)
	}
}

// wantTokens checks how many tokens a source has.
func wantTokens(t *testing.T, m *Meters, src api.Addr, now, want int) {
	t.Helper()
	if got := m.Tokens(src, now); got != want {
		t.Errorf("Tokens(%v, %d): %d; want %d", src, now, got, want)
	}
}

// wantSources checks that these sources have meters, and no other one of the first hundred.
func wantSources(t *testing.T, m *Meters, want ...int) {
	t.Helper()
	has := [100]bool{}
	for _, i := range want {
		has[i] = true
	}
	for i, ok := range has {
		if got := m.Has(source(i)); got != ok {
			t.Errorf("Has(source %d): %v", i, got)
		}
	}
	if got := m.Len(); got != len(want) {
		t.Errorf("Len: %d; want %d", got, len(want))
	}
}

// span answers the numbers from from to to, these two with it.
func span(from, to int) []int {
	var l []int
	for i := from; i <= to; i++ {
		l = append(l, i)
	}
	return l
}

// takeAll asks one token of each of these sources, in their order; each gets one.
func takeAll(t *testing.T, m *Meters, now int, sources ...int) {
	t.Helper()
	for _, i := range sources {
		wantTake(t, m, source(i), now, true, true)
	}
}

// filled answers MaxMeters meters, of the sources from 0 on, that were asked in their order; each is one short of its burst.
func filled(t *testing.T, rate, burst, now int) *Meters {
	t.Helper()
	m := New(rate, burst)
	takeAll(t, m, now, span(0, api.MaxMeters-1)...)
	wantSources(t, m, span(0, api.MaxMeters-1)...)
	return m
}

// times are times of all kinds, from the least one to the greatest one.
func times() []int {
	return []int{math.MinInt, math.MinInt + 1, -1 << 32, -1, 0, 1, 7, 1 << 20, 1 << 32, math.MaxInt - 1, math.MaxInt}
}

// sizes are rates and bursts, also of those that are cut.
func sizes() []int {
	return []int{math.MinInt, -1 << 40, -2, -1, 0, 1, 2, 7, api.MaxBurst - 1, api.MaxBurst, api.MaxBurst + 1, 1 << 40, math.MaxInt}
}

// cut answers what a rate (of least 0) or a burst (of least 1) is cut to.
func cut(n, least int) int { return min(max(n, least), 1<<20) }
