package bucket

import (
	"math"
	"math/big"
	"math/rand"
	"testing"

	"sallyport/api"
)

// What the chapter says, said once more, with whole numbers without bounds.

func whole(n int) *big.Int { return big.NewInt(int64(n)) }

func least(a, b *big.Int) *big.Int {
	if a.Cmp(b) < 0 {
		return a
	}
	return b
}

func greatest(a, b *big.Int) *big.Int {
	if a.Cmp(b) > 0 {
		return a
	}
	return b
}

type modelBucket struct{ rate, burst, tokens, knows *big.Int }

func modelNew(rate, burst, now int) *modelBucket {
	m := &modelBucket{knows: whole(now)}
	m.rate = least(greatest(whole(rate), whole(0)), whole(1<<20))
	m.burst = least(greatest(whole(burst), whole(1)), whole(1<<20))
	m.tokens = m.burst
	return m
}

func (m *modelBucket) learn(now int) {
	if whole(now).Cmp(m.knows) <= 0 {
		return
	}
	ticks := new(big.Int).Sub(whole(now), m.knows)
	more := new(big.Int).Mul(ticks, m.rate)
	m.tokens = least(new(big.Int).Add(m.tokens, more), m.burst)
	m.knows = whole(now)
}

func (m *modelBucket) take(now, n int) bool {
	m.learn(now)
	if n < 0 || m.tokens.Cmp(whole(n)) < 0 {
		return false
	}
	m.tokens = new(big.Int).Sub(m.tokens, whole(n))
	return true
}

func (m *modelBucket) full(now int) bool {
	m.learn(now)
	return m.tokens.Cmp(m.burst) == 0
}

// someSize answers rates, bursts and numbers of tokens: mostly few, but of all sizes, and at the edges.
func someSize(r *rand.Rand) int {
	switch r.Intn(8) {
	case 0:
		return api.MaxBurst - 2 + r.Intn(5)
	case 1:
		return int(r.Uint64()) >> r.Intn(64)
	case 2:
		return r.Intn(api.MaxBurst + 1)
	case 3:
		return -r.Intn(3)
	}
	return r.Intn(12)
}

// someTime answers times that mostly go on, but go back, and to the ends, too.
func someTime(r *rand.Rand, now int) int {
	switch r.Intn(100) {
	case 0:
		return []int{math.MaxInt, math.MaxInt - 10, math.MinInt, math.MinInt + 10, 0}[r.Intn(5)]
	case 1:
		return int(r.Uint64()) >> r.Intn(64)
	case 2, 3, 4:
		return now - r.Intn(40)
	case 5, 6, 7:
		return now + r.Intn(40)
	}
	return now + r.Intn(2)
}

// begin answers the time at which a row of calls begins: of the least ones, the greatest ones, or about 0.
func begin(r *rand.Rand) int {
	return []int{math.MinInt, math.MaxInt - 300, -100, 0}[r.Intn(4)] + r.Intn(100)
}

func TestAgainstTheModel(t *testing.T) {
	taken, refused := 0, 0
	for seed := range 2000 {
		r := rand.New(rand.NewSource(int64(seed)))
		rate, burst, now := someSize(r), someSize(r), begin(r)
		b, m := New(rate, burst, now), modelNew(rate, burst, now)
		for step := range 200 {
			now = someTime(r, now)
			switch r.Intn(6) {
			case 0:
				if got, want := b.Full(now), m.full(now); got != want {
					t.Fatalf("seed %d, step %d: Full(%d): %v", seed, step, now, got)
				}
			case 1:
				m.learn(now)
				if got := b.Tokens(now); m.tokens.Cmp(whole(got)) != 0 {
					t.Fatalf("seed %d, step %d: Tokens(%d): %d, not %v", seed, step, now, got, m.tokens)
				}
			default:
				n := someSize(r)
				got, want := b.Take(now, n), m.take(now, n)
				if got != want {
					t.Fatalf("seed %d, step %d: Take(%d, %d): %v", seed, step, now, n, got)
				}
				if got {
					taken++
				} else {
					refused++
				}
			}
		}
	}
	if taken < 10000 || refused < 10000 {
		t.Errorf("%d taken, %d refused: too few", taken, refused)
	}
}

// P11.4, W6

func TestNeverMoreThanTheBurstNorLessThanNothing(t *testing.T) {
	for seed := range 500 {
		r := rand.New(rand.NewSource(int64(seed)))
		rate, burst, now := someSize(r), someSize(r), begin(r)
		b, fits := New(rate, burst, now), min(max(burst, 1), api.MaxBurst)
		for range 200 {
			now = someTime(r, now)
			b.Take(now, someSize(r))
			if n := b.Tokens(now); n < 0 || n > fits {
				t.Fatalf("seed %d: %d tokens, of %d", seed, n, fits)
			}
		}
	}
}

// asked tells how many tokens were taken at each of some ticks that follow one another, one by one; more are asked for than there are at some of them.
func asked(t *testing.T, r *rand.Rand, b *Bucket, from int) []int {
	t.Helper()
	counts := make([]int, 60)
	for i := range counts {
		now := from + i
		for range r.Intn(2) * r.Intn(12) {
			early := now - r.Intn(2)*r.Intn(5) // a clock that runs backwards changes nothing of it
			b.Tokens(now)
			had := b.Tokens(early)
			if b.Take(early, 1) {
				counts[i]++
			} else if had != 0 {
				t.Fatalf("one of %d tokens is refused", had)
			}
		}
	}
	return counts
}

func TestOneByOneBetweenTwoTimes(t *testing.T) {
	met := 0
	for seed := range 600 {
		r := rand.New(rand.NewSource(int64(seed)))
		rate, burst, from := r.Intn(5), 1+r.Intn(9), begin(r)+10
		counts := asked(t, r, New(rate, burst, from), from)
		for i := range counts {
			sum := 0
			for j := i; j < len(counts); j++ {
				sum += counts[j]
				if most := burst + rate*(j-i); sum > most {
					t.Fatalf("seed %d: %d taken from tick %d to %d, at most %d may be", seed, sum, i, j, most)
				} else if sum == most {
					met++
				}
			}
		}
	}
	if met < 1000 {
		t.Errorf("what may be taken at most was taken just %d times", met)
	}
}

// Who asks for as many as there are, at each tick, gets all that come: no fewer than may be taken.
func TestNothingIsKeptBack(t *testing.T) {
	for rate := range 6 {
		for burst := 1; burst < 9; burst++ {
			b, sum := New(rate, burst, math.MinInt), 0
			for i := range 50 {
				for range burst + 1 { // the last one is refused
					if b.Take(math.MinInt+i, 1) {
						sum++
					}
				}
				wantTokens(t, b, math.MinInt+i, 0, burst)
				if want := burst + i*min(rate, burst); sum != want {
					t.Fatalf("rate %d, burst %d: %d taken till tick %d, not %d", rate, burst, sum, i, want)
				}
			}
		}
	}
}
