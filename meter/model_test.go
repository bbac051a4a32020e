package meter

import (
	"math"
	"math/big"
	"math/rand"
	"testing"

	"sallyport/api"
)

// What the chapter says, said once more, with a list in the order of asking, and with whole numbers without bounds.

type modelMeter struct {
	src           api.Addr
	tokens, knows int
}

type model struct {
	rate, burst int
	list        []modelMeter // who was asked longest ago comes first
}

func (m *model) learn(i, now int) {
	u := &m.list[i]
	if now <= u.knows {
		return
	}
	n := new(big.Int).Sub(big.NewInt(int64(now)), big.NewInt(int64(u.knows)))
	n.Mul(n, big.NewInt(int64(m.rate)))
	n.Add(n, big.NewInt(int64(u.tokens)))
	u.knows, u.tokens = now, m.burst
	if n.Cmp(big.NewInt(int64(m.burst))) < 0 {
		u.tokens = int(n.Int64())
	}
}

func (m *model) find(src api.Addr) int {
	for i, u := range m.list {
		if u.src == src {
			return i
		}
	}
	return -1
}

// leave takes the meter at that place away, and answers it.
func (m *model) leave(i int) modelMeter {
	u := m.list[i]
	var rest []modelMeter
	for j, x := range m.list {
		if j != i {
			rest = append(rest, x)
		}
	}
	m.list = rest
	return u
}

// room tells whether one more fits in, and whether one went for it.
func (m *model) room(now int) (bool, bool) {
	if len(m.list) < 32 {
		return true, false
	}
	for i := range m.list {
		m.learn(i, now)
	}
	for i, u := range m.list {
		if u.tokens == m.burst {
			m.leave(i)
			return true, true
		}
	}
	return false, false
}

// take answers what Take does, and whether a meter went.
func (m *model) take(src api.Addr, now int) (bool, bool, bool) {
	u, went := modelMeter{src: src, tokens: m.burst, knows: now}, false
	if i := m.find(src); i >= 0 {
		m.learn(i, now)
		u = m.leave(i)
	} else {
		var ok bool
		if ok, went = m.room(now); !ok {
			return false, false, false
		}
	}
	had := u.tokens
	if had > 0 {
		u.tokens--
	}
	m.list = append(m.list, u)
	return had > 0, true, went
}

func (m *model) tokens(src api.Addr, now int) int {
	i := m.find(src)
	if i < 0 {
		return 0
	}
	m.learn(i, now)
	return m.list[i].tokens
}

// someRate answers rates: mostly few, but of all sizes, too.
func someRate(r *rand.Rand) int {
	if r.Intn(6) == 0 {
		return sizes()[r.Intn(len(sizes()))]
	}
	return r.Intn(3)
}

func someBurst(r *rand.Rand) int {
	if r.Intn(6) == 0 {
		return sizes()[r.Intn(len(sizes()))]
	}
	return r.Intn(6)
}

// someTime answers times that mostly go on a little, but go back, and to the ends, too.
func someTime(r *rand.Rand, now int) int {
	switch r.Intn(300) {
	case 0:
		return times()[r.Intn(len(times()))]
	case 1, 2, 3, 4, 5, 6, 7, 8:
		return now - r.Intn(9)
	case 9:
		return now + r.Intn(20)
	}
	if r.Intn(20) == 0 {
		return now + 1
	}
	return now
}

// begin answers the time at which a row of calls begins: of the least ones, the greatest ones, or about 0.
func begin(r *rand.Rand) int {
	return []int{math.MinInt, math.MaxInt - 200, -50, 0}[r.Intn(4)] + r.Intn(50)
}

// tally counts what became of Takes.
type tally struct{ taken, refused, crowded, went int }

func (c *tally) count(ok, room, went bool) {
	switch {
	case !room:
		c.crowded++
	case !ok:
		c.refused++
	default:
		c.taken++
	}
	if went {
		c.went++
	}
}

func (c *tally) wantEach(t *testing.T, least int) {
	t.Helper()
	if c.taken < least || c.refused < least || c.crowded < least || c.went < least {
		t.Errorf("%+v: too few of some", *c)
	}
}

// wantSame checks what can be told of two without a change.
func wantSame(t *testing.T, m *Meters, w *model, sources int) {
	t.Helper()
	if m.Len() != len(w.list) {
		t.Fatalf("Len: %d, not %d", m.Len(), len(w.list))
	}
	for i := range sources {
		if m.Has(source(i)) != (w.find(source(i)) >= 0) {
			t.Fatalf("Has(source %d): %v", i, m.Has(source(i)))
		}
	}
}

func TestAgainstTheModel(t *testing.T) {
	var c tally
	for seed := range 1500 {
		r := rand.New(rand.NewSource(int64(seed)))
		rate, burst, now := someRate(r), someBurst(r), begin(r)
		m, w := New(rate, burst), &model{rate: cut(rate, 0), burst: cut(burst, 1)}
		sources := 30 + r.Intn(30)
		for step := range 300 {
			now = someTime(r, now)
			src := source(r.Intn(sources))
			if r.Intn(8) == 0 {
				if got, want := m.Tokens(src, now), w.tokens(src, now); got != want {
					t.Fatalf("seed %d, step %d: Tokens(%v, %d): %d, not %d", seed, step, src, now, got, want)
				}
			} else {
				ok, room := m.Take(src, now)
				wantOK, wantRoom, went := w.take(src, now)
				if ok != wantOK || room != wantRoom {
					t.Fatalf("seed %d, step %d: Take(%v, %d): %v, %v", seed, step, src, now, ok, room)
				}
				c.count(ok, room, went)
			}
			wantSame(t, m, w, sources)
		}
		for i := range sources {
			if got, want := m.Tokens(source(i), math.MinInt), w.tokens(source(i), math.MinInt); got != want {
				t.Fatalf("seed %d: at the end source %d has %d, not %d", seed, i, got, want)
			}
		}
	}
	c.wantEach(t, 10000)
}

// The same calls have the same answers, however often they are asked: a map's order is not to be seen.
func TestSameCallsSameAnswers(t *testing.T) {
	for seed := range 100 {
		var first []int
		for again := range 4 {
			r := rand.New(rand.NewSource(int64(seed)))
			m, now := New(1, 1+r.Intn(3)), 0
			for step := range 300 {
				now = someTime(r, now)
				ok, room := m.Take(source(r.Intn(50)), now)
				answer := m.Len()
				if ok {
					answer += 100
				}
				if room {
					answer += 1000
				}
				if again == 0 {
					first = append(first, answer)
				} else if first[step] != answer {
					t.Fatalf("seed %d, step %d: %d, then %d", seed, step, first[step], answer)
				}
			}
		}
	}
}

// P12.4, W6

// looked is what each source has at a time; -1 without a meter.
func looked(m *Meters, sources, now int) []int {
	var l []int
	for i := range sources {
		n := -1
		if m.Has(source(i)) {
			n = m.Tokens(source(i), now)
		}
		l = append(l, n)
	}
	return l
}

// wantFollows checks a Take of one source, of what all had ahead of it and of what they have behind it; it tells whether a meter went.
func wantFollows(t *testing.T, i, burst int, ok, room bool, had, has []int) bool {
	t.Helper()
	went, meters, full := 0, 0, 0
	for j := range had {
		if had[j] >= 0 {
			meters++
		}
		if had[j] == burst {
			full++
		}
		if j != i && had[j] >= 0 && has[j] < 0 {
			went++
			if had[j] != burst {
				t.Fatalf("source %d went, with %d tokens of %d", j, had[j], burst)
			}
		} else if j != i && had[j] != has[j] {
			t.Fatalf("source %d had %d, and has %d", j, had[j], has[j])
		}
	}
	want := had[i]
	crowded := want < 0 && meters == api.MaxMeters
	if want < 0 {
		want = burst
	}
	switch {
	case crowded && full == 0:
		if ok || room || has[i] >= 0 || went != 0 {
			t.Fatalf("without room: %v, %v, %d tokens, %d went", ok, room, has[i], went)
		}
	case !room || ok != (want > 0) || has[i] != max(want-1, 0):
		t.Fatalf("of %d tokens: %v, %v, %d are left", want, ok, room, has[i])
	case crowded != (went == 1) || went > 1:
		t.Fatalf("%d went, of %d", went, meters)
	}
	return went == 1
}

func TestWhatFollows(t *testing.T) {
	var c tally
	for seed := range 300 {
		r := rand.New(rand.NewSource(int64(seed)))
		rate, burst, now := someRate(r), someBurst(r), begin(r)
		m, sources := New(rate, burst), 33+r.Intn(30)
		for range 300 {
			now = someTime(r, now)
			i := r.Intn(sources)
			had := looked(m, sources, now)
			ok, room := m.Take(source(i), now)
			has := looked(m, sources, now)
			if m.Len() > api.MaxMeters {
				t.Fatalf("seed %d: %d meters", seed, m.Len())
			}
			c.count(ok, room, wantFollows(t, i, cut(burst, 1), ok, room, had, has))
		}
	}
	c.wantEach(t, 1000)
}

// Of many sources that ask once a tick, no more get a token than there may be meters.
func TestManySources(t *testing.T) {
	m := New(1, 2)
	for now := range 50 {
		got := 0
		for i := range 1000 {
			if ok, room := m.Take(api.Addr{Hi: uint64(now), Lo: uint64(i)}, now); ok && room {
				got++
			} else if ok || room {
				t.Fatalf("tick %d, source %d: %v, %v", now, i, ok, room)
			}
		}
		if got != api.MaxMeters || m.Len() != api.MaxMeters {
			t.Fatalf("tick %d: %d got one, of %d meters", now, got, m.Len())
		}
	}
}
