package cookie

import (
	"encoding/hex"
	"fmt"
	"math"
	"math/big"
	"math/rand"
	"strings"
	"testing"

	"sallyport/api"
)

// What the chapter says, said once more: numbers are texts of noughts and ones, the highest one first; bytes are texts to the base sixteen; a keeper knows all secrets that it ever had.

// binary answers n as a text of 64 digits.
func binary(n uint64) string { return fmt.Sprintf("%064b", n) }

// base16 answers the number that is written so, as a text of 64 digits.
func base16(s string) string {
	n, ok := new(big.Int).SetString(s, 16)
	if !ok {
		panic(s)
	}
	return fmt.Sprintf("%064b", n)
}

func xor(a, b string) string {
	var s strings.Builder
	for i := range 64 {
		if a[i] == b[i] {
			s.WriteByte('0')
		} else {
			s.WriteByte('1')
		}
	}
	return s.String()
}

func plus(a, b string) string {
	s, carry := make([]byte, 64), 0
	for i := 63; i >= 0; i-- {
		n := int(a[i]-'0') + int(b[i]-'0') + carry
		s[i], carry = byte('0'+n%2), n/2
	}
	return string(s)
}

func rotated(a string, n int) string { return a[n:] + a[:n] }

// modelRound does a round, step by step.
func modelRound(v0, v1, v2, v3 string) (string, string, string, string) {
	v0 = plus(v0, v1)
	v1 = rotated(v1, 13)
	v1 = xor(v1, v0)
	v0 = rotated(v0, 32)
	v2 = plus(v2, v3)
	v3 = rotated(v3, 16)
	v3 = xor(v3, v2)
	v0 = plus(v0, v3)
	v3 = rotated(v3, 21)
	v3 = xor(v3, v0)
	v2 = plus(v2, v1)
	v1 = rotated(v1, 17)
	v1 = xor(v1, v2)
	v2 = rotated(v2, 32)
	return v0, v1, v2, v3
}

// modelNumbers are the numbers of b: it and noughts, up to one byte short of eight, then that byte.
func modelNumbers(b []byte) []string {
	padded := append([]byte{}, b...)
	for len(padded)%8 != 7 {
		padded = append(padded, 0)
	}
	padded = append(padded, byte(len(b)%256))
	var l []string
	for ; len(padded) > 0; padded = padded[8:] {
		s := ""
		for _, x := range padded[:8] {
			s = fmt.Sprintf("%08b", x) + s
		}
		l = append(l, s)
	}
	return l
}

func modelHash(s Secret, b []byte) uint64 {
	v0, v1 := xor(binary(s.A), base16("736f6d6570736575")), xor(binary(s.B), base16("646f72616e646f6d"))
	v2, v3 := xor(binary(s.A), base16("6c7967656e657261")), xor(binary(s.B), base16("7465646279746573"))
	for _, m := range modelNumbers(b) {
		v3 = xor(v3, m)
		v0, v1, v2, v3 = modelRound(v0, v1, v2, v3)
		v0, v1, v2, v3 = modelRound(v0, v1, v2, v3)
		v0 = xor(v0, m)
	}
	v2 = xor(v2, binary(255))
	for range 4 {
		v0, v1, v2, v3 = modelRound(v0, v1, v2, v3)
	}
	n, _ := new(big.Int).SetString(xor(xor(v0, v1), xor(v2, v3)), 2)
	return n.Uint64()
}

// digits answers the lowest digits of n, to the base sixteen.
func digits(n *big.Int, width int) string {
	most := new(big.Int).Exp(big.NewInt(16), big.NewInt(int64(width)), nil)
	return fmt.Sprintf("%0*x", width, new(big.Int).Mod(n, most))
}

func modelCookie(s Secret, k api.Key, w int) uint32 {
	text := digits(big.NewInt(int64(k.Proto)), 4)
	for _, n := range []uint64{k.Src.Hi, k.Src.Lo, k.Dst.Hi, k.Dst.Lo} {
		text += digits(new(big.Int).SetUint64(n), 16)
	}
	text += digits(big.NewInt(int64(k.SPort)), 4) + digits(big.NewInt(int64(k.DPort)), 4) + digits(big.NewInt(int64(w)), 16)
	b, err := hex.DecodeString(text)
	if err != nil || len(b) != 46 {
		panic(text)
	}
	return uint32(modelHash(s, b) % (1 << 32))
}

// modelWindow divides so that what is left is not below 0.
func modelWindow(now int) int {
	return int(new(big.Int).Div(big.NewInt(int64(now)), big.NewInt(16)).Int64())
}

// modelKeeper has all secrets that it ever had, and till which window each one but the last counts.
type modelKeeper struct {
	secrets []Secret
	till    []int
}

func (m *modelKeeper) rotate(s Secret, now int) {
	m.secrets, m.till = append(m.secrets, s), append(m.till, modelWindow(now)+1)
}

// taken tells which secrets' numbers are taken at that time, and of which windows.
func (m *modelKeeper) taken(now int) (secrets []Secret, windows []int) {
	w, last := modelWindow(now), len(m.secrets)-1
	secrets = append(secrets, m.secrets[last])
	if last > 0 && w <= m.till[last-1] {
		secrets = append(secrets, m.secrets[last-1])
	}
	return secrets, []int{w, w - 1}
}

// check tells whether n is taken, by cookies that Cookie tells, which is held against its own model.
func (m *modelKeeper) check(key api.Key, now int, n uint32) bool {
	secrets, windows := m.taken(now)
	for _, s := range secrets {
		for _, w := range windows {
			if Cookie(s, key, w) == n {
				return true
			}
		}
	}
	return false
}

func TestHashAgainstTheModel(t *testing.T) {
	r := rand.New(rand.NewSource(1))
	for i := range 1500 {
		b := make([]byte, i%300)
		r.Read(b)
		s := Secret{A: r.Uint64(), B: r.Uint64()}
		wantHash(t, s, b, modelHash(s, b))
	}
}

// someNumber answers numbers of all sizes.
func someNumber(r *rand.Rand) int { return int(r.Uint64()) >> r.Intn(64) }

func someAddr(r *rand.Rand) api.Addr {
	return api.Addr{Hi: r.Uint64() >> r.Intn(64), Lo: r.Uint64() >> r.Intn(64)}
}

func TestCookieAgainstTheModel(t *testing.T) {
	r := rand.New(rand.NewSource(2))
	for range 2000 {
		k := api.Key{Proto: someNumber(r), Src: someAddr(r), Dst: someAddr(r), SPort: someNumber(r), DPort: someNumber(r)}
		s, w := Secret{A: r.Uint64(), B: r.Uint64()}, someNumber(r)
		wantCookie(t, s, k, w, modelCookie(s, k, w))
	}
}

func TestWindowAgainstTheModel(t *testing.T) {
	r := rand.New(rand.NewSource(3))
	var l []int
	for i := range 10000 {
		l = append(l, i-5000, math.MinInt+i, math.MaxInt-i, someNumber(r))
	}
	for _, now := range l {
		if got, want := Window(now), modelWindow(now); got != want {
			t.Fatalf("Window(%d): %d; want %d", now, got, want)
		}
	}
}

// rotation is a call of Rotate.
type rotation struct{ secret, now int }

// wantRow does a row of calls on a new keeper, and checks what is taken behind them.
func wantRow(t *testing.T, row []rotation) (yes, no int) {
	t.Helper()
	k, m := NewKeeper(some[0]), &modelKeeper{secrets: some[:1:1]}
	for _, c := range row {
		k.Rotate(some[c.secret], c.now)
		m.rotate(some[c.secret], c.now)
	}
	wantNow(t, k, m.secrets[len(m.secrets)-1])
	for w := -2; w < 5; w++ {
		now := 16*w + (w+2)*2
		wantMake(t, "behind a row", k, call(), now, Cookie(m.secrets[len(m.secrets)-1], call(), w))
		for _, s := range some {
			for of := w - 2; of <= w+1; of++ {
				n := Cookie(s, call(), of)
				want := m.check(call(), now, n)
				if got := k.Check(call(), now, n); got != want {
					t.Fatalf("behind %v: Check at %d of %x of window %d: %v", row, now, s, of, got)
				}
				if want {
					yes++
				} else {
					no++
				}
			}
		}
	}
	return yes, no
}

// TestAllShortRows does all rows of up to three calls of Rotate, of three secrets at times of four windows.
func TestAllShortRows(t *testing.T) {
	yes, no := 0, 0
	var walk func(row []rotation)
	walk = func(row []rotation) {
		y, n := wantRow(t, row)
		yes, no = yes+y, no+n
		if len(row) == 3 {
			return
		}
		for secret := range 3 {
			for _, now := range []int{-1, 0, 31, 32} {
				walk(append(row[:len(row):len(row)], rotation{secret, now}))
			}
		}
	}
	walk(nil)
	if yes < 10000 || no < 10000 {
		t.Errorf("%d taken, %d not: too few", yes, no)
	}
}

// TestLongRows does rows of all calls, at times that mostly go on, with numbers that were told a while ago.
func TestLongRows(t *testing.T) {
	yes, no := 0, 0
	for seed := range 300 {
		r := rand.New(rand.NewSource(int64(seed)))
		now := []int{math.MinInt + 200, -300, 0, math.MaxInt - 4000}[r.Intn(4)]
		first := Secret{A: r.Uint64(), B: r.Uint64()}
		k, m := NewKeeper(first), &modelKeeper{secrets: []Secret{first}}
		keys := append(likes(), call())
		told := make(map[api.Key]uint32)
		for range 200 {
			if now += r.Intn(8); r.Intn(30) == 0 {
				now -= r.Intn(40)
			}
			key := keys[r.Intn(len(keys))]
			switch r.Intn(8) {
			case 0:
				s := Secret{A: r.Uint64(), B: r.Uint64()}
				k.Rotate(s, now)
				m.rotate(s, now)
			case 1, 2, 3:
				told[key] = wantMake(t, "told", k, key, now, Cookie(m.secrets[len(m.secrets)-1], key, modelWindow(now)))
			default:
				want := m.check(key, now, told[key])
				wantCheck(t, "a while ago", k, key, now, told[key], want)
				if want {
					yes++
				} else {
					no++
				}
			}
			wantNow(t, k, m.secrets[len(m.secrets)-1])
		}
	}
	if yes < 1000 || no < 1000 {
		t.Errorf("%d taken, %d not: too few", yes, no)
	}
}
