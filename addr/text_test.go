package addr

import (
	"encoding/binary"
	"math"
	"math/rand"
	"net/netip"
	"strconv"
	"strings"
	"testing"

	"sallyport/api"
)

// libraryAddr answers a as the library has it.
func libraryAddr(a api.Addr) netip.Addr {
	var b [16]byte
	binary.BigEndian.PutUint64(b[:8], a.Hi)
	binary.BigEndian.PutUint64(b[8:], a.Lo)
	return netip.AddrFrom16(b).Unmap()
}

// libraryParse answers the address whose text is s, as the library has it.
func libraryParse(s string) (api.Addr, api.Errno) {
	n, err := netip.ParseAddr(s)
	if err != nil || n.Zone() != "" || n.Is4In6() || n.String() != s {
		return api.Addr{}, api.ErrAddr
	}
	b := n.As16()
	return api.Addr{Hi: binary.BigEndian.Uint64(b[:8]), Lo: binary.BigEndian.Uint64(b[8:])}, api.OK
}

// texts are addresses with their texts.
func texts() map[string]api.Addr {
	return map[string]api.Addr{
		"0.0.0.0":         Of4(0),
		"0.0.0.1":         Of4(1),
		"1.0.0.0":         Of4(1 << 24),
		"1.2.3.4":         Of4(0x01020304),
		"10.0.0.1":        Of4(0x0a000001),
		"9.99.100.200":    Of4(0x096364c8),
		"255.255.255.255": Of4(math.MaxUint32),

		"::":               {},
		"::1":              {Lo: 1},
		"::a":              {Lo: 10},
		"::ffff":           {Lo: 0xffff},
		"::1:0":            {Lo: 0x10000},
		"::fffe:0:0":       {Lo: 0xfffe00000000},
		"::fffe:ffff:ffff": {Lo: v4 - 1},
		"::1:0:0:0":        {Lo: 1 << 48},
		"::ffff:0:0:0":     {Lo: 0xffff << 48},
		"::1:ffff:0:0":     {Lo: 1<<48 | v4},
		"0:0:0:1::":        {Hi: 1}, // four groups behind, three ahead
		"::1:0:0:0:1":      {Hi: 1, Lo: 1},
		"::1:0:ffff:a00:1": {Hi: 1, Lo: v4 + 0x0a000001},
		"1::":              {Hi: 1 << 48},
		"1::1":             {Hi: 1 << 48, Lo: 1},
		"1:2::":            {Hi: 0x0001000200000000},
		"1:2:3:4:5:6::":    {Hi: 0x0001000200030004, Lo: 0x0005000600000000},
		"1:2:3:4:5:6:7:0":  {Hi: 0x0001000200030004, Lo: 0x0005000600070000}, // a row of one
		"0:2:3:4:5:6:7:8":  {Hi: 0x0000000200030004, Lo: 0x0005000600070008},
		"1:2:3:0:5:6:7:8":  {Hi: 0x0001000200030000, Lo: 0x0005000600070008},
		"0:2:0:4:0:6:0:8":  {Hi: 0x0000000200000004, Lo: 0x0000000600000008},
		"::3:4:5:6:7:8":    {Hi: 0x0000000000030004, Lo: 0x0005000600070008},
		"1:2::5:6:7:8":     {Hi: 0x0001000200000000, Lo: 0x0005000600070008},
		"1::2:0:0:3:0":     {Hi: 0x0001000000000002, Lo: 0x0000000000030000}, // the first of two
		"::3:4:0:0:7:8":    {Hi: 0x0000000000030004, Lo: 0x0000000000070008},
		"1::4:0:0:7:0":     {Hi: 0x0001000000000004, Lo: 0x0000000000070000},
		"0:0:3::8":         {Hi: 0x0000000000030000, Lo: 0x0000000000000008}, // the longer one of two
		"1:0:0:4::":        {Hi: 0x0001000000000004},
		"0:0:3::7:8":       {Hi: 0x0000000000030000, Lo: 0x0000000000070008},
		"1::5:0:0:8":       {Hi: 0x0001000000000000, Lo: 0x0005000000000008},
		"2001:db8::1":      {Hi: 0x20010db800000000, Lo: 1},
		"fedc:ba98:7654:3210:fedc:ba98:7654:3210": {Hi: 0xfedcba9876543210, Lo: 0xfedcba9876543210},
		"ffff:ffff:ffff:ffff:ffff:ffff:ffff:ffff": {Hi: top, Lo: top},
	}
}

// wrongTexts are no addresses.
func wrongTexts() []string {
	return []string{
		"", " ", "x", ".", ":", ":::", "::::", "-", "/", "any", "\x00", "é",
		"1", "1.2", "1.2.3", "1.2.3.4.5", "1.2.3.", ".1.2.3", "1..2.3", "...", "1.2.3.4.", ".1.2.3.4",
		"256.0.0.0", "0.0.0.256", "0.0.300.0", "0.0.0.1000", "0.0.0.4294967296", "0.0.0.18446744073709551616",
		"10.0.0.01", "00.0.0.0", "010.0.0.1", "10.0.0.001", "10.0.0.a", "a.0.0.0", "0x1.0.0.0", "1e1.0.0.0",
		" 10.0.0.1", "10.0.0.1 ", "10.0.0.1\n", "10.0. 0.1", "+1.0.0.0", "-1.0.0.0", "1_0.0.0.0", "10,0,0,1",
		"10.0.0.1/32", "10.0.0.1-10.0.0.1", "10.0.0.1:80", "167772161", "١.٢.٣.٤",
		"1:2:3:4:5:6:7", "1:2:3:4:5:6:7:8:9", "1:2:3:4:5:6:7:", ":1:2:3:4:5:6:7", ":1:2:3:4:5:6:7:8", "1:2:3:4:5:6:7:8:",
		"::1:2:3:4:5:6:7:8", "1:2:3:4:5:6:7:8::", "1:2:3:4::5:6:7:8", "1:2:3:4:5::6:7:8:9", "1::2:3:4:5:6:7:8:9:a",
		"1::2::3", "::1::", "1:::2", ":::1", "1:::", ":1", "1:", ":1::", "::1:", "1::2:", ":1::2",
		"0:0:0:0:0:0:0:0", "1:0:0:0:0:0:0:1", "0::", "::0", "0::0", "0:0::", "::0:0", "0::1", "1::0", "::0:1", "1:0::", "0:0:0::1",
		"1:2:3:4:5:6:7::", "::2:3:4:5:6:7:8", "1:2:3::5:6:7:8", // a row of one is not left away
		"1:0:0:2::3:0", "0:0:3:4::7:8", "1:0:0:4:0:0::", "1:0:0:0:5::", // not the first of the longest ones
		"::3:0:0:0:0:8", "::3:0:0:0:7:8", "1::4:0:0:0:0", // not the longest one
		"1::2:0:0:3:00", "::01", "::001", "::0001", "::00001", "::10000", "::fffff", "01::", "2001:0db8::1",
		"::FF", "::fF", "2001:DB8::1", "::g", "::x", "::-1", "::+1", "::0x1", "::1_0", "::é",
		" ::1", "::1 ", "::1\n", ":: 1", "::1%0", "::1%eth0", "[::1]", "::1/128",
		"::ffff:0:0", "::ffff:a00:1", "::ffff:ffff:ffff", // IPv4 addresses have another text
		"::ffff:10.0.0.1", "::10.0.0.1", "1:2:3:4:5:6:7.8.9.10", "10.0.0.1::", "::1.2.3.4",
		strings.Repeat("0", 40), strings.Repeat("0:", 40), strings.Repeat("1.", 40), strings.Repeat(":", 40), "::" + strings.Repeat("0", 60) + "1", "10.0.0." + strings.Repeat("0", 60) + "1",
		"ffff:ffff:ffff:ffff:ffff:ffff:ffff:ffff:ffff", "0ffff:ffff:ffff:ffff:ffff:ffff:ffff:ffff",
		"10:100:1000:f:f0:f00:1:",
	}
}

// P3.2

func TestPrintAndParse(t *testing.T) {
	for s, a := range texts() {
		if got := Print(a); got != s {
			t.Errorf("Print(%x): %s; want %s", a, got, s)
		}
		if got, e := Parse(s); got != a || e != api.OK {
			t.Errorf("Parse(%s): %x, %d; want %x", s, got, e, a)
		}
	}
}

func TestParseOfWrongTexts(t *testing.T) {
	for _, s := range wrongTexts() {
		if a, e := Parse(s); a != (api.Addr{}) || e != api.ErrAddr {
			t.Errorf("Parse(%q): %x, %d; want ErrAddr", s, a, e)
		}
	}
}

func TestParseOfLongTexts(t *testing.T) {
	for _, s := range []string{"0", ":", "::", ".", "1:", "0.", "10.0.0.1", "-", "/"} {
		long := strings.Repeat(s, 1<<20)
		if a, e := Parse(long); a != (api.Addr{}) || e != api.ErrAddr {
			t.Errorf("Parse of many %q: %x, %d", s, a, e)
		}
		if r, e := ParseRange(long); r != (api.Range{}) || e != api.ErrAddr {
			t.Errorf("ParseRange of many %q: %x, %d", s, r, e)
		}
	}
}

// TestPrintOfEachRow goes through all ways in which groups may be 0.
func TestPrintOfEachRow(t *testing.T) {
	for zeros := range 1 << 8 {
		var g groups
		for i := range g {
			if zeros>>i&1 == 0 {
				g[i] = uint16(1 << (2 * i)) // of one to four digits
			}
		}
		a := g.addr()
		if got, want := Print(a), libraryAddr(a).String(); got != want {
			t.Errorf("Print(%x): %s; want %s", a, got, want)
		}
	}
}

func TestPrintOfMany(t *testing.T) {
	for _, a := range someAddrs(rand.New(rand.NewSource(6)), 5000) {
		if got, want := Print(a), libraryAddr(a).String(); got != want {
			t.Fatalf("Print(%x): %s; want %s", a, got, want)
		}
	}
}

// TestParseOfSpoiltTexts changes some bytes of texts that are right.
func TestParseOfSpoiltTexts(t *testing.T) {
	const letters = "0123456789abcdefF:.:.:0-/ g%+_"
	r := rand.New(rand.NewSource(7))
	right := 0
	for _, a := range someAddrs(r, 20000) {
		b := []byte(Print(a))
		for range 1 + r.Intn(3) {
			i, c := r.Intn(len(b)), letters[r.Intn(len(letters))]
			switch r.Intn(3) {
			case 0:
				b[i] = c
			case 1:
				b = append(b[:i], append([]byte{c}, b[i:]...)...)
			default:
				b = append(b[:i], b[i+1:]...)
			}
			if len(b) == 0 {
				break
			}
		}
		s := string(b)
		want, wantE := libraryParse(s)
		if got, e := Parse(s); got != want || e != wantE {
			t.Fatalf("Parse(%q): %x, %d; want %x, %d", s, got, e, want, wantE)
		}
		if wantE == api.OK {
			right++
		}
	}
	if right < 1000 {
		t.Error("too few texts are right:", right)
	}
}

// P3.4

func TestParseRange(t *testing.T) {
	all := api.Range{To: api.Addr{Hi: top, Lo: top}}
	for s, want := range map[string]api.Range{
		"10.0.0.0/8":                 {From: Of4(0x0a000000), To: Of4(0x0affffff)},
		"10.0.0.1/32":                {From: Of4(0x0a000001), To: Of4(0x0a000001)},
		"0.0.0.0/0":                  {From: Of4(0), To: Of4(math.MaxUint32)},
		"128.0.0.0/1":                {From: Of4(1 << 31), To: Of4(math.MaxUint32)},
		"::/0":                       all,
		"::/80":                      {To: Of4(math.MaxUint32)},
		"::/128":                     {},
		"2001:db8::/32":              {From: api.Addr{Hi: 0x20010db800000000}, To: api.Addr{Hi: 0x20010db8ffffffff, Lo: top}},
		"10.0.0.3-10.0.0.9":          {From: Of4(0x0a000003), To: Of4(0x0a000009)},
		"10.0.0.3-10.0.0.3":          {From: Of4(0x0a000003), To: Of4(0x0a000003)},
		"0.0.0.0-255.255.255.255":    {From: Of4(0), To: Of4(math.MaxUint32)},
		"::1-::3":                    {From: Of(1), To: Of(3)},
		"::fffe:ffff:ffff-::1:0:0:0": {From: api.Addr{Lo: v4 - 1}, To: api.Addr{Lo: 1 << 48}}, // IPv4 addresses are between
		"::-ffff:" + strings.Repeat("ffff:", 6) + "ffff": all,
		"10.0.0.1":    {From: Of4(0x0a000001), To: Of4(0x0a000001)},
		"::":          {},
		"2001:db8::1": {From: api.Addr{Hi: 0x20010db800000000, Lo: 1}, To: api.Addr{Hi: 0x20010db800000000, Lo: 1}},
	} {
		if got, e := ParseRange(s); got != want || e != api.OK {
			t.Errorf("ParseRange(%s): %x, %d; want %x", s, got, e, want)
		}
	}
}

func TestParseRangeOfWrongTexts(t *testing.T) {
	for s, want := range map[string]api.Errno{
		"10.0.0.1/8": api.ErrRange, "10.0.0.0/33": api.ErrRange, "10.0.0.0/128": api.ErrRange, "::/129": api.ErrRange, "::1/127": api.ErrRange, "2001:db8::/28": api.ErrRange,
		"10.0.0.0/": api.ErrRange, "10.0.0.0/x": api.ErrRange, "10.0.0.0/08": api.ErrRange, "10.0.0.0/+8": api.ErrRange, "10.0.0.0/-8": api.ErrRange, "10.0.0.0/ 8": api.ErrRange, "10.0.0.0/8 ": api.ErrRange, "10.0.0.0/0x8": api.ErrRange, "10.0.0.0/1_6": api.ErrRange,
		"0.0.0.0/00": api.ErrRange, "0.0.0.0/-0": api.ErrRange, "0.0.0.0/+0": api.ErrRange, "::/00": api.ErrRange, "::/٠": api.ErrRange,
		"::/4294967296": api.ErrRange, "::/9999999999": api.ErrRange, "::/18446744073709551616": api.ErrRange, "::/00000000000": api.ErrRange,
		"10.0.0.0/8/8": api.ErrRange, "10.0.0.0//8": api.ErrRange, "10.0.0.0/8-9": api.ErrRange, "10.0.0.0/8-10.0.0.9": api.ErrRange, // the first / counts
		"/": api.ErrAddr, "/8": api.ErrAddr, "x/8": api.ErrAddr, "x/x": api.ErrAddr, "10.0.0/33": api.ErrAddr, "10.0.0.01/8": api.ErrAddr, "::ffff:0:0/96": api.ErrAddr,
		"10.0.0.1-10.0.0.9/8": api.ErrAddr, "-/": api.ErrAddr, // / goes ahead of -
		"10.0.0.9-10.0.0.3": api.ErrRange, "10.0.0.1-::1": api.ErrRange, "::1-10.0.0.1": api.ErrRange, "1::-10.0.0.1": api.ErrRange, "10.0.0.1-1::": api.ErrRange, "::2-::1": api.ErrRange, "1::-::ffff": api.ErrRange,
		"-": api.ErrAddr, "10.0.0.1-": api.ErrAddr, "-10.0.0.1": api.ErrAddr, "::1-x": api.ErrAddr, "x-::1": api.ErrAddr, "10.0.0.9-10.0.0.03": api.ErrAddr, "x-10.0.0.3": api.ErrAddr,
		"10.0.0.1-10.0.0.2-10.0.0.3": api.ErrAddr, "10.0.0.1--10.0.0.2": api.ErrAddr, "10.0.0.1 - 10.0.0.2": api.ErrAddr, "10.0.0.1-9": api.ErrAddr,
		"10.0.0.9-::ffff:a00:1": api.ErrAddr,
	} {
		got, e := ParseRange(s)
		if e != want || e != api.OK && got != (api.Range{}) {
			t.Errorf("ParseRange(%q): %x, %d; want %d", s, got, e, want)
		}
	}
	for _, s := range wrongTexts() {
		if strings.ContainsAny(s, "/-") {
			continue
		}
		if got, e := ParseRange(s); got != (api.Range{}) || e != api.ErrAddr {
			t.Errorf("ParseRange(%q): %x, %d; want ErrAddr", s, got, e)
		}
	}
}

// P3.5

func TestPrintRange(t *testing.T) {
	for s, r := range map[string]api.Range{
		"10.0.0.0/30":                {From: Of4(0x0a000000), To: Of4(0x0a000003)},
		"10.0.0.1-10.0.0.4":          {From: Of4(0x0a000001), To: Of4(0x0a000004)},
		"10.0.0.0-10.0.0.2":          {From: Of4(0x0a000000), To: Of4(0x0a000002)},
		"10.0.0.0-10.0.0.4":          {From: Of4(0x0a000000), To: Of4(0x0a000004)},
		"10.0.0.1-10.0.0.2":          {From: Of4(0x0a000001), To: Of4(0x0a000002)}, // as many as a prefix, but not from its beginning on
		"10.0.0.4-10.0.0.11":         {From: Of4(0x0a000004), To: Of4(0x0a00000b)},
		"10.0.0.2/31":                {From: Of4(0x0a000002), To: Of4(0x0a000003)},
		"10.0.0.1":                   {From: Of4(0x0a000001), To: Of4(0x0a000001)},
		"0.0.0.0":                    {From: Of4(0), To: Of4(0)},
		"255.255.255.255":            {From: Of4(math.MaxUint32), To: Of4(math.MaxUint32)},
		"0.0.0.0/0":                  {From: Of4(0), To: Of4(math.MaxUint32)},
		"0.0.0.0-255.255.255.254":    {From: Of4(0), To: Of4(math.MaxUint32 - 1)},
		"0.0.0.1-255.255.255.255":    {From: Of4(1), To: Of4(math.MaxUint32)},
		"128.0.0.0/1":                {From: Of4(1 << 31), To: Of4(math.MaxUint32)},
		"::":                         {},
		"::1":                        {From: Of(1), To: Of(1)},
		"::/127":                     {To: Of(1)},
		"::-::2":                     {To: Of(2)},
		"::/64":                      {To: api.Addr{Lo: top}},
		"::/63":                      {To: api.Addr{Hi: 1, Lo: top}},
		"::/0":                       {To: api.Addr{Hi: top, Lo: top}},
		"8000::/1":                   {From: api.Addr{Hi: 1 << 63}, To: api.Addr{Hi: top, Lo: top}},
		"0:0:0:1::/64":               {From: api.Addr{Hi: 1}, To: api.Addr{Hi: 1, Lo: top}},
		"::-0:0:0:1::":               {To: api.Addr{Hi: 1}},
		"::-::fffe:ffff:ffff":        {To: api.Addr{Lo: v4 - 1}},
		"::fffe:ffff:ffff-::1:0:0:0": {From: api.Addr{Lo: v4 - 1}, To: api.Addr{Lo: 1 << 48}},
		"::fffe:0:0/96":              {From: api.Addr{Lo: 0xfffe << 32}, To: api.Addr{Lo: v4 - 1}},
	} {
		if got, e := PrintRange(r); got != s || e != api.OK {
			t.Errorf("PrintRange(%x): %s, %d; want %s", r, got, e, s)
		}
	}
}

func TestPrintRangeOfWrongRanges(t *testing.T) {
	for _, r := range []api.Range{
		{From: Of(1)},
		{From: Of(2), To: Of(1)},
		{From: Of4(1), To: Of4(0)},
		{From: Of4(math.MaxUint32), To: Of4(0)},
		{From: api.Addr{Hi: 1}, To: api.Addr{Lo: top}},
		{From: api.Addr{Hi: top, Lo: top}},
		{From: Of4(0), To: Of(1)},                              // empty, and one is an IPv4 address
		{To: Of4(0)},                                           // one is an IPv4 address
		{To: Of4(math.MaxUint32)},                              // which is a prefix, too: ::/80
		{From: api.Addr{Lo: v4 - 1}, To: Of4(0)},               // the last ahead of them, and the first
		{From: Of4(math.MaxUint32), To: api.Addr{Lo: 1 << 48}}, // the last, and the first behind them
		{From: Of4(0), To: api.Addr{Hi: top, Lo: top}},
		{From: Of4(0), To: api.Addr{Hi: 1, Lo: v4}}, // which is none
		{From: api.Addr{Hi: 1, Lo: v4}, To: Of4(7)},
	} {
		if s, e := PrintRange(r); s != "" || e != api.ErrRange {
			t.Errorf("PrintRange(%x): %s, %d; want ErrRange", r, s, e)
		}
	}
}

// TestPrintRangeOfEachPair checks the kind of text by trying all numbers of bits.
func TestPrintRangeOfEachPair(t *testing.T) {
	l := someAddrs(rand.New(rand.NewSource(8)), 30)
	for _, from := range l {
		for _, to := range l {
			r := api.Range{From: from, To: to}
			want, wantE := Print(from)+"-"+Print(to), api.OK
			for bits := range 129 {
				if p, e := Prefix(from, bits); p == r && e == api.OK {
					want = Print(from) + "/" + strconv.Itoa(bits)
				}
			}
			switch {
			case Compare(from, to) > 0 || Is4(from) != Is4(to):
				want, wantE = "", api.ErrRange
			case from == to:
				want = Print(from)
			}
			if got, e := PrintRange(r); got != want || e != wantE {
				t.Fatalf("PrintRange(%x): %s, %d; want %s, %d", r, got, e, want, wantE)
			}
		}
	}
}

// P3.6

func TestParseOfPrintIsTheAddress(t *testing.T) {
	for _, a := range someAddrs(rand.New(rand.NewSource(9)), 5000) {
		if got, e := Parse(Print(a)); got != a || e != api.OK {
			t.Fatalf("Parse of Print of %x: %x, %d", a, got, e)
		}
	}
}

func TestParseRangeOfPrintRangeIsTheRange(t *testing.T) {
	r := rand.New(rand.NewSource(10))
	l := someAddrs(r, 60)
	var ranges []api.Range
	for _, from := range l {
		for _, to := range l {
			ranges = append(ranges, api.Range{From: from, To: to})
		}
		for bits := range 129 {
			rest := ones(bits)
			p, e := Prefix(api.Addr{Hi: from.Hi &^ rest.Hi, Lo: from.Lo &^ rest.Lo}, bits)
			if e == api.OK {
				ranges = append(ranges, p)
			}
		}
	}
	for _, want := range ranges {
		s, e := PrintRange(want)
		if e != api.OK {
			continue
		}
		if got, e := ParseRange(s); got != want || e != api.OK {
			t.Fatalf("ParseRange(%s): %x, %d; want %x", s, got, e, want)
		}
	}
}

// The chapter's examples.

func TestExamples(t *testing.T) {
	for s, a := range map[string]api.Addr{"10.0.0.1": Of4(0x0A000001), "::": Of(0), "::1": Of(1), "2001:db8::1": {Hi: 0x20010db800000000, Lo: 1}, "1::2:0:0:3:0": {Hi: 0x0001000000000002, Lo: 0x0000000000030000}} {
		if got := Print(a); got != s {
			t.Errorf("Print(%x): %s; want %s", a, got, s)
		}
	}
	for _, s := range []string{"10.0.0.01", "1:0:0:0:0:0:0:1", "::FF"} {
		if a, e := Parse(s); a != (api.Addr{}) || e != api.ErrAddr {
			t.Errorf("Parse(%s): %x, %d", s, a, e)
		}
	}
	for s, want := range map[string]api.Errno{"10.0.0.0/8": api.OK, "10.0.0.1/8": api.ErrRange, "10.0.0.9-10.0.0.3": api.ErrRange, "10.0.0.1-::1": api.ErrRange, "::/0": api.OK} {
		if _, e := ParseRange(s); e != want {
			t.Errorf("ParseRange(%s): %d; want %d", s, e, want)
		}
	}
	for s, r := range map[string]api.Range{"10.0.0.0/30": {From: Of4(0x0a000000), To: Of4(0x0a000003)}, "10.0.0.1-10.0.0.4": {From: Of4(0x0a000001), To: Of4(0x0a000004)}} {
		if got, e := PrintRange(r); got != s || e != api.OK {
			t.Errorf("PrintRange(%x): %s, %d; want %s", r, got, e, s)
		}
	}
}
