package lang

import (
	"math/rand"
	"reflect"
	"regexp"
	"strings"
	"testing"

	"sallyport/addr"
	"sallyport/api"
)

// What the chapter says of lines, said once more: each command as a list of what stands behind its word.
//
//	w  a name   a  an address   n  a number   r  a range   p  a route's range
//	P  PROTO    o  PORTS, of tcp and udp, perhaps          d  two numbers with a -
//	A  a rule's action          D  the default's action
//	+  as many more as there are of what stands ahead of it
//	S  perhaps source           N  perhaps a number
//	L  perhaps limit and a name X  perhaps proxy
var forms = map[string]string{
	"zone": "wan+", "object": "wr+", "service": "wPo", "limit": "wnnS", "route": "pn",
	"snat": "wwad", "dnat": "awaN", "static": "waa", "rule": "wwwwwALX", "default": "D",
}

var (
	lineText   = regexp.MustCompile(`^[\t !-~]*$`)
	numberText = regexp.MustCompile(`^(0|[1-9][0-9]{0,9})$`)
	pairText   = regexp.MustCompile(`^(0|[1-9][0-9]{0,9})-(0|[1-9][0-9]{0,9})$`)
	protoText  = regexp.MustCompile(`^(tcp|udp|icmp|icmp6|all)$`)
	portsText  = regexp.MustCompile(`^(tcp|udp)$`)
	actionText = regexp.MustCompile(`^(accept|drop|reject)$`)
	policyText = regexp.MustCompile(`^(accept|drop)$`)
)

// wrongWord answers what is wrong with a word that must stand there.
func wrongWord(form byte, w string) api.Errno {
	of := func(ok bool, e api.Errno) api.Errno {
		if ok {
			return api.OK
		}
		return e
	}
	number := numberText.MatchString(w)
	switch form {
	case 'a':
		_, e := addr.Parse(w)
		return of(e == api.OK, api.ErrAddr)
	case 'n':
		return of(number, api.ErrNumber)
	case 'd':
		return of(pairText.MatchString(w), api.ErrNumber)
	case 'o':
		return of(number || pairText.MatchString(w), api.ErrNumber)
	case 'P':
		return of(number || protoText.MatchString(w), api.ErrNumber)
	case 'A':
		return of(actionText.MatchString(w), api.ErrToken)
	case 'D':
		return of(policyText.MatchString(w), api.ErrToken)
	case 'r', 'p':
		if form == 'p' && strings.Contains(w, "-") && !strings.Contains(w, "/") {
			return api.ErrRange
		}
		_, e := addr.ParseRange(w)
		return e
	}
	return api.OK
}

// modelLine answers what is wrong with a line.
func modelLine(line string, defaults int) api.Errno {
	line = strings.SplitN(line, "#", 2)[0]
	if !lineText.MatchString(line) {
		return api.ErrToken
	}
	l := strings.Fields(line)
	if len(l) == 0 {
		return api.OK
	}
	form, ok := forms[l[0]]
	if !ok {
		return api.ErrToken
	}
	if l[0] == "default" && defaults > 0 {
		return api.ErrTwice
	}
	at, ports := 1, false
	for i := 0; i < len(form); i++ {
		here := form[i]
		left := len(l) - at
		switch {
		case here == '+' && left > 0:
			here, i = form[i-1], i-1
		case here == 'N' && left > 0:
			here = 'n'
		case here == 'L' && left > 0 && l[at] == "limit":
			here = 'w'
			at++
		case here == 'S' && left > 0 && l[at] == "source", here == 'X' && left > 0 && l[at] == "proxy":
			here = 'w'
		case here == 'o' && left > 0 && ports:
		case strings.IndexByte("+NLSXo", here) >= 0:
			continue
		}
		if at == len(l) {
			return api.ErrToken
		}
		if e := wrongWord(here, l[at]); e != api.OK {
			return e
		}
		ports = here == 'P' && portsText.MatchString(l[at])
		at++
	}
	if at < len(l) {
		return api.ErrToken
	}
	return api.OK
}

// someWords are such as may stand somewhere, and some that may not.
var someWords = []string{
	"zone", "object", "service", "limit", "route", "snat", "dnat", "static", "rule", "default", "source", "proxy", "accept", "drop", "reject", "any",
	"tcp", "udp", "icmp", "icmp6", "all", "a", "lan", "web", "in_1", "In", "0", "1", "6", "17", "47", "65535", "65536", "4294967296", "9999999999", "10000000000", "007", "-1", "x",
	"80-81", "81-80", "0-65535", "1-", "-", "1-2-3", "1-x", "10.0.0.1", "1.2.3.4", "10.0.0", "::1", "2001:db8::", "::FF", "10.0.0.0/8", "10.0.0.1/8", "10.0.0.1/32", "::/0", "::/80", "2001:db8::/32", "/8", "10.0.0.0/x",
	"10.0.0.1-10.0.0.4", "10.0.0.4-10.0.0.1", "::1-10.0.0.1", "x-y", "x-y/8", "#", "a#b", "é", "\x00", "~",
}

// rightWords are those that may stand for each letter of the forms.
func rightWords() map[rune][]string {
	right := map[rune][]string{}
	for _, form := range "wanrpPodAD" {
		for _, w := range someWords {
			if !strings.Contains(w, "#") && lineText.MatchString(w) && wrongWord(byte(form), w) == api.OK {
				right[form] = append(right[form], w)
			}
		}
	}
	right['S'], right['X'], right['N'] = []string{"source"}, []string{"proxy"}, right['n']
	return right
}

// liner makes lines that are right, or nearly so.
type liner struct {
	maker
	right map[rune][]string
}

func newLiner(seed int64) liner { return liner{maker{rand.New(rand.NewSource(seed))}, rightWords()} }

// word answers one that may stand there; now and then any one.
func (l liner) word(form rune) string {
	if l.Intn(40) == 0 {
		return l.pick(someWords)
	}
	return l.pick(l.right[form])
}

func (l liner) line() string {
	head := l.pick(someWords[:len(forms)])
	words := []string{head}
	ahead := ' '
	for _, form := range forms[head] {
		switch {
		case !strings.ContainsRune("+NLSXo", form):
			words = append(words, l.word(form))
		case l.Intn(2) == 0:
		case form == 'L':
			words = append(words, "limit", l.word('w'))
		case form == '+':
			words = append(words, l.word(ahead), l.word(ahead))
		default:
			words = append(words, l.word(form))
		}
		ahead = form
	}
	at := l.Intn(len(words) + 1)
	switch l.Intn(12) {
	case 0:
		words = append(words, l.pick(someWords))
	case 1:
		words = words[:at]
	case 2:
		words = append(words[:at:at], append([]string{l.pick(someWords)}, words[at:]...)...)
	}
	return strings.Join(words, l.pick([]string{" ", "\t", "  ", " \t"}))
}

func TestParseIsTheModel(t *testing.T) {
	m := newLiner(3)
	told := map[api.Errno]int{}
	right := map[string]int{}
	for range 200000 {
		s := m.line()
		want := modelLine(s, 0)
		_, n, e := Parse(s)
		told[want]++
		if want != api.OK && (n != 1 || e != want) || want == api.OK && n != 0 {
			t.Fatalf("Parse(%q): %d, %d; want %d", s, n, e, want)
		}
		if want == api.OK && len(strings.Fields(s)) > 0 {
			right[strings.Fields(s)[0]]++
		}
	}
	for _, e := range []api.Errno{api.OK, api.ErrToken, api.ErrNumber, api.ErrAddr, api.ErrRange} {
		if told[e] < 300 {
			t.Error("too few lines are so:", e, told[e])
		}
	}
	for w := range forms {
		if right[w] < 300 {
			t.Error("too few lines are right:", w, right[w])
		}
	}
}

// TestParseOfManyLinesIsTheModel looks for the first line that is wrong.
func TestParseOfManyLinesIsTheModel(t *testing.T) {
	m := newLiner(4)
	twice := 0
	for range 20000 {
		var l []string
		wantN, want, defaults := 0, api.OK, 0
		for i := range m.Intn(8) {
			s := m.line()
			l = append(l, s)
			if wantN == 0 {
				if want = modelLine(s, defaults); want != api.OK {
					wantN = i + 1
				}
				if words := strings.Fields(s); len(words) > 0 && words[0] == "default" {
					defaults++
				}
			}
		}
		s := strings.Join(l, "\n") + "\n"[m.Intn(2):]
		_, n, e := Parse(s)
		if n != wantN || n > 0 && e != want {
			t.Fatalf("Parse(%q): %d, %d; want %d, %d", s, n, e, wantN, want)
		}
		if want == api.ErrTwice {
			twice++
		}
	}
	if twice < 100 {
		t.Error("too few lines say the default once more:", twice)
	}
}

// TestPrintStaysTheSame prints what texts say, out of their one form, and reads it again (P6.5).
func TestPrintStaysTheSame(t *testing.T) {
	m := newLiner(5)
	right := 0
	for range 60000 {
		s := "zone lan ::1 0 1\nobject a ::1\nobject lan ::1 10.0.0.0/8\nservice web tcp 80\nservice a all\nlimit a 1 1 source\n"
		for range m.Intn(4) {
			s += m.line() + "\n"
		}
		c, _, e := Parse(s)
		if e != api.OK {
			continue
		}
		right++
		p, e := Print(c)
		if e != api.OK {
			t.Fatalf("%q: %d", s, e)
		}
		again, n, e := Parse(p)
		if n != 0 || e != api.OK || !reflect.DeepEqual(again, c) {
			t.Fatalf("%q: %d, %d, %+v; want %+v", p, n, e, again, c)
		}
		if q, e := Print(again); q != p || e != api.OK {
			t.Fatalf("%q: %q, %d", p, q, e)
		}
	}
	if right < 1000 {
		t.Error("too few texts are right:", right)
	}
}

// TestParseOfWhatever reads bytes without an order, and texts with some bytes spoilt: it ends, and what is right can be printed (R1).
func TestParseOfWhatever(t *testing.T) {
	m := maker{rand.New(rand.NewSource(6))}
	for range 20000 {
		b := []byte(fullText)
		for range m.Intn(4) {
			i := m.Intn(len(b))
			switch m.Intn(3) {
			case 0:
				b[i] = byte(m.Intn(256))
			case 1:
				b = append(b[:i], b[i+1:]...)
			default:
				b[i] = "\n #-/.:0a"[m.Intn(9)]
			}
		}
		if m.Intn(4) == 0 {
			b = b[:m.Intn(300)]
			m.Read(b)
		}
		c, n, e := Parse(string(b))
		if e != api.OK && !reflect.DeepEqual(c, api.Config{}) || e == api.OK && n != 0 {
			t.Fatalf("%q: %+v, %d, %d", b, c, n, e)
		}
		if _, printed := Print(c); e == api.OK && printed != api.OK {
			t.Fatalf("%q: %d", b, printed)
		}
	}
}
