package lang

import (
	"slices"
	"strings"
	"testing"

	"sallyport/api"
)

// P6.1

func TestName(t *testing.T) {
	for _, s := range []string{"a", "z", "a0", "a9", "a_", "lan", "a_1_b_2", "abcdefghijkl", "z99999999999", "anyx", "an", "any_", "anyany", "zone", "accept", "tcp", "limit", "proxy", "default"} {
		if !Name(s) {
			t.Errorf("Name(%q): false", s)
		}
	}
	for _, s := range []string{"", "any", "0", "0a", "_", "_a", "A", "aB", "Lan", "a-b", "a.b", "a b", " a", "a ", "a\n", "a#", "abcdefghijklm", "é", "aé", "a\x00", "a\xff", "a/", "a:", "a`", "a{", strings.Repeat("a", 1<<20)} {
		if Name(s) {
			t.Errorf("Name(%q): true", s)
		}
	}
}

// TestNameOfEachByte lays each byte at a name's begin, and behind it.
func TestNameOfEachByte(t *testing.T) {
	const letters = "abcdefghijklmnopqrstuvwxyz"
	for n := range 256 {
		b := string([]byte{byte(n)})
		if got, want := Name(b), strings.Contains(letters, b); got != want {
			t.Errorf("Name(%q): %v", b, got)
		}
		if got, want := Name("a"+b+"c"), strings.Contains(letters+"0123456789_", b); got != want {
			t.Errorf("Name(%q): %v", "a"+b+"c", got)
		}
	}
	for n := range 30 {
		if s := strings.Repeat("n", n); Name(s) != (n >= 1 && n <= 12) {
			t.Errorf("Name of %d bytes: %v", n, Name(s))
		}
	}
}

func TestWords(t *testing.T) {
	for s, want := range map[string][]string{
		"":                        nil,
		" ":                       nil,
		"\t \t":                   nil,
		"#":                       nil,
		"# a b":                   nil,
		" \t# a":                  nil,
		"##":                      nil,
		"a":                       {"a"},
		"a b":                     {"a", "b"},
		"a\tb":                    {"a", "b"},
		"  a \t  b\t\tc ":         {"a", "b", "c"},
		"a#b":                     {"a"},
		"a b#c d # e":             {"a", "b"},
		"a #b":                    {"a"},
		"a # \x00\x7f\xff é\n\r":  {"a"}, // a remark may have all bytes
		"!\"$%&'()*+,-./":         {"!\"$%&'()*+,-./"},
		"zone in 10.0.0.1 0":      {"zone", "in", "10.0.0.1", "0"},
		"! ~ A_z:;<=>?@[\\]^`{|}": {"!", "~", "A_z:;<=>?@[\\]^`{|}"},
	} {
		if got, e := Words(s); !slices.Equal(got, want) || e != api.OK {
			t.Errorf("Words(%q): %q, %d", s, got, e)
		}
	}
}

func TestWordsOfEachByte(t *testing.T) {
	for n := range 256 {
		var want []string
		wantE := api.OK
		switch {
		case n == '#':
			want = []string{"a"}
		case n == ' ' || n == '\t':
			want = []string{"a", "b"}
		case n >= 0x21 && n <= 0x7e:
			want = []string{"a" + string(rune(n)) + "b"}
		default:
			wantE = api.ErrToken
		}
		s := "a" + string([]byte{byte(n)}) + "b"
		if got, e := Words(s); !slices.Equal(got, want) || e != wantE {
			t.Errorf("Words(%q): %q, %d; want %q, %d", s, got, e, want, wantE)
		}
	}
}

func TestWordsOfWrongLines(t *testing.T) {
	for _, s := range []string{"\n", "\r", "a\n", "a\r", "a\nb", "\x00", "a b\x7f", "é", "a \x80 # b", "\v", "\f", "\u00a0", "a\u2003b", "a\xff#"} {
		if got, e := Words(s); len(got) > 0 || e != api.ErrToken {
			t.Errorf("Words(%q): %q, %d", s, got, e)
		}
	}
}

func TestWordsShareNothing(t *testing.T) {
	a, _ := Words("a b c")
	b, _ := Words("a b c")
	a[0] = "x"
	_ = append(a[:1], "y")
	if !slices.Equal(b, []string{"a", "b", "c"}) {
		t.Error(b)
	}
}
