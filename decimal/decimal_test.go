package decimal

import (
	"strconv"
	"strings"
	"testing"
)

func TestParse(t *testing.T) {
	for s, want := range map[string]int{"0": 0, "1": 1, "9": 9, "10": 10, "100": 100, "65535": 65535, "4294967296": 4294967296, "1000000000": 1000000000, "9999999999": 9999999999} {
		if n, ok := Parse(s); n != want || !ok {
			t.Errorf("Parse(%q): %d, %v", s, n, ok)
		}
	}
}

func TestParseOfWrongTexts(t *testing.T) {
	for _, s := range []string{
		"", " ", "x", "a", "0x1", "1e1", "1_0", "1.0", "1,0", "-", "+", "-1", "+1", "-0", "+0",
		"00", "01", "007", "0000000001", " 1", "1 ", "1\n", "1x", "x1", "é", "١", "१", "1\x00",
		"10000000000", "99999999999", "00000000000", "18446744073709551616", strings.Repeat("9", 1000),
	} {
		if n, ok := Parse(s); n != 0 || ok {
			t.Errorf("Parse(%q): %d, %v", s, n, ok)
		}
	}
}

// TestParseOfEachByte holds each text of one or two bytes against the numbers that have such a text.
func TestParseOfEachByte(t *testing.T) {
	texts := map[string]int{}
	for n := range 100 {
		texts[strconv.Itoa(n)] = n
	}
	for a := range 256 {
		for b := -1; b < 256; b++ {
			s := string([]byte{byte(a)})
			if b >= 0 {
				s += string([]byte{byte(b)})
			}
			want, wantOK := texts[s]
			if n, ok := Parse(s); n != want || ok != wantOK {
				t.Fatalf("Parse(%q): %d, %v", s, n, ok)
			}
		}
	}
}
