// Package decimal reads numbers in texts, as the document's rule R6 says; all layers read them so.
package decimal

import "strconv"

const maxDigits = 10

// Parse answers the number whose text is s; false, if s is none.
func Parse(s string) (int, bool) {
	if len(s) > maxDigits {
		return 0, false
	}
	n, err := strconv.Atoi(s)
	// A number has one text, but Atoi takes signs, and noughts ahead, too.
	if err != nil || n < 0 || strconv.Itoa(n) != s {
		return 0, false
	}
	return n, true
}
