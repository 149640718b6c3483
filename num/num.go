// Package num is layer 1: numbers as digits: see shared/doc/01-num.md.
package num

import "strconv"

// Text is a number as digits, Parse takes it.
func Text(n int) string { return strconv.Itoa(n) }

// strconv also takes +5, 007 and -0, so what was taken is told again: the one text of a number is taken alone.
func Parse(s string) (int, bool) {
	n, err := strconv.Atoi(s)
	if err != nil || Text(n) != s {
		return 0, false
	}
	return n, true
}

// Add adds, and tells what does not fit.
func Add(a, b int) (int, bool) {
	sum := a + b
	// A sum that went round lies on the wrong side of a.
	if b > 0 && sum < a || b < 0 && sum > a {
		return 0, false
	}
	return sum, true
}

// Lower has small letters, Word tells whether a text is one word.
func Lower(s string) string {
	b := []byte(s)
	for i, c := range b {
		if c >= 'A' && c <= 'Z' {
			b[i] = c + 'a' - 'A'
		}
	}
	return string(b)
}

func Word(s string) bool {
	for i := 0; i < len(s); i++ {
		if s[i] < 33 || s[i] > 126 {
			return false
		}
	}
	return s != ""
}

// Part is from which place on, and up to which one, two texts tell.
func Part(many int, a, b string) (int, int, bool) {
	first, aOK := Parse(a)
	last, bOK := Parse(b)
	if !aOK || !bOK {
		return 0, 0, false
	}
	// Without places nothing is counted from the end: it could go round below a many that is below 0.
	if many <= 0 {
		return 0, 0, true
	}
	from, to := bounds(many, first, last)
	return from, to, true
}

// bounds asks for a many above 0. The last place is cut ahead of adding 1, which could go round otherwise.
func bounds(many, first, last int) (int, int) {
	first, last = place(many, first), place(many, last)
	if first < 0 {
		first = 0
	}
	if last >= many {
		last = many - 1
	}
	if first > last {
		return 0, 0
	}
	return first, last + 1
}

// place counts from the end, if n is below 0; it is below 0 yet, if there is no such place.
func place(many, n int) int {
	if n < 0 {
		return many + n
	}
	return n
}
