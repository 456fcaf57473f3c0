// Package num is numbers that are held: see the document, chapter 1.
package num

import (
	"strconv"

	"turncock/api"
)

// Hold: see the document, chapter 1.
func Hold(a int) int {
	return min(max(a, 0), api.MaxTime)
}

// Add: see the document, chapter 1.
func Add(a, b int) int {
	a, b = Hold(a), Hold(b)
	// Two times MaxTime is one more than an int takes: the room is asked for ahead of the sum.
	if a > api.MaxTime-b {
		return api.MaxTime
	}
	return a + b
}

// Sub: see the document, chapter 1.
func Sub(a, b int) int {
	return Hold(Hold(a) - Hold(b))
}

// Mul: see the document, chapter 1.
func Mul(a, b int) int {
	a, b = Hold(a), Hold(b)
	// The quotient is cut, so a is beyond it just where the product is beyond MaxTime.
	if b != 0 && a > api.MaxTime/b {
		return api.MaxTime
	}
	return a * b
}

// Div: see the document, chapter 1.
func Div(a, b int) (int, api.Errno) {
	b = Hold(b)
	if b == 0 {
		return 0, api.ErrArg
	}
	return Hold(a) / b, api.OK
}

// Digits: see the document, chapter 1.
func Digits(a int) string {
	return strconv.Itoa(Hold(a))
}

// Parse: see the document, chapter 1.
func Parse(s string) (int, bool) {
	if s == "" || noughtAhead(s) {
		return 0, false
	}
	n := 0
	for _, sign := range s {
		if sign < '0' || sign > '9' {
			return 0, false
		}
		digit := int(sign - '0')
		// Asked ahead of the step, so that the number never leaves what can be held, however long s is.
		if n > (api.MaxTime-digit)/10 {
			return 0, false
		}
		n = n*10 + digit
	}
	return n, true
}

// noughtAhead is apart from the loop, since 0 itself begins with a nought.
func noughtAhead(s string) bool {
	return len(s) > 1 && s[0] == '0'
}
