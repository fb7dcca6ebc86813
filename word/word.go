// Package word is layer 1: words of 32 digits of base two, and bytes. See shared/doc/01-word.md.
package word

import (
	"math/bits"

	"keyhole/api"
)

// wordSize is how many bytes are a word.
const wordSize = 4

// Is tells whether each of l is a word (P1.1).
func Is(l ...int) bool {
	for _, x := range l {
		if x < 0 || x > api.MaxWord {
			return false
		}
	}
	return true
}

// Add tells the sum of l, as a word (P1.1).
func Add(l ...int) (int, bool) {
	if !Is(l...) {
		return 0, false
	}
	sum := 0
	for _, x := range l {
		// Each sum is cut to a word at once, so that no number of words is too many for an int.
		sum = (sum + x) & api.MaxWord
	}
	return sum, true
}

// Xor tells the word whose digits are those in which just one of a and b is 1 (P1.1).
func Xor(a, b int) (int, bool) {
	if !Is(a, b) {
		return 0, false
	}
	return a ^ b, true
}

// And tells the word whose digits are those in which both a and b are 1 (P1.1).
func And(a, b int) (int, bool) {
	if !Is(a, b) {
		return 0, false
	}
	return a & b, true
}

// Rot tells x with its digits n places higher up, those that fall out at the top coming in below (P1.1).
func Rot(x, n int) (int, bool) {
	if !Is(x) || n < 0 || n > 32 {
		return 0, false
	}
	return int(bits.RotateLeft32(uint32(x), n)), true
}

// Cut tells the words of four bytes each of s (P1.2).
func Cut(s string, high bool) ([]int, bool) {
	if len(s)%wordSize != 0 {
		return nil, false
	}
	below := digitsBelow(high)
	l := make([]int, len(s)/wordSize)
	for i := range len(s) {
		l[i/wordSize] |= int(s[i]) << below(i%wordSize)
	}
	return l, true
}

// Join tells the bytes of the words of l (P1.2).
func Join(l []int, high bool) (string, bool) {
	if !Is(l...) {
		return "", false
	}
	below := digitsBelow(high)
	b := make([]byte, wordSize*len(l))
	for i := range len(b) {
		b[i] = byte(l[i/wordSize] >> below(i%wordSize))
	}
	return string(b), true
}

// digitsBelow gives a function that tells how many of a word's digits stand below those of its byte i, 0 to 3.
// That is all in which the two orders of bytes differ, so Cut and Join are each written once.
func digitsBelow(high bool) func(i int) uint {
	return func(i int) uint {
		if high {
			i = wordSize - 1 - i
		}
		return uint(8 * i)
	}
}
