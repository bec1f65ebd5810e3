// Package tick is layer 1: numbers of ticks, and of bytes, that end at 0 and at api.MaxTick.
package tick

import (
	"math/bits"
	"strconv"

	"chicane/api"
)

// Right tells whether n is one of the numbers from 0 to api.MaxTick.
func Right(n int) bool { return n == nearest(n) }

// Add is a + b, or api.MaxTick, if that is more.
func Add(a, b int) int { return nearest(nearest(a) + nearest(b)) }

// Sub is a - b, or 0, if that is less.
func Sub(a, b int) int { return nearest(nearest(a) - nearest(b)) }

// Mul is a times b, or api.MaxTick, if that is more.
func Mul(a, b int) int { return Share(a, b, 1) }

// Up is a through b, rounded up. Through 0 it is api.MaxTick, but 0 of 0.
func Up(a, b int) int {
	a, b = nearest(a), nearest(b)
	if a == 0 {
		return 0
	}
	if b == 0 {
		return api.MaxTick
	}
	return (a + b - 1) / b
}

// Share is a times b through c, rounded down, or api.MaxTick, if that is more. Through 0 it is api.MaxTick, but 0, if a or b is 0.
func Share(a, b, c int) int {
	a, b, c = nearest(a), nearest(b), nearest(c)
	if a == 0 || b == 0 {
		return 0
	}
	// The product may have 80 bits, so it is kept in two words.
	high, low := bits.Mul64(uint64(a), uint64(b))
	if high >= uint64(c) { // c is 0, or what comes of it has no room in one word: Div64 takes neither
		return api.MaxTick
	}
	share, _ := bits.Div64(high, low, uint64(c))
	return int(min(share, api.MaxTick))
}

// Text is the decimal digits of n.
func Text(n int) string { return strconv.Itoa(nearest(n)) }

// Parse is the number whose Text s is.
func Parse(s string) (int, api.Errno) {
	if s == "" {
		return 0, api.ErrTickForm
	}
	n := 0
	for i, digit := range s {
		noughtAhead := i > 0 && n == 0
		if digit < '0' || digit > '9' || noughtAhead {
			return 0, api.ErrTickForm
		}
		n = 10*n + int(digit-'0')
		if !Right(n) { // asked at each digit, so that a long text can't wrap n round
			return 0, api.ErrTickForm
		}
	}
	return n, api.OK
}

// Least is the least of l, if there is one.
func Least(l ...int) (int, bool) {
	if len(l) == 0 {
		return 0, false
	}
	least := api.MaxTick
	for _, n := range l {
		least = min(least, nearest(n))
	}
	return least, true
}

// nearest is the right number that all calls take n as.
func nearest(n int) int { return min(max(n, 0), api.MaxTick) }
