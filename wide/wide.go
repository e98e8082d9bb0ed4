// Package wide is layer 1: see shared/doc/01-wide.md.
package wide

import (
	"math/bits"

	"knucklebone/api"
)

const (
	wordBits  = 64
	allBits   = 128
	wordBytes = 8
	allBytes  = 16
	// mostDigits is how many digits 2^128 less 1 has by ten.
	mostDigits = 39
)

// U128 is Hi times 2^64, and Lo.
type U128 struct{ Hi, Lo uint64 }

// Of tells a number.
func Of(n uint64) U128 { return U128{Lo: n} }

// Cmp tells which one is greater.
func Cmp(a, b U128) int {
	if a == b {
		return 0
	}
	if a.Hi < b.Hi || a.Hi == b.Hi && a.Lo < b.Lo {
		return -1
	}
	return 1
}

// Add tells a sum modulo 2^128, and whether it is 2^128 or more.
func Add(a, b U128) (U128, bool) {
	lo, carry := bits.Add64(a.Lo, b.Lo, 0)
	hi, over := bits.Add64(a.Hi, b.Hi, carry)
	return U128{hi, lo}, over != 0
}

// Sub tells a difference modulo 2^128, and whether a is less than b.
func Sub(a, b U128) (U128, bool) {
	lo, borrow := bits.Sub64(a.Lo, b.Lo, 0)
	hi, under := bits.Sub64(a.Hi, b.Hi, borrow)
	return U128{hi, lo}, under != 0
}

// Mul tells a product modulo 2^128.
func Mul(a, b U128) U128 {
	p := Full(a.Lo, b.Lo)
	// Of the crossed products only the low words are left below 2^128, and nothing of that of both Hi.
	p.Hi += a.Hi*b.Lo + a.Lo*b.Hi
	return p
}

// Full tells the product of two numbers of 64 bits.
func Full(a, b uint64) U128 {
	hi, lo := bits.Mul64(a, b)
	return U128{hi, lo}
}

// Left tells a times 2^n modulo 2^128: of n below 0 a itself.
func Left(a U128, n int) U128 {
	switch {
	case n <= 0:
		return a
	case n >= allBits:
		return U128{}
	case n >= wordBits:
		return U128{Hi: a.Lo << (n - wordBits)}
	}
	return U128{a.Hi<<n | a.Lo>>(wordBits-n), a.Lo << n}
}

// Right tells a by 2^n, down: of n below 0 a itself.
func Right(a U128, n int) U128 {
	switch {
	case n <= 0:
		return a
	case n >= allBits:
		return U128{}
	case n >= wordBits:
		return U128{Lo: a.Hi >> (n - wordBits)}
	}
	return U128{a.Hi >> n, a.Lo>>n | a.Hi<<(wordBits-n)}
}

// Len tells how many bits a number has, up to its highest 1.
func Len(a U128) int {
	if a.Hi != 0 {
		return wordBits + bits.Len64(a.Hi)
	}
	return bits.Len64(a.Lo)
}

// Bit tells a bit; 0, where there is none.
func Bit(a U128, i int) int {
	// Right takes what is below 0 as 0, which would tell the lowest bit.
	if i < 0 {
		return 0
	}
	return int(Right(a, i).Lo & 1)
}

// Put tells a number's bytes, the lowest one first.
func Put(a U128) []byte {
	b := make([]byte, allBytes)
	for i := range wordBytes {
		b[i] = byte(a.Lo >> (8 * i))
		b[wordBytes+i] = byte(a.Hi >> (8 * i))
	}
	return b
}

// Take tells the number of bytes.
func Take(b []byte) (U128, api.Errno) {
	if len(b) != allBytes {
		return U128{}, api.ErrForm
	}
	return U128{word(b[wordBytes:]), word(b[:wordBytes])}, api.OK
}

func word(b []byte) uint64 {
	w := uint64(0)
	for i, x := range b {
		w |= uint64(x) << (8 * i)
	}
	return w
}

// Print tells a number by ten.
func Print(a U128) string {
	var digits [mostDigits]byte
	at := mostDigits
	digit := uint64(0)
again:
	a, digit = byTen(a)
	at--
	digits[at] = '0' + byte(digit)
	// The look is behind the digit, so that 0 has one, too.
	if a != (U128{}) {
		goto again
	}
	return string(digits[at:])
}

// byTen tells a by ten, down, and what is left over.
func byTen(a U128) (U128, uint64) {
	hi, rest := a.Hi/10, a.Hi%10
	// The rest is below ten, so the quotient fits one word.
	lo, digit := bits.Div64(rest, a.Lo, 10)
	return U128{hi, lo}, digit
}
