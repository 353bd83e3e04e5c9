// Package bits is layer 1: see shared/doc/01-bits.md.
package bits

import "lapwing/api"

const octetBits = 8

// Of: the bits of octets.
func Of(s string) string {
	b := make([]byte, 0, len(s)*octetBits)
	for i := range len(s) {
		for k := range octetBits {
			b = append(b, '0'+s[i]>>k&1)
		}
	}
	return string(b)
}

// Octets: the octets of bits.
func Octets(b string) (string, api.Errno) {
	if !Good(b) {
		return "", api.ErrForm
	}
	if len(b)%octetBits != 0 {
		return "", api.ErrShort
	}
	s := make([]byte, len(b)/octetBits)
	for i := range s {
		for k := range octetBits {
			s[i] |= (b[i*octetBits+k] - '0') << k
		}
	}
	return string(s), api.OK
}

// Good: are these bits?
func Good(b string) bool {
	for i := range len(b) {
		if !isBit(b[i]) {
			return false
		}
	}
	return true
}

// Flip: some bits turned.
func Flip(b string, at ...int) string {
	turned := []byte(b)
	for _, place := range at {
		if place >= 0 && place < len(turned) && isBit(turned[place]) {
			turned[place] ^= 1 // '0' and '1' differ in their lowest bit alone
		}
	}
	return string(turned)
}

// Field: a number out of an octet's bits.
func Field(octet byte, low, count int) int {
	if low < 0 || low >= octetBits || count < 1 {
		return 0
	}
	// Cut to what is there ahead of any sum or shift: count may be the greatest int.
	count = min(count, octetBits-low)
	return int(octet>>low) & (1<<count - 1)
}

// Pack: an octet of numbers, one above the other.
func Pack(fields ...[2]int) (byte, api.Errno) {
	// All fields are looked at first: a bad one counts ahead of widths that are too many, wherever it stands.
	for _, f := range fields {
		if !fits(f[0], f[1]) {
			return 0, api.ErrArg
		}
	}
	octet, low := 0, 0
	for _, f := range fields {
		width, number := f[0], f[1]
		if width > octetBits-low {
			return 0, api.ErrLong
		}
		octet |= number << low
		low += width
	}
	return byte(octet), api.OK
}

func isBit(c byte) bool { return c == '0' || c == '1' }

func fits(width, number int) bool {
	return width >= 1 && width <= octetBits && number >= 0 && number < 1<<width
}
