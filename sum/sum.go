// Package sum is layer 1: the checksum of bytes: see shared/doc/01-sum.md.
package sum

import "escapement/api"

// fold is what comes into a register when a 1 leaves it.
const fold = 0x82f63b78

// A register is a polynomial over bits, its highest bit the one without x,
// and to take in a bit 0 is to multiply it by x. So moving on by n bytes is to
// multiply by x to the power 8 n; these are the powers 0 and 8.
const (
	one  uint32 = 1 << 31
	byX8 uint32 = one >> 8
)

// Sum is the checksum of bytes (CRC-32C).
func Sum(data []byte) uint32 { return More(0, data) }

// More is the sum of a text of sum s with data behind it.
func More(s uint32, data []byte) uint32 {
	t := table()
	r := ^s
	for _, b := range data {
		r = t[byte(r)^b] ^ r>>8
	}
	return ^r
}

// Join is the sum of a text of sum a with one of sum b, of n bytes, behind it.
func Join(a, b uint32, n int) uint32 {
	if n < 0 {
		return 0
	}
	return moved(a, n) ^ b
}

// Patch is the sum of a text of n bytes and sum s when from a place on old stands no more, but now, of as many bytes.
func Patch(s uint32, n, at int, old, now []byte) (uint32, api.Errno) {
	// n and at come first: n - at can not wrap round once neither is below 0.
	if n < 0 || at < 0 || len(old) != len(now) || n-at < len(old) {
		return 0, api.ErrSumPlace
	}
	x := Sum(old) ^ Sum(now)
	return s ^ moved(x, n-at-len(old)), api.OK
}

// table gives what a register becomes that is a byte and takes in eight bits 0.
func table() [256]uint32 {
	var t [256]uint32
	for b := range t {
		r := uint32(b)
		for range 8 {
			r = zeroBit(r)
		}
		t[b] = r
	}
	return t
}

// zeroBit is the register r when it has taken in a bit 0.
func zeroBit(r uint32) uint32 {
	if r&1 == 1 {
		return r>>1 ^ fold
	}
	return r >> 1
}

// moved is x moved on by n bytes. It takes a step for each binary digit of n,
// not for each byte, as n may be as great as an int can be.
func moved(x uint32, n int) uint32 {
	power := byX8
	for ; n > 0; n >>= 1 {
		if n&1 == 1 {
			x = times(x, power)
		}
		power = times(power, power)
	}
	return x
}

// times is the product of two polynomials, as a register.
func times(a, b uint32) uint32 {
	var product uint32
	for i := range 32 {
		if a&(one>>i) != 0 {
			product ^= b
		}
		b = zeroBit(b)
	}
	return product
}
