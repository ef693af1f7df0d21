// Package value computes with unsigned numbers of up to 128 bits and converts them from and to canonical byte strings (chapter 1).
package value

import (
	"math/bits"

	"matchguard/api"
)

const (
	wordBits = api.MaxBits / 2
	byteBits = 8
	size     = api.MaxBits / byteBits // bytes of the longest canonical byte string
)

// Of returns the value n.
func Of(n uint64) api.Value {
	return api.Value{Lo: n}
}

// Ones returns 2^bits - 1.
func Ones(bits int) api.Value {
	all := api.Value{Hi: ^uint64(0), Lo: ^uint64(0)}
	return Right(all, api.MaxBits-clamp(bits, api.MaxBits))
}

// Leading returns Ones(bits) - Ones(bits - n): the value of that many bits whose n highest bits are 1 (n counts as 0 if it is less, and as bits if it is greater).
func Leading(bits, n int) api.Value {
	// Both are brought into their ranges first: bits - n could overflow otherwise.
	bits = clamp(bits, api.MaxBits)
	n = clamp(n, bits)
	return Xor(Ones(bits), Ones(bits-n))
}

// Compare returns -1 if a is less than b, 0 if they are equal, and 1 if a is greater.
func Compare(a, b api.Value) int {
	if a == b {
		return 0
	}
	if a.Hi < b.Hi || a.Hi == b.Hi && a.Lo < b.Lo {
		return -1
	}
	return 1
}

// And combines a and b bit by bit.
func And(a, b api.Value) api.Value {
	return api.Value{Hi: a.Hi & b.Hi, Lo: a.Lo & b.Lo}
}

// Or combines a and b bit by bit.
func Or(a, b api.Value) api.Value {
	return api.Value{Hi: a.Hi | b.Hi, Lo: a.Lo | b.Lo}
}

// Xor combines a and b bit by bit.
func Xor(a, b api.Value) api.Value {
	return api.Value{Hi: a.Hi ^ b.Hi, Lo: a.Lo ^ b.Lo}
}

// Not returns Ones(bits) without the bits of a.
func Not(a api.Value, bits int) api.Value {
	ones := Ones(bits)
	return api.Value{Hi: ones.Hi &^ a.Hi, Lo: ones.Lo &^ a.Lo}
}

// Add returns a + b modulo 2^bits.
func Add(a, b api.Value, bits int) api.Value {
	return And(sum(a, b), Ones(bits))
}

// Sub returns a - b modulo 2^bits.
func Sub(a, b api.Value, bits int) api.Value {
	return And(difference(a, b), Ones(bits))
}

// Left returns a * 2^n modulo 2^128; a if n is 0 or less.
func Left(a api.Value, n int) api.Value {
	if n <= 0 {
		return a
	}
	count := uint(n)
	if count >= wordBits {
		// A shift by the bits of a word or more gives 0, so that no count is too great.
		return api.Value{Hi: a.Lo << (count - wordBits)}
	}
	return api.Value{Hi: a.Hi<<count | a.Lo>>(wordBits-count), Lo: a.Lo << count}
}

// Right returns a / 2^n, rounded down; a if n is 0 or less.
func Right(a api.Value, n int) api.Value {
	if n <= 0 {
		return a
	}
	count := uint(n)
	if count >= wordBits {
		return api.Value{Lo: a.Hi >> (count - wordBits)}
	}
	return api.Value{Hi: a.Hi >> count, Lo: a.Lo>>count | a.Hi<<(wordBits-count)}
}

// Bit reports whether bit i of a is 1; it is false if i is not from 0 to 127.
func Bit(a api.Value, i int) bool {
	// Right would take a negative i for 0.
	return i >= 0 && Right(a, i).Lo&1 == 1
}

// Len returns the least number of bits n for which a is less than 2^n.
func Len(a api.Value) int {
	if a.Hi != 0 {
		return wordBits + bits.Len64(a.Hi)
	}
	return bits.Len64(a.Lo)
}

// Fits reports whether Len(a) is at most bits (here without the rule for numbers of bits).
func Fits(a api.Value, bits int) bool {
	return Len(a) <= bits
}

// Bytes returns the canonical byte string of a: the shortest one, the most significant byte first, but at least one byte.
func Bytes(a api.Value) []byte {
	full := fullBytes(a)
	n := max(1, (Len(a)+byteBits-1)/byteBits)
	return append([]byte(nil), full[size-n:]...)
}

// Parse returns the value whose canonical byte string is b. Errors: 1. ErrShort if b is empty. 2. ErrLimit if b has more than 16 bytes. 3. ErrValue if b has more than one byte and the first one is 0.
func Parse(b []byte) (api.Value, api.Errno) {
	switch {
	case len(b) == 0:
		return api.Value{}, api.ErrShort
	case len(b) > size:
		return api.Value{}, api.ErrLimit
	case len(b) > 1 && b[0] == 0:
		return api.Value{}, api.ErrValue
	}
	var a api.Value
	for _, x := range b {
		a = Or(Left(a, byteBits), Of(uint64(x)))
	}
	return a, api.OK
}

// clamp returns the number from 0 to most that is nearest to n.
func clamp(n, most int) int {
	return min(max(n, 0), most)
}

// sum returns a + b modulo 2^128.
func sum(a, b api.Value) api.Value {
	lo, carry := bits.Add64(a.Lo, b.Lo, 0)
	hi, _ := bits.Add64(a.Hi, b.Hi, carry)
	return api.Value{Hi: hi, Lo: lo}
}

// difference returns a - b modulo 2^128.
func difference(a, b api.Value) api.Value {
	lo, borrow := bits.Sub64(a.Lo, b.Lo, 0)
	hi, _ := bits.Sub64(a.Hi, b.Hi, borrow)
	return api.Value{Hi: hi, Lo: lo}
}

// fullBytes returns all the bytes of a, the most significant one first.
func fullBytes(a api.Value) [size]byte {
	var full [size]byte
	for i := range full {
		full[i] = byte(Right(a, byteBits*(size-1-i)).Lo)
	}
	return full
}
