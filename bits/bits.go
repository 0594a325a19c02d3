// Package bits: words: signs, carries, parity: see doc/01-bits.md.
package bits

// Sign8 tells x's lowest eight bits, the highest of them repeated upwards.
func Sign8(x uint32) uint32 { return uint32(int8(x)) }

// Sign12 tells x's lowest twelve bits, the highest of them repeated upwards.
func Sign12(x uint32) uint32 { return uint32(Signed(x, 12)) }

// Signed tells x's lowest bits as a number with a sign; bits is held from 1 to 32.
func Signed(x uint32, bits int) int32 {
	above := 32 - min(max(bits, 1), 32)
	return int32(x<<above) >> above
}

// Field tells so many bits of x from the place at on; bits is held from 0 to 32.
// Bits beyond 31 and of places below 0 are 0.
func Field(x uint32, at, bits int) uint32 {
	return moved(x, at) & lowest(min(max(bits, 0), 32))
}

// moved tells x with the place at moved to the place 0.
func moved(x uint32, at int) uint32 {
	if at >= 0 {
		return x >> at
	}
	// Held ahead of the turn of its sign: the least int has no opposite.
	return x << -max(at, -32)
}

// lowest tells a word whose lowest n bits (n from 0 to 32) are 1.
func lowest(n int) uint32 { return uint32(uint64(1)<<n - 1) }

// Parity tells whether x's lowest eight bits have an even number of ones.
func Parity(x uint32) bool {
	x ^= x >> 4
	x ^= x >> 2
	x ^= x >> 1
	return x&1 == 0
}

// AddC tells a + b, and 1 more with c: the lowest 32 bits, whether the sum goes
// beyond them, and whether it goes beyond numbers with a sign.
func AddC(a, b uint32, c bool) (uint32, bool, bool) {
	more := one(c)
	return beyond(int64(a)+int64(b)+more, int64(int32(a))+int64(int32(b))+more)
}

// SubC tells a - b, and 1 less with c: the lowest 32 bits, whether the difference
// is below 0, and whether it goes beyond numbers with a sign.
func SubC(a, b uint32, c bool) (uint32, bool, bool) {
	less := one(c)
	return beyond(int64(a)-int64(b)-less, int64(int32(a))-int64(int32(b))-less)
}

// one tells 1 with c, else 0.
func one(c bool) int64 {
	if c {
		return 1
	}
	return 0
}

// beyond tells the lowest 32 bits of a result, whether it goes beyond 32 bits as
// reckoned without signs (plain), and as reckoned with them (signed).
func beyond(plain, signed int64) (uint32, bool, bool) {
	return uint32(plain), plain != int64(uint32(plain)), signed != int64(int32(signed))
}

// MulU tells the lowest and the highest 32 bits of the product of numbers without a sign.
func MulU(a, b uint32) (uint32, uint32) { return halves(uint64(a) * uint64(b)) }

// MulS tells the lowest and the highest 32 bits of the product of numbers with a sign.
func MulS(a, b uint32) (uint32, uint32) {
	return halves(uint64(int64(int32(a)) * int64(int32(b))))
}

// halves tells the lowest and the highest 32 bits of x.
func halves(x uint64) (uint32, uint32) { return uint32(x), uint32(x >> 32) }

// Word tells the first four bytes of b as a word, the lowest first; bytes that
// aren't there are 0.
func Word(b []byte) uint32 {
	var w [4]byte
	copy(w[:], b) // takes what is there, not the spare room behind it
	return uint32(w[0]) | uint32(w[1])<<8 | uint32(w[2])<<16 | uint32(w[3])<<24
}

// Bytes tells x's four bytes, the lowest first.
func Bytes(x uint32) [4]byte {
	return [4]byte{byte(x), byte(x >> 8), byte(x >> 16), byte(x >> 24)}
}
