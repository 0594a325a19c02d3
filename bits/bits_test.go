package bits

import (
	"math"
	"math/big"
	"slices"
	"testing"
)

// edges: words at which signs and carries turn.
var edges = []uint32{
	0, 1, 2, 0x7f, 0x80, 0xff, 0x100, 0x7ff, 0x800, 0xfff, 0x1000, 0xffff, 0x10000,
	0x12345678, 0x55555555, 0x7ffffffe, 0x7fffffff, 0x80000000, 0x80000001,
	0xaaaaaaaa, 0xfedcba98, 0xfffffffe, 0xffffffff,
}

// bitOf tells x's bit at the place k: 0 of a place that isn't there.
func bitOf(x uint32, k int) uint32 {
	if k < 0 || k > 31 {
		return 0
	}
	return x >> k & 1
}

// repeated tells x's lowest n bits (n from 1 to 32), the highest repeated upwards, bit by bit.
func repeated(x uint32, n int) uint32 {
	var w uint32
	for k := range 32 {
		w |= bitOf(x, min(k, n-1)) << k
	}
	return w
}

func TestSignP1_1(t *testing.T) {
	for _, c := range []struct{ x, eight, twelve uint32 }{
		{0, 0, 0},
		{0x7f, 0x7f, 0x7f},
		{0x80, 0xffffff80, 0x80},
		{0xff, 0xffffffff, 0xff},
		{0x7ff, 0xffffffff, 0x7ff},
		{0x800, 0, 0xfffff800},
		{0xfff, 0xffffffff, 0xffffffff},
		{0xfffff000, 0, 0},
		{0xffffff00, 0, 0xffffff00},
		{0x12345678, 0x78, 0x678},
		{0xffffffff, 0xffffffff, 0xffffffff},
	} {
		if got := Sign8(c.x); got != c.eight {
			t.Errorf("Sign8(%#x): %#x, want %#x", c.x, got, c.eight)
		}
		if got := Sign12(c.x); got != c.twelve {
			t.Errorf("Sign12(%#x): %#x, want %#x", c.x, got, c.twelve)
		}
	}
	for low := range uint32(1 << 13) {
		for _, high := range []uint32{0, 0x55554000, 0xffffe000} {
			x := low | high
			if got := Sign8(x); got != repeated(x, 8) {
				t.Fatalf("Sign8(%#x): %#x", x, got)
			}
			if got := Sign12(x); got != repeated(x, 12) {
				t.Fatalf("Sign12(%#x): %#x", x, got)
			}
		}
	}
}

func TestSignedP1_1(t *testing.T) {
	for _, c := range []struct {
		x    uint32
		bits int
		want int32
	}{
		{5, 3, -3},
		{5, 4, 5},
		{0xfffffff3, 4, 3},
		{0xfffffffb, 4, -5},
		{0x800, 12, -2048},
		{0x7ff, 12, 2047},
		{0x80000000, 31, 0},
		{0x40000000, 31, -1 << 30},
		{0x7fffffff, 32, math.MaxInt32},
		{0x80000000, 32, math.MinInt32},
		{1, 1, -1},
		{2, 1, 0},
	} {
		if got := Signed(c.x, c.bits); got != c.want {
			t.Errorf("Signed(%#x, %d): %d, want %d", c.x, c.bits, got, c.want)
		}
	}
	for _, x := range edges {
		for n := 1; n <= 32; n++ {
			if got := Signed(x, n); uint32(got) != repeated(x, n) {
				t.Errorf("Signed(%#x, %d): %#x", x, n, uint32(got))
			}
		}
	}
}

func TestSignedIsHeldP1_1(t *testing.T) {
	for _, x := range edges {
		for _, n := range []int{0, -1, -31, -32, -33, -64, math.MinInt32, math.MinInt + 1, math.MinInt} {
			if got, want := Signed(x, n), Signed(x, 1); got != want {
				t.Errorf("Signed(%#x, %d): %d, want %d", x, n, got, want)
			}
		}
		for _, n := range []int{33, 34, 63, 64, 65, math.MaxInt32, math.MaxInt - 1, math.MaxInt} {
			if got := Signed(x, n); got != int32(x) {
				t.Errorf("Signed(%#x, %d): %d, want %d", x, n, got, int32(x))
			}
		}
	}
}

func TestFieldP1_1(t *testing.T) {
	for _, c := range []struct {
		x        uint32
		at, bits int
		want     uint32
	}{
		{0x12345678, 0, 32, 0x12345678},
		{0x12345678, 8, 8, 0x56},
		{0x12345678, 12, 20, 0x12345},
		{0x12345678, 4, 0, 0},
		{0x12345678, 24, 32, 0x12}, // bits beyond 31
		{0xffffffff, 31, 1, 1},
		{0xffffffff, 31, 32, 1},
		{0xffffffff, 32, 32, 0},
		{0xffffffff, -4, 32, 0xfffffff0}, // bits of places below 0
		{0xffffffff, -4, 8, 0xf0},
		{0xffffffff, -4, 4, 0},
		{0x12345678, -4, 12, 0x780},
		{0xffffffff, -31, 32, 0x80000000},
		{0xffffffff, -32, 32, 0},
	} {
		if got := Field(c.x, c.at, c.bits); got != c.want {
			t.Errorf("Field(%#x, %d, %d): %#x, want %#x", c.x, c.at, c.bits, got, c.want)
		}
	}
	for _, x := range edges {
		for at := -70; at <= 70; at++ {
			for n := range 33 {
				var want uint32
				for k := range n {
					want |= bitOf(x, at+k) << k
				}
				if got := Field(x, at, n); got != want {
					t.Fatalf("Field(%#x, %d, %d): %#x, want %#x", x, at, n, got, want)
				}
			}
		}
	}
}

func TestFieldIsHeldP1_1(t *testing.T) {
	far := []int{math.MinInt, math.MinInt + 1, math.MinInt32, -1 << 16, -64, -33, 33, 64, 1 << 16, math.MaxInt32, math.MaxInt - 1, math.MaxInt}
	for _, x := range edges {
		for _, at := range []int{-40, -32, -31, -1, 0, 1, 31, 32, 40} {
			for _, n := range far {
				want := uint32(0)
				if n > 0 {
					want = Field(x, at, 32)
				}
				if got := Field(x, at, n); got != want {
					t.Errorf("Field(%#x, %d, %d): %#x, want %#x", x, at, n, got, want)
				}
			}
		}
		for _, at := range far {
			for _, n := range []int{math.MinInt, -1, 0, 1, 31, 32, 33, math.MaxInt} {
				if got := Field(x, at, n); got != 0 {
					t.Errorf("Field(%#x, %d, %d): %#x, want 0", x, at, n, got)
				}
			}
		}
	}
}

func TestParityP1_1(t *testing.T) {
	for low := range uint32(256) {
		even := true
		for k := range 8 {
			if bitOf(low, k) == 1 {
				even = !even
			}
		}
		for _, high := range []uint32{0, 0x100, 0x200, 0x1000, 0x80000000, 0x12345600, 0xfffffe00, 0xffffff00} {
			if got := Parity(low | high); got != even {
				t.Errorf("Parity(%#x): %v", low|high, got)
			}
		}
	}
}

// carried: what AddC or SubC is to tell.
type carried struct {
	a, b        uint32
	c           bool
	word        uint32
	plain, sign bool
}

func TestAddCP1_2(t *testing.T) {
	for _, c := range []carried{
		{0, 0, false, 0, false, false},
		{0, 0, true, 1, false, false},
		{1, 2, false, 3, false, false},
		{0xffffffff, 1, false, 0, true, false},
		{0xffffffff, 0, true, 0, true, false},
		{0xffffffff, 0xffffffff, true, 0xffffffff, true, false},
		{0xffffffff, 0xffffffff, false, 0xfffffffe, true, false},
		{0x7fffffff, 1, false, 0x80000000, false, true},
		{0x7fffffff, 0, true, 0x80000000, false, true},
		{0x7fffffff, 0x7fffffff, true, 0xffffffff, false, true},
		{0x7fffffff, 0x80000000, false, 0xffffffff, false, false},
		{0x7fffffff, 0x80000000, true, 0, true, false},
		{0x80000000, 0x80000000, false, 0, true, true},
		{0x80000000, 0xffffffff, false, 0x7fffffff, true, true},
		{0x80000000, 0xffffffff, true, 0x80000000, true, false}, // the one makes good what lacks
	} {
		word, plain, sign := AddC(c.a, c.b, c.c)
		if word != c.word || plain != c.plain || sign != c.sign {
			t.Errorf("AddC(%#x, %#x, %v): %#x, %v, %v", c.a, c.b, c.c, word, plain, sign)
		}
	}
}

func TestSubCP1_2(t *testing.T) {
	for _, c := range []carried{
		{0, 0, false, 0, false, false},
		{0, 0, true, 0xffffffff, true, false},
		{3, 2, false, 1, false, false},
		{3, 2, true, 0, false, false},
		{2, 3, false, 0xffffffff, true, false},
		{0, 0xffffffff, false, 1, true, false},
		{0, 0xffffffff, true, 0, true, false},
		{0xffffffff, 0xffffffff, true, 0xffffffff, true, false},
		{0x80000000, 1, false, 0x7fffffff, false, true},
		{0x80000000, 0, true, 0x7fffffff, false, true},
		{0x80000000, 0x7fffffff, true, 0, false, true},
		{0x80000000, 0x80000000, true, 0xffffffff, true, false},
		{0x7fffffff, 0xffffffff, false, 0x80000000, true, true},
		{0x7fffffff, 0xffffffff, true, 0x7fffffff, true, false}, // the one makes good what is too much
		{0, 0x80000000, false, 0x80000000, true, true},
		{0, 0x80000000, true, 0x7fffffff, true, false},
	} {
		word, plain, sign := SubC(c.a, c.b, c.c)
		if word != c.word || plain != c.plain || sign != c.sign {
			t.Errorf("SubC(%#x, %#x, %v): %#x, %v, %v", c.a, c.b, c.c, word, plain, sign)
		}
	}
}

// exactly tells what a result without bounds is in 32 bits, and whether it goes beyond.
func exactly(plain, sign *big.Int) (uint32, bool, bool) {
	word := new(big.Int).And(plain, big.NewInt(math.MaxUint32))
	over := sign.Cmp(big.NewInt(math.MaxInt32)) > 0 || sign.Cmp(big.NewInt(math.MinInt32)) < 0
	return uint32(word.Uint64()), plain.Sign() < 0 || plain.BitLen() > 32, over
}

func TestCarriesExactlyP1_2(t *testing.T) {
	plain := func(x uint32) *big.Int { return big.NewInt(int64(x)) }
	sign := func(x uint32) *big.Int { return big.NewInt(int64(int32(x))) }
	type op func(z, x, y *big.Int) *big.Int
	result := func(do op, a, b *big.Int, c int64) *big.Int {
		z := do(new(big.Int), a, b)
		return do(z, z, big.NewInt(c))
	}
	for _, a := range edges {
		for _, b := range edges {
			for c := range int64(2) {
				word, past, over := exactly(result((*big.Int).Add, plain(a), plain(b), c), result((*big.Int).Add, sign(a), sign(b), c))
				if w, p, o := AddC(a, b, c == 1); w != word || p != past || o != over {
					t.Errorf("AddC(%#x, %#x, %d): %#x, %v, %v, want %#x, %v, %v", a, b, c, w, p, o, word, past, over)
				}
				word, past, over = exactly(result((*big.Int).Sub, plain(a), plain(b), c), result((*big.Int).Sub, sign(a), sign(b), c))
				if w, p, o := SubC(a, b, c == 1); w != word || p != past || o != over {
					t.Errorf("SubC(%#x, %#x, %d): %#x, %v, %v, want %#x, %v, %v", a, b, c, w, p, o, word, past, over)
				}
			}
		}
	}
}

func TestProductsP1_2(t *testing.T) {
	for _, c := range []struct{ a, b, low, highU, highS uint32 }{
		{0, 0xffffffff, 0, 0, 0},
		{6, 7, 42, 0, 0},
		{1, 0xffffffff, 0xffffffff, 0, 0xffffffff},
		{2, 0xffffffff, 0xfffffffe, 1, 0xffffffff},
		{0xffffffff, 0xffffffff, 1, 0xfffffffe, 0},
		{0x80000000, 0x80000000, 0, 0x40000000, 0x40000000},
		{0x80000000, 0xffffffff, 0x80000000, 0x7fffffff, 0},
		{0x80000000, 0x7fffffff, 0x80000000, 0x3fffffff, 0xc0000000},
		{0x7fffffff, 0x7fffffff, 1, 0x3fffffff, 0x3fffffff},
		{0x10000, 0x10000, 0, 1, 1},
		{0xffff, 0x10001, 0xffffffff, 0, 0},
	} {
		for _, ab := range [][2]uint32{{c.a, c.b}, {c.b, c.a}} {
			if low, high := MulU(ab[0], ab[1]); low != c.low || high != c.highU {
				t.Errorf("MulU(%#x, %#x): %#x, %#x", ab[0], ab[1], low, high)
			}
			if low, high := MulS(ab[0], ab[1]); low != c.low || high != c.highS {
				t.Errorf("MulS(%#x, %#x): %#x, %#x", ab[0], ab[1], low, high)
			}
		}
	}
}

func TestWordP1_2(t *testing.T) {
	for _, c := range []struct {
		b    []byte
		want uint32
	}{
		{nil, 0},
		{[]byte{}, 0},
		{[]byte{0xf1}, 0xf1},
		{[]byte{1, 0xf2}, 0xf201},
		{[]byte{1, 2, 0xf3}, 0xf30201},
		{[]byte{1, 2, 3, 0xf4}, 0xf4030201},
		{[]byte{1, 2, 3, 4, 5}, 0x04030201},
		{[]byte{0, 0, 0, 0, 0xff, 0xff, 0xff, 0xff}, 0},
		{[]byte{1, 2, 3, 4}[:0], 0}, // what lies in the spare room isn't there
		{[]byte{1, 2, 3, 4}[:1], 1},
		{[]byte{1, 2, 3, 4}[:3], 0x030201},
		{[]byte{9, 1, 2, 3, 4}[1:], 0x04030201},
	} {
		was := slices.Clone(c.b[:cap(c.b)])
		if got := Word(c.b); got != c.want {
			t.Errorf("Word(%v): %#x, want %#x", c.b, got, c.want)
		}
		if now := c.b[:cap(c.b)]; !slices.Equal(now, was) {
			t.Errorf("Word changed %v to %v", was, now)
		}
	}
}

func TestBytesP1_2(t *testing.T) {
	for _, c := range []struct {
		x    uint32
		want [4]byte
	}{
		{0, [4]byte{}},
		{0x04030201, [4]byte{1, 2, 3, 4}},
		{0xfe, [4]byte{0xfe, 0, 0, 0}},
		{0x80000000, [4]byte{0, 0, 0, 0x80}},
		{0xffffffff, [4]byte{0xff, 0xff, 0xff, 0xff}},
	} {
		if got := Bytes(c.x); got != c.want {
			t.Errorf("Bytes(%#x): %v, want %v", c.x, got, c.want)
		}
	}
	for _, x := range edges {
		b := Bytes(x)
		if got := Word(b[:]); got != x {
			t.Errorf("Word of Bytes(%#x): %#x", x, got)
		}
	}
}

// TestFlagsP1_3: what goes beyond tells which of two words is less, with signs and
// without, and carries from a word to the next one.
func TestFlagsP1_3(t *testing.T) {
	for _, a := range edges {
		for _, b := range edges {
			word, below, over := SubC(a, b, false)
			if below != (a < b) {
				t.Errorf("%#x less than %#x: %v", a, b, below)
			}
			if less := word>>31 == 1 != over; less != (int32(a) < int32(b)) {
				t.Errorf("%d less than %d: %v", int32(a), int32(b), less)
			}
			x, y := uint64(a)<<32|uint64(b), uint64(b)<<32|uint64(a)
			low, carry, _ := AddC(uint32(x), uint32(y), false)
			high, _, _ := AddC(uint32(x>>32), uint32(y>>32), carry)
			if got := uint64(high)<<32 | uint64(low); got != x+y {
				t.Errorf("%#x + %#x: %#x", x, y, got)
			}
			low, carry, _ = SubC(uint32(x), uint32(y), false)
			high, _, _ = SubC(uint32(x>>32), uint32(y>>32), carry)
			if got := uint64(high)<<32 | uint64(low); got != x-y {
				t.Errorf("%#x - %#x: %#x", x, y, got)
			}
		}
	}
}
