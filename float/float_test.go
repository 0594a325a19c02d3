package float

import (
	"math"
	"math/big"
	"math/rand"
	"strconv"
	"testing"
)

// Numbers at whose neighbours something turns.
const (
	nought    = 0x0000000000000000
	minusZero = 0x8000000000000000
	least     = 0x0000000000000001 // the least number above 0
	small     = 0x000fffffffffffff // the greatest one below full precision
	full      = 0x0010000000000000 // the least one of full precision
	one       = 0x3ff0000000000000
	two       = 0x4000000000000000
	three     = 0x4008000000000000
	greatest  = 0x7fefffffffffffff
	infinity  = 0x7ff0000000000000
	quiet     = 0x7ff8000000000000 // no number, as results tell it
)

// nones: bits that are no number.
var nones = []uint64{
	quiet, 0x7ff0000000000001, 0x7ff7ffffffffffff, 0x7ff8000000000001, 0x7fffffffffffffff,
	0xfff0000000000001, 0xfff7ffffffffffff, 0xfff8000000000000, 0xfff8000000000001, 0xffffffffffffffff,
	0x7ff4000012345678, 0xfffc000000000fed,
}

// finites: numbers without a sign at which something turns.
var finites = []uint64{
	nought, least, 2, 3, 0x0008000000000000, small - 1, small, full, full + 1, full + 2,
	0x001fffffffffffff, 0x0020000000000000, 0x0350000000000000, 0x1e60000000000000, 0x1ff0000000000000,
	0x3c90000000000000, 0x3ca0000000000000, 0x3ca0000000000001, 0x3cb0000000000000, 0x3fb999999999999a,
	0x3fd5555555555555, 0x3fe0000000000000, one - 1, one, one + 1, 0x3ff8000000000000, two, three,
	0x4014000000000000, 0x4330000000000000, 0x433fffffffffffff, 0x4340000000000000, 0x4340000000000001,
	0x5fe0000000000000, 0x5ff0000000000000, 0x7fd0000000000000, 0x7fdfffffffffffff, 0x7fe0000000000000,
	0x7fe0000000000001, greatest - 1, greatest, 0x7c90000000000000, 0x7c80000000000000,
}

// all tells numbers with either sign, infinities and what is no number.
func all() []uint64 {
	var l []uint64
	for _, x := range finites {
		l = append(l, x, x|minusZero)
	}
	l = append(l, infinity, infinity|minusZero)
	return append(l, nones...)
}

// isNone tells whether x is no number, by its fields.
func isNone(x uint64) bool { return x>>52&0x7ff == 0x7ff && x<<12 != 0 }

// isInf tells whether x is an infinity.
func isInf(x uint64) bool { return x<<1 == 0xffe<<52 }

// isZero tells whether x is a nought.
func isZero(x uint64) bool { return x<<1 == 0 }

// exact tells a finite number without any rounding, by its fields.
func exact(x uint64) *big.Rat {
	power, digits := int64(x>>52&0x7ff), int64(x&small)
	if power == 0 {
		power = 1
	} else {
		digits |= full
	}
	n, shift := big.NewInt(digits), power-1075
	if x>>63 == 1 {
		n.Neg(n)
	}
	if shift >= 0 {
		return new(big.Rat).SetInt(n.Lsh(n, uint(shift)))
	}
	return new(big.Rat).SetFrac(n, new(big.Int).Lsh(big.NewInt(1), uint(-shift)))
}

// rounded tells the bits of r, of the nearest number, and of 0 with that sign.
func rounded(r *big.Rat, zeroSign uint64) uint64 {
	if r.Sign() == 0 {
		return zeroSign
	}
	f, _ := r.Float64()
	return math.Float64bits(f)
}

// wantSum tells what a + b is.
func wantSum(a, b uint64) uint64 {
	switch {
	case isNone(a) || isNone(b) || isInf(a) && isInf(b) && a != b:
		return quiet
	case isInf(a):
		return a
	case isInf(b):
		return b
	}
	zero := uint64(nought)
	if a == minusZero && b == minusZero {
		zero = minusZero
	}
	return rounded(new(big.Rat).Add(exact(a), exact(b)), zero)
}

// wantProduct tells what a * b is.
func wantProduct(a, b uint64) uint64 {
	sign := (a ^ b) & minusZero
	switch {
	case isNone(a) || isNone(b) || isInf(a) && isZero(b) || isZero(a) && isInf(b):
		return quiet
	case isInf(a) || isInf(b):
		return infinity | sign
	}
	return withSign(new(big.Rat).Mul(exact(a), exact(b)), sign)
}

// wantQuotient tells what a / b is.
func wantQuotient(a, b uint64) uint64 {
	sign := (a ^ b) & minusZero
	switch {
	case isNone(a) || isNone(b) || isInf(a) && isInf(b) || isZero(a) && isZero(b):
		return quiet
	case isInf(a) || isZero(b):
		return infinity | sign
	case isInf(b):
		return sign
	}
	return withSign(new(big.Rat).Quo(exact(a), exact(b)), sign)
}

// withSign tells the nearest number's bits, of one that is too small the nought of that sign.
func withSign(r *big.Rat, sign uint64) uint64 {
	return rounded(r.Abs(r), nought) | sign
}

// checkPair holds the four operations on a and b to what is reckoned without bounds.
func checkPair(t *testing.T, a, b uint64) {
	t.Helper()
	if got, want := Add(a, b), wantSum(a, b); got != want {
		t.Errorf("Add(%#x, %#x): %#x, want %#x", a, b, got, want)
	}
	other := b ^ minusZero
	if got, want := Sub(a, b), wantSum(a, other); got != want {
		t.Errorf("Sub(%#x, %#x): %#x, want %#x", a, b, got, want)
	}
	if got, want := Mul(a, b), wantProduct(a, b); got != want {
		t.Errorf("Mul(%#x, %#x): %#x, want %#x", a, b, got, want)
	}
	if got, want := Div(a, b), wantQuotient(a, b); got != want {
		t.Errorf("Div(%#x, %#x): %#x, want %#x", a, b, got, want)
	}
}

// pair: two numbers, and what an operation makes of them.
type pair struct{ a, b, want uint64 }

// checkAll holds an operation to examples.
func checkAll(t *testing.T, name string, do func(a, b uint64) uint64, l []pair) {
	t.Helper()
	for _, c := range l {
		if got := do(c.a, c.b); got != c.want {
			t.Errorf("%s(%#x, %#x): %#x, want %#x", name, c.a, c.b, got, c.want)
		}
	}
}

func TestAddP2_1(t *testing.T) {
	checkAll(t, "Add", Add, []pair{
		{one, two, three},
		{one, one | minusZero, nought},
		{nought, minusZero, nought},
		{minusZero, nought, nought},
		{minusZero, minusZero, minusZero},
		{minusZero, one, one},
		{one, 0x3ca0000000000000, one}, // half of what would count: to the even one
		{one + 1, 0x3ca0000000000000, one + 2},
		{one, 0x3ca0000000000001, one + 1}, // more than half
		{least, least, 2},
		{small, least, full}, // into full precision
		{full, least | minusZero, small},
		{greatest, greatest, infinity},
		{greatest, 0x7c90000000000000, infinity}, // half of what would count: beyond
		{greatest, 0x7c8fffffffffffff, greatest},
		{infinity, greatest | minusZero, infinity},
		{infinity, infinity, infinity},
		{infinity, infinity | minusZero, quiet},
		{infinity | minusZero, infinity | minusZero, infinity | minusZero},
		{0xfff0000000000001, one, quiet},
		{one, 0xffffffffffffffff, quiet},
	})
}

func TestSubP2_1(t *testing.T) {
	checkAll(t, "Sub", Sub, []pair{
		{three, two, one},
		{two, three, one | minusZero},
		{one, one, nought},
		{one | minusZero, one | minusZero, nought},
		{nought, nought, nought},
		{nought, minusZero, nought},
		{minusZero, nought, minusZero},
		{minusZero, minusZero, nought},
		{full, least, small},
		{one, 0x3c90000000000000, one}, // half of what would count: to the even one
		{one, 0x3c90000000000001, one - 1},
		{greatest | minusZero, greatest, infinity | minusZero},
		{infinity, infinity, quiet},
		{infinity | minusZero, infinity | minusZero, quiet},
		{infinity, infinity | minusZero, infinity},
		{one, infinity, infinity | minusZero},
		{0x7ff0000000000001, 0x7ff0000000000001, quiet},
		{infinity, 0xfff8000000000000, quiet},
	})
}

func TestMulP2_1(t *testing.T) {
	checkAll(t, "Mul", Mul, []pair{
		{one, three, three},
		{two | minusZero, one, two | minusZero},
		{nought, one | minusZero, minusZero},
		{minusZero, minusZero, nought},
		{two, least, 2},
		{full, 0x3fe0000000000000, full >> 1},
		{least, 0x3fe0000000000000, nought}, // half of the least: to the even one
		{3, 0x3fe0000000000000, 2},
		{least | minusZero, 0x3fe0000000000000, minusZero},
		{least, 0x3fe0000000000001, least},
		{small, two, 0x001ffffffffffffe},
		{greatest, two, infinity},
		{greatest, one + 1, infinity},
		{greatest | minusZero, greatest, infinity | minusZero},
		{infinity, least | minusZero, infinity | minusZero},
		{infinity, nought, quiet},
		{minusZero, infinity, quiet},
		{0x7ff0000000000001, nought, quiet},
		{infinity, 0xffffffffffffffff, quiet},
	})
}

func TestDivP2_1(t *testing.T) {
	checkAll(t, "Div", Div, []pair{
		{three, one, three},
		{one, three, 0x3fd5555555555555},
		{one, 0x4024000000000000, 0x3fb999999999999a},
		{least, two, nought}, // half of the least: to the even one
		{3, two, 2},
		{full, two, full >> 1},
		{greatest, 0x3fe0000000000000, infinity},
		{least, greatest, nought},
		{least | minusZero, greatest, minusZero},
		{one, nought, infinity},
		{one, minusZero, infinity | minusZero},
		{1, 0, infinity},
		{nought, minusZero, quiet},
		{nought, nought, quiet},
		{nought, one | minusZero, minusZero},
		{infinity, nought, infinity},
		{one, infinity | minusZero, minusZero},
		{infinity, infinity | minusZero, quiet},
		{0xfff0000000000001, nought, quiet},
		{infinity, 0x7fffffffffffffff, quiet},
	})
}

func TestOperationsExactlyP2_1(t *testing.T) {
	for _, a := range all() {
		for _, b := range all() {
			checkPair(t, a, b)
		}
	}
	r := rand.New(rand.NewSource(2))
	for range 3000 {
		a, b := r.Uint64(), r.Uint64()
		checkPair(t, a, b)
		// Numbers of like size, where digits are lost and signs turn.
		checkPair(t, a, a^b>>r.Intn(64)&^(3<<61))
		// Numbers without full precision.
		checkPair(t, a&^(0x7ff<<52), b&^(0x7fe<<52))
	}
}

// TestByItselfP2_1: what goes into a next operation was rounded ahead of it.
func TestByItselfP2_1(t *testing.T) {
	if got := Sub(Mul(one+1, one+1), one+2); got != nought {
		t.Errorf("a product, less its rounded self: %#x", got)
	}
	if got := Add(Mul(one+1, one+1), (one+2)|minusZero); got != nought {
		t.Errorf("a product and its rounded opposite: %#x", got)
	}
	if got := Sub(Mul(greatest, two), greatest); got != infinity {
		t.Errorf("a product that goes beyond, less a number: %#x", got)
	}
	if got := Sub(Add(greatest, greatest), greatest); got != infinity {
		t.Errorf("a sum that goes beyond, less a number: %#x", got)
	}
	if got := Mul(Mul(least, 0x3fe0000000000000), two); got != nought {
		t.Errorf("a product that is lost, twice: %#x", got)
	}
}

func TestNoneIsCanonicalP2_1(t *testing.T) {
	ops := map[string]func(a, b uint64) uint64{"Add": Add, "Sub": Sub, "Mul": Mul, "Div": Div}
	for name, do := range ops {
		for _, x := range nones {
			for _, y := range all() {
				if got := do(x, y); got != quiet {
					t.Errorf("%s(%#x, %#x): %#x", name, x, y, got)
				}
				if got := do(y, x); got != quiet {
					t.Errorf("%s(%#x, %#x): %#x", name, y, x, got)
				}
			}
		}
	}
}

func TestSignsP2_1(t *testing.T) {
	for _, c := range []struct{ x, neg, abs uint64 }{
		{nought, minusZero, nought},
		{minusZero, nought, nought},
		{one, one | minusZero, one},
		{0xc008000000000000, three, three},
		{infinity, 0xfff0000000000000, infinity},
		{0xfff0000000000000, infinity, infinity},
		{quiet, 0xfff8000000000000, quiet},
		{0x7ff0000000000001, 0xfff0000000000001, 0x7ff0000000000001}, // stays as it is but for the sign
		{0xffffffffffffffff, 0x7fffffffffffffff, 0x7fffffffffffffff},
	} {
		if got := Neg(c.x); got != c.neg {
			t.Errorf("Neg(%#x): %#x, want %#x", c.x, got, c.neg)
		}
		if got := Abs(c.x); got != c.abs {
			t.Errorf("Abs(%#x): %#x, want %#x", c.x, got, c.abs)
		}
	}
	for _, x := range all() {
		if got := Neg(x); got != x+1<<63 {
			t.Errorf("Neg(%#x): %#x", x, got)
		}
		if got := Abs(x); got != x<<1>>1 {
			t.Errorf("Abs(%#x): %#x", x, got)
		}
	}
}

// compared: what Compare is to tell.
type compared struct{ zf, pf, cf bool }

// wantCompared tells it without any rounding.
func wantCompared(a, b uint64) compared {
	if isNone(a) || isNone(b) {
		return compared{true, true, true}
	}
	c := order(a).Cmp(order(b))
	return compared{c == 0, false, c < 0}
}

// order tells a number that lies as x does among others, infinities too.
func order(x uint64) *big.Rat {
	if !isInf(x) {
		return exact(x)
	}
	beyond := new(big.Rat).SetInt(new(big.Int).Lsh(big.NewInt(1), 1024))
	if x>>63 == 1 {
		beyond.Neg(beyond)
	}
	return beyond
}

func TestCompareP2_2(t *testing.T) {
	same, less, more, none := compared{true, false, false}, compared{false, false, true}, compared{}, compared{true, true, true}
	for _, c := range []struct {
		a, b uint64
		want compared
	}{
		{one, one, same},
		{nought, minusZero, same},
		{minusZero, nought, same},
		{one, two, less},
		{two, one, more},
		{two | minusZero, one | minusZero, less},
		{one | minusZero, one, less},
		{one, one | minusZero, more},
		{nought, least, less},
		{minusZero, least | minusZero, more},
		{least | minusZero, nought, less},
		{small, full, less},
		{greatest, infinity, less},
		{infinity, infinity, same},
		{infinity | minusZero, infinity, less},
		{infinity | minusZero, greatest | minusZero, less},
		{quiet, quiet, none},
		{quiet, one, none},
		{one, 0xfff0000000000001, none},
		{0x7ff0000000000001, infinity, none},
		{nought, 0xffffffffffffffff, none},
	} {
		zf, pf, cf := Compare(c.a, c.b)
		if got := (compared{zf, pf, cf}); got != c.want {
			t.Errorf("Compare(%#x, %#x): %v, want %v", c.a, c.b, got, c.want)
		}
	}
	for _, a := range all() {
		for _, b := range all() {
			zf, pf, cf := Compare(a, b)
			if got, want := (compared{zf, pf, cf}), wantCompared(a, b); got != want {
				t.Errorf("Compare(%#x, %#x): %v, want %v", a, b, got, want)
			}
		}
	}
}

func TestKindP2_2(t *testing.T) {
	for _, c := range []struct {
		x    uint64
		want int
	}{
		{nought, 0},
		{least, 1},
		{2, 1},
		{small, 1},
		{full, 2},
		{full + 1, 2},
		{one, 2},
		{greatest, 2},
		{infinity, 3},
		{infinity + 1, 4},
		{quiet, 4},
		{0x7fffffffffffffff, 4},
	} {
		for _, x := range []uint64{c.x, c.x | minusZero} {
			if got := Kind(x); got != c.want {
				t.Errorf("Kind(%#x): %d, want %d", x, got, c.want)
			}
		}
	}
	r := rand.New(rand.NewSource(3))
	for range 2000 {
		x := r.Uint64()
		for _, y := range []uint64{x, x &^ (0x7ff << 52), x | 0x7ff<<52} {
			if got := Kind(y); got != wantKind(y) {
				t.Errorf("Kind(%#x): %d, want %d", y, got, wantKind(y))
			}
		}
	}
}

// wantKind tells a number's kind by its fields.
func wantKind(x uint64) int {
	switch {
	case isZero(x):
		return 0
	case isNone(x):
		return 4
	case isInf(x):
		return 3
	case x>>52&0x7ff == 0:
		return 1
	}
	return 2
}

func TestTextP2_2(t *testing.T) {
	for _, c := range []struct {
		x    uint64
		want string
	}{
		{nought, "0"},
		{minusZero, "-0"},
		{least, "1"},
		{least | minusZero, "-1"},
		{0xab, "ab"},
		{small, "fffffffffffff"},
		{full, "10000000000000"},
		{one, "3ff0000000000000"},
		{one | minusZero, "-3ff0000000000000"},
		{0x4005bf0a8b145769, "4005bf0a8b145769"},
		{greatest, "7fefffffffffffff"},
		{greatest | minusZero, "-7fefffffffffffff"},
		{infinity, "inf"},
		{infinity | minusZero, "-inf"},
	} {
		if got := Text(c.x); got != c.want {
			t.Errorf("Text(%#x): %q, want %q", c.x, got, c.want)
		}
	}
	for _, x := range nones {
		if got := Text(x); got != "nan" {
			t.Errorf("Text(%#x): %q", x, got)
		}
	}
	for k := range 63 { // digits of each length
		x := uint64(1)<<k | 1
		if got, want := Text(x), strconv.FormatUint(x, 16); got != want {
			t.Errorf("Text(%#x): %q, want %q", x, got, want)
		}
	}
}

// TestTextIsReadBackP2_2: no two numbers have the same text.
func TestTextIsReadBackP2_2(t *testing.T) {
	r := rand.New(rand.NewSource(4))
	l := all()
	for range 2000 {
		l = append(l, r.Uint64(), r.Uint64()>>r.Intn(64))
	}
	for _, x := range l {
		if isNone(x) || isInf(x) {
			continue
		}
		digits, sign := Text(x), uint64(0)
		if digits[0] == '-' {
			digits, sign = digits[1:], minusZero
		}
		bits, err := strconv.ParseUint(digits, 16, 64)
		if err != nil || bits|sign != x || bits>>63 != 0 || len(digits) > 1 && digits[0] == '0' {
			t.Errorf("Text(%#x): %q", x, Text(x))
		}
	}
}

// TestEdgesP2_3: what float64 alone would tell alike, or not at all, is told apart.
func TestEdgesP2_3(t *testing.T) {
	if zf, pf, cf := Compare(nought, minusZero); !zf || pf || cf {
		t.Errorf("Compare(0, -0): %v, %v, %v", zf, pf, cf)
	}
	if Text(nought) == Text(minusZero) || Div(one, nought) == Div(one, minusZero) {
		t.Error("0 and -0 are told alike")
	}
	up, down := Div(one, nought), Div(one|minusZero, nought)
	if up != infinity || down != Neg(up) || Kind(up) != 3 || Kind(down) != 3 || Text(up) != "inf" || Text(down) != "-inf" {
		t.Errorf("infinities: %#x, %#x", up, down)
	}
	none := Sub(up, up)
	if none != quiet || Kind(none) != 4 || Text(none) != "nan" {
		t.Errorf("an infinity less itself: %#x", none)
	}
	if zf, pf, cf := Compare(none, none); !zf || !pf || !cf {
		t.Errorf("Compare of no number with itself: %v, %v, %v", zf, pf, cf)
	}
	if Kind(greatest) != 2 || Kind(Add(greatest, greatest)) != 3 {
		t.Error("the greatest number and what goes beyond")
	}
	if Kind(full) != 2 || Kind(Sub(full, least)) != 1 || Kind(Sub(least, least)) != 0 {
		t.Error("the least numbers")
	}
}
