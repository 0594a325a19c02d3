package alu

import (
	"math"
	"math/big"
	"math/rand"
	"strings"
	"sync"
	"testing"

	"ferryman/api"
)

// edges: words at which signs, carries and parities turn.
var edges = []uint32{
	0, 1, 2, 3, 7, 8, 0xf, 0x10, 0x11, 0x1f, 0x7f, 0x80, 0xff, 0x100, 0xffff, 0x10000,
	0x12345678, 0x40000000, 0x55555555, 0x7ffffffe, 0x7fffffff, 0x80000000, 0x80000001,
	0xaaaaaaaa, 0xbfffffff, 0xc0000000, 0xfedcba98, 0xfffffff0, 0xfffffffe, 0xffffffff,
}

// letters: the flags in the order of their bits.
const letters = "CPAZSO"

// flagged tells the flags whose letters are in names.
func flagged(names string) api.Flags {
	n := 0
	for i, c := range letters {
		if strings.ContainsRune(names, c) {
			n |= 1 << i
		}
	}
	return flagsAt(n)
}

// flagsAt tells the flags that are the lowest six bits of n, CF first.
func flagsAt(n int) api.Flags {
	return api.Flags{
		CF: n&1 != 0, PF: n&2 != 0, AF: n&4 != 0,
		ZF: n&8 != 0, SF: n&16 != 0, OF: n&32 != 0,
	}
}

// bitsAt tells the number of which f are the lowest six bits.
func bitsAt(f api.Flags) int {
	for n := range 64 {
		if flagsAt(n) == f {
			return n
		}
	}
	panic("there are 64 flags")
}

// flagsText tells the letters of the flags in f.
func flagsText(f api.Flags) string {
	text := ""
	for i, c := range letters {
		if bitsAt(f)>>i&1 == 1 {
			text += string(c)
		}
	}
	return text
}

// allFlags tells each of the 64 flags there are.
func allFlags() []api.Flags {
	var l []api.Flags
	for n := range 64 {
		l = append(l, flagsAt(n))
	}
	return l
}

// The operations of Do, Shift, Mul and Div, and those that ask for flags besides.
var (
	doOps    = []int{api.OAdd, api.OOr, api.OAdc, api.OSbb, api.OAnd, api.OSub, api.OXor, api.OCmp, api.OTest, api.OInc, api.ODec, api.ONot, api.ONeg}
	shiftOps = []int{api.ORol, api.ORor, api.OShl, api.OShr, api.OSar}
	mulOps   = []int{api.OMul, api.OImul, api.OImul2}
	divOps   = []int{api.ODiv, api.OIdiv}
)

// isOf tells whether op is one of l.
func isOf(op int, l []int) bool {
	for _, o := range l {
		if o == op {
			return true
		}
	}
	return false
}

// numbers tells all numbers that operations have, many that none has, and, for each
// operation, numbers that are like its own in their lowest bits.
func numbers() []int {
	l := []int{math.MinInt, math.MinInt + 1, math.MinInt32, math.MaxInt32, math.MaxInt - 1, math.MaxInt}
	for op := -300; op <= 300; op++ {
		l = append(l, op)
	}
	for op := api.OMov; op <= api.OFcom; op++ {
		l = append(l, op+1<<8, op+1<<16, op+1<<31, op+1<<32, op-1<<8, op-1<<16, op-1<<31, op-1<<32, math.MinInt+op, ^op)
	}
	return l
}

// done: a call of Do, Shift or Mul: what is handed in, what it is to tell.
type done struct {
	op     int
	a, b   uint32
	f      string
	word   uint32
	behind string
}

func (c done) check(t *testing.T, call func(op int, a, b uint32, f api.Flags) (uint32, api.Flags)) {
	t.Helper()
	word, f := call(c.op, c.a, c.b, flagged(c.f))
	if word != c.word || f != flagged(c.behind) {
		t.Errorf("operation %d of %#x, %#x with %q: %#x, %q, want %#x, %q", c.op, c.a, c.b, c.f, word, flagsText(f), c.word, c.behind)
	}
}

func TestExampleP8_1(t *testing.T) {
	done{api.OInc, 0xffffffff, 0, "", 0, "PAZ"}.check(t, Do)
	done{api.OInc, 0xffffffff, 0, "C", 0, "CPAZ"}.check(t, Do)
}

// TestDoP8_1: as a machine of IA-32 does them (but for AF of OAnd, OOr, OXor, OTest).
func TestDoP8_1(t *testing.T) {
	for _, c := range []done{
		{api.OAdd, 1, 2, "CPAZSO", 3, "P"},
		{api.OAdd, 0xffffffff, 1, "", 0, "CPAZ"},
		{api.OAdd, 0x7fffffff, 1, "", 0x80000000, "PASO"},
		{api.OAdd, 0x80000000, 0x80000000, "", 0, "CPZO"},
		{api.OAdd, 0x80000000, 0xffffffff, "", 0x7fffffff, "CPO"},
		{api.OAdd, 8, 8, "", 0x10, "A"},
		{api.OAdd, 7, 8, "C", 0xf, "P"},
		{api.OAdd, 0xf0, 0x10, "", 0x100, "P"},
		{api.OAdc, 1, 2, "PAZSO", 3, "P"},
		{api.OAdc, 1, 2, "CPAZSO", 4, ""},
		{api.OAdc, 0xffffffff, 0, "C", 0, "CPAZ"},
		{api.OAdc, 0xffffffff, 0xffffffff, "C", 0xffffffff, "CPAS"},
		{api.OAdc, 0x7fffffff, 0, "C", 0x80000000, "PASO"},
		{api.OAdc, 0x80000000, 0xffffffff, "C", 0x80000000, "CPAS"},
		{api.OAdc, 7, 8, "C", 0x10, "A"},
		{api.OSub, 3, 2, "CPAZSO", 1, ""},
		{api.OSub, 2, 3, "", 0xffffffff, "CPAS"},
		{api.OSub, 5, 5, "C", 0, "PZ"},
		{api.OSub, 0x80000000, 1, "", 0x7fffffff, "PAO"},
		{api.OSub, 0x7fffffff, 0xffffffff, "", 0x80000000, "CPSO"},
		{api.OSub, 0x10, 1, "", 0xf, "PA"},
		{api.OSub, 0, 0x10, "", 0xfffffff0, "CPS"},
		{api.OSbb, 3, 2, "CPAZSO", 0, "PZ"},
		{api.OSbb, 3, 2, "PAZSO", 1, ""},
		{api.OSbb, 0, 0, "C", 0xffffffff, "CPAS"},
		{api.OSbb, 0, 0xffffffff, "C", 0, "CPAZ"},
		{api.OSbb, 0x80000000, 0, "C", 0x7fffffff, "PAO"},
		{api.OSbb, 0x7fffffff, 0xffffffff, "C", 0x7fffffff, "CPA"},
		{api.OSbb, 0x18, 8, "C", 0xf, "PA"},
		{api.OCmp, 3, 2, "CPAZSO", 3, ""},
		{api.OCmp, 2, 3, "", 2, "CPAS"},
		{api.OCmp, 2, 1, "C", 2, ""},
		{api.OCmp, 7, 7, "", 7, "PZ"},
		{api.OCmp, 0x80000000, 1, "", 0x80000000, "PAO"},
		{api.OAnd, 0xc, 0xa, "CPAZSO", 8, ""},
		{api.OAnd, 0xf0, 0xf, "CAO", 0, "PZ"},
		{api.OAnd, 0x80000003, 0xffffffff, "", 0x80000003, "PS"},
		{api.OOr, 0xc, 0xa, "CPAZSO", 0xe, ""},
		{api.OOr, 0, 0, "CAO", 0, "PZ"},
		{api.OOr, 0x80000000, 1, "", 0x80000001, "S"},
		{api.OXor, 0xc, 0xa, "CPAZSO", 6, "P"},
		{api.OXor, 0x12345678, 0x12345678, "CAO", 0, "PZ"},
		{api.OXor, 0x7fffffff, 0xffffffff, "", 0x80000000, "PS"},
		{api.OTest, 0xc, 0xa, "CPAZSO", 0xc, ""},
		{api.OTest, 0xf0, 0xf, "CAO", 0xf0, "PZ"},
		{api.OTest, 0x80000000, 0x80000001, "", 0x80000000, "PS"},
		{api.OInc, 0, 0, "CPAZSO", 1, "C"},
		{api.OInc, 0xf, 0, "", 0x10, "A"},
		{api.OInc, 0x7fffffff, 0, "C", 0x80000000, "CPASO"},
		{api.ODec, 1, 0, "CPAZSO", 0, "CPZ"},
		{api.ODec, 0, 0, "", 0xffffffff, "PAS"},
		{api.ODec, 0, 0, "C", 0xffffffff, "CPAS"},
		{api.ODec, 0x80000000, 0, "", 0x7fffffff, "PAO"},
		{api.ONeg, 0, 0, "CPAZSO", 0, "PZ"},
		{api.ONeg, 1, 0, "", 0xffffffff, "CPAS"},
		{api.ONeg, 0x10, 0, "", 0xfffffff0, "CPS"},
		{api.ONeg, 0x80000000, 0, "", 0x80000000, "CPSO"},
		{api.ONeg, 0xffffffff, 0, "", 1, "CA"},
		{api.ONot, 0, 0, "", 0xffffffff, ""},
		{api.ONot, 0xffffffff, 0, "CAS", 0, "CAS"},
		{api.ONot, 0x12345678, 0, "CPAZSO", 0xedcba987, "CPAZSO"},
	} {
		c.check(t, Do)
	}
}

// added tells a + b + c bit by bit, and whether something went beyond the lowest 4, 31 and
// 32 bits.
func added(a, b uint32, c bool) (r uint32, from4, from31, from32 bool) {
	for k := range 32 {
		if k == 4 {
			from4 = c
		}
		if k == 31 {
			from31 = c
		}
		ones := a>>k&1 + b>>k&1
		if c {
			ones++
		}
		r |= ones & 1 << k
		c = ones > 1
	}
	return r, from4, from31, c
}

// byAdding tells a sum, or a difference as the sum with all bits of b turned, and its flags.
func byAdding(a, b uint32, c, less bool) (uint32, api.Flags) {
	if less {
		b, c = ^b, !c
	}
	r, from4, from31, from32 := added(a, b, c)
	f := byWord(r)
	f.CF, f.AF, f.OF = from32 != less, from4 != less, from31 != from32
	return r, f
}

// byWord tells the flags that go by a result alone.
func byWord(r uint32) api.Flags {
	even := true
	for k := range 8 {
		even = even == (r>>k&1 == 0)
	}
	return api.Flags{ZF: r == 0, SF: r > math.MaxInt32, PF: even}
}

// byBits tells what an operation of Do makes, reckoned bit by bit.
func byBits(op int, a, b uint32, f api.Flags) (uint32, api.Flags) {
	var r uint32
	var made api.Flags
	switch op {
	case api.OAdd:
		return byAdding(a, b, false, false)
	case api.OAdc:
		return byAdding(a, b, f.CF, false)
	case api.OSub:
		return byAdding(a, b, false, true)
	case api.OSbb:
		return byAdding(a, b, f.CF, true)
	case api.OCmp:
		_, made = byAdding(a, b, false, true)
		return a, made
	case api.OInc:
		r, made = byAdding(a, 1, false, false)
		made.CF = f.CF
		return r, made
	case api.ODec:
		r, made = byAdding(a, 1, false, true)
		made.CF = f.CF
		return r, made
	case api.ONeg:
		r, made = byAdding(0, a, false, true)
		made.CF = a != 0
		return r, made
	case api.ONot:
		return math.MaxUint32 - a, f
	}
	for k := range 32 {
		x, y := a>>k&1, b>>k&1
		switch {
		case op == api.OOr && x+y > 0, op == api.OXor && x+y == 1, (op == api.OAnd || op == api.OTest) && x+y == 2:
			r |= 1 << k
		}
	}
	if op == api.OTest {
		return a, byWord(r)
	}
	return r, byWord(r)
}

func TestDoByBitsP8_1(t *testing.T) {
	check := func(op int, a, b uint32, f api.Flags) {
		t.Helper()
		word, behind := Do(op, a, b, f)
		if want, flags := byBits(op, a, b, f); word != want || behind != flags {
			t.Fatalf("operation %d of %#x, %#x with %q: %#x, %q, want %#x, %q", op, a, b, flagsText(f), word, flagsText(behind), want, flagsText(flags))
		}
	}
	r := rand.New(rand.NewSource(81))
	for _, op := range doOps {
		for _, a := range edges {
			for _, b := range edges {
				for _, f := range []string{"", "C", "PAZSO", "CPAZSO"} {
					check(op, a, b, flagged(f))
				}
			}
		}
		for range 20 {
			a, b := r.Uint32(), r.Uint32()
			for _, f := range allFlags() {
				check(op, a, b, f)
				check(op, a, a, f)
			}
		}
	}
}

// TestLowestFourP8_1: AF by the lowest four bits as numbers, whatever lies above them.
func TestLowestFourP8_1(t *testing.T) {
	for low := range uint32(16 * 16 * 2) {
		a, b, c := low%16, low/16%16, low/256
		f := api.Flags{CF: c == 1}
		for _, up := range []uint32{0, 0x10, 0xfffffff0, 0x7ffffff0, 0x12345670} {
			for op, want := range map[int]bool{
				api.OAdd: a+b > 15, api.OAdc: a+b+c > 15, api.OInc: a == 15,
				api.OSub: a < b, api.OCmp: a < b, api.OSbb: a < b+c, api.ODec: a == 0, api.ONeg: a != 0,
				api.OAnd: false, api.OOr: false, api.OXor: false, api.OTest: false,
			} {
				for _, x := range []uint32{a | up, a} {
					for _, y := range []uint32{b | up, b} {
						if _, behind := Do(op, x, y, f); behind.AF != want {
							t.Fatalf("operation %d of %#x, %#x with %d: AF is %v", op, x, y, c, behind.AF)
						}
					}
				}
			}
		}
	}
}

// TestByResultP8_1: ZF, SF, PF of each result of eight bits, under whatever lies above.
func TestByResultP8_1(t *testing.T) {
	for low := range uint32(256) {
		for _, up := range []uint32{0, 0x100, 0x300, 0x40000000, 0x80000000, 0xffffff00} {
			r, want := low|up, byWord(low|up)
			for _, c := range []struct {
				op   int
				a, b uint32
			}{
				{api.OAdd, r - 1, 1}, {api.OAdc, r - 6, 5}, {api.OSub, r + 3, 3}, {api.OSbb, r + 3, 2}, {api.OCmp, r, 0},
				{api.OAnd, r, r}, {api.OOr, r, 0}, {api.OXor, ^r, 0xffffffff}, {api.OTest, r, 0xffffffff},
				{api.OInc, r - 1, 0}, {api.ODec, r + 1, 0}, {api.ONeg, -r, 0},
			} {
				_, f := Do(c.op, c.a, c.b, api.Flags{CF: true})
				if f.ZF != want.ZF || f.SF != want.SF || f.PF != want.PF {
					t.Fatalf("operation %d with the result %#x: %q", c.op, r, flagsText(f))
				}
			}
		}
	}
}

func TestCmpAndTestP8_1(t *testing.T) {
	for _, a := range edges {
		for _, b := range edges {
			for _, f := range allFlags() {
				_, less := Do(api.OSub, a, b, f)
				if word, behind := Do(api.OCmp, a, b, f); word != a || behind != less {
					t.Fatalf("OCmp of %#x, %#x: %#x, %q", a, b, word, flagsText(behind))
				}
				_, both := Do(api.OAnd, a, b, f)
				if word, behind := Do(api.OTest, a, b, f); word != a || behind != both {
					t.Fatalf("OTest of %#x, %#x: %#x, %q", a, b, word, flagsText(behind))
				}
			}
		}
	}
}

// TestOneOperandP8_1: operations of one operand don't look at the other one.
func TestOneOperandP8_1(t *testing.T) {
	for _, op := range []int{api.OInc, api.ODec, api.ONot, api.ONeg} {
		for _, a := range edges {
			for _, f := range allFlags() {
				word, behind := Do(op, a, 0, f)
				for _, b := range edges {
					if w, g := Do(op, a, b, f); w != word || g != behind {
						t.Fatalf("operation %d of %#x beside %#x: %#x, %q", op, a, b, w, flagsText(g))
					}
				}
			}
		}
	}
}

// TestWideP8_1: numbers of 64 bits, by their halves.
func TestWideP8_1(t *testing.T) {
	r := rand.New(rand.NewSource(82))
	for range 1000 {
		a, b := r.Uint64(), r.Uint64()
		lo, f := Do(api.OAdd, uint32(a), uint32(b), flagged("C"))
		hi, f := Do(api.OAdc, uint32(a>>32), uint32(b>>32), f)
		if got := uint64(hi)<<32 | uint64(lo); got != a+b || f.CF != (a+b < a) {
			t.Fatalf("%#x + %#x: %#x, %v", a, b, got, f.CF)
		}
		lo, f = Do(api.OSub, uint32(a), uint32(b), flagged("C"))
		hi, f = Do(api.OSbb, uint32(a>>32), uint32(b>>32), f)
		if got := uint64(hi)<<32 | uint64(lo); got != a-b || f.CF != (a < b) {
			t.Fatalf("%#x - %#x: %#x, %v", a, b, got, f.CF)
		}
	}
}

func TestDoOfOthersP8_1(t *testing.T) {
	for _, op := range numbers() {
		if isOf(op, doOps) {
			continue
		}
		for n, f := range allFlags() {
			a, b := edges[n%len(edges)], edges[n*7%len(edges)]
			if word, behind := Do(op, a, b, f); word != a || behind != f {
				t.Errorf("operation %d of %#x, %#x with %q: %#x, %q", op, a, b, flagsText(f), word, flagsText(behind))
			}
		}
	}
}

// TestShiftP8_2: as a machine of IA-32 does them, but for what the manual leaves open.
func TestShiftP8_2(t *testing.T) {
	for _, c := range []done{
		{api.OShl, 0x40000001, 1, "CPAZ", 0x80000002, "ASO"},
		{api.OShl, 0x80000000, 1, "", 0, "CPZO"},
		{api.OShl, 0xc0000000, 1, "O", 0x80000000, "CPS"},
		{api.OShl, 0x00000001, 4, "CO", 0x10, "O"},
		{api.OShl, 0x10000001, 4, "", 0x10, "C"},
		{api.OShl, 3, 31, "O", 0x80000000, "CPSO"},
		{api.OShl, 1, 31, "", 0x80000000, "PS"},
		{api.OShl, 2, 31, "S", 0, "CPZ"},
		{api.OShr, 0x80000001, 1, "AS", 0x40000000, "CPAO"},
		{api.OShr, 0x7ffffffe, 1, "O", 0x3fffffff, "P"},
		{api.OShr, 1, 1, "O", 0, "CPZ"},
		{api.OShr, 0x18, 4, "SO", 1, "CO"},
		{api.OShr, 0x80000000, 31, "", 1, ""},
		{api.OShr, 0xc0000000, 31, "O", 1, "CO"},
		{api.OSar, 0x80000001, 1, "AO", 0xc0000000, "CPAS"},
		{api.OSar, 0x7ffffffe, 1, "O", 0x3fffffff, "P"},
		{api.OSar, 0x80000008, 4, "O", 0xf8000000, "CPSO"},
		{api.OSar, 0x80000000, 31, "Z", 0xffffffff, "PS"},
		{api.OSar, 0x40000000, 31, "S", 0, "CPZ"},
		{api.ORol, 0x80000000, 1, "PAZS", 1, "CPAZSO"},
		{api.ORol, 0xc0000000, 1, "O", 0x80000001, "C"},
		{api.ORol, 0x40000000, 1, "C", 0x80000000, "O"},
		{api.ORol, 0x12345678, 8, "CPZO", 0x34567812, "PZO"},
		{api.ORol, 0x12345678, 20, "", 0x67812345, "C"},
		{api.ORol, 2, 31, "", 1, "C"},
		{api.ORor, 1, 1, "PAZS", 0x80000000, "CPAZSO"},
		{api.ORor, 0x80000001, 1, "O", 0xc0000000, "C"},
		{api.ORor, 0x80000000, 1, "C", 0x40000000, "O"},
		{api.ORor, 0x12345678, 8, "CPZO", 0x78123456, "PZO"},
		{api.ORor, 0x12345698, 8, "", 0x98123456, "C"},
		{api.ORor, 0x40000000, 31, "", 0x80000000, "C"},
		{api.OShl, 0xdeadbeef, 0, "CAS", 0xdeadbeef, "CAS"},
		{api.OSar, 0xdeadbeef, 32, "PZO", 0xdeadbeef, "PZO"},
		{api.OShl, 0x40000000, 33, "", 0x80000000, "PSO"},
		{api.OSar, 0xdeadbeef, 0xffffffe4, "", 0xfdeadbee, "CPS"},
	} {
		c.check(t, Shift)
	}
}

// byPlaces tells a shifted by one place, so many times, and its flags.
func byPlaces(op int, a, n uint32, f api.Flags) (uint32, api.Flags) {
	for n >= 32 {
		n -= 32
	}
	if n == 0 {
		return a, f
	}
	r, out := a, uint32(0)
	for range n {
		top, bottom := r/(1<<31), r%2
		switch op {
		case api.OShl:
			r, out = r*2, top
		case api.OShr:
			r, out = r/2, bottom
		case api.OSar:
			r, out = r/2+top<<31, bottom
		case api.ORol:
			r, out = r*2+top, top
		case api.ORor:
			r, out = r/2+bottom<<31, bottom
		}
	}
	f.CF = out == 1
	if op == api.OShl || op == api.OShr || op == api.OSar {
		w := byWord(r)
		f.PF, f.ZF, f.SF = w.PF, w.ZF, w.SF
	}
	if n == 1 {
		f.OF = map[int]bool{
			api.OShl: (r>>31 == 1) != f.CF,
			api.OShr: a>>31 == 1,
			api.OSar: false,
			api.ORol: (r>>31 == 1) != f.CF,
			api.ORor: r>>31 != r>>30&1,
		}[op]
	}
	return r, f
}

func TestShiftByPlacesP8_2(t *testing.T) {
	check := func(op int, a, n uint32, f api.Flags) {
		t.Helper()
		word, behind := Shift(op, a, n, f)
		if want, flags := byPlaces(op, a, n%32, f); word != want || behind != flags {
			t.Fatalf("operation %d of %#x by %d with %q: %#x, %q, want %#x, %q", op, a, n, flagsText(f), word, flagsText(behind), want, flagsText(flags))
		}
	}
	r := rand.New(rand.NewSource(83))
	far := []uint32{255, 256, 257, 1 << 16, 0x7fffffff, 0x80000000, 0x80000001, 0xffffffdf, 0xffffffe0, 0xffffffe1, 0xffffffff}
	for _, op := range shiftOps {
		for _, a := range append([]uint32{r.Uint32(), r.Uint32(), r.Uint32(), r.Uint32()}, edges...) {
			for n := range uint32(130) {
				for _, f := range []string{"", "C", "O", "PAZS", "CPAZSO"} {
					check(op, a, n, flagged(f))
				}
			}
			for _, n := range append([]uint32{r.Uint32()}, far...) {
				check(op, a, n, flagsAt(r.Intn(64)))
			}
			for _, f := range allFlags() {
				for _, n := range []uint32{0, 1, 2, 31, 32, 33} {
					check(op, a, n, f)
				}
			}
		}
	}
}

// TestEachBitOutP8_2: of a single bit, CF by where it was.
func TestEachBitOutP8_2(t *testing.T) {
	for k := range uint32(32) {
		for n := uint32(1); n < 32; n++ {
			for op, last := range map[int]uint32{
				api.OShl: 32 - n, api.ORol: 32 - n, api.OShr: n - 1, api.OSar: n - 1, api.ORor: n - 1,
			} {
				_, f := Shift(op, 1<<k, n, api.Flags{})
				_, g := Shift(op, ^uint32(1<<k), n, api.Flags{})
				if f.CF != (k == last) || g.CF == f.CF {
					t.Errorf("operation %d of bit %d by %d: CF %v, of all others %v", op, k, n, f.CF, g.CF)
				}
			}
		}
	}
}

func TestShiftByNothingP8_2(t *testing.T) {
	for _, op := range numbers() {
		for n, f := range allFlags() {
			a := edges[n%len(edges)]
			for _, by := range []uint32{0, 32, 64, 256, 0x80000000, 0xffffffe0} {
				if word, behind := Shift(op, a, by, f); word != a || behind != f {
					t.Fatalf("operation %d of %#x by %d with %q: %#x, %q", op, a, by, flagsText(f), word, flagsText(behind))
				}
			}
		}
	}
}

func TestShiftOfOthersP8_2(t *testing.T) {
	for _, op := range numbers() {
		if isOf(op, shiftOps) {
			continue
		}
		for n, f := range allFlags() {
			a := edges[n%len(edges)]
			for _, by := range []uint32{1, 2, 31, 33, 0xffffffff} {
				if word, behind := Shift(op, a, by, f); word != a || behind != f {
					t.Fatalf("operation %d of %#x by %d with %q: %#x, %q", op, a, by, flagsText(f), word, flagsText(behind))
				}
			}
		}
	}
}

func TestMulP8_3(t *testing.T) {
	for _, c := range []struct {
		op     int
		a, b   uint32
		f      string
		lo, hi uint32
		behind string
	}{
		{api.OMul, 6, 7, "CPAZSO", 42, 0, "PAZS"},
		{api.OMul, 0, 0xffffffff, "", 0, 0, ""},
		{api.OMul, 0x10000, 0x10000, "", 0, 1, "CO"},
		{api.OMul, 0xffff, 0x10001, "C", 0xffffffff, 0, ""},
		{api.OMul, 0x80000000, 1, "CO", 0x80000000, 0, ""},
		{api.OMul, 0xffffffff, 0xffffffff, "Z", 1, 0xfffffffe, "CZO"},
		{api.OMul, 0xffffffff, 1, "", 0xffffffff, 0, ""},
		{api.OImul, 6, 7, "CPAZSO", 42, 0, "PAZS"},
		{api.OImul, 0xffffffff, 1, "CO", 0xffffffff, 0xffffffff, ""},
		{api.OImul, 0xffffffff, 0xffffffff, "", 1, 0, ""},
		{api.OImul, 0x80000000, 0xffffffff, "", 0x80000000, 0, "CO"},
		{api.OImul, 0x80000000, 1, "", 0x80000000, 0xffffffff, ""},
		{api.OImul, 0x40000000, 2, "S", 0x80000000, 0, "CSO"},
		{api.OImul, 0x40000000, 0xfffffffe, "", 0x80000000, 0xffffffff, ""},
		{api.OImul, 0x80000000, 0x80000000, "", 0, 0x40000000, "CO"},
		{api.OImul, 0x80000000, 2, "", 0, 0xffffffff, "CO"},
		{api.OImul2, 6, 7, "CPAZSO", 42, 0, "PAZS"},
		{api.OImul2, 0xffffffff, 1, "CO", 0xffffffff, 0, ""},
		{api.OImul2, 0xffffffff, 0xffffffff, "", 1, 0, ""},
		{api.OImul2, 0x80000000, 0xffffffff, "", 0x80000000, 0, "CO"},
		{api.OImul2, 0x10000, 0x10000, "P", 0, 0, "CPO"},
		{api.OImul2, 0x40000000, 2, "", 0x80000000, 0, "CO"},
	} {
		lo, hi, f := Mul(c.op, c.a, c.b, flagged(c.f))
		if lo != c.lo || hi != c.hi || f != flagged(c.behind) {
			t.Errorf("operation %d of %#x, %#x with %q: %#x, %#x, %q, want %#x, %#x, %q", c.op, c.a, c.b, c.f, lo, hi, flagsText(f), c.lo, c.hi, c.behind)
		}
	}
}

// number tells x as a number, with a sign or without.
func number(x uint32, signed bool) *big.Int {
	if signed {
		return big.NewInt(int64(int32(x)))
	}
	return big.NewInt(int64(x))
}

// fits tells whether n is a word's, with a sign or without.
func fits(n *big.Int, signed bool) bool {
	least, greatest := big.NewInt(0), big.NewInt(math.MaxUint32)
	if signed {
		least, greatest = big.NewInt(math.MinInt32), big.NewInt(math.MaxInt32)
	}
	return n.Cmp(least) >= 0 && n.Cmp(greatest) <= 0
}

// words tells the lowest and the next 32 bits of n.
func words(n *big.Int) (uint32, uint32) {
	whole := new(big.Int).And(n, new(big.Int).SetUint64(math.MaxUint64)).Uint64()
	return uint32(whole), uint32(whole >> 32)
}

func TestMulWithoutBoundsP8_3(t *testing.T) {
	check := func(op int, a, b uint32, f api.Flags) {
		t.Helper()
		signed := op != api.OMul
		product := new(big.Int).Mul(number(a, signed), number(b, signed))
		lo, hi := words(product)
		if op == api.OImul2 {
			hi = 0
		}
		want := f
		want.CF, want.OF = !fits(product, signed), !fits(product, signed)
		l, h, behind := Mul(op, a, b, f)
		if l != lo || h != hi || behind != want {
			t.Fatalf("operation %d of %#x, %#x with %q: %#x, %#x, %q, want %#x, %#x, %q", op, a, b, flagsText(f), l, h, flagsText(behind), lo, hi, flagsText(want))
		}
	}
	r := rand.New(rand.NewSource(84))
	for _, op := range mulOps {
		for _, a := range edges {
			for _, b := range edges {
				for _, f := range []string{"", "C", "O", "PAZS", "CPAZSO"} {
					check(op, a, b, flagged(f))
				}
			}
		}
		for range 30 {
			a, b := r.Uint32(), r.Uint32()>>r.Intn(32)
			for _, f := range allFlags() {
				check(op, a, b, f)
			}
		}
	}
}

func TestMulOfOthersP8_3(t *testing.T) {
	for _, op := range numbers() {
		if isOf(op, mulOps) {
			continue
		}
		for n, f := range allFlags() {
			a, b := edges[n%len(edges)], edges[n*7%len(edges)]
			if lo, hi, behind := Mul(op, a, b, f); lo != a || hi != 0 || behind != f {
				t.Errorf("operation %d of %#x, %#x with %q: %#x, %#x, %q", op, a, b, flagsText(f), lo, hi, flagsText(behind))
			}
		}
	}
}

// quotient: what Div is to tell.
type quotient struct {
	op         int
	lo, hi, d  uint32
	word, rest uint32
	ok         bool
}

func TestDivP8_3(t *testing.T) {
	const minus = 0xffffffff // of a higher word: the number is below 0
	for _, c := range []quotient{
		{api.ODiv, 43, 0, 7, 6, 1, true},
		{api.ODiv, 0, 0, 1, 0, 0, true},
		{api.ODiv, 0, 1, 2, 0x80000000, 0, true},
		{api.ODiv, 0xffffffff, 0, 1, 0xffffffff, 0, true},
		{api.ODiv, 0, 1, 1, 0, 0, false},
		{api.ODiv, 0xffffffff, 6, 7, 0xffffffff, 6, true},
		{api.ODiv, 0, 7, 7, 0, 0, false},
		{api.ODiv, 0xffffffff, 0xfffffffe, 0xffffffff, 0xffffffff, 0xfffffffe, true},
		{api.ODiv, 0, 0xffffffff, 0xffffffff, 0, 0, false},
		{api.ODiv, 0x80000000, minus, 0xffffffff, 0, 0, false},
		{api.ODiv, 5, 0, 0, 0, 0, false},
		{api.ODiv, 0, 0, 0, 0, 0, false},
		{api.OIdiv, 43, 0, 7, 6, 1, true},
		{api.OIdiv, ^uint32(42), minus, 7, ^uint32(5), 0xffffffff, true},     // -43 by 7: -6, -1
		{api.OIdiv, 43, 0, ^uint32(6), ^uint32(5), 1, true},                  // 43 by -7: -6, 1
		{api.OIdiv, ^uint32(42), minus, ^uint32(6), 6, 0xffffffff, true},     // -43 by -7: 6, -1
		{api.OIdiv, 0x7fffffff, 0, 1, 0x7fffffff, 0, true},                   // the greatest
		{api.OIdiv, 0x80000000, 0, 1, 0, 0, false},                           // one more
		{api.OIdiv, 0x80000000, minus, 1, 0x80000000, 0, true},               // the least
		{api.OIdiv, 0x7fffffff, minus, 1, 0, 0, false},                       // one less
		{api.OIdiv, 0x80000000, minus, 0xffffffff, 0, 0, false},              // the least of a word by -1
		{api.OIdiv, 0x80000000, 0, 0xffffffff, 0x80000000, 0, true},          // 2^31 by -1
		{api.OIdiv, 0, 0x80000000, 0xffffffff, 0, 0, false},                  // the least of all by -1
		{api.OIdiv, 0, 0x80000000, 1, 0, 0, false},                           // by 1
		{api.OIdiv, 0, 0xc0000000, 0x80000000, 0, 0, false},                  // -2^62 by -2^31: 2^31
		{api.OIdiv, 1, 0xc0000000, 0x80000000, 0x7fffffff, 0x80000001, true}, // the next one
		{api.OIdiv, 0, 0x40000000, 0x80000000, 0x80000000, 0, true},          // 2^62 by -2^31
		{api.OIdiv, 0xffffffff, 0x40000000, 0x80000000, 0, 0, false},         // 2^62 + 2^32 - 1
		{api.OIdiv, 0x7fffffff, 0x40000000, 0x80000000, 0x80000000, 0x7fffffff, true},
		{api.OIdiv, 5, 0, 0, 0, 0, false},
		{api.OIdiv, ^uint32(5), minus, 0, 0, 0, false},
		{api.OIdiv, 0xffffffff, minus, 2, 0, 0xffffffff, true}, // -1 by 2: towards nought
	} {
		word, rest, ok := Div(c.op, c.lo, c.hi, c.d)
		if word != c.word || rest != c.rest || ok != c.ok {
			t.Errorf("operation %d of %#x, %#x by %#x: %#x, %#x, %v, want %#x, %#x, %v", c.op, c.lo, c.hi, c.d, word, rest, ok, c.word, c.rest, c.ok)
		}
	}
}

// withoutBounds tells what Div is to tell of op.
func withoutBounds(op int, lo, hi, d uint32) (uint32, uint32, bool) {
	signed := op == api.OIdiv
	if d == 0 {
		return 0, 0, false
	}
	n := new(big.Int).Lsh(number(hi, signed), 32)
	n.Add(n, number(lo, false))
	q, rest := new(big.Int).QuoRem(n, number(d, signed), new(big.Int))
	if !fits(q, signed) {
		return 0, 0, false
	}
	word, _ := words(q)
	left, _ := words(rest)
	return word, left, true
}

func TestDivWithoutBoundsP8_3(t *testing.T) {
	check := func(op int, lo, hi, d uint32) bool {
		t.Helper()
		word, rest, ok := Div(op, lo, hi, d)
		if w, r, fine := withoutBounds(op, lo, hi, d); word != w || rest != r || ok != fine {
			t.Fatalf("operation %d of %#x, %#x by %#x: %#x, %#x, %v, want %#x, %#x, %v", op, lo, hi, d, word, rest, ok, w, r, fine)
		}
		return ok
	}
	r := rand.New(rand.NewSource(85))
	for _, op := range divOps {
		for _, lo := range edges {
			for _, hi := range edges {
				for _, d := range edges {
					check(op, lo, hi, d)
				}
			}
		}
		for range 3000 { // quotients about the ends of what fits, and any rests
			d := r.Uint32() >> r.Intn(32)
			q := int64(math.MaxUint32)
			if op == api.OIdiv {
				q = []int64{math.MaxInt32, math.MinInt32}[r.Intn(2)]
			}
			n := (q+int64(r.Intn(5))-2)*int64(number(d, op == api.OIdiv).Int64()) + int64(r.Intn(7)) - 3
			check(op, uint32(n), uint32(n>>32), d)
			check(op, uint32(n), uint32(r.Intn(5))-2, d)
			check(op, r.Uint32(), r.Uint32()>>r.Intn(32), r.Uint32())
		}
	}
}

// TestDivAndMulP8_3: what was divided is the quotient by the divisor, and the rest.
func TestDivAndMulP8_3(t *testing.T) {
	r := rand.New(rand.NewSource(86))
	for op, mul := range map[int]int{api.ODiv: api.OMul, api.OIdiv: api.OImul} {
		told := 0
		for range 3000 {
			lo, hi, d := r.Uint32(), r.Uint32()>>r.Intn(32), r.Uint32()
			if r.Intn(2) == 0 {
				hi = -hi
			}
			q, rest, ok := Div(op, lo, hi, d)
			if !ok {
				continue
			}
			told++
			up := uint32(0)
			if op == api.OIdiv && int32(rest) < 0 {
				up = 0xffffffff
			}
			l, h, _ := Mul(mul, q, d, api.Flags{})
			l, f := Do(api.OAdd, l, rest, api.Flags{})
			h, _ = Do(api.OAdc, h, up, f)
			if l != lo || h != hi {
				t.Fatalf("operation %d of %#x, %#x by %#x: %#x, %#x", op, lo, hi, d, q, rest)
			}
		}
		if told < 100 {
			t.Errorf("operation %d: %d quotients fit", op, told)
		}
	}
}

func TestDivOfOthersP8_3(t *testing.T) {
	for _, op := range numbers() {
		if isOf(op, divOps) {
			continue
		}
		for _, lo := range []uint32{0, 1, 43, 0xffffffff} {
			for _, hi := range []uint32{0, 1, 0xffffffff} {
				for _, d := range []uint32{0, 1, 7, 0xffffffff} {
					if q, rest, ok := Div(op, lo, hi, d); q != 0 || rest != 0 || ok {
						t.Fatalf("operation %d of %#x, %#x by %#x: %#x, %#x, %v", op, lo, hi, d, q, rest, ok)
					}
				}
			}
		}
	}
}

// Sets of flags by letters, as Writes and Reads are to tell them.
const (
	all        = "CPAZSO"
	allButCF   = "PAZSO"
	allButAF   = "CPZSO"
	carryAlone = "C"
	two        = "CO"
)

func TestWritesP8_4(t *testing.T) {
	sets := map[int]string{
		api.OAdd: all, api.OOr: all, api.OAdc: all, api.OSbb: all, api.OAnd: all, api.OSub: all,
		api.OXor: all, api.OCmp: all, api.OTest: all, api.ONeg: all,
		api.OInc: allButCF, api.ODec: allButCF,
		api.OMul: two, api.OImul: two, api.OImul2: two, api.ORol: two, api.ORor: two,
		api.OShl: allButAF, api.OShr: allButAF, api.OSar: allButAF,
	}
	if Writes(api.OAdd) != 63 || Writes(api.OInc) != 62 || Writes(api.OShl) != 59 || Writes(api.OMul) != 33 {
		t.Errorf("%d, %d, %d, %d", Writes(api.OAdd), Writes(api.OInc), Writes(api.OShl), Writes(api.OMul))
	}
	for _, op := range numbers() {
		if got, want := Writes(op), bitsAt(flagged(sets[op])); got != want {
			t.Errorf("Writes(%d): %#b, want %#b", op, got, want)
		}
	}
}

func TestReadsP8_4(t *testing.T) {
	sets := map[int]string{
		api.OAdc: carryAlone, api.OSbb: carryAlone,
		api.ORol: two, api.ORor: two,
		api.OShl: allButAF, api.OShr: allButAF, api.OSar: allButAF,
		api.OSet: all, api.OCmov: all, api.OJcc: all,
	}
	if Reads(api.OAdc) != 1 || Reads(api.OShl) != 59 || Reads(api.ORol) != 33 || Reads(api.OJcc) != 63 || Reads(api.OInc) != 0 {
		t.Errorf("%d, %d, %d, %d, %d", Reads(api.OAdc), Reads(api.OShl), Reads(api.ORol), Reads(api.OJcc), Reads(api.OInc))
	}
	for _, op := range numbers() {
		if got, want := Reads(op), bitsAt(flagged(sets[op])); got != want {
			t.Errorf("Reads(%d): %#b, want %#b", op, got, want)
		}
	}
}

// outcome: all that an operation tells.
type outcome struct {
	lo, hi uint32
	f      int
}

// outcomeOf tells what the call that has op among its own makes.
func outcomeOf(op int, a, b uint32, f int) outcome {
	if isOf(op, mulOps) {
		lo, hi, behind := Mul(op, a, b, flagsAt(f))
		return outcome{lo, hi, bitsAt(behind)}
	}
	call := Do
	if isOf(op, shiftOps) {
		call = Shift
	}
	word, behind := call(op, a, b, flagsAt(f))
	return outcome{word, 0, bitsAt(behind)}
}

// TestMayChangeP8_4: what Writes and Reads tell is what some operands show, and no more.
func TestMayChangeP8_4(t *testing.T) {
	few := []uint32{0, 1, 2, 0xf, 0x10, 0x7fffffff, 0x80000000, 0x80000001, 0xfffffffe, 0xffffffff}
	for _, ops := range [][]int{doOps, shiftOps, mulOps} {
		for _, op := range ops {
			changed, asked := 0, 0
			for _, a := range few {
				for _, b := range few {
					for f := range 64 {
						o := outcomeOf(op, a, b, f)
						changed |= o.f ^ f
						for k := range 6 {
							turned := outcomeOf(op, a, b, f^1<<k)
							// A flag that an operation never writes goes by it: that asks for nothing.
							if turned.lo != o.lo || turned.hi != o.hi || (turned.f^o.f)&Writes(op) != 0 {
								asked |= 1 << k
							}
						}
					}
				}
			}
			if changed != Writes(op) || asked != Reads(op) {
				t.Errorf("operation %d: changes %06b, asks for %06b; Writes %06b, Reads %06b", op, changed, asked, Writes(op), Reads(op))
			}
		}
	}
}

// TestLeftOpenP8_5: flags of which the manual says nothing.
func TestLeftOpenP8_5(t *testing.T) {
	for _, f := range allFlags() {
		for _, a := range edges {
			for _, b := range edges {
				for _, op := range []int{api.OAnd, api.OOr, api.OXor, api.OTest} {
					if _, behind := Do(op, a, b, f); behind.AF {
						t.Fatalf("operation %d of %#x, %#x with %q: AF", op, a, b, flagsText(f))
					}
				}
				for _, op := range mulOps {
					_, _, behind := Mul(op, a, b, f)
					want := f
					want.CF, want.OF = behind.CF, behind.OF
					if behind != want || behind.CF != behind.OF {
						t.Fatalf("operation %d of %#x, %#x with %q: %q", op, a, b, flagsText(f), flagsText(behind))
					}
				}
			}
			for _, op := range shiftOps {
				for n := range uint32(40) {
					_, behind := Shift(op, a, n, f)
					if behind.AF != f.AF || n%32 != 1 && behind.OF != f.OF {
						t.Fatalf("operation %d of %#x by %d with %q: %q", op, a, n, flagsText(f), flagsText(behind))
					}
				}
			}
		}
	}
}

// TestToldAgainP8_5: each call tells the same again, whatever was asked between, beside others too.
func TestToldAgainP8_5(t *testing.T) {
	var told [64][3]outcome
	ask := func(k int) [3]outcome {
		r := rand.New(rand.NewSource(int64(k)))
		var l [3]outcome
		for i, ops := range [][]int{doOps, shiftOps, mulOps} {
			l[i] = outcomeOf(ops[r.Intn(len(ops))], r.Uint32(), r.Uint32(), r.Intn(64))
		}
		return l
	}
	for k := range told {
		told[k] = ask(k)
	}
	var group sync.WaitGroup
	for from := range 8 {
		group.Go(func() {
			for i := range 1000 {
				if k := (from*13 + i*5) % 64; ask(k) != told[k] {
					t.Errorf("%d is told otherwise", k)
					return
				}
			}
		})
	}
	group.Wait()
}
