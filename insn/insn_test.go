package insn

import (
	"math"
	"math/rand"
	"slices"
	"strings"
	"testing"

	"ferryman/alu"
	"ferryman/api"
)

// Letters of what operands are: n none, r a register, c register 1, m a place in memory,
// i a number, b one below 256, s 128.

// line: a line of the document's table: operations, what A and what B may be.
type line struct {
	ops  []int
	a, b string
}

// table: the document's, line by line; two places in memory are none anywhere.
var table = []line{
	{[]int{api.OMov, api.OAdd, api.OOr, api.OAdc, api.OSbb, api.OAnd, api.OSub, api.OXor, api.OCmp}, "rm", "rim"},
	{[]int{api.OTest}, "rm", "ri"},
	{[]int{api.OMov8}, "rm", "rbm"},
	{[]int{api.OXchg}, "rm", "r"},
	{[]int{api.OInc, api.ODec, api.ONot, api.ONeg, api.OMul, api.OImul, api.ODiv, api.OIdiv}, "rm", "n"},
	{[]int{api.OImul2, api.OCmov}, "r", "rm"},
	{[]int{api.ORol, api.ORor, api.OShl, api.OShr, api.OSar}, "rm", "bc"},
	{[]int{api.OLea}, "r", "m"},
	{[]int{api.OMovzx, api.OMovsx}, "r", "rm"},
	{[]int{api.OSet}, "rm", "n"},
	{[]int{api.OPush}, "rim", "n"},
	{[]int{api.OPop}, "r", "n"},
	{[]int{api.OCall, api.OJmp}, "irm", "n"},
	{[]int{api.OJcc}, "i", "n"},
	{[]int{api.ORet, api.OCdq, api.OCld, api.OStd, api.OMovs, api.OStos, api.ONop, api.OFchs, api.OFabs}, "n", "n"},
	{[]int{api.OInt}, "s", "n"},
	{[]int{api.OFld, api.OFst, api.OFadd, api.OFmul, api.OFsub, api.OFdiv, api.OFcom}, "m", "n"},
}

// lineOf tells the line of an operation, an empty one of a number that is none.
func lineOf(op int) line {
	for _, l := range table {
		if slices.Contains(l.ops, op) {
			return l
		}
	}
	return line{}
}

// Operations with something of their own.
var (
	withCond   = []int{api.OJcc, api.OSet, api.OCmov}
	withRep    = []int{api.OMovs, api.OStos}
	thatEnd    = []int{api.OCall, api.ORet, api.OJmp, api.OJcc, api.OInt}
	thatAccess = []int{
		api.OPush, api.OPop, api.OCall, api.ORet, api.OMovs, api.OStos,
		api.OFld, api.OFst, api.OFadd, api.OFmul, api.OFsub, api.OFdiv, api.OFcom,
	}
)

// sample: an operand, and all letters of what it is; none, if it may not be.
type sample struct {
	o  api.Operand
	is string
}

// matches tells whether what an operand is is among what may be there.
func matches(is, may string) bool { return strings.ContainsAny(is, may) }

// takesThem tells by the table whether op takes these operands.
func takesThem(op int, a, b sample) bool {
	l := lineOf(op)
	return matches(a.is, l.a) && matches(b.is, l.b) && !(a.is == "m" && b.is == "m")
}

func reg(r int) api.Operand    { return api.Operand{Kind: api.KReg, Reg: r} }
func imm(n uint32) api.Operand { return api.Operand{Kind: api.KImm, Imm: n} }
func mem(base, index int, scale, far uint32) api.Operand {
	return api.Operand{Kind: api.KMem, Base: base, Index: index, Scale: scale, Imm: far}
}

// good tells operands that may be, of each kind and at each edge.
func good() []sample {
	l := []sample{{api.Operand{}, "n"}}
	for r := range 8 {
		is := "r"
		if r == 1 {
			is = "rc"
		}
		l = append(l, sample{reg(r), is})
	}
	for n, is := range map[uint32]string{
		0: "ib", 1: "ib", 127: "ib", 128: "ibs", 129: "ib", 254: "ib", 255: "ib", 256: "i", 257: "i",
		384: "i", 0x8000: "i", 0x10000: "i", 0x10080: "i", 0x7fffffff: "i", 0x80000000: "i",
		0x80000080: "i", 0xffffff80: "i", 0xffffffff: "i",
	} {
		l = append(l, sample{imm(n), is})
	}
	for _, o := range []api.Operand{
		mem(3, -1, 1, 4), mem(-1, -1, 1, 0), mem(-1, -1, 1, 0xffffffff), mem(0, -1, 1, 0), mem(7, -1, 1, 128),
		mem(4, -1, 1, 8), mem(5, 5, 1, 0), mem(-1, 0, 8, 0), mem(-1, 7, 4, 0x80000000), mem(3, 1, 4, 8),
		mem(4, 3, 2, 0xfffffffc), mem(1, 1, 1, 1), mem(0, 0, 1, 0),
	} {
		l = append(l, sample{o, "m"})
	}
	return l
}

// bad tells operands that may not be.
func bad() []sample {
	var l []sample
	add := func(o api.Operand) { l = append(l, sample{o, ""}) }
	for _, r := range []int{-1, 8, 9, 16, 255, 256, 257, 1 << 32, 1<<32 + 1, -255, math.MinInt, math.MinInt + 1, math.MaxInt} {
		add(reg(r))
	}
	for _, r := range []int{-2, 8, 9, 256, 1 << 32, math.MinInt, math.MaxInt} {
		add(mem(r, -1, 1, 4))
		add(mem(r, 1, 4, 4))
		add(mem(3, r, 1, 4))
	}
	add(mem(3, 4, 1, 0))
	add(mem(-1, 4, 2, 0))
	for _, x := range []uint32{0, 3, 5, 6, 7, 9, 16, 128, 256, 257, 0xffffffff} {
		add(mem(3, 1, x, 4))
		add(mem(3, -1, x, 4))
	}
	for _, x := range []uint32{2, 4, 8} {
		add(mem(3, -1, x, 4))
	}
	for _, k := range kindsOfNone() {
		add(api.Operand{Kind: k})
		add(api.Operand{Kind: k, Reg: 1})
		add(api.Operand{Kind: k, Imm: 1})
		add(api.Operand{Kind: k, Base: 3, Index: -1, Scale: 1, Imm: 4})
	}
	for _, s := range good() {
		for _, o := range withLeftovers(s.o) {
			add(o)
		}
	}
	return l
}

// kindsOfNone tells numbers that are no kind of an operand, many like one in their lowest bits.
func kindsOfNone() []int {
	return []int{-1, -2, -3, 4, 5, 7, 8, 255, 256, 257, 258, 259, 1 << 32, 1<<32 + 1, 1<<32 + 3, math.MinInt, math.MinInt + 3, math.MaxInt}
}

// withLeftovers tells o with something left, each time in another part that must be 0 in it.
func withLeftovers(o api.Operand) []api.Operand {
	var l []api.Operand
	add := func(change func(x *api.Operand)) {
		x := o
		change(&x)
		l = append(l, x)
	}
	for _, r := range []int{1, 7, -1, 256, math.MinInt} {
		if o.Kind != api.KReg {
			add(func(x *api.Operand) { x.Reg = r })
		}
		if o.Kind != api.KMem {
			add(func(x *api.Operand) { x.Base = r })
			add(func(x *api.Operand) { x.Index = r })
		}
	}
	for _, n := range []uint32{1, 4, 128, 256, 1 << 31, math.MaxUint32} {
		if o.Kind == api.KNone || o.Kind == api.KReg {
			add(func(x *api.Operand) { x.Imm = n })
		}
		if o.Kind != api.KMem {
			add(func(x *api.Operand) { x.Scale = n })
		}
	}
	if o.Kind != api.KMem {
		add(func(x *api.Operand) { x.Base, x.Index, x.Scale = -1, -1, 1 })
	}
	return l
}

// operations tells all operations.
func operations() []int {
	var l []int
	for op := api.OMov; op <= api.OFcom; op++ {
		l = append(l, op)
	}
	return l
}

// around tells numbers about 0, the ends of int, and those that are like one of the first few
// in their lowest bits.
func around() []int {
	l := []int{math.MinInt, math.MinInt + 1, math.MinInt32, math.MaxInt32, math.MaxInt - 1, math.MaxInt}
	for n := -300; n <= 300; n++ {
		l = append(l, n)
	}
	for n := range 64 {
		l = append(l, n+1<<8, n+1<<16, n+1<<31, n+1<<32, n-1<<8, n-1<<16, n-1<<31, n-1<<32, math.MinInt+n)
	}
	return l
}

// numbersOfNone tells numbers that no operation has.
func numbersOfNone() []int {
	return slices.DeleteFunc(around(), func(n int) bool { return slices.Contains(operations(), n) })
}

// pairs tells for each operation every pair of operands that it takes, of the good ones.
func pairs(op int) [][2]api.Operand {
	var l [][2]api.Operand
	for _, a := range good() {
		for _, b := range good() {
			if takesThem(op, a, b) {
				l = append(l, [2]api.Operand{a.o, b.o})
			}
		}
	}
	return l
}

// plain tells an instruction of op, with operands of each sort.
func plain(op int) []api.Insn {
	var l []api.Insn
	for _, p := range pairs(op) {
		l = append(l, api.Insn{Op: op, A: p[0], B: p[1]})
	}
	return l
}

// check fails, if Is tells otherwise of i.
func check(t *testing.T, i api.Insn, want bool) {
	t.Helper()
	if got := Is(i); got != want {
		t.Fatalf("Is(%+v): %v, want %v", i, got, want)
	}
}

// TestTableP9_1: the table names each operation once.
func TestTableP9_1(t *testing.T) {
	count := map[int]int{}
	for _, l := range table {
		for _, op := range l.ops {
			count[op]++
		}
	}
	for _, op := range operations() {
		if count[op] != 1 {
			t.Errorf("operation %d is named %d times", op, count[op])
		}
	}
	if len(count) != 53 {
		t.Errorf("%d operations", len(count))
	}
}

func TestExamplesP9_1(t *testing.T) {
	far := mem(3, -1, 1, 4)
	for _, i := range []api.Insn{
		{Op: api.OAdd, A: reg(api.EAX), B: far},
		{Op: api.OAdd, A: far, B: reg(api.EAX), Len: 3},
		{Op: api.OMov, A: far, B: imm(0xffffffff)},
		{Op: api.OTest, A: far, B: imm(1)},
		{Op: api.OMov8, A: reg(7), B: imm(255)},
		{Op: api.OXchg, A: far, B: reg(4)},
		{Op: api.OShl, A: far, B: reg(1)},
		{Op: api.OSar, A: reg(4), B: imm(255)},
		{Op: api.OLea, A: reg(4), B: far},
		{Op: api.OSet, A: far, Cond: 15},
		{Op: api.OCmov, A: reg(0), B: far, Cond: 4},
		{Op: api.OJcc, A: imm(0xfffffffe), Cond: 5, Len: 2},
		{Op: api.OMovs, Rep: true, Len: 2},
		{Op: api.OStos},
		{Op: api.OInt, A: imm(128), Len: 2},
		{Op: api.OFld, A: far},
		{Op: api.OFchs},
		{Op: api.ONop, Len: 15},
	} {
		check(t, i, true)
	}
	for _, i := range []api.Insn{
		{},
		{Op: api.OAdd},
		{Op: api.OAdd, A: reg(0)},
		{Op: api.OAdd, A: far, B: far},
		{Op: api.OAdd, A: imm(0), B: reg(0)},
		{Op: api.OTest, A: reg(0), B: far},
		{Op: api.OMov8, A: reg(7), B: imm(256)},
		{Op: api.OXchg, A: reg(0), B: far},
		{Op: api.OXchg, A: reg(0), B: imm(0)},
		{Op: api.OShl, A: reg(0), B: reg(0)},
		{Op: api.OShl, A: reg(0), B: reg(2)},
		{Op: api.OShl, A: reg(0), B: imm(256)},
		{Op: api.OLea, A: reg(0), B: reg(0)},
		{Op: api.OLea, A: far, B: far},
		{Op: api.OImul2, A: far, B: reg(0)},
		{Op: api.OImul2, A: reg(0), B: imm(3)},
		{Op: api.OPop, A: far},
		{Op: api.OJcc, A: reg(0)},
		{Op: api.OInt, A: imm(3)},
		{Op: api.OInt},
		{Op: api.OFld},
		{Op: api.OFld, A: reg(0)},
		{Op: api.OFchs, A: far},
		{Op: api.ORet, A: imm(4)},
		{Op: api.OStos, Rep: true, Len: 16},
		{Op: api.OAdd, A: reg(0), B: reg(1), Cond: 1},
		{Op: api.OAdd, A: reg(0), B: reg(1), Rep: true},
	} {
		check(t, i, false)
	}
}

// TestOperandsP9_1: each operation, with each operand in each place.
func TestOperandsP9_1(t *testing.T) {
	fine, wrong := good(), bad()
	for _, op := range append(operations(), -1, 0, api.OFcom+1) {
		for _, a := range fine {
			for _, b := range fine {
				check(t, api.Insn{Op: op, A: a.o, B: b.o}, takesThem(op, a, b))
			}
			for _, b := range wrong {
				check(t, api.Insn{Op: op, A: a.o, B: b.o}, false)
				check(t, api.Insn{Op: op, A: b.o, B: a.o}, false)
			}
		}
		for k, a := range wrong {
			check(t, api.Insn{Op: op, A: a.o, B: a.o}, false)
			check(t, api.Insn{Op: op, A: a.o, B: wrong[(k*7+op+1)%len(wrong)].o}, false)
		}
	}
}

// TestSortsP9_1: how many of the table's operations take each two kinds of operands, counted
// by hand.
func TestSortsP9_1(t *testing.T) {
	kinds := []api.Operand{{}, reg(2), reg(1), imm(300), imm(200), imm(128), mem(2, 6, 8, 300)}
	want := [7][7]int{
		{9, 0, 0, 0, 0, 0, 0},
		{13, 16, 21, 10, 16, 16, 15},
		{13, 16, 21, 10, 16, 16, 15},
		{4, 0, 0, 0, 0, 0, 0},
		{4, 0, 0, 0, 0, 0, 0},
		{5, 0, 0, 0, 0, 0, 0},
		{19, 12, 17, 10, 16, 16, 0},
	}
	for x, a := range kinds {
		for y, b := range kinds {
			n := 0
			for _, op := range operations() {
				if Is(api.Insn{Op: op, A: a, B: b}) {
					n++
				}
			}
			if n != want[x][y] {
				t.Errorf("%d operations take %+v, %+v, want %d", n, a, b, want[x][y])
			}
		}
	}
}

func TestTwoInMemoryP9_1(t *testing.T) {
	for _, op := range append(operations(), numbersOfNone()...) {
		for _, a := range good() {
			for _, b := range good() {
				if a.is == "m" && b.is == "m" {
					check(t, api.Insn{Op: op, A: a.o, B: b.o}, false)
				}
			}
		}
	}
}

// TestRegistersP9_1: all numbers of registers, as operands, as bases, as indexes.
func TestRegistersP9_1(t *testing.T) {
	others := []sample{{api.Operand{}, "n"}, {reg(0), "r"}, {reg(1), "rc"}, {imm(128), "ibs"}, {imm(300), "i"}, {mem(3, -1, 1, 4), "m"}}
	for _, r := range around() {
		is := r >= 0 && r <= 7
		asReg, asBase, asIndex, asScaled := sample{reg(r), ""}, sample{mem(r, -1, 1, 4), ""}, sample{mem(3, r, 1, 4), ""}, sample{mem(3, r, 4, 4), ""}
		if is {
			asReg.is = "r"
		}
		if r == 1 {
			asReg.is = "rc"
		}
		if is || r == -1 {
			asBase.is = "m"
		}
		if is && r != 4 {
			asIndex.is, asScaled.is = "m", "m"
		}
		if r == -1 {
			asIndex.is = "m"
		}
		for _, op := range operations() {
			for _, s := range []sample{asReg, asBase, asIndex, asScaled} {
				for _, other := range others {
					check(t, api.Insn{Op: op, A: s.o, B: other.o}, takesThem(op, s, other))
					check(t, api.Insn{Op: op, A: other.o, B: s.o}, takesThem(op, other, s))
				}
			}
		}
	}
}

// TestNumbersP9_1: all numbers about what the table bounds, and those like them in their
// lowest bits.
func TestNumbersP9_1(t *testing.T) {
	var l []uint32
	for n := range uint32(1000) {
		l = append(l, n, -n, n<<8, n<<8+128, n<<22, n<<22+128, n<<22+255)
	}
	for _, n := range l {
		for _, op := range operations() {
			row := lineOf(op)
			inA := matches("i", row.a) || n == 128 && matches("s", row.a)
			inB := matches("i", row.b) || n < 256 && matches("b", row.b)
			check(t, api.Insn{Op: op, A: imm(n)}, inA && row.b == "n")
			for _, a := range []sample{{api.Operand{}, "n"}, {reg(0), "r"}, {mem(0, 0, 1, n), "m"}, {imm(n), "i"}} {
				check(t, api.Insn{Op: op, A: a.o, B: imm(n)}, inB && matches(a.is, row.a))
			}
		}
	}
}

// TestPlacesP9_1: all bases with all indexes and scales, in A and in B.
func TestPlacesP9_1(t *testing.T) {
	scales := []uint32{0x80000000, 0x80000001, 0xffffffff, 256, 257, 0x10001, 0x10004}
	for x := range uint32(20) {
		scales = append(scales, x, 1<<x, -x)
	}
	told := map[api.Operand]bool{}
	for base := -10; base <= 20; base++ {
		for index := -10; index <= 20; index++ {
			for _, scale := range scales {
				o := mem(base, index, scale, uint32(base*index))
				want := base >= -1 && base < 8
				switch index {
				case -1:
					want = want && scale == 1
				case 0, 1, 2, 3, 5, 6, 7:
					want = want && (scale == 1 || scale == 2 || scale == 4 || scale == 8)
				default:
					want = false
				}
				check(t, api.Insn{Op: api.OMov, A: o, B: reg(1)}, want)
				check(t, api.Insn{Op: api.OMov, A: reg(1), B: o}, want)
				check(t, api.Insn{Op: api.OLea, A: reg(1), B: o}, want)
				check(t, api.Insn{Op: api.OFcom, A: o}, want)
				told[o] = want
			}
		}
	}
	n := 0
	for _, want := range told {
		if want {
			n++
		}
	}
	if n != 9*(1+7*4) {
		t.Errorf("%d places", n)
	}
}

// TestDistancesP9_1: a distance may be any number.
func TestDistancesP9_1(t *testing.T) {
	for at := range 32 {
		for _, far := range []uint32{1 << at, ^uint32(1 << at), 1<<at - 1, -(1 << at)} {
			check(t, api.Insn{Op: api.OAdd, A: mem(-1, -1, 1, far), B: reg(0)}, true)
			check(t, api.Insn{Op: api.OAdd, A: reg(0), B: mem(4, 5, 8, far)}, true)
		}
	}
}

// TestLeftoversP9_1: each part that must be 0 spoils every instruction, in A and in B.
func TestLeftoversP9_1(t *testing.T) {
	for _, op := range operations() {
		for _, i := range plain(op) {
			check(t, i, true)
			for _, o := range withLeftovers(i.A) {
				x := i
				x.A = o
				check(t, x, false)
			}
			for _, o := range withLeftovers(i.B) {
				x := i
				x.B = o
				check(t, x, false)
			}
			for _, k := range kindsOfNone() {
				x, y := i, i
				x.A.Kind, y.B.Kind = k, k
				check(t, x, false)
				check(t, y, false)
			}
		}
	}
}

func TestLenP9_1(t *testing.T) {
	for _, op := range operations() {
		for k, i := range plain(op) {
			l := around()
			if k > 0 {
				l = []int{-1, 0, 1, 14, 15, 16}
			}
			for _, n := range l {
				i.Len = n
				check(t, i, n >= 0 && n <= 15)
			}
		}
	}
}

func TestRepP9_1(t *testing.T) {
	for _, op := range operations() {
		for _, i := range plain(op) {
			i.Rep = true
			for _, n := range []int{0, 1, 2, 15} {
				i.Len = n
				check(t, i, slices.Contains(withRep, op))
			}
			i.Len = 16
			check(t, i, false)
		}
	}
}

func TestCondP9_1(t *testing.T) {
	for _, op := range operations() {
		for k, i := range plain(op) {
			l := around()
			if k > 0 {
				l = []int{-1, 0, 1, 2, 8, 14, 15, 16}
			}
			for _, cond := range l {
				i.Cond = cond
				check(t, i, cond == 0 || slices.Contains(withCond, op) && cond >= 1 && cond <= 15)
			}
		}
	}
}

// TestWrongTwiceP9_1: what is wrong in one part isn't mended by another one.
func TestWrongTwiceP9_1(t *testing.T) {
	for _, op := range operations() {
		for _, i := range plain(op) {
			for _, cond := range []int{-1, 16} {
				for _, n := range []int{-1, 16} {
					for _, rep := range []bool{false, true} {
						x := i
						x.Cond, x.Len, x.Rep = cond, n, rep
						check(t, x, false)
						x.Len = 1
						check(t, x, false)
						x.Cond, x.Len = 0, n
						check(t, x, false)
					}
				}
			}
		}
	}
}

// isModel tells what Is is to tell, by the document's words.
func isModel(i api.Insn) bool {
	if i.Len < 0 || i.Len > 15 || i.Rep && !slices.Contains(withRep, i.Op) {
		return false
	}
	if i.Cond != 0 && (i.Cond < 0 || i.Cond > 15 || !slices.Contains(withCond, i.Op)) {
		return false
	}
	return takesThem(i.Op, sample{i.A, lettersOf(i.A)}, sample{i.B, lettersOf(i.B)})
}

// lettersOf tells the letters of what an operand is, part by part.
func lettersOf(o api.Operand) string {
	unplaced := o.Base == 0 && o.Index == 0 && o.Scale == 0
	switch o.Kind {
	case api.KNone:
		if unplaced && o.Reg == 0 && o.Imm == 0 {
			return "n"
		}
	case api.KReg:
		if unplaced && o.Imm == 0 && o.Reg >= 0 && o.Reg < 8 {
			return map[bool]string{true: "rc", false: "r"}[o.Reg == 1]
		}
	case api.KImm:
		if unplaced && o.Reg == 0 {
			return "i" + strings.Repeat("b", int(1-min(o.Imm/256, 1))) + strings.Repeat("s", int(1-min(o.Imm^128, 1)))
		}
	case api.KMem:
		scaled := slices.Contains([]uint32{1, 2, 4, 8}, o.Scale)
		indexed := o.Index == -1 && o.Scale == 1 || o.Index >= 0 && o.Index < 8 && o.Index != 4 && scaled
		if o.Reg == 0 && o.Base >= -1 && o.Base < 8 && indexed {
			return "m"
		}
	}
	return ""
}

// TestRandomP9_1: instructions at random, most of which are nearly one.
func TestRandomP9_1(t *testing.T) {
	r := rand.New(rand.NewSource(91))
	rare := func(usual, odd int) int {
		if r.Intn(8) > 0 {
			return usual
		}
		return odd
	}
	operand := func() api.Operand {
		o := api.Operand{Kind: rare(r.Intn(4), r.Intn(9)-3)}
		switch o.Kind {
		case api.KReg:
			o.Reg = rare(r.Intn(8), r.Intn(20)-6)
		case api.KImm:
			o.Imm = uint32(rare(120+r.Intn(16), r.Intn(1<<r.Intn(33))))
		case api.KMem:
			o = mem(rare(r.Intn(9)-1, r.Intn(20)-6), rare(r.Intn(9)-1, r.Intn(20)-6), uint32(1<<r.Intn(4)), r.Uint32())
			if r.Intn(2) == 0 {
				o.Index, o.Scale = -1, 1
			}
		}
		if r.Intn(20) == 0 {
			o.Reg = r.Intn(3) - 1
		}
		if r.Intn(20) == 0 {
			o.Base, o.Index, o.Scale = r.Intn(3)-1, r.Intn(3)-1, uint32(r.Intn(3))
		}
		return o
	}
	told := 0
	for range 400000 {
		op := rare(1+r.Intn(53), r.Intn(70)-8)
		i := api.Insn{Op: op, A: operand(), B: operand(), Len: rare(r.Intn(16), r.Intn(25)-5)}
		if r.Intn(2) == 0 && lineOf(op).b == "n" {
			i.B = api.Operand{}
		}
		if slices.Contains(withCond, op) || r.Intn(20) == 0 {
			i.Cond = rare(r.Intn(16), r.Intn(25)-5)
		}
		i.Rep = r.Intn(10) == 0
		want := isModel(i)
		if want {
			told++
		}
		check(t, i, want)
	}
	if told < 20000 {
		t.Errorf("only %d instructions", told)
	}
}

// changesOf tells i with one part changed each time, all but Len.
func changesOf(i api.Insn) []api.Insn {
	var l []api.Insn
	for _, n := range []int{1, -1, 2, 256, 1 << 32, math.MinInt} {
		for _, part := range []func(x *api.Insn) *int{
			func(x *api.Insn) *int { return &x.Op },
			func(x *api.Insn) *int { return &x.Cond },
			func(x *api.Insn) *int { return &x.A.Kind },
			func(x *api.Insn) *int { return &x.A.Reg },
			func(x *api.Insn) *int { return &x.A.Base },
			func(x *api.Insn) *int { return &x.A.Index },
			func(x *api.Insn) *int { return &x.B.Kind },
			func(x *api.Insn) *int { return &x.B.Reg },
			func(x *api.Insn) *int { return &x.B.Base },
			func(x *api.Insn) *int { return &x.B.Index },
		} {
			x := i
			*part(&x) += n
			l = append(l, x)
		}
	}
	for _, n := range []uint32{1, math.MaxUint32, 256, 1 << 31} {
		for _, part := range []func(x *api.Insn) *uint32{
			func(x *api.Insn) *uint32 { return &x.A.Imm },
			func(x *api.Insn) *uint32 { return &x.A.Scale },
			func(x *api.Insn) *uint32 { return &x.B.Imm },
			func(x *api.Insn) *uint32 { return &x.B.Scale },
		} {
			x := i
			*part(&x) += n
			l = append(l, x)
		}
	}
	x := i
	x.Rep = !x.Rep
	return append(l, x)
}

// mixed tells instructions of each operation, and what is none.
func mixed() []api.Insn {
	l := []api.Insn{
		{},
		{Op: -1, Cond: 99, A: api.Operand{Kind: 7, Reg: 8, Imm: 9, Base: 10, Index: 11, Scale: 12}, Rep: true},
		{Op: api.OAdd, B: api.Operand{Kind: 7, Reg: 8, Imm: 9, Base: 10, Index: 11, Scale: 12}, Len: -3},
		{Op: math.MaxInt, Cond: math.MinInt, Len: math.MinInt},
	}
	for _, op := range operations() {
		l = append(l, plain(op)[0])
	}
	return append(l, api.Insn{Op: api.OAdd, A: reg(0), B: mem(3, 1, 4, 8)}, api.Insn{Op: api.OMovs, Rep: true})
}

func TestSameP9_1(t *testing.T) {
	for _, i := range mixed() {
		for _, n := range around() {
			for _, k := range []int{0, 1, 15, n, -n, math.MaxInt} {
				a, b := i, i
				a.Len, b.Len = n, k
				if !Same(a, b) || !Same(b, a) {
					t.Fatalf("not the same: %+v, %+v", a, b)
				}
			}
		}
		for _, x := range changesOf(i) {
			for _, n := range []int{0, 1, 16, -1} {
				x.Len = n
				if Same(i, x) || Same(x, i) {
					t.Fatalf("the same: %+v, %+v", i, x)
				}
			}
		}
	}
}

// TestSameOfTwoP9_1: any two of many.
func TestSameOfTwoP9_1(t *testing.T) {
	var l []api.Insn
	for _, op := range []int{api.OMov, api.OAdd, api.OCmov, api.OJmp, api.ONop} {
		l = append(l, plain(op)...)
	}
	for x, a := range l {
		for y, b := range l {
			a.Len, b.Len = x, y
			if Same(a, b) != (x == y) {
				t.Fatalf("%+v, %+v: %v", a, b, x != y)
			}
		}
	}
}

// TestNothingChangesP9_1: what is handed in stays as it was.
func TestNothingChangesP9_1(t *testing.T) {
	a, b := api.Insn{Op: api.OAdd, A: reg(0), B: mem(3, 1, 4, 8), Len: 4}, api.Insn{Op: api.OAdd, Len: 9}
	wasA, wasB := a, b
	Same(a, b)
	Is(a)
	if a != wasA || b != wasB {
		t.Errorf("%+v, %+v", a, b)
	}
}

func TestEndsP9_2(t *testing.T) {
	all := append(good(), bad()...)
	for _, op := range append(operations(), numbersOfNone()...) {
		want := slices.Contains(thatEnd, op)
		for _, s := range all {
			for _, i := range []api.Insn{{Op: op, A: s.o}, {Op: op, A: reg(1), B: s.o}, {Op: op, A: s.o, Cond: 5, Len: 3}} {
				if Ends(i) != want {
					t.Fatalf("Ends(%+v): %v", i, !want)
				}
				i.Rep = true
				if !Ends(i) {
					t.Fatalf("Ends(%+v): false", i)
				}
			}
		}
	}
}

func TestTouchesP9_2(t *testing.T) {
	for _, op := range append(operations(), numbersOfNone()...) {
		for _, a := range good() {
			for _, b := range good() {
				want := slices.Contains(thatAccess, op) || op != api.OLea && (a.is == "m" || b.is == "m")
				for _, rep := range []bool{false, true} {
					i := api.Insn{Op: op, A: a.o, B: b.o, Rep: rep, Len: 2}
					if Touches(i) != want {
						t.Fatalf("Touches(%+v): %v", i, !want)
					}
				}
			}
		}
	}
}

func TestTouchesExamplesP9_2(t *testing.T) {
	far := mem(3, -1, 1, 4)
	for _, i := range []api.Insn{
		{Op: api.OPush, A: reg(0)}, {Op: api.OPush, A: imm(0)}, {Op: api.OPush, A: far}, {Op: api.OPop, A: reg(4)},
		{Op: api.OCall, A: imm(0)}, {Op: api.OCall, A: reg(0)}, {Op: api.OCall, A: far}, {Op: api.ORet},
		{Op: api.OMovs}, {Op: api.OStos}, {Op: api.OMovs, Rep: true}, {Op: api.OStos, Rep: true},
		{Op: api.OFld, A: far}, {Op: api.OFst, A: far}, {Op: api.OFcom, A: far}, {Op: api.OFdiv, A: far},
		{Op: api.OJmp, A: far}, {Op: api.OMov, A: reg(0), B: far}, {Op: api.OCmov, A: reg(0), B: far}, {Op: api.OSet, A: far},
		{Op: api.OMovzx, A: reg(0), B: far}, {Op: api.ODiv, A: far}, {Op: api.OCmp, A: far, B: imm(0)},
		{Op: api.OShl, A: far, B: imm(0)},
	} {
		if !Is(i) || !Touches(i) {
			t.Errorf("%+v: touches nothing", i)
		}
	}
	for _, i := range []api.Insn{
		{Op: api.OLea, A: reg(0), B: far}, {Op: api.OMov, A: reg(0), B: reg(1)}, {Op: api.OJmp, A: reg(0)},
		{Op: api.OJmp, A: imm(4)}, {Op: api.OJcc, A: imm(4)}, {Op: api.OInt, A: imm(128)}, {Op: api.ONop},
		{Op: api.OFchs}, {Op: api.OFabs}, {Op: api.OCdq}, {Op: api.OStd}, {Op: api.OXchg, A: reg(0), B: reg(1)},
		{Op: api.ODiv, A: reg(1)}, {Op: api.OSet, A: reg(1)}, {Op: api.OMov8, A: reg(1), B: imm(1)},
	} {
		if !Is(i) || Touches(i) {
			t.Errorf("%+v: touches memory", i)
		}
	}
}

func TestWritesReadsP9_2(t *testing.T) {
	for _, op := range append(operations(), numbersOfNone()...) {
		writes := alu.Writes(op)
		if op == api.OFcom {
			writes = 0b001011
		}
		for _, s := range append(good(), bad()...) {
			for _, i := range []api.Insn{{Op: op, A: s.o}, {Op: op, B: s.o}, {Op: op, A: s.o, B: reg(1), Cond: 3, Rep: true, Len: 9}} {
				if w, r := Writes(i), Reads(i); w != writes || r != alu.Reads(op) {
					t.Fatalf("%+v: writes %06b, reads %06b, want %06b, %06b", i, w, r, writes, alu.Reads(op))
				}
			}
		}
	}
}

// TestFlagsP9_2: the flags of each operation as layer 8's chapter has them, in numbers.
func TestFlagsP9_2(t *testing.T) {
	want := map[int][2]int{
		api.OAdd: {63, 0}, api.OOr: {63, 0}, api.OAdc: {63, 1}, api.OSbb: {63, 1}, api.OAnd: {63, 0}, api.OSub: {63, 0},
		api.OXor: {63, 0}, api.OCmp: {63, 0}, api.OTest: {63, 0}, api.OInc: {62, 0}, api.ODec: {62, 0}, api.ONeg: {63, 0},
		api.OMul: {33, 0}, api.OImul: {33, 0}, api.OImul2: {33, 0}, api.ORol: {33, 33}, api.ORor: {33, 33},
		api.OShl: {59, 59}, api.OShr: {59, 59}, api.OSar: {59, 59},
		api.OSet: {0, 63}, api.OCmov: {0, 63}, api.OJcc: {0, 63}, api.OFcom: {11, 0},
	}
	for _, op := range append(operations(), numbersOfNone()...) {
		i := api.Insn{Op: op}
		if w, r := Writes(i), Reads(i); w != want[op][0] || r != want[op][1] {
			t.Errorf("operation %d writes %d, reads %d, want %v", op, w, r, want[op])
		}
	}
}

// TestNumbersOfNoneP9_3: no operands make an instruction of a number that is no operation.
func TestNumbersOfNoneP9_3(t *testing.T) {
	for _, op := range numbersOfNone() {
		for _, a := range good() {
			for _, b := range good() {
				check(t, api.Insn{Op: op, A: a.o, B: b.o}, false)
			}
			check(t, api.Insn{Op: op, A: a.o, Rep: true}, false)
			check(t, api.Insn{Op: op, A: a.o, Cond: 1, Len: 1}, false)
		}
	}
}

// TestEachPartP9_3: of instructions of each operation, with each part changed in turn, those
// are left that the document's words leave.
func TestEachPartP9_3(t *testing.T) {
	for _, op := range operations() {
		for _, i := range plain(op) {
			for _, x := range changesOf(i) {
				check(t, x, isModel(x))
			}
		}
	}
}
