package asm

import (
	"math"
	"math/rand"
	"slices"
	"testing"

	"ferryman/api"
	"ferryman/host"
	"ferryman/rv"
)

// noRegisters: numbers that are no register's.
var noRegisters = []int{-1, -2, -31, -32, 32, 33, 63, 64, 1 << 31, 1 << 32, 1<<32 + 1, 1<<32 + 31, -1 << 32, math.MinInt, math.MinInt + 1, math.MinInt32, math.MaxInt32, math.MaxInt}

// branchOps: the kinds of branches.
var branchOps = []int{api.VBeq, api.VBne, api.VBlt, api.VBge, api.VBltu, api.VBgeu}

// froms: places of words, at the edges of the 32 bits too, and some that no word can stand at.
var froms = []uint32{0, 4, 1024, 4096, 32764, 0x000ffffc, 0x00100000, 0x12345678, 0x7ffffffc, 0x80000000, 0xffeffffc, 0xfff00000, 0xfffff000, 0xfffffffc, 1, 2, 0x80000003, 0xffffffff}

// between tells how far it is from from to to, the shorter way round; of two as long ones, back.
func between(from, to uint32) int64 {
	d := int64(to) - int64(from)
	if d < -1<<31 {
		d += 1 << 32
	}
	if d >= 1<<31 {
		d -= 1 << 32
	}
	return d
}

// apart tells v as a multiple of 4096 and a number from -2048 to 2047 that make it together,
// modulo 2^32.
func apart(v uint32) (int32, int32) {
	low := int64(v % 4096)
	if low > 2047 {
		low -= 4096
	}
	return int32(uint32(int64(v) - low)), int32(low)
}

// bitsOf tells a word's 32 bits.
func bitsOf(t *testing.T, w api.Word) uint32 {
	t.Helper()
	x, err := rv.Encode(w)
	if err != api.OK {
		t.Fatalf("%v is no word", w)
	}
	return x
}

// busy tells a host in which each register and each word of the memory is something.
func busy(r *rand.Rand) *host.Host {
	h := host.New()
	for i := range 32 {
		h.SetX(i, r.Uint32())
	}
	for at := uint32(0); at < api.HostSize; at += 4 {
		h.Store(at, 4, r.Uint32())
	}
	return h
}

// do lays words at the place and does them, one behind the other.
func do(t *testing.T, h *host.Host, at uint32, xs []uint32) {
	t.Helper()
	for i, x := range xs {
		if !h.Store(at+4*uint32(i), 4, x) {
			t.Fatalf("no word can be laid at %#x", at+4*uint32(i))
		}
	}
	h.SetPC(at)
	for i, x := range xs {
		if h.PC() != at+4*uint32(i) {
			t.Fatalf("word %d isn't come to", i)
		}
		if kind := h.Step(); kind != api.HRun {
			t.Fatalf("word %d (%#x) comes to %d", i, x, kind)
		}
	}
}

// sameBut fails, if a register of h isn't as before has it, but that one.
func sameBut(t *testing.T, h, before *host.Host, but int) {
	t.Helper()
	for i := range 32 {
		if i != but && h.X(i) != before.X(i) {
			t.Fatalf("x%d is %#x, was %#x", i, h.X(i), before.X(i))
		}
	}
}

// sameMemory fails, if the memory of h isn't that of before, but the words at the place.
func sameMemory(t *testing.T, h, before *host.Host, at uint32, words int) {
	t.Helper()
	for k := uint32(0); k < api.HostSize; k += 4 {
		got, _ := h.Load(k, 4)
		want, _ := before.Load(k, 4)
		if got != want && (k < at || k >= at+4*uint32(words)) {
			t.Fatalf("the word at %#x is %#x, was %#x", k, got, want)
		}
	}
}

// values: constants at the edges of 12 bits, of the upper 20, of 32.
var values = []uint32{
	0, 1, 2, 2046, 2047, 2048, 2049, 4094, 4095, 4096, 4097, 6143, 6144, 8191, 8192,
	0x55555555, 0xaaaaaaaa, 0x12345678, 0xdeadbeef, 0x000ff800, 0x00100000,
	0x7fffefff, 0x7ffff000, 0x7ffff7fe, 0x7ffff7ff, 0x7ffff800, 0x7ffff801, 0x7ffffffe, 0x7fffffff,
	0x80000000, 0x80000001, 0x800007ff, 0x80000800, 0x80000fff, 0x80001000,
	0xffffefff, 0xfffff000, 0xfffff001, 0xfffff7fe, 0xfffff7ff, 0xfffff800, 0xfffff801, 0xfffffffe, 0xffffffff,
}

// TestConstExamplesP5_1: as another assembler has them.
func TestConstExamplesP5_1(t *testing.T) {
	for _, c := range []struct {
		rd   int
		v    uint32
		want []uint32
	}{
		{5, 4096, []uint32{0x000012b7}},
		{5, 0, []uint32{0x00000293}},
		{5, 0xffffffff, []uint32{0xfff00293}},
		{5, 2047, []uint32{0x7ff00293}},
		{5, 2048, []uint32{0x000012b7, 0x80028293}},
		{5, 4095, []uint32{0x000012b7, 0xfff28293}},
		{5, 4097, []uint32{0x000012b7, 0x00128293}},
		{31, 0xfffff800, []uint32{0x80000f93}},
		{1, 0xfffff7ff, []uint32{0xfffff0b7, 0x7ff08093}},
		{5, 0x7fffffff, []uint32{0x800002b7, 0xfff28293}},
		{5, 0x7ffff7ff, []uint32{0x7ffff2b7, 0x7ff28293}},
		{5, 0x7ffff800, []uint32{0x800002b7, 0x80028293}},
		{5, 0x80000000, []uint32{0x800002b7}},
		{5, 0x800007ff, []uint32{0x800002b7, 0x7ff28293}},
		{5, 0x80000800, []uint32{0x800012b7, 0x80028293}},
		{5, 0xfffff000, []uint32{0xfffff2b7}},
		{5, 0x12345678, []uint32{0x123452b7, 0x67828293}},
		{5, 0xdeadbeef, []uint32{0xdeadc2b7, 0xeef28293}},
	} {
		if got := Const(c.rd, c.v); !slices.Equal(got, c.want) {
			t.Errorf("Const(%d, %#x): %#x, want %#x", c.rd, c.v, got, c.want)
		}
	}
}

// wantConst tells the words that the chapter names.
func wantConst(t *testing.T, rd int, v uint32) []uint32 {
	t.Helper()
	if int32(v) >= -2048 && int32(v) <= 2047 {
		return []uint32{bitsOf(t, api.Word{Op: api.VAddi, Rd: rd, Imm: int32(v)})}
	}
	upper, lower := apart(v)
	want := []uint32{bitsOf(t, api.Word{Op: api.VLui, Rd: rd, Imm: upper})}
	if v&0xfff != 0 {
		want = append(want, bitsOf(t, api.Word{Op: api.VAddi, Rd: rd, Rs1: rd, Imm: lower}))
	}
	return want
}

// TestConstP5_1: the words are those that are named, rd is v behind them whatever it was,
// and no other register is touched.
func TestConstP5_1(t *testing.T) {
	r := rand.New(rand.NewSource(51))
	check := func(h *host.Host, rd int, v uint32) {
		t.Helper()
		got := Const(rd, v)
		if want := wantConst(t, rd, v); !slices.Equal(got, want) {
			t.Fatalf("Const(%d, %#x): %#x, want %#x", rd, v, got, want)
		}
		before := h.Copy()
		do(t, h, api.CodeAt, got)
		if h.X(rd) != v || h.PC() != api.CodeAt+4*uint32(len(got)) {
			t.Fatalf("Const(%d, %#x) makes it %#x, at %#x", rd, v, h.X(rd), h.PC())
		}
		sameBut(t, h, before, rd)
		sameMemory(t, h, before, api.CodeAt, len(got))
	}
	h := busy(r)
	for rd := 1; rd <= 31; rd++ {
		for _, v := range values {
			h.SetX(rd, r.Uint32())
			check(h, rd, v)
		}
	}
	for range 500 {
		check(h, 1+r.Intn(31), r.Uint32()>>r.Intn(32))
	}
	for v := range uint32(1 << 14) { // both sides of 0, whole
		for _, v := range []uint32{v, -v} {
			if got, want := Const(7, v), wantConst(t, 7, v); !slices.Equal(got, want) {
				t.Fatalf("Const(7, %#x): %#x, want %#x", v, got, want)
			}
		}
	}
}

func TestConstOfNoRegisterP5_1(t *testing.T) {
	for _, rd := range append(noRegisters, 0) {
		for _, v := range values {
			if got := Const(rd, v); len(got) != 0 {
				t.Errorf("Const(%d, %#x): %#x", rd, v, got)
			}
		}
	}
}

// TestJumpExamplesP5_1: as another assembler has them.
func TestJumpExamplesP5_1(t *testing.T) {
	for _, c := range []struct {
		from, to uint32
		want     uint32
		ok       bool
	}{
		{1024, 1024, 0x0000006f, true},
		{1024, 1026, 0x0020006f, true},
		{1024, 1032, 0x0080006f, true},
		{1024, 1016, 0xff9ff06f, true},
		{0, 2048, 0x0010006f, true},
		{0, 1048574, 0x7ffff06f, true}, // the farthest ahead
		{0, 1048575, 0, false},
		{0, 1048576, 0, false},
		{1048576, 0, 0x8000006f, true}, // the farthest back
		{1048577, 0, 0, false},
		{1048578, 0, 0, false},
		{1024, 1025, 0, false},
		{1024, 1023, 0, false},
		{0xfffffffc, 4, 0x0080006f, true}, // round the end
		{4, 0xfffffffc, 0xff9ff06f, true},
		{0, 0xfff00000, 0x8000006f, true},
		{0, 0xffeffffe, 0, false},
		{0xfffffffe, 1048572, 0x7ffff06f, true},
		{0xfffffffe, 1048574, 0, false},
		{0, 0x80000000, 0, false},
		{0x80000000, 0, 0, false},
		{0x7ffffffc, 0x80000004, 0x0080006f, true},
		{0x80000004, 0x7ffffffc, 0xff9ff06f, true},
		{1025, 1032, 0, false},
		{1025, 1033, 0x0080006f, true}, // what is odd is what lies between, not the places
	} {
		if got, ok := Jump(c.from, c.to); got != c.want || ok != c.ok {
			t.Errorf("Jump(%#x, %#x): %#x, %v, want %#x, %v", c.from, c.to, got, ok, c.want, c.ok)
		}
	}
}

// distances: how far jumps and branches go, at the edges of their reach, and farther.
func distances() []uint32 {
	var ds []uint32
	for _, edge := range []uint32{0, 2048, 4096, 8192, 1 << 19, 1 << 20, 1 << 21, 1 << 24, 1 << 31} {
		for by := range uint32(13) {
			ds = append(ds, edge+by-6, 0-edge+by-6)
		}
	}
	return ds
}

// TestJumpP5_1: from anywhere to places at all distances, and to random ones.
func TestJumpP5_1(t *testing.T) {
	check := func(from, to uint32) {
		t.Helper()
		d, want := between(from, to), uint32(0)
		can := d%2 == 0 && d >= -1048576 && d <= 1048574
		if can {
			want = bitsOf(t, api.Word{Op: api.VJal, Imm: int32(d)})
		}
		if got, ok := Jump(from, to); got != want || ok != can {
			t.Fatalf("Jump(%#x, %#x): %#x, %v, want %#x, %v", from, to, got, ok, want, can)
		}
	}
	r := rand.New(rand.NewSource(52))
	for _, from := range froms {
		for _, d := range distances() {
			check(from, from+d)
		}
	}
	for range 20000 {
		from := r.Uint32()
		check(from, r.Uint32())
		check(from, from+r.Uint32()>>(8+r.Intn(8)))
		check(from, from-r.Uint32()>>(8+r.Intn(8)))
	}
}

// TestFarExamplesP5_1: as another assembler has them.
func TestFarExamplesP5_1(t *testing.T) {
	for _, c := range []struct {
		from, to uint32
		tmp      int
		want     []uint32
	}{
		{0, 0x12345678, 6, []uint32{0x12345317, 0x67830067}},
		{1024, 1024 + 2047, 6, []uint32{0x00000317, 0x7ff30067}},
		{1024, 1024 + 2048, 6, []uint32{0x00001317, 0x80030067}},
		{0x80000000, 0xffffffff, 31, []uint32{0x80000f97, 0xffff8067}},
		{0, 0xfffff7ff, 1, []uint32{0xfffff097, 0x7ff08067}},
		{4096, 4096, 1, []uint32{0x00000097, 0x00008067}},
		{2048, 0, 1, []uint32{0x00000097, 0x80008067}},
		{0xfffffffc, 0x7ffffffc, 6, []uint32{0x80000317, 0x00030067}},
	} {
		if got := Far(c.from, c.to, c.tmp); !slices.Equal(got, c.want) {
			t.Errorf("Far(%#x, %#x, %d): %#x, want %#x", c.from, c.to, c.tmp, got, c.want)
		}
	}
}

// TestFarP5_1: VAuipc of tmp and VJalr of x0, tmp, which go from from to to, whatever lies
// between, round the end too.
func TestFarP5_1(t *testing.T) {
	check := func(from, to uint32, tmp int) {
		t.Helper()
		upper, lower := apart(to - from)
		want := []uint32{bitsOf(t, api.Word{Op: api.VAuipc, Rd: tmp, Imm: upper}), bitsOf(t, api.Word{Op: api.VJalr, Rs1: tmp, Imm: lower})}
		if got := Far(from, to, tmp); !slices.Equal(got, want) || from+uint32(upper)+uint32(lower) != to {
			t.Fatalf("Far(%#x, %#x, %d): %#x, want %#x", from, to, tmp, got, want)
		}
	}
	r := rand.New(rand.NewSource(53))
	for _, from := range froms {
		for _, d := range append(distances(), values...) {
			check(from, from+d, 1+r.Intn(31))
		}
	}
	for tmp := 1; tmp <= 31; tmp++ {
		for range 500 {
			check(r.Uint32(), r.Uint32(), tmp)
		}
	}
}

// TestFarRunsP5_1: a host that does the words goes there, and keeps what isn't in tmp.
func TestFarRunsP5_1(t *testing.T) {
	r := rand.New(rand.NewSource(54))
	h := busy(r)
	for tmp := 1; tmp <= 31; tmp++ {
		for _, from := range []uint32{0, 1024, 4092, 4096, 32760} {
			for _, to := range []uint32{0, 4, 1024, from, from + 8, from + 2044, from + 2048, from + 4096, from - 4, from - 2048, from - 2052, 0x7ffffffc, 0x80000000, 0xfffffffc, r.Uint32() &^ 3} {
				before := h.Copy()
				do(t, h, from, Far(from, to, tmp))
				if h.PC() != to {
					t.Fatalf("Far(%#x, %#x, %d) goes to %#x", from, to, tmp, h.PC())
				}
				sameBut(t, h, before, tmp)
			}
		}
	}
	before := h.Copy()
	do(t, h, 2048, Far(2048, 3000, 9))
	sameMemory(t, h, before, 2048, 2)
	do(t, h, 2048, Far(2048, 3001, 9)) // VJalr goes to no odd place: to the one below
	if h.PC() != 3000 {
		t.Errorf("Far to 3001 goes to %d", h.PC())
	}
}

func TestFarOfNoRegisterP5_1(t *testing.T) {
	for _, tmp := range append(noRegisters, 0) {
		for _, to := range values {
			if got := Far(1024, to, tmp); len(got) != 0 {
				t.Errorf("Far(1024, %#x, %d): %#x", to, tmp, got)
			}
		}
	}
}

// TestBranchExamplesP5_1: as another assembler has them.
func TestBranchExamplesP5_1(t *testing.T) {
	for _, c := range []struct {
		op, rs1, rs2 int
		from, to     uint32
		want         uint32
		ok           bool
	}{
		{api.VBeq, 1, 2, 1024, 1016, 0xfe208ce3, true},
		{api.VBne, 0, 31, 0, 4094, 0x7ff01fe3, true}, // the farthest ahead
		{api.VBne, 0, 31, 0, 4095, 0, false},
		{api.VBne, 0, 31, 0, 4096, 0, false},
		{api.VBlt, 31, 0, 4096, 0, 0x800fc063, true}, // the farthest back
		{api.VBlt, 31, 0, 4097, 0, 0, false},
		{api.VBlt, 31, 0, 4098, 0, 0, false},
		{api.VBge, 15, 16, 1024, 1024, 0x0107d063, true},
		{api.VBltu, 5, 6, 0, 2048, 0x0062e0e3, true},
		{api.VBgeu, 10, 17, 1024, 1026, 0x01157163, true},
		{api.VBgeu, 10, 17, 1024, 1025, 0, false},
		{api.VBeq, 1, 2, 4, 0xfffffffc, 0xfe208ce3, true}, // round the end
		{api.VBne, 0, 31, 0xfffffffe, 4092, 0x7ff01fe3, true},
		{api.VBne, 0, 31, 0xfffffffe, 4094, 0, false},
		{api.VBlt, 31, 0, 0, 0xfffff000, 0x800fc063, true},
		{api.VBlt, 31, 0, 0, 0xffffeffe, 0, false},
		{api.VBlt, 31, 0, 0x80000ffe, 0x7ffffffe, 0x800fc063, true},
		{api.VBeq, 1, 2, 0, 0x80000000, 0, false},
		{api.VBeq, 1, 32, 1024, 1016, 0, false},
		{api.VBeq, -1, 2, 1024, 1016, 0, false},
		{api.VJal, 0, 0, 1024, 1016, 0, false},
		{0, 1, 2, 1024, 1016, 0, false},
	} {
		if got, ok := Branch(c.op, c.rs1, c.rs2, c.from, c.to); got != c.want || ok != c.ok {
			t.Errorf("Branch(%d, %d, %d, %#x, %#x): %#x, %v, want %#x, %v", c.op, c.rs1, c.rs2, c.from, c.to, got, ok, c.want, c.ok)
		}
	}
}

// TestBranchP5_1: each kind, from anywhere to places at all distances, and to random ones.
func TestBranchP5_1(t *testing.T) {
	r := rand.New(rand.NewSource(55))
	check := func(op, rs1, rs2 int, from, to uint32) {
		t.Helper()
		d, want := between(from, to), uint32(0)
		can := d%2 == 0 && d >= -4096 && d <= 4094
		if can {
			want = bitsOf(t, api.Word{Op: op, Rs1: rs1, Rs2: rs2, Imm: int32(d)})
		}
		if got, ok := Branch(op, rs1, rs2, from, to); got != want || ok != can {
			t.Fatalf("Branch(%d, %d, %d, %#x, %#x): %#x, %v, want %#x, %v", op, rs1, rs2, from, to, got, ok, want, can)
		}
	}
	for _, op := range branchOps {
		for _, from := range froms {
			for _, d := range distances() {
				check(op, r.Intn(32), r.Intn(32), from, from+d)
			}
		}
		for rs1 := range 32 {
			for rs2 := range 32 {
				check(op, rs1, rs2, 1024, 1024+uint32(r.Intn(4096))-2048)
			}
		}
		for range 5000 {
			from := r.Uint32()
			check(op, r.Intn(32), r.Intn(32), from, r.Uint32())
			check(op, r.Intn(32), r.Intn(32), from, from+uint32(r.Intn(10000))-5000)
		}
	}
}

// TestBranchOfAnotherP5_1: of a kind that is no branch, of what is no register: false.
func TestBranchOfAnotherP5_1(t *testing.T) {
	refused := func(op, rs1, rs2 int, to uint32) {
		t.Helper()
		if got, ok := Branch(op, rs1, rs2, 1024, to); got != 0 || ok {
			t.Errorf("Branch(%d, %d, %d, 1024, %d): %#x, %v", op, rs1, rs2, to, got, ok)
		}
	}
	others := []int{math.MinInt, math.MinInt + 1, math.MinInt32, -1 << 32, 1<<32 + api.VBeq, -1<<32 + api.VBeq, math.MaxInt32, math.MaxInt}
	for op := -10; op < 100; op++ {
		if !slices.Contains(branchOps, op) {
			others = append(others, op)
		}
	}
	for _, op := range others {
		for _, to := range []uint32{0, 1024, 1032, 1033, 1 << 20} {
			refused(op, 0, 0, to)
			refused(op, 1, 2, to)
		}
	}
	for _, op := range branchOps {
		for _, no := range noRegisters {
			for _, to := range []uint32{1024, 1032, 1033, 1 << 20} {
				refused(op, no, 0, to)
				refused(op, 31, no, to)
				refused(op, no, no, to)
			}
		}
	}
}

// TestListsP5_1: each answer is memory of its own, with the room behind it.
func TestListsP5_1(t *testing.T) {
	asks := []func() []uint32{
		func() []uint32 { return Const(5, 7) },
		func() []uint32 { return Const(5, 4096) },
		func() []uint32 { return Const(5, 0x12345678) },
		func() []uint32 { return Far(1024, 0x12345678, 5) },
	}
	for i, ask := range asks {
		want := slices.Clone(ask())
		earlier, l := ask(), ask()
		for _, l := range [][]uint32{l, append(l, 1)} {
			for k := range l[:cap(l)] {
				l[:cap(l)][k] = 0xffffffff
			}
		}
		if now := ask(); !slices.Equal(earlier, want) || !slices.Equal(now, want) {
			t.Errorf("call %d: %#x earlier, %#x now, want %#x", i, earlier, now, want)
		}
	}
}

// anyWord tells a random word of the kind.
func anyWord(r *rand.Rand, op int) api.Word {
	for {
		imms := []int32{0, int32(r.Intn(32)), int32(r.Intn(4096)) - 2048, (int32(r.Intn(4096)) - 2048) * 2, (int32(r.Intn(1<<20)) - 1<<19) * 2, int32(r.Uint32() &^ 4095)}
		w := api.Word{Op: op, Rd: r.Intn(32) * r.Intn(2), Rs1: r.Intn(32) * r.Intn(2), Rs2: r.Intn(32) * r.Intn(2), Imm: imms[r.Intn(len(imms))]}
		if rv.Is(w) {
			return w
		}
	}
}

func TestTargetExamplesP5_2(t *testing.T) {
	for _, c := range []struct {
		from, word, want uint32
		ok               bool
	}{
		{1024, 0x0000006f, 1024, true}, // jal x0
		{1024, 0x0080006f, 1032, true},
		{1024, 0xff9ff06f, 1016, true},
		{0, 0x0010006f, 2048, true},
		{0, 0x7ffff06f, 1048574, true},
		{0, 0x8000006f, 0xfff00000, true},
		{0xfffffffc, 0x0080006f, 4, true},
		{4, 0xff9ff06f, 0xfffffffc, true},
		{1024, 0x064000ef, 1124, true}, // jal x1
		{1024, 0xffffffef, 1022, true}, // jal x31
		{3, 0x0080006f, 11, true},
		{1024, 0xfe208ce3, 1016, true}, // branches
		{0, 0x7ff01fe3, 4094, true},
		{0, 0x800fc063, 0xfffff000, true},
		{1024, 0x0107d063, 1024, true},
		{0xffffffff, 0x0062e0e3, 2047, true},
		{1024, 0x01157163, 1026, true},
		{1024, 0x00802063, 0, false}, // no branches, though they look so
		{1024, 0x00803063, 0, false},
		{1024, 0x00008067, 0, false}, // jalr
		{1024, 0x00001317, 0, false}, // auipc
		{1024, 0x00000013, 0, false}, // addi
		{1024, 0x00000073, 0, false}, // ecall
		{1024, 0, 0, false},
		{1024, 0xffffffff, 0, false},
	} {
		if got, ok := Target(c.from, c.word); got != c.want || ok != c.ok {
			t.Errorf("Target(%#x, %#x): %#x, %v, want %#x, %v", c.from, c.word, got, ok, c.want, c.ok)
		}
	}
}

// goes tells how far the word goes by itself; false of what is no VJal and no branch.
func goes(x uint32) (api.Word, bool) {
	w, ok := rv.Decode(x)
	return w, ok && (w.Op == api.VJal || slices.Contains(branchOps, w.Op))
}

// TestTargetP5_2: words of every kind, each one's neighbours, and random ones.
func TestTargetP5_2(t *testing.T) {
	r := rand.New(rand.NewSource(56))
	check := func(from, x uint32) {
		t.Helper()
		w, can := goes(x)
		want := uint32(0)
		if can {
			want = uint32(int64(from) + int64(w.Imm))
		}
		if got, ok := Target(from, x); got != want || ok != can {
			t.Fatalf("Target(%#x, %#x): %#x, %v, want %#x, %v", from, x, got, ok, want, can)
		}
	}
	for op := api.VLui; op <= api.VEbreak; op++ {
		for range 100 {
			x := bitsOf(t, anyWord(r, op))
			for _, from := range froms {
				check(from, x)
			}
			for k := range 32 {
				check(r.Uint32(), x^1<<k)
			}
		}
	}
	for range 20000 {
		check(r.Uint32(), r.Uint32())
	}
}

func TestPatchExamplesP5_2(t *testing.T) {
	for _, c := range []struct {
		word, from, to uint32
		want           uint32
		err            api.Errno
	}{
		{0x0000006f, 1024, 1032, 0x0080006f, api.OK},
		{0x0080006f, 1024, 1016, 0xff9ff06f, api.OK},
		{0xff9ff06f, 0, 1048574, 0x7ffff06f, api.OK},
		{0xff9ff06f, 0, 1048576, 0, api.ErrRange},
		{0xff9ff06f, 1048576, 0, 0x8000006f, api.OK},
		{0xff9ff06f, 1048578, 0, 0, api.ErrRange},
		{0xff9ff06f, 1024, 1025, 0, api.ErrRange},
		{0xff9ff06f, 1025, 1024, 0, api.ErrRange},
		{0x0000006f, 0xfffffffc, 4, 0x0080006f, api.OK},
		{0x0000006f, 4, 0xfffffffc, 0xff9ff06f, api.OK},
		{0x0000006f, 0, 0x80000000, 0, api.ErrRange},
		{0x000000ef, 0, 100, 0x064000ef, api.OK}, // jal x1 stays that
		{0x064000ef, 1024, 1024, 0x000000ef, api.OK},
		{0x00000fef, 1024, 1022, 0xffffffef, api.OK},
		{0x00208063, 1024, 1016, 0xfe208ce3, api.OK}, // branches
		{0x01f01063, 0, 4094, 0x7ff01fe3, api.OK},
		{0x01f01063, 0, 4095, 0, api.ErrRange},
		{0x01f01063, 0, 4096, 0, api.ErrRange},
		{0x000fc063, 4096, 0, 0x800fc063, api.OK},
		{0x000fc063, 4098, 0, 0, api.ErrRange},
		{0x0107d063, 1024, 1024, 0x0107d063, api.OK},
		{0x00008067, 1024, 1032, 0, api.ErrForm}, // jalr
		{0x00000013, 1024, 1032, 0, api.ErrForm}, // addi
		{0x00000073, 1024, 1032, 0, api.ErrForm}, // ecall
		{0x00802063, 1024, 1032, 0, api.ErrForm}, // no word
		{0, 1024, 1032, 0, api.ErrForm},
		{0, 1024, 1025, 0, api.ErrForm}, // ahead of ErrRange
		{0x00000013, 0, 0x80000000, 0, api.ErrForm},
		{0xffffffff, 0, 1, 0, api.ErrForm},
	} {
		if got, err := Patch(c.word, c.from, c.to); got != c.want || err != c.err {
			t.Errorf("Patch(%#x, %#x, %#x): %#x, %v, want %#x, %v", c.word, c.from, c.to, got, err, c.want, c.err)
		}
	}
}

// TestPatchP5_2: words of every kind and random ones, to places at all distances.
func TestPatchP5_2(t *testing.T) {
	r := rand.New(rand.NewSource(57))
	ds := distances()
	check := func(x, from, to uint32) {
		t.Helper()
		w, can := goes(x)
		d, want, err := between(from, to), uint32(0), api.ErrForm
		reach := int64(4096)
		if w.Op == api.VJal {
			reach = 1048576
		}
		switch {
		case can && d%2 == 0 && d >= -reach && d < reach:
			w.Imm = int32(d)
			want, err = bitsOf(t, w), api.OK
		case can:
			err = api.ErrRange
		}
		if got, e := Patch(x, from, to); got != want || e != err {
			t.Fatalf("Patch(%#x, %#x, %#x): %#x, %v, want %#x, %v", x, from, to, got, e, want, err)
		}
	}
	for op := api.VLui; op <= api.VEbreak; op++ {
		for range 10 {
			x := bitsOf(t, anyWord(r, op))
			for _, d := range ds {
				from := froms[r.Intn(len(froms))]
				check(x, from, from+d)
			}
			for k := range 32 {
				from := r.Uint32()
				check(x^1<<k, from, from+2*uint32(r.Intn(4000))-4000)
			}
		}
	}
	for range 20000 {
		check(r.Uint32(), r.Uint32(), r.Uint32())
	}
}

// ownBits tells the bits of a jump or branch that have nothing to do with where it goes.
func ownBits(op int) uint32 {
	if op == api.VJal {
		return 0x00000fff // its kind, Rd
	}
	return 0x01fff07f // its kind, Rs1, Rs2
}

// TestThereAndBackP5_3: what is patched goes there, keeps all but that, and is patched back
// to what it was, from whatever place.
func TestThereAndBackP5_3(t *testing.T) {
	r := rand.New(rand.NewSource(58))
	for _, op := range append(branchOps, api.VJal) {
		for range 20000 {
			x, from := bitsOf(t, anyWord(r, op)), r.Uint32()
			was, ok := Target(from, x)
			to := from + uint32(anyWord(r, op).Imm)
			y, err := Patch(x, from, to)
			if !ok || err != api.OK {
				t.Fatalf("Patch(%#x, %#x, %#x): %v", x, from, to, err)
			}
			if at, ok := Target(from, y); at != to || !ok || (x^y)&ownBits(op) != 0 {
				t.Fatalf("Patch(%#x, %#x, %#x): %#x, which goes to %#x", x, from, to, y, at)
			}
			if z, err := Patch(y, from, was); z != x || err != api.OK {
				t.Fatalf("Patch(%#x, %#x, %#x): %#x, %v, want %#x", y, from, was, z, err, x)
			}
		}
	}
}

// TestMadeAgainP5_3: what Jump and Branch make goes where it was made to go, and is what
// another one becomes that is patched to go there.
func TestMadeAgainP5_3(t *testing.T) {
	r := rand.New(rand.NewSource(59))
	for range 20000 {
		from := r.Uint32()
		to, other := from+uint32(anyWord(r, api.VBeq).Imm), from+uint32(anyWord(r, api.VBeq).Imm)
		op, rs1, rs2 := branchOps[r.Intn(len(branchOps))], r.Intn(32), r.Intn(32)
		x, _ := Branch(op, rs1, rs2, from, to)
		y, _ := Branch(op, rs1, rs2, from, other)
		j, _ := Jump(from, to)
		k, _ := Jump(from, other)
		for _, pair := range [][2]uint32{{x, y}, {j, k}} {
			if at, ok := Target(from, pair[0]); at != to || !ok {
				t.Fatalf("Target(%#x, %#x): %#x, %v, want %#x", from, pair[0], at, ok, to)
			}
			if z, err := Patch(pair[1], from, to); z != pair[0] || err != api.OK {
				t.Fatalf("Patch(%#x, %#x, %#x): %#x, %v, want %#x", pair[1], from, to, z, err, pair[0])
			}
		}
	}
}

// TestPatchedRunsP5_3: a host that comes to what was patched goes where it was patched to;
// all else is as it was: what the branch asks, what the jump leaves in its register.
func TestPatchedRunsP5_3(t *testing.T) {
	r := rand.New(rand.NewSource(60))
	h := busy(r)
	for range 2000 {
		op := append(branchOps, api.VJal)[r.Intn(7)]
		w := anyWord(r, op)
		from := uint32(r.Intn(api.HostSize)) &^ 3
		to := from + uint32(anyWord(r, op).Imm)&^3
		x, err := Patch(bitsOf(t, w), from, to)
		if err != api.OK {
			t.Fatalf("%s to %#x from %#x: %v", rv.Text(w), to, from, err)
		}
		w.Imm = 8 // as it is, but for where it goes
		plain := h.Copy()
		do(t, plain, from, []uint32{bitsOf(t, w)})
		do(t, h, from, []uint32{x})
		sameBut(t, h, plain, -1)
		want := from + 4
		if plain.PC() != want {
			want = to
		}
		if h.PC() != want {
			t.Fatalf("%#x at %#x goes to %#x, want %#x", x, from, h.PC(), want)
		}
	}
}
