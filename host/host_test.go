package host

import (
	"math"
	"math/big"
	"math/rand"
	"sync"
	"testing"

	"ferryman/api"
	"ferryman/rv"
)

// shot: all that can be told of a host.
type shot struct {
	x       [32]uint32
	pc, why uint32
	mem     [api.HostSize]byte
}

// shotOf tells all that can be told of h.
func shotOf(h *Host) shot {
	s := shot{pc: h.PC(), why: h.Why()}
	for i := range s.x {
		s.x[i] = h.X(i)
	}
	for at := uint32(0); at < api.HostSize; at += 4 {
		v, ok := h.Load(at, 4)
		if !ok {
			panic("a word of the memory can't be loaded")
		}
		s.mem[at], s.mem[at+1], s.mem[at+2], s.mem[at+3] = byte(v), byte(v>>8), byte(v>>16), byte(v>>24)
	}
	return s
}

// same fails, if h isn't as s has it.
func same(t *testing.T, h *Host, s shot, about ...any) {
	t.Helper()
	got := shotOf(h)
	if got == s {
		return
	}
	t.Errorf("%v: differs", about)
	if got.pc != s.pc || got.why != s.why {
		t.Errorf("  PC %#x, Why %#x, want %#x, %#x", got.pc, got.why, s.pc, s.why)
	}
	for i := range s.x {
		if got.x[i] != s.x[i] {
			t.Errorf("  x%d %#x, want %#x", i, got.x[i], s.x[i])
		}
	}
	for at := range s.mem {
		if got.mem[at] != s.mem[at] {
			t.Errorf("  byte %#x is %#x, want %#x", at, got.mem[at], s.mem[at])
		}
	}
	t.FailNow()
}

// set sets a word of the memory in s.
func (s *shot) set(at, v uint32) {
	for k := range uint32(4) {
		s.mem[at+k] = byte(v >> (8 * k))
	}
}

// lay lays words from the place at on.
func lay(t *testing.T, h *Host, at uint32, ws ...api.Word) {
	t.Helper()
	for i, w := range ws {
		x, err := rv.Encode(w)
		if err != api.OK || !h.Store(at+4*uint32(i), 4, x) {
			t.Fatalf("%v can't be laid", w)
		}
	}
}

// busy tells a host in which nothing is as New made it: filled by r, standing at pc.
func busy(r *rand.Rand, pc uint32) *Host {
	h := New()
	for i := range 32 {
		h.SetX(i, r.Uint32())
	}
	for at := uint32(0); at < api.HostSize; at += 4 {
		h.Store(at, 4, r.Uint32())
	}
	h.SetPC(pc)
	return h
}

// oddInts: numbers that are no register and no count of bytes.
var oddInts = []int{-1, -2, -4, -8, -31, -32, 32, 33, 63, 64, 1 << 31, 1 << 32, 1<<32 + 1, 1<<32 + 2, 1<<32 + 4, -1 << 32, math.MinInt, math.MinInt + 1, math.MaxInt, math.MaxInt32, math.MinInt32}

// edges: words at their edges.
var edges = []uint32{0, 1, 2, 3, 4, 31, 32, 33, 0x7f, 0x80, 0x81, 0xff, 0x100, 0x7fff, 0x8000, 0xffff, 0x10000, 0x55555555, 0xaaaaaaaa, 0x7ffffffe, 0x7fffffff, 0x80000000, 0x80000001, 0xffff8000, 0xffffff80, 0xfffffffd, 0xfffffffe, 0xffffffff}

func TestNewP4_1(t *testing.T) {
	for range 2 { // one that was made earlier leaves nothing
		h := New()
		same(t, h, shot{pc: 1024}, "New()")
		if h.PC() != api.CodeAt {
			t.Fatalf("PC: %#x", h.PC())
		}
		for at := range uint32(32768) {
			if v, ok := h.Load(at, 1); v != 0 || !ok {
				t.Fatalf("byte %#x: %d, %v", at, v, ok)
			}
		}
		for i := range 32 {
			h.SetX(i, 7)
		}
		for at := range uint32(32768) {
			h.Store(at, 1, 7)
		}
		h.SetPC(8)
		h.Step()
	}
}

func TestRegistersP4_1(t *testing.T) {
	h := New()
	want := shotOf(h)
	for i := 1; i <= 31; i++ {
		for _, v := range append(edges, 0x01010101*uint32(i)) {
			h.SetX(i, v)
			want.x[i] = v
			if h.X(i) != v {
				t.Errorf("X(%d): %#x, want %#x", i, h.X(i), v)
			}
		}
		same(t, h, want, "SetX", i)
	}
	for _, i := range append(oddInts, 0) {
		h.SetX(i, 0xffffffff)
		if h.X(i) != 0 {
			t.Errorf("X(%d): %#x", i, h.X(i))
		}
		same(t, h, want, "SetX", i)
	}
}

func TestSetPCP4_1(t *testing.T) {
	h := New()
	want := shotOf(h)
	for _, pc := range append(edges, 5, 6, 7, 1024, 32764, 32765, 32768, 32772) {
		h.SetPC(pc)
		want.pc = pc
		same(t, h, want, "SetPC", pc)
	}
}

func TestLoadStoreExamplesP4_1(t *testing.T) {
	h := New()
	if !h.Store(8, 4, 0x87654321) {
		t.Fatal("no word stored")
	}
	for _, c := range []struct {
		at    uint32
		bytes int
		want  uint32
	}{
		{8, 1, 0x21}, {9, 1, 0x43}, {10, 1, 0x65}, {11, 1, 0x87},
		{8, 2, 0x4321}, {10, 2, 0x8765}, {8, 4, 0x87654321}, {4, 4, 0}, {12, 4, 0}, {7, 1, 0}, {12, 1, 0},
	} {
		if v, ok := h.Load(c.at, c.bytes); v != c.want || !ok {
			t.Errorf("Load(%d, %d): %#x, %v, want %#x", c.at, c.bytes, v, ok, c.want)
		}
	}
	h.Store(9, 1, 0xffffff00)
	h.Store(10, 2, 0xffff1234)
	if v, ok := h.Load(8, 4); v != 0x12340021 || !ok {
		t.Errorf("stored over: %#x, %v", v, ok)
	}
	h.Store(0, 4, 0x01020304)
	h.Store(32764, 4, 0x05060708)
	for at, want := range map[uint32]uint32{0: 4, 3: 1, 32764: 8, 32767: 5} {
		if v, ok := h.Load(at, 1); v != want || !ok {
			t.Errorf("Load(%d, 1): %d, %v, want %d", at, v, ok, want)
		}
	}
}

// canBe tells whether so many bytes can be moved at the place, reckoned without bounds.
func canBe(at uint32, bytes int) bool {
	return (bytes == 1 || bytes == 2 || bytes == 4) && int64(at)%int64(bytes) == 0 && int64(at)+int64(bytes) <= 32768
}

// TestLoadStoreEdgesP4_1: all places around the memory's edges and those where a place
// turns round, of all counts of bytes.
func TestLoadStoreEdgesP4_1(t *testing.T) {
	r := rand.New(rand.NewSource(41))
	h := busy(r, 0)
	want := shotOf(h)
	counts := append(oddInts, 0, 1, 2, 3, 4, 5, 6, 7, 8, 16)
	for _, around := range []uint32{0, 1024, 16384, 32768, 32768 - 4, 65536, 1 << 31, 1<<31 + 32768, 1<<32 - 4} {
		for by := range uint32(17) {
			at := around + by - 8
			for _, bytes := range counts {
				v := r.Uint32()
				ok := canBe(at, bytes)
				if got := h.Store(at, bytes, v); got != ok {
					t.Fatalf("Store(%#x, %d): %v", at, bytes, got)
				}
				loaded := uint32(0)
				for k := 0; ok && k < bytes; k++ {
					want.mem[int(at)+k] = byte(v >> (8 * k))
					loaded |= v & (0xff << (8 * k))
				}
				if got, is := h.Load(at, bytes); got != loaded || is != ok {
					t.Fatalf("Load(%#x, %d): %#x, %v, want %#x, %v", at, bytes, got, is, loaded, ok)
				}
			}
			same(t, h, want, "Store around", at)
		}
	}
}

func TestLoadStoreP4_1(t *testing.T) {
	r := rand.New(rand.NewSource(42))
	h := New()
	want := shotOf(h)
	for range 200000 {
		at, bytes, v := uint32(r.Intn(32768)), 1<<r.Intn(3), r.Uint32()
		if got, ok := h.Store(at, bytes, v), canBe(at, bytes); got != ok {
			t.Fatalf("Store(%#x, %d): %v", at, bytes, got)
		} else if ok {
			for k := range bytes {
				want.mem[int(at)+k] = byte(v >> (8 * k))
			}
		}
	}
	same(t, h, want, "stored")
}

// reckonings: as the specification and machines of another make have them.
var reckonings = []struct {
	op         int
	a, b, want uint32
}{
	{api.VAdd, 3, 4, 7}, {api.VAdd, 0xffffffff, 1, 0}, {api.VAdd, 0x80000000, 0xffff8000, 0x7fff8000},
	{api.VSub, 3, 7, 0xfffffffc}, {api.VSub, 0, 0x80000000, 0x80000000},
	{api.VSll, 1, 31, 0x80000000}, {api.VSll, 1, 32, 1}, {api.VSll, 0x21212121, 0xffffffce, 0x48484000}, {api.VSll, 0x21212121, 0xffffffff, 0x80000000},
	{api.VSlt, 0xffffffff, 0, 1}, {api.VSlt, 0x80000000, 0x7fffffff, 1}, {api.VSlt, 0x7fffffff, 0x80000000, 0}, {api.VSlt, 5, 5, 0},
	{api.VSltu, 0xffffffff, 0, 0}, {api.VSltu, 0x7fffffff, 0x80000000, 1}, {api.VSltu, 0, 1, 1}, {api.VSltu, 5, 5, 0},
	{api.VXor, 0xff00ff00, 0x0f0f0f0f, 0xf00ff00f}, {api.VOr, 0xff00ff00, 0x0f0f0f0f, 0xff0fff0f}, {api.VAnd, 0xff00ff00, 0x0f0f0f0f, 0x0f000f00},
	{api.VSrl, 0x80000000, 31, 1}, {api.VSrl, 0x80000000, 32, 0x80000000}, {api.VSrl, 0x21212121, 0xffffffc7, 0x00424242},
	{api.VSra, 0x80000000, 31, 0xffffffff}, {api.VSra, 0x7fffffff, 31, 0}, {api.VSra, 0x81818181, 0xffffffc7, 0xff030303}, {api.VSra, 0x80000000, 0x20, 0x80000000},
	{api.VMul, 0x7e00, 0xb6db6db7, 0x00001200}, {api.VMul, 0xaaaaaaab, 0x0002fe7d, 0x0000ff7f}, {api.VMul, 0xffffffff, 0xffffffff, 1}, {api.VMul, 0x80000000, 0xffff8000, 0},
	{api.VMulh, 0xaaaaaaab, 0x0002fe7d, 0xffff0081}, {api.VMulh, 0xff000000, 0xff000000, 0x00010000}, {api.VMulh, 0xffffffff, 0xffffffff, 0}, {api.VMulh, 0x80000000, 0x80000000, 0x40000000},
	{api.VMulhsu, 0xaaaaaaab, 0x0002fe7d, 0xffff0081}, {api.VMulhsu, 0x0002fe7d, 0xaaaaaaab, 0x0001fefe}, {api.VMulhsu, 0xff000000, 0xff000000, 0xff010000}, {api.VMulhsu, 0xffffffff, 0xffffffff, 0xffffffff}, {api.VMulhsu, 1, 0xffffffff, 0}, {api.VMulhsu, 0x80000000, 0xffff8000, 0x80004000},
	{api.VMulhu, 0xaaaaaaab, 0x0002fe7d, 0x0001fefe}, {api.VMulhu, 0xff000000, 0xff000000, 0xfe010000}, {api.VMulhu, 0xffffffff, 0xffffffff, 0xfffffffe}, {api.VMulhu, 0x80000000, 0xffff8000, 0x7fffc000},
	{api.VDiv, 20, 6, 3}, {api.VDiv, 0xffffffec, 6, 0xfffffffd}, {api.VDiv, 20, 0xfffffffa, 0xfffffffd}, {api.VDiv, 0xffffffec, 0xfffffffa, 3},
	{api.VDiv, 0x80000000, 1, 0x80000000}, {api.VDiv, 0x80000000, 0xffffffff, 0x80000000}, {api.VDiv, 0x80000000, 0, 0xffffffff}, {api.VDiv, 1, 0, 0xffffffff}, {api.VDiv, 0, 0, 0xffffffff},
	{api.VDivu, 20, 6, 3}, {api.VDivu, 0xffffffec, 6, 0x2aaaaaa7}, {api.VDivu, 0x80000000, 0xffffffff, 0}, {api.VDivu, 0x80000000, 0, 0xffffffff}, {api.VDivu, 0, 0, 0xffffffff},
	{api.VRem, 20, 6, 2}, {api.VRem, 0xffffffec, 6, 0xfffffffe}, {api.VRem, 20, 0xfffffffa, 2}, {api.VRem, 0xffffffec, 0xfffffffa, 0xfffffffe},
	{api.VRem, 0x80000000, 1, 0}, {api.VRem, 0x80000000, 0xffffffff, 0}, {api.VRem, 0x80000000, 0, 0x80000000}, {api.VRem, 0xffffffff, 0, 0xffffffff}, {api.VRem, 0, 0, 0},
	{api.VRemu, 20, 6, 2}, {api.VRemu, 0xffffffec, 6, 2}, {api.VRemu, 0x80000000, 0xffffffff, 0x80000000}, {api.VRemu, 0x80000000, 0, 0x80000000}, {api.VRemu, 0, 0, 0},
}

func TestReckoningsP4_2(t *testing.T) {
	for _, c := range reckonings {
		h := New()
		h.SetX(1, c.a)
		h.SetX(2, c.b)
		w := api.Word{Op: c.op, Rd: 3, Rs1: 1, Rs2: 2}
		lay(t, h, 1024, w)
		want := shotOf(h)
		want.x[3], want.pc = c.want, 1028
		if kind := h.Step(); kind != api.HRun {
			t.Errorf("%s: %d", rv.Text(w), kind)
		}
		same(t, h, want, rv.Text(w), c)
	}
}

// immediateReckonings: likewise, of words with an immediate.
var immediateReckonings = []struct {
	w       api.Word
	a, want uint32
}{
	{api.Word{Op: api.VLui, Imm: -4096}, 9, 0xfffff000}, {api.Word{Op: api.VLui, Imm: math.MinInt32}, 9, 0x80000000}, {api.Word{Op: api.VLui, Imm: 0x7ffff000}, 9, 0x7ffff000}, {api.Word{Op: api.VLui}, 9, 0},
	{api.Word{Op: api.VAuipc}, 9, 1024}, {api.Word{Op: api.VAuipc, Imm: 4096}, 9, 5120}, {api.Word{Op: api.VAuipc, Imm: -4096}, 9, 0xfffff400}, {api.Word{Op: api.VAuipc, Imm: math.MinInt32}, 9, 0x80000400},
	{api.Word{Op: api.VAddi, Rs1: 1, Imm: -2048}, 9, 0xfffff809}, {api.Word{Op: api.VAddi, Rs1: 1, Imm: 2047}, 0x7fffffff, 0x800007fe}, {api.Word{Op: api.VAddi, Rs1: 1, Imm: -1}, 0, 0xffffffff},
	{api.Word{Op: api.VSlti, Rs1: 1, Imm: -1}, 0xfffffffe, 1}, {api.Word{Op: api.VSlti, Rs1: 1, Imm: -1}, 0, 0}, {api.Word{Op: api.VSlti, Rs1: 1, Imm: -2048}, 0x80000000, 1},
	{api.Word{Op: api.VSltiu, Rs1: 1, Imm: -1}, 0xfffffffe, 1}, {api.Word{Op: api.VSltiu, Rs1: 1, Imm: -1}, 0xffffffff, 0}, {api.Word{Op: api.VSltiu, Rs1: 1, Imm: 1}, 0, 1}, {api.Word{Op: api.VSltiu, Rs1: 1, Imm: -2048}, 0x80000000, 1},
	{api.Word{Op: api.VXori, Rs1: 1, Imm: -1}, 0x0ff00ff0, 0xf00ff00f}, {api.Word{Op: api.VOri, Rs1: 1, Imm: -241}, 0x0ff00f00, 0xffffff0f}, {api.Word{Op: api.VAndi, Rs1: 1, Imm: -241}, 0xff00ff00, 0xff00ff00}, {api.Word{Op: api.VAndi, Rs1: 1, Imm: 0x70f}, 0xff00ff00, 0x00000700},
	{api.Word{Op: api.VSlli, Rs1: 1, Imm: 31}, 3, 0x80000000}, {api.Word{Op: api.VSlli, Rs1: 1}, 3, 3}, {api.Word{Op: api.VSrli, Rs1: 1, Imm: 31}, 0x80000000, 1}, {api.Word{Op: api.VSrai, Rs1: 1, Imm: 31}, 0x80000000, 0xffffffff}, {api.Word{Op: api.VSrai, Rs1: 1, Imm: 4}, 0x7fffffff, 0x07ffffff},
}

func TestImmediateReckoningsP4_2(t *testing.T) {
	for _, c := range immediateReckonings {
		h := New()
		h.SetX(1, c.a)
		c.w.Rd = 31
		lay(t, h, 1024, c.w)
		want := shotOf(h)
		want.x[31], want.pc = c.want, 1028
		if kind := h.Step(); kind != api.HRun {
			t.Errorf("%s: %d", rv.Text(c.w), kind)
		}
		same(t, h, want, rv.Text(c.w), c.a)
	}
}

func TestLoadsP4_2(t *testing.T) {
	for _, c := range []struct {
		op   int
		at   uint32
		want uint32
	}{
		{api.VLb, 512, 0xffffff80}, {api.VLb, 513, 0x7f}, {api.VLb, 514, 0xffffffff}, {api.VLb, 515, 0},
		{api.VLbu, 512, 0x80}, {api.VLbu, 513, 0x7f}, {api.VLbu, 514, 0xff}, {api.VLbu, 515, 0},
		{api.VLh, 512, 0x7f80}, {api.VLh, 514, 0xff}, {api.VLh, 516, 0xffff8000}, {api.VLh, 518, 0xffff80ff},
		{api.VLhu, 512, 0x7f80}, {api.VLhu, 514, 0xff}, {api.VLhu, 516, 0x8000}, {api.VLhu, 518, 0x80ff},
		{api.VLw, 512, 0x00ff7f80}, {api.VLw, 516, 0x80ff8000},
	} {
		for _, imm := range []int32{0, 1, -1, 2047, -2048} {
			for _, rd := range []int{0, 1, 3} { // 1 is where the place stands, too
				h := New()
				h.Store(512, 4, 0x00ff7f80)
				h.Store(516, 4, 0x80ff8000)
				h.SetX(1, c.at-uint32(imm))
				w := api.Word{Op: c.op, Rd: rd, Rs1: 1, Imm: imm}
				lay(t, h, 1024, w)
				want := shotOf(h)
				want.pc = 1028
				if rd > 0 {
					want.x[rd] = c.want
				}
				if kind := h.Step(); kind != api.HRun {
					t.Errorf("%s at %d: %d", rv.Text(w), c.at, kind)
				}
				same(t, h, want, rv.Text(w), c.at)
			}
		}
	}
}

func TestStoresP4_2(t *testing.T) {
	for _, c := range []struct {
		op   int
		at   uint32
		want uint32 // the word there
	}{
		{api.VSb, 512, 0x11111184}, {api.VSb, 513, 0x11118411}, {api.VSb, 514, 0x11841111}, {api.VSb, 515, 0x84111111},
		{api.VSh, 512, 0x11118384}, {api.VSh, 514, 0x83841111}, {api.VSw, 512, 0x81828384},
		{api.VSw, 32764, 0x81828384}, {api.VSh, 32766, 0x83841111}, {api.VSb, 32767, 0x84111111},
		{api.VSw, 0, 0x81828384}, {api.VSh, 0, 0x11118384}, {api.VSb, 0, 0x11111184},
	} {
		for _, imm := range []int32{0, 1, -1, 2047, -2048} {
			h := New()
			for at := uint32(0); at < 32768; at += 4 {
				h.Store(at, 4, 0x11111111)
			}
			h.SetX(1, c.at-uint32(imm))
			h.SetX(2, 0x81828384)
			w := api.Word{Op: c.op, Rs1: 1, Rs2: 2, Imm: imm}
			lay(t, h, 1024, w)
			want := shotOf(h)
			want.pc = 1028
			want.set(c.at&^3, c.want)
			if kind := h.Step(); kind != api.HRun {
				t.Errorf("%s at %d: %d", rv.Text(w), c.at, kind)
			}
			same(t, h, want, rv.Text(w), c.at)
		}
	}
}

// TestPlacesThatCantBeP4_2: loads and stores of each kind around the memory's edges: those
// that can't be change nothing but what Why tells, loads into x0 too.
func TestPlacesThatCantBeP4_2(t *testing.T) {
	moves := []struct{ op, bytes, kind int }{
		{api.VLb, 1, api.HLoad}, {api.VLbu, 1, api.HLoad}, {api.VLh, 2, api.HLoad}, {api.VLhu, 2, api.HLoad}, {api.VLw, 4, api.HLoad},
		{api.VSb, 1, api.HStore}, {api.VSh, 2, api.HStore}, {api.VSw, 4, api.HStore},
	}
	for _, m := range moves {
		for _, around := range []uint32{0, 2048, 32768, 65536, 1 << 31, 1<<31 + 32768} {
			for by := range uint32(13) {
				at := around + by - 6
				for _, imm := range []int32{0, 5, -2048} {
					w := api.Word{Op: m.op, Rs1: 1, Imm: imm}
					if m.kind == api.HStore {
						w.Rs2 = 2
					} else {
						w.Rd = int(by) % 3 // 0 to 2
					}
					h := New()
					h.SetX(1, at-uint32(imm))
					h.SetX(2, 0xdeadbeef)
					lay(t, h, 1024, w)
					before := shotOf(h)
					kind := h.Step()
					if canBe(at, m.bytes) {
						if kind != api.HRun || h.PC() != 1028 || h.Why() != 0 {
							t.Fatalf("%s at %#x: %d", rv.Text(w), at, kind)
						}
						continue
					}
					if kind != m.kind {
						t.Fatalf("%s at %#x: %d", rv.Text(w), at, kind)
					}
					before.why = at
					same(t, h, before, rv.Text(w), at)
					if again := h.Step(); again != m.kind { // the host stands where it stood
						t.Fatalf("%s at %#x once more: %d", rv.Text(w), at, again)
					}
				}
			}
		}
	}
}

// TestJumpsP4_2: where jumps go and what they leave; to no place of a word they don't go.
func TestJumpsP4_2(t *testing.T) {
	for _, c := range []struct {
		w        api.Word
		pc, x1   uint32
		kind     int
		to, left uint32 // left: what is in Rd behind the step
	}{
		{api.Word{Op: api.VJal, Rd: 1, Imm: 8}, 1024, 7, api.HRun, 1032, 1028},
		{api.Word{Op: api.VJal, Rd: 1, Imm: -8}, 1024, 7, api.HRun, 1016, 1028},
		{api.Word{Op: api.VJal, Rd: 1}, 1024, 7, api.HRun, 1024, 1028},
		{api.Word{Op: api.VJal, Imm: 4}, 1024, 7, api.HRun, 1028, 0},
		{api.Word{Op: api.VJal, Rd: 1, Imm: -4}, 0, 7, api.HRun, 0xfffffffc, 4},
		{api.Word{Op: api.VJal, Rd: 1, Imm: 1048572}, 32764, 7, api.HRun, 1081336, 32768},
		{api.Word{Op: api.VJal, Rd: 1, Imm: -1048576}, 1024, 7, api.HRun, 0xfff00400, 1028},
		{api.Word{Op: api.VJal, Rd: 1, Imm: 2}, 1024, 7, api.HFetch, 1026, 7},
		{api.Word{Op: api.VJal, Rd: 1, Imm: -2}, 0, 7, api.HFetch, 0xfffffffe, 7},
		{api.Word{Op: api.VJal, Imm: 6}, 1024, 7, api.HFetch, 1030, 0},
		{api.Word{Op: api.VJalr, Rd: 2, Rs1: 1, Imm: 4}, 1024, 2000, api.HRun, 2004, 1028},
		{api.Word{Op: api.VJalr, Rd: 2, Rs1: 1, Imm: -2048}, 1024, 2000, api.HRun, 0xffffffd0, 1028},
		{api.Word{Op: api.VJalr, Rd: 2, Rs1: 1, Imm: 2047}, 1024, 0xffffffff, api.HFetch, 2046, 0},
		{api.Word{Op: api.VJalr, Rd: 2, Rs1: 1, Imm: 1}, 1024, 2000, api.HRun, 2000, 1028}, // the lowest bit goes
		{api.Word{Op: api.VJalr, Rd: 2, Rs1: 1}, 1024, 2001, api.HRun, 2000, 1028},
		{api.Word{Op: api.VJalr, Rd: 2, Rs1: 1, Imm: 1}, 1024, 0xffffffff, api.HRun, 0, 1028},
		{api.Word{Op: api.VJalr, Rd: 2, Rs1: 1, Imm: 2}, 1024, 2000, api.HFetch, 2002, 0},
		{api.Word{Op: api.VJalr, Rd: 2, Rs1: 1, Imm: 3}, 1024, 2000, api.HFetch, 2002, 0},
		{api.Word{Op: api.VJalr, Rd: 1, Rs1: 1, Imm: 4}, 1024, 2000, api.HRun, 2004, 1028}, // the place is taken ahead
		{api.Word{Op: api.VJalr, Rd: 1, Rs1: 1, Imm: 2}, 1024, 2000, api.HFetch, 2002, 2000},
		{api.Word{Op: api.VJalr, Rs1: 1}, 1024, 0x80000000, api.HRun, 0x80000000, 0},
		{api.Word{Op: api.VJalr, Rd: 2, Imm: 16}, 32764, 2000, api.HRun, 16, 32768},
	} {
		h := New()
		h.SetX(1, c.x1)
		h.SetPC(c.pc)
		lay(t, h, c.pc, c.w)
		want := shotOf(h)
		want.x[c.w.Rd] = c.left
		if c.kind == api.HRun {
			want.pc = c.to
		} else {
			want.why = c.to
		}
		if kind := h.Step(); kind != c.kind {
			t.Errorf("%s: %d, want %d", rv.Text(c.w), kind, c.kind)
		}
		same(t, h, want, rv.Text(c.w), c.pc, c.x1)
	}
}

// branches: each kind, and when it is taken, reckoned without bounds.
var branches = []struct {
	op     int
	signed bool
	taken  func(cmp int) bool
}{
	{api.VBeq, false, func(cmp int) bool { return cmp == 0 }}, {api.VBne, false, func(cmp int) bool { return cmp != 0 }},
	{api.VBlt, true, func(cmp int) bool { return cmp < 0 }}, {api.VBge, true, func(cmp int) bool { return cmp >= 0 }},
	{api.VBltu, false, func(cmp int) bool { return cmp < 0 }}, {api.VBgeu, false, func(cmp int) bool { return cmp >= 0 }},
}

func TestBranchesP4_2(t *testing.T) {
	for _, b := range branches {
		for _, imm := range []int32{8, -8, 0, 4092, -4096, 2, -2, 4094} {
			h := New()
			w := api.Word{Op: b.op, Rs1: 1, Rs2: 2, Imm: imm}
			lay(t, h, 2048, w)
			start := shotOf(h)
			for _, x := range edges {
				for _, y := range edges {
					h.SetX(1, x)
					h.SetX(2, y)
					h.SetPC(2048)
					pc, why, kind := uint32(2052), h.Why(), api.HRun
					if to := 2048 + uint32(imm); b.taken(number(x, b.signed).Cmp(number(y, b.signed))) {
						if pc = to; to%4 != 0 {
							pc, why, kind = 2048, to, api.HFetch
						}
					}
					if got := h.Step(); got != kind || h.PC() != pc || h.Why() != why {
						t.Fatalf("%s of %#x, %#x: %d, PC %#x, Why %#x, want %d, %#x, %#x", rv.Text(w), x, y, got, h.PC(), h.Why(), kind, pc, why)
					}
				}
			}
			start.x[1], start.x[2], start.pc, start.why = h.X(1), h.X(2), h.PC(), h.Why()
			same(t, h, start, rv.Text(w))
		}
	}
}

func TestFetchP4_2(t *testing.T) {
	r := rand.New(rand.NewSource(43))
	h := busy(r, 0)
	want := shotOf(h)
	for _, pc := range []uint32{1, 2, 3, 1025, 1026, 1027, 32765, 32766, 32767, 32768, 32772, 65536, 1 << 31, 1<<31 + 1024, 0xfffffffc, 0xffffffff} {
		h.SetPC(pc)
		if kind := h.Step(); kind != api.HFetch {
			t.Errorf("at %#x: %d", pc, kind)
		}
		want.pc, want.why = pc, pc
		same(t, h, want, "at", pc)
	}
	for _, pc := range []uint32{0, 4, 64, 1020, 32764} { // words can lie anywhere
		h := New()
		lay(t, h, pc, api.Word{Op: api.VAddi, Rd: 1, Imm: 5})
		h.SetPC(pc)
		if kind := h.Step(); kind != api.HRun || h.X(1) != 5 || h.PC() != pc+4 {
			t.Errorf("at %#x: %d, x1 %d, PC %#x", pc, kind, h.X(1), h.PC())
		}
	}
}

func TestIllegalP4_2(t *testing.T) {
	if kind := New().Step(); kind != api.HIllegal {
		t.Errorf("a nought: %d", kind)
	}
	r := rand.New(rand.NewSource(44))
	for _, x := range []uint32{0, 0xffffffff, 0x0000000f, 0x0000100f, 0x00200073, 0x30200073, 0x300110f3, 0x00003003, 0x00004023, 0x00002063, 0x40001033, 0x04000033, 0x20001013, 0x02001013, 0x00001067, 0x00008082} {
		h := busy(r, 5)
		h.Step() // so that Why is about something
		h.SetPC(2000)
		h.Store(2000, 4, x)
		want := shotOf(h)
		if kind := h.Step(); kind != api.HIllegal {
			t.Errorf("%#x: %d", x, kind)
		}
		same(t, h, want, "no word", x)
	}
}

func TestCallsP4_2(t *testing.T) {
	r := rand.New(rand.NewSource(45))
	for op, kind := range map[int]int{api.VEcall: api.HCall, api.VEbreak: api.HBreak} {
		for _, pc := range []uint32{0, 1024, 32764} {
			h := busy(r, pc)
			lay(t, h, pc, api.Word{Op: op})
			want := shotOf(h)
			want.pc = pc + 4
			if got := h.Step(); got != kind {
				t.Errorf("kind %d at %#x: %d, want %d", op, pc, got, kind)
			}
			same(t, h, want, "kind", op, pc)
		}
	}
}

// TestWhyP4_2: Why tells of the last load, store or fetch that couldn't be, and of no other step or call.
func TestWhyP4_2(t *testing.T) {
	h := New()
	lay(t, h, 1024, api.Word{Op: api.VLw, Rd: 1, Imm: 3}, api.Word{Op: api.VSw, Imm: -4}, api.Word{Op: api.VJal, Imm: 6},
		api.Word{Op: api.VAddi, Rd: 1, Imm: 5}, api.Word{Op: api.VEcall}, api.Word{Op: api.VEbreak}, api.Word{Op: api.VLw, Imm: 4}, api.Word{Op: api.VLb, Imm: -1})
	step := func(pc uint32, kind int, why uint32) {
		t.Helper()
		h.SetPC(pc)
		if got := h.Step(); got != kind || h.Why() != why {
			t.Errorf("at %d: %d, Why %#x, want %d, %#x", pc, got, h.Why(), kind, why)
		}
	}
	if h.Why() != 0 {
		t.Errorf("Why of none so far: %#x", h.Why())
	}
	step(1036, api.HRun, 0)
	step(1040, api.HCall, 0)
	step(1056, api.HIllegal, 0)
	step(1024, api.HLoad, 3)
	step(1036, api.HRun, 3)
	step(1028, api.HStore, 0xfffffffc)
	step(1040, api.HCall, 0xfffffffc)
	step(1032, api.HFetch, 1038)
	step(1044, api.HBreak, 1038)
	step(1056, api.HIllegal, 1038)
	step(1048, api.HRun, 1038)
	h.Load(7, 4)
	h.Store(9, 2, 1)
	h.SetPC(77)
	h.Run(0)
	if h.Why() != 1038 {
		t.Errorf("Why behind calls: %#x", h.Why())
	}
	step(77, api.HFetch, 77)
	step(1052, api.HLoad, 0xffffffff)
	step(32768, api.HFetch, 32768)
	h.SetX(1, 0)
	step(1024, api.HLoad, 3)
}

// TestOwnCodeP4_2: what is stored into the next word is what is done next.
func TestOwnCodeP4_2(t *testing.T) {
	h := New()
	x, _ := rv.Encode(api.Word{Op: api.VAddi, Rd: 5, Imm: 42})
	h.SetX(1, x)
	lay(t, h, 1024, api.Word{Op: api.VSw, Rs2: 1, Imm: 1028}, api.Word{Op: api.VEbreak})
	h.Step()
	if kind := h.Step(); kind != api.HRun || h.X(5) != 42 {
		t.Errorf("%d, x5 %d", kind, h.X(5))
	}
}

// number tells x as a number, with or without a sign.
func number(x uint32, signed bool) *big.Int {
	n := new(big.Int).SetUint64(uint64(x))
	if signed && n.Bit(31) == 1 {
		n.Sub(n, new(big.Int).Lsh(big.NewInt(1), 32))
	}
	return n
}

// word tells the lowest 32 bits of n.
func word(n *big.Int) uint32 {
	return uint32(new(big.Int).And(n, big.NewInt(math.MaxUint32)).Uint64())
}

// wantReckoned tells what a kind makes of a and b, reckoned without bounds.
func wantReckoned(op int, a, b uint32) uint32 {
	u, v, s, z := number(a, false), number(b, false), number(a, true), number(b, true)
	n := new(big.Int)
	far := uint(b & 31)
	switch op {
	case api.VAdd, api.VAddi:
		n.Add(u, v)
	case api.VSub:
		n.Sub(u, v)
	case api.VSll, api.VSlli:
		n.Lsh(u, far)
	case api.VSrl, api.VSrli:
		n.Rsh(u, far)
	case api.VSra, api.VSrai:
		n.Rsh(s, far)
	case api.VSlt, api.VSlti:
		n.SetInt64(int64(min(0, s.Cmp(z)) * -1))
	case api.VSltu, api.VSltiu:
		n.SetInt64(int64(min(0, u.Cmp(v)) * -1))
	case api.VXor, api.VXori:
		n.Xor(u, v)
	case api.VOr, api.VOri:
		n.Or(u, v)
	case api.VAnd, api.VAndi:
		n.And(u, v)
	case api.VMul:
		n.Mul(u, v)
	case api.VMulh:
		n.Rsh(n.Mul(s, z), 32)
	case api.VMulhsu:
		n.Rsh(n.Mul(s, v), 32)
	case api.VMulhu:
		n.Rsh(n.Mul(u, v), 32)
	case api.VDiv, api.VDivu:
		n = quotientWanted(op == api.VDiv, s, z, u, v)
	case api.VRem: // a less the quotient's product with b
		n.Sub(s, n.Mul(quotientWanted(true, s, z, u, v), z))
	case api.VRemu:
		n.Sub(u, n.Mul(quotientWanted(false, s, z, u, v), v))
	default:
		panic("no such kind")
	}
	return word(n)
}

// quotientWanted tells a quotient, cut towards 0; all ones by 0.
func quotientWanted(signed bool, s, z, u, v *big.Int) *big.Int {
	if v.Sign() == 0 {
		return big.NewInt(-1)
	}
	if signed {
		return new(big.Int).Quo(s, z)
	}
	return new(big.Int).Quo(u, v)
}

// TestEachKindReckonsP4_2: each kind that reckons, at all pairs of edges, and with any registers.
func TestEachKindReckonsP4_2(t *testing.T) {
	r := rand.New(rand.NewSource(46))
	check := func(w api.Word, a, b uint32) {
		t.Helper()
		h := New()
		h.SetX(w.Rs1, a)
		h.SetX(w.Rs2, b) // where both are one register it has b
		a = h.X(w.Rs1)
		if w.Op < api.VAdd {
			b = uint32(w.Imm)
		} else {
			b = h.X(w.Rs2)
		}
		lay(t, h, 1024, w)
		want := wantReckoned(w.Op, a, b)
		if w.Rd == 0 {
			want = 0
		}
		if kind := h.Step(); kind != api.HRun || h.X(w.Rd) != want || h.PC() != 1028 {
			t.Fatalf("%s of %#x, %#x: %d, %#x, want %#x", rv.Text(w), a, b, kind, h.X(w.Rd), want)
		}
	}
	for op := api.VAdd; op <= api.VRemu; op++ {
		for _, a := range edges {
			for _, b := range edges {
				check(api.Word{Op: op, Rd: 3, Rs1: 1, Rs2: 2}, a, b)
			}
		}
		for range 300 {
			check(api.Word{Op: op, Rd: r.Intn(4), Rs1: r.Intn(4), Rs2: r.Intn(4)}, r.Uint32()>>r.Intn(32), r.Uint32()>>r.Intn(32))
		}
	}
	for op := api.VAddi; op <= api.VSrai; op++ {
		for _, imm := range []int32{0, 1, 2, 3, 4, 8, 16, 30, 31, 32, 127, 128, 255, 256, 2046, 2047, -1, -2, -3, -128, -129, -2047, -2048} {
			if op >= api.VSlli && (imm < 0 || imm > 31) {
				continue
			}
			for _, a := range edges {
				for _, rd := range []int{0, 1, 3} {
					check(api.Word{Op: op, Rd: rd, Rs1: 1, Imm: imm}, a, 0)
				}
			}
		}
	}
}

// step does with s what a step does, by the chapter's words; it tells what comes.
func (s *shot) step(w api.Word) int {
	a, b, imm := s.x[w.Rs1], s.x[w.Rs2], uint32(w.Imm)
	to, v, kind := s.pc+4, s.x[w.Rd], api.HRun
	bytes := map[int]int{api.VLb: 1, api.VLbu: 1, api.VLh: 2, api.VLhu: 2, api.VLw: 4, api.VSb: 1, api.VSh: 2, api.VSw: 4}[w.Op]
	switch {
	case w.Op == api.VLui:
		v = imm
	case w.Op == api.VAuipc:
		v = s.pc + imm
	case w.Op == api.VJal:
		v, to = to, s.pc+imm
	case w.Op == api.VJalr:
		v, to = to, (a+imm)/2*2
	case w.Op <= api.VBgeu:
		l := branches[w.Op-api.VBeq]
		if l.taken(number(a, l.signed).Cmp(number(b, l.signed))) {
			to = s.pc + imm
		}
	case w.Op <= api.VSw && !canBe(a+imm, bytes):
		s.why = a + imm
		if w.Op <= api.VLhu {
			return api.HLoad
		}
		return api.HStore
	case w.Op <= api.VLhu:
		v = 0
		for k := range bytes {
			v |= uint32(s.mem[a+imm+uint32(k)]) << (8 * k)
		}
		if top := 8*bytes - 1; (w.Op == api.VLb || w.Op == api.VLh) && v>>top == 1 {
			v |= 0xffffffff << top
		}
	case w.Op <= api.VSw:
		for k := range bytes {
			s.mem[a+imm+uint32(k)] = byte(b >> (8 * k))
		}
	case w.Op <= api.VSrai:
		v = wantReckoned(w.Op, a, imm)
	case w.Op <= api.VRemu:
		v = wantReckoned(w.Op, a, b)
	case w.Op == api.VEcall:
		kind = api.HCall
	default:
		kind = api.HBreak
	}
	if to%4 != 0 {
		s.why = to
		return api.HFetch
	}
	s.x[w.Rd], s.pc = v, to
	s.x[0] = 0
	return kind
}

// anyWord tells a word of any kind.
func anyWord(r *rand.Rand) api.Word {
	lowest := []uint32{0x37, 0x17, 0x6f, 0x67, 0x63, 0x03, 0x23, 0x13, 0x33, 0x73}
	for {
		x := r.Uint32()&^0x7f | lowest[r.Intn(len(lowest))]
		switch r.Intn(4) {
		case 0:
			x &^= 0xfe000000
		case 1:
			x = x&^0xfe000000 | 0x02000000
		case 2:
			x &^= 0xffefff80
		}
		if w, ok := rv.Decode(x); ok {
			return w
		}
	}
}

// TestAnyWordsP4_4: whatever the word, the registers, the memory: memory and registers are
// what the chapter says, all others as they were.
func TestAnyWordsP4_4(t *testing.T) {
	r := rand.New(rand.NewSource(47))
	h := busy(r, 0)
	want := shotOf(h)
	told := map[int]int{}
	for n := range 60000 {
		for _, i := range []int{r.Intn(32), r.Intn(32)} {
			v := []uint32{r.Uint32(), edges[r.Intn(len(edges))], uint32(r.Intn(api.HostSize)), uint32(r.Intn(api.HostSize)) &^ 3}[r.Intn(4)]
			h.SetX(i, v)
			if i > 0 {
				want.x[i] = v
			}
		}
		pc := uint32(r.Intn(api.HostSize)) &^ 3
		w := anyWord(r)
		x, _ := rv.Encode(w)
		h.SetPC(pc)
		lay(t, h, pc, w)
		want.pc = pc
		want.set(pc, x)
		kind := want.step(w)
		if got := h.Step(); got != kind || h.PC() != want.pc || h.Why() != want.why || h.X(w.Rd) != want.x[w.Rd] {
			t.Fatalf("%s at %#x: %d, want %d", rv.Text(w), pc, got, kind)
		}
		told[kind]++
		if n%20 == 0 || n > 59900 {
			same(t, h, want, rv.Text(w), pc)
		}
	}
	for _, kind := range []int{api.HRun, api.HCall, api.HBreak, api.HLoad, api.HStore, api.HFetch} {
		if told[kind] < 100 {
			t.Errorf("%d was told %d times alone", kind, told[kind])
		}
	}
}

// TestHostsApartP4_4: a host touches no other one, also where several run at once.
func TestHostsApartP4_4(t *testing.T) {
	quiet := busy(rand.New(rand.NewSource(48)), 1024)
	before := shotOf(quiet)
	ends := make([]shot, 8)
	var all sync.WaitGroup
	for i := range ends {
		all.Go(func() {
			h := busy(rand.New(rand.NewSource(49)), 1024)
			lay(t, h, 1024, api.Word{Op: api.VSw, Rs1: 1, Rs2: 2}, api.Word{Op: api.VAddi, Rd: 1, Rs1: 1, Imm: 4},
				api.Word{Op: api.VBne, Rs1: 1, Rs2: 3, Imm: -8}, api.Word{Op: api.VLw, Rd: 4, Imm: -1})
			h.SetX(1, 2048)
			h.SetX(3, 32768)
			h.Run(1000000)
			ends[i] = shotOf(h)
		})
	}
	all.Wait()
	same(t, quiet, before, "one that did nothing")
	same(t, New(), shot{pc: 1024}, "New()")
	for i := range ends {
		if ends[i] != ends[0] || ends[i].x[1] != 32768 || ends[i].why != 0xffffffff {
			t.Errorf("run %d: PC %#x, x1 %#x, Why %#x", i, ends[i].pc, ends[i].x[1], ends[i].why)
		}
	}
}

func TestRunP4_3(t *testing.T) {
	count := []api.Word{{Op: api.VAddi, Rd: 1, Rs1: 1, Imm: 1}, {Op: api.VAddi, Rd: 1, Rs1: 1, Imm: 1}, {Op: api.VAddi, Rd: 1, Rs1: 1, Imm: 1}}
	for _, c := range []struct {
		fuel, kind, steps int
		last              api.Word
	}{
		{0, api.HRun, 0, api.Word{Op: api.VEcall}}, {-1, api.HRun, 0, api.Word{Op: api.VEcall}}, {math.MinInt, api.HRun, 0, api.Word{Op: api.VEcall}},
		{1, api.HRun, 1, api.Word{Op: api.VEcall}}, {2, api.HRun, 2, api.Word{Op: api.VEcall}}, {3, api.HRun, 3, api.Word{Op: api.VEcall}},
		{4, api.HCall, 4, api.Word{Op: api.VEcall}}, {5, api.HCall, 4, api.Word{Op: api.VEcall}}, {math.MaxInt, api.HCall, 4, api.Word{Op: api.VEcall}},
		{3, api.HRun, 3, api.Word{Op: api.VEbreak}}, {4, api.HBreak, 4, api.Word{Op: api.VEbreak}}, {9, api.HBreak, 4, api.Word{Op: api.VEbreak}},
		{4, api.HLoad, 4, api.Word{Op: api.VLw, Imm: 1}}, {9, api.HLoad, 4, api.Word{Op: api.VLw, Imm: 1}}, {3, api.HRun, 3, api.Word{Op: api.VLw, Imm: 1}},
		{4, api.HStore, 4, api.Word{Op: api.VSw, Imm: 1}}, {9, api.HStore, 4, api.Word{Op: api.VSh, Imm: 1}}, {3, api.HRun, 3, api.Word{Op: api.VSw, Imm: 1}},
		{4, api.HFetch, 4, api.Word{Op: api.VJal, Imm: 2}}, {9, api.HFetch, 4, api.Word{Op: api.VJal, Imm: 2}},
		{4, api.HRun, 4, api.Word{Op: api.VJal, Imm: 8}}, {5, api.HIllegal, 5, api.Word{Op: api.VJal, Imm: 8}}, {9, api.HIllegal, 5, api.Word{Op: api.VJal, Imm: 8}},
		{4, api.HRun, 4, api.Word{Op: api.VJal, Imm: -1048576}}, {5, api.HFetch, 5, api.Word{Op: api.VJal, Imm: -1048576}},
	} {
		h := New()
		lay(t, h, 1024, append(count, c.last)...)
		if kind, steps := h.Run(c.fuel); kind != c.kind || steps != c.steps {
			t.Errorf("Run(%d) to %s: %d, %d, want %d, %d", c.fuel, rv.Text(c.last), kind, steps, c.kind, c.steps)
		}
		if h.X(1) != uint32(min(c.steps, 3)) {
			t.Errorf("Run(%d) to %s: x1 %d", c.fuel, rv.Text(c.last), h.X(1))
		}
		if c.steps == 0 {
			continue
		}
		one := New()
		lay(t, one, 1024, append(count, c.last)...)
		for range c.steps {
			one.Step()
		}
		same(t, h, shotOf(one), "Run", c.fuel, rv.Text(c.last))
	}
}

// TestRunGoesOnP4_3: Run goes on where a run ended: behind a call, at what couldn't be.
func TestRunGoesOnP4_3(t *testing.T) {
	h := New()
	lay(t, h, 1024, api.Word{Op: api.VEcall}, api.Word{Op: api.VEbreak}, api.Word{Op: api.VAddi, Rd: 1, Imm: 8}, api.Word{Op: api.VLw, Rd: 2, Rs1: 1, Imm: 1})
	for i, want := range [][2]int{{api.HCall, 1}, {api.HBreak, 1}, {api.HLoad, 2}, {api.HLoad, 1}, {api.HLoad, 1}} {
		if kind, steps := h.Run(10); kind != want[0] || steps != want[1] {
			t.Errorf("run %d: %d, %d, want %v", i, kind, steps, want)
		}
	}
}

// TestRunIsHeldP4_3: no run is longer than 1000000 steps.
func TestRunIsHeldP4_3(t *testing.T) {
	for _, c := range []struct{ fuel, steps int }{{999999, 999999}, {1000000, 1000000}, {1000001, 1000000}, {math.MaxInt, 1000000}} {
		h := New()
		lay(t, h, 1024, api.Word{Op: api.VAddi, Rd: 1, Rs1: 1, Imm: 1}, api.Word{Op: api.VJal, Imm: -4})
		if kind, steps := h.Run(c.fuel); kind != api.HRun || steps != c.steps {
			t.Errorf("Run(%d): %d, %d", c.fuel, kind, steps)
		}
		if want := uint32(c.steps+1) / 2; h.X(1) != want {
			t.Errorf("Run(%d): x1 %d, want %d", c.fuel, h.X(1), want)
		}
	}
}

// TestCopyP4_3: a copy is the same, and what is done with one doesn't touch the other.
func TestCopyP4_3(t *testing.T) {
	r := rand.New(rand.NewSource(50))
	h := busy(r, 77)
	h.Step() // so that Why is about something
	c := h.Copy()
	before := shotOf(h)
	same(t, c, before, "a copy")
	change := func(h *Host) {
		for i := range 32 {
			h.SetX(i, h.X(i)+1)
		}
		for at := range uint32(api.HostSize) {
			v, _ := h.Load(at, 1)
			h.Store(at, 1, v+1)
		}
		h.SetPC(33)
		h.Step()
	}
	change(c)
	same(t, h, before, "what was copied")
	changed := shotOf(c)
	if changed == before || changed.why != 33 {
		t.Fatal("the copy doesn't change")
	}
	d := c.Copy() // a copy's copy
	change(h)
	change(h)
	same(t, c, changed, "the copy")
	same(t, d, changed, "the copy's copy")
	same(t, New(), shot{pc: 1024}, "New()")
}

// TestCopyRunsOnP4_3: a copy that was made in the middle of a run comes to the same end.
func TestCopyRunsOnP4_3(t *testing.T) {
	h := New()
	lay(t, h, 1024, api.Word{Op: api.VAddi, Rd: 1, Imm: 100}, api.Word{Op: api.VAdd, Rd: 2, Rs1: 2, Rs2: 1}, api.Word{Op: api.VSw, Rs1: 1, Rs2: 2, Imm: 100},
		api.Word{Op: api.VAddi, Rd: 1, Rs1: 1, Imm: -4}, api.Word{Op: api.VBne, Rs1: 1, Imm: -12}, api.Word{Op: api.VEcall})
	h.Run(50)
	c := h.Copy()
	hk, hs := h.Run(1000)
	ck, cs := c.Run(1000)
	if hk != api.HCall || hs != 52 || ck != hk || cs != hs || h.X(2) != 1300 {
		t.Errorf("%d, %d, x2 %d; the copy: %d, %d", hk, hs, h.X(2), ck, cs)
	}
	same(t, c, shotOf(h), "the copy's end")
}
