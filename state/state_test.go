package state

import (
	"math"
	"math/rand"
	"sync"
	"testing"

	"ferryman/api"
	"ferryman/host"
	"ferryman/rv"
)

// shot: all that can be told of a host.
type shot struct {
	x       [32]uint32
	pc, why uint32
	mem     [api.HostSize]byte
}

// shotOf tells all that can be told of h.
func shotOf(h *host.Host) *shot {
	s := &shot{pc: h.PC(), why: h.Why()}
	for i := range s.x {
		s.x[i] = h.X(i)
	}
	for at := range s.mem {
		v, ok := h.Load(uint32(at), 1)
		if !ok {
			panic("a byte of the memory can't be loaded")
		}
		s.mem[at] = byte(v)
	}
	return s
}

// same fails, if h isn't as s has it.
func same(t *testing.T, h *host.Host, s *shot, about ...any) {
	t.Helper()
	got := shotOf(h)
	if *got == *s {
		return
	}
	t.Errorf("%v: differs", about)
	if got.x != s.x || got.pc != s.pc || got.why != s.why {
		t.Errorf("  registers, PC or Why: %#x, %#x, %#x, want %#x, %#x, %#x", got.x, got.pc, got.why, s.x, s.pc, s.why)
	}
	for at := range s.mem {
		if got.mem[at] != s.mem[at] {
			t.Errorf("  byte %d is %#x, want %#x", at, got.mem[at], s.mem[at])
		}
	}
	t.FailNow()
}

// set sets a word of the memory in s.
func (s *shot) set(at, v uint32) {
	for k := range uint32(4) {
		s.mem[at+k] = byte(v >> (8 * k))
	}
}

// busy tells a host in which nothing is as New made it: each byte by fill, and Why told of.
func busy(fill func() byte) *host.Host {
	h := host.New()
	h.SetPC(3)
	h.Step() // no word lies there: Why is 3
	for i := range 32 {
		h.SetX(i, 0x01010101*uint32(fill()))
	}
	for at := range uint32(api.HostSize) {
		h.Store(at, 1, uint32(fill()))
	}
	h.SetPC(0x76543210)
	return h
}

// fills: ways to fill a host's memory.
func fills() map[string]func() byte {
	r := rand.New(rand.NewSource(71))
	return map[string]func() byte{
		"noughts": func() byte { return 0 },
		"ones":    func() byte { return 0xff },
		"random":  func() byte { return byte(r.Uint32()) },
	}
}

// flagged tells the flags and the direction that are the lowest seven bits of n, CF first.
func flagged(n int) (api.Flags, bool) {
	return api.Flags{
		CF: n&1 != 0, PF: n&2 != 0, AF: n&4 != 0,
		ZF: n&8 != 0, SF: n&16 != 0, OF: n&32 != 0,
	}, n&64 != 0
}

// allFlags tells each of the 64 flags there are.
func allFlags() []api.Flags {
	var l []api.Flags
	for n := range 64 {
		f, _ := flagged(n)
		l = append(l, f)
	}
	return l
}

// sample: a state of which each byte is another one.
var sample = api.State{
	R:  [8]uint32{0x13121110, 0x17161514, 0x1b1a1918, 0x1f1e1d1c, 0x23222120, 0x27262524, 0x2b2a2928, 0x2f2e2d2c},
	PC: 0x33323130,
	Fl: api.Flags{CF: true, AF: true, SF: true},
	DF: true,
	F:  0xa7a6a5a4a3a2a1a0,
}

// someState tells a state made by r, F at an edge of numbers now and then.
func someState(r *rand.Rand) api.State {
	s := api.State{PC: r.Uint32(), F: r.Uint64()}
	for i := range s.R {
		s.R[i] = r.Uint32()
	}
	s.Fl, s.DF = flagged(r.Intn(128))
	if edge := r.Intn(16); edge < len(numbers) {
		s.F = numbers[edge]
	}
	return s
}

// numbers: bits of numbers at their edges: noughts, infinities, none, whatever its bits.
var numbers = []uint64{0, 1, 1 << 63, 0x7ff0000000000000, 0xfff0000000000000, 0x7ff8000000000000, 0x7ff0000000000001, 0xffffffffffffffff, 0x3ff0000000000000, 0x00000000ffffffff, 0xffffffff00000000}

// far: numbers far from 0, each with what is left of it by 7, 8 and 16.
var far = []struct{ i, by7, by8, by16 int }{
	{math.MaxInt, 0, 7, 15},
	{math.MaxInt - 1, 6, 6, 14},
	{math.MaxInt - 8, 6, 7, 7},
	{math.MinInt, 6, 0, 0},
	{math.MinInt + 1, 0, 1, 1},
	{math.MinInt + 15, 0, 7, 15},
	{math.MaxInt32, 1, 7, 15},
	{math.MaxInt32 + 1, 2, 0, 0},
	{math.MinInt32, 5, 0, 0},
	{math.MinInt32 - 1, 4, 7, 15},
	{1 << 32, 4, 0, 0},
	{1<<32 + 11, 1, 3, 11},
	{-1 << 32, 3, 0, 0},
	{-1<<32 - 5, 5, 3, 11},
}

// around goes through the numbers from -3*n to 3*n, each with what is left of it by n, which
// it counts.
func around(n int, do func(i, left int)) {
	left := 0
	for i := -3 * n; i <= 3*n; i++ {
		do(i, left)
		if left++; left == n {
			left = 0
		}
	}
}

// lying tells the words that a state is in the host's memory, from its beginning on.
func lying(s api.State) map[uint32]uint32 {
	one := map[bool]uint32{true: 1}
	return map[uint32]uint32{
		64: s.R[0], 68: s.R[1], 72: s.R[2], 76: s.R[3],
		80: s.R[4], 84: s.R[5], 88: s.R[6], 92: s.R[7],
		96:  s.PC,
		100: one[s.Fl.CF], 104: one[s.Fl.PF], 108: one[s.Fl.AF], 112: one[s.Fl.ZF],
		116: one[s.Fl.SF], 120: one[s.Fl.OF], 124: one[s.DF],
		128: uint32(s.F & 0xffffffff), 132: uint32(s.F / (1 << 32)),
	}
}

func TestPutP7_1(t *testing.T) {
	r := rand.New(rand.NewSource(72))
	states := []api.State{{}, sample, {F: math.MaxUint64}, {F: 1 << 32}, {F: 1<<32 - 1}}
	for range 20 {
		states = append(states, someState(r))
	}
	for name, fill := range fills() {
		h := busy(fill)
		want := shotOf(h)
		for i, s := range states {
			Put(h, s)
			for at, v := range lying(s) {
				want.set(at, v)
			}
			same(t, h, want, name, i)
		}
	}
}

func TestPutSampleP7_1(t *testing.T) {
	h := host.New()
	Put(h, sample)
	want := shotOf(host.New())
	for i := range 36 { // registers and the place: the lowest byte first
		want.mem[64+i] = byte(0x10 + i)
	}
	for _, at := range []int{100, 108, 116, 124} {
		want.mem[at] = 1
	}
	for i := range 8 {
		want.mem[128+i] = byte(0xa0 + i)
	}
	same(t, h, want, "sample")
}

func TestPutFlagsP7_1(t *testing.T) {
	for name, fill := range fills() {
		h := busy(fill)
		Put(h, api.State{})
		want := shotOf(h)
		for n := range 128 {
			var s api.State
			s.Fl, s.DF = flagged(n)
			Put(h, s)
			for i := range uint32(7) {
				want.set(100+4*i, uint32(n)>>i&1)
			}
			same(t, h, want, name, n)
		}
	}
}

func TestGetP7_1(t *testing.T) {
	r := rand.New(rand.NewSource(73))
	for name, fill := range fills() {
		h := busy(fill)
		for range 20 {
			s := someState(r)
			for at, v := range lying(s) {
				h.Store(at, 4, v)
			}
			was := shotOf(h)
			if got := Get(h); got != s {
				t.Fatalf("%s: %+v, want %+v", name, got, s)
			}
			same(t, h, was, name)
		}
	}
}

func TestGetOfOneP7_1(t *testing.T) {
	const v = 0x80402010
	want := map[uint32]api.State{
		96:  {PC: v},
		100: {Fl: api.Flags{CF: true}}, 104: {Fl: api.Flags{PF: true}}, 108: {Fl: api.Flags{AF: true}},
		112: {Fl: api.Flags{ZF: true}}, 116: {Fl: api.Flags{SF: true}}, 120: {Fl: api.Flags{OF: true}},
		124: {DF: true},
		128: {F: v}, 132: {F: v << 32},
	}
	for i := range 8 {
		var s api.State
		s.R[i] = v
		want[uint32(64+4*i)] = s
	}
	if got := Get(host.New()); got != (api.State{}) {
		t.Errorf("of a new host: %+v", got)
	}
	for at := uint32(0); at < api.HostSize; at += 4 {
		h := host.New()
		h.Store(at, 4, v)
		if got := Get(h); got != want[at] {
			t.Errorf("the word at %d alone: %+v, want %+v", at, got, want[at])
		}
	}
}

func TestFlagWordsP7_1(t *testing.T) {
	words := []uint32{0, 1, 2, 3, 0x80, 0xfe, 0x100, 0xff00, 0x10000, 0x1000000, 0x7fffffff, 0x80000000, 0xfffffffe, 0xffffffff}
	for i := range 32 {
		words = append(words, 1<<i)
	}
	for i := range 7 {
		alone := api.State{}
		alone.Fl, alone.DF = flagged(1 << i)
		others := api.State{}
		others.Fl, others.DF = flagged(127 &^ (1 << i))
		all := api.State{}
		all.Fl, all.DF = flagged(127)
		for _, w := range words {
			wantOne, wantAll := alone, all
			if w == 0 {
				wantOne, wantAll = api.State{}, others
			}
			h := host.New()
			h.Store(uint32(100+4*i), 4, w)
			if got := Get(h); got != wantOne {
				t.Errorf("flag %d as %#x: %+v", i, w, got)
			}
			Put(h, all)
			h.Store(uint32(100+4*i), 4, w)
			if got := Get(h); got != wantAll {
				t.Errorf("flag %d as %#x, the others true: %+v", i, w, got)
			}
		}
	}
}

func TestRegAtP7_1(t *testing.T) {
	if RegAt(0) != api.StateAt || RegAt(api.EDI) != 92 || RegAt(8) != 64 || RegAt(-1) != 92 || RegAt(-8) != 64 {
		t.Errorf("%d, %d, %d, %d, %d", RegAt(0), RegAt(7), RegAt(8), RegAt(-1), RegAt(-8))
	}
	around(8, func(i, left int) {
		if got := RegAt(i); got != uint32(64+4*left) {
			t.Errorf("RegAt(%d): %d", i, got)
		}
	})
	for _, c := range far {
		if got := RegAt(c.i); got != uint32(64+4*c.by8) {
			t.Errorf("RegAt(%d): %d", c.i, got)
		}
	}
}

func TestFlagAtP7_1(t *testing.T) {
	if FlagAt(0) != 100 || FlagAt(6) != 124 || FlagAt(7) != 100 || FlagAt(-1) != 124 || FlagAt(-7) != 100 {
		t.Errorf("%d, %d, %d, %d, %d", FlagAt(0), FlagAt(6), FlagAt(7), FlagAt(-1), FlagAt(-7))
	}
	around(7, func(i, left int) {
		if got := FlagAt(i); got != uint32(100+4*left) {
			t.Errorf("FlagAt(%d): %d", i, got)
		}
	})
	for _, c := range far {
		if got := FlagAt(c.i); got != uint32(100+4*c.by7) {
			t.Errorf("FlagAt(%d): %d", c.i, got)
		}
	}
}

func TestPlacesOfPartsP7_1(t *testing.T) {
	r := rand.New(rand.NewSource(74))
	for range 50 {
		h, s := host.New(), someState(r)
		Put(h, s)
		for i, want := range s.R {
			if v, ok := h.Load(RegAt(i), 4); v != want || !ok {
				t.Errorf("register %d: %#x, want %#x", i, v, want)
			}
		}
		for i, want := range []bool{s.Fl.CF, s.Fl.PF, s.Fl.AF, s.Fl.ZF, s.Fl.SF, s.Fl.OF, s.DF} {
			if v, ok := h.Load(FlagAt(i), 4); v != map[bool]uint32{true: 1}[want] || !ok {
				t.Errorf("flag %d: %#x, want %v", i, v, want)
			}
		}
	}
}

// TestWordsOfHostP7_1: what words of the host do with these places is what Put and Get do.
func TestWordsOfHostP7_1(t *testing.T) {
	h := host.New()
	Put(h, sample)
	row := []api.Word{
		{Op: api.VLw, Rd: 5, Imm: int32(RegAt(api.ECX))},
		{Op: api.VSw, Rs2: 5, Imm: int32(RegAt(api.EDI))},
		{Op: api.VLbu, Rd: 6, Imm: int32(FlagAt(0))},
		{Op: api.VSw, Rs2: 6, Imm: int32(FlagAt(3))},
		{Op: api.VSw, Imm: int32(FlagAt(6))},
		{Op: api.VEcall},
	}
	for i, w := range row {
		x, err := rv.Encode(w)
		if err != api.OK || !h.Store(api.CodeAt+4*uint32(i), 4, x) {
			t.Fatalf("%v can't be laid", w)
		}
	}
	if kind, steps := h.Run(9); kind != api.HCall || steps != len(row) {
		t.Fatalf("%d, %d", kind, steps)
	}
	want := sample
	want.R[api.EDI], want.Fl.ZF, want.DF = sample.R[api.ECX], true, false
	if got := Get(h); got != want {
		t.Errorf("%+v, want %+v", got, want)
	}
}

// parts: the registers of eight bits: which byte of which register each is.
var parts = []struct{ reg, shift int }{
	{api.EAX, 0}, {api.ECX, 0}, {api.EDX, 0}, {api.EBX, 0},
	{api.EAX, 8}, {api.ECX, 8}, {api.EDX, 8}, {api.EBX, 8},
}

func TestReg8P7_2(t *testing.T) {
	for i, want := range []uint32{0x10, 0x14, 0x18, 0x1c, 0x11, 0x15, 0x19, 0x1d} {
		if got := Reg8(sample, i); got != want {
			t.Errorf("Reg8(sample, %d): %#x, want %#x", i, got, want)
		}
	}
	states := []api.State{{}, sample, {R: [8]uint32{0xffffffff, 0x80808080, 0xff00ff00, 0x00ff00ff, 1, 2, 3, 4}}}
	r := rand.New(rand.NewSource(75))
	for range 50 {
		states = append(states, someState(r))
	}
	for _, s := range states {
		check := func(i, left int) {
			p := parts[left]
			if got := Reg8(s, i); got != s.R[p.reg]>>p.shift%256 {
				t.Errorf("Reg8(%#x, %d): %#x", s.R, i, got)
			}
		}
		around(8, check)
		for _, c := range far {
			check(c.i, c.by8)
		}
	}
}

func TestReg8OfOneP7_2(t *testing.T) {
	for i, p := range parts { // a bit of another byte or register is none of this one's
		for reg := range 8 {
			for bit := range 32 {
				var s api.State
				s.R[reg] = 1 << bit
				want := uint32(0)
				if reg == p.reg && bit >= p.shift && bit < p.shift+8 {
					want = 1 << (bit - p.shift)
				}
				if got := Reg8(s, i); got != want {
					t.Errorf("Reg8(%d) of bit %d of register %d: %#x", i, bit, reg, got)
				}
			}
		}
	}
}

func TestSetReg8P7_2(t *testing.T) {
	states := []api.State{{}, sample, {R: [8]uint32{0xffffffff, 0x80808080, 0xff00ff00, 0x00ff00ff, 1, 2, 3, 4}}}
	r := rand.New(rand.NewSource(76))
	for range 20 {
		states = append(states, someState(r))
	}
	values := []uint32{0, 1, 0x7f, 0x80, 0xff, 0x100, 0x1234, 0xffffff00, 0x80000000, 0xdeadbeef, 0xffffffff}
	for _, s := range states {
		for _, v := range values {
			check := func(i, left int) {
				p, was, want := parts[left], s, s
				want.R[p.reg] &^= 0xff << p.shift
				want.R[p.reg] |= v % 256 << p.shift
				if got := SetReg8(s, i, v); got != want {
					t.Errorf("SetReg8(%#x, %d, %#x): %#x", s.R, i, v, got.R)
				}
				if s != was {
					t.Errorf("SetReg8(%d, %#x) changed what was handed in", i, v)
				}
			}
			around(8, check)
			for _, c := range far {
				check(c.i, c.by8)
			}
		}
	}
}

func TestSetReg8SampleP7_2(t *testing.T) {
	want := sample
	want.R[api.EBX] = 0x1f1e1dab
	if got := SetReg8(sample, 3, 0xffffffab); got != want {
		t.Errorf("the lowest of EBX: %+v", got)
	}
	want = sample
	want.R[api.EAX] = 0x1312cd10
	if got := SetReg8(sample, 4, 0x7acd); got != want {
		t.Errorf("the second of EAX: %+v", got)
	}
	for i := range 8 {
		if got := Reg8(SetReg8(sample, i, 0x5a5), i); got != 0xa5 {
			t.Errorf("set and read %d: %#x", i, got)
		}
		if got := SetReg8(sample, i, Reg8(sample, i)); got != sample {
			t.Errorf("%d set to what it is: %+v", i, got)
		}
	}
}

// names: the conditions by the manual's names and by what it says of them.
var names = []struct {
	name  string
	holds func(f api.Flags) bool
}{
	{"o", func(f api.Flags) bool { return f.OF }},
	{"no", func(f api.Flags) bool { return !f.OF }},
	{"b", func(f api.Flags) bool { return f.CF }},
	{"ae", func(f api.Flags) bool { return !f.CF }},
	{"e", func(f api.Flags) bool { return f.ZF }},
	{"ne", func(f api.Flags) bool { return !f.ZF }},
	{"be", func(f api.Flags) bool { return f.CF || f.ZF }},
	{"a", func(f api.Flags) bool { return !f.CF && !f.ZF }},
	{"s", func(f api.Flags) bool { return f.SF }},
	{"ns", func(f api.Flags) bool { return !f.SF }},
	{"p", func(f api.Flags) bool { return f.PF }},
	{"np", func(f api.Flags) bool { return !f.PF }},
	{"l", func(f api.Flags) bool { return f.SF != f.OF }},
	{"ge", func(f api.Flags) bool { return f.SF == f.OF }},
	{"le", func(f api.Flags) bool { return f.ZF || f.SF != f.OF }},
	{"g", func(f api.Flags) bool { return !f.ZF && f.SF == f.OF }},
}

func TestCondP7_2(t *testing.T) {
	if !Cond(api.Flags{ZF: true}, 4) || Cond(api.Flags{ZF: true}, 5) {
		t.Error("Cond(ZF, 4), Cond(ZF, 5)")
	}
	for _, f := range allFlags() {
		check := func(cc, left int) {
			if got := Cond(f, cc); got != names[left].holds(f) {
				t.Errorf("Cond(%+v, %d) (%s): %v", f, cc, names[left].name, got)
			}
		}
		around(16, check)
		for _, c := range far {
			check(c.i, c.by16)
		}
	}
}

// TestCondOfNoneAndAllP7_2: the sixteen by numbers, the lowest bit the condition 0.
func TestCondOfNoneAndAllP7_2(t *testing.T) {
	for _, c := range []struct {
		f    api.Flags
		want uint32
	}{
		{api.Flags{}, 0xaaaa},
		{api.Flags{CF: true}, 0xaa66},
		{api.Flags{PF: true}, 0xa6aa},
		{api.Flags{AF: true}, 0xaaaa},
		{api.Flags{ZF: true}, 0x6a5a},
		{api.Flags{SF: true}, 0x59aa},
		{api.Flags{OF: true}, 0x5aa9},
		{api.Flags{SF: true, OF: true}, 0xa9a9},
		{api.Flags{CF: true, PF: true, AF: true, ZF: true, SF: true, OF: true}, 0x6555},
	} {
		var got uint32
		for cc := range 16 {
			if Cond(c.f, cc) {
				got |= 1 << cc
			}
		}
		if got != c.want {
			t.Errorf("%+v: %04x, want %04x", c.f, got, c.want)
		}
	}
}

// TestCondOfComparedP7_2: the flags of a less b tell how a and b lie to one another.
func TestCondOfComparedP7_2(t *testing.T) {
	edges := []uint32{0, 1, 2, 0x7ffffffe, 0x7fffffff, 0x80000000, 0x80000001, 0xfffffffe, 0xffffffff}
	for _, a := range edges {
		for _, b := range edges {
			d := int64(int32(a)) - int64(int32(b))
			f := api.Flags{CF: a < b, ZF: a == b, SF: int32(a-b) < 0, OF: d != int64(int32(d))}
			for cc, want := range map[int]bool{
				2: a < b, 3: a >= b, 4: a == b, 5: a != b, 6: a <= b, 7: a > b,
				12: int32(a) < int32(b), 13: int32(a) >= int32(b), 14: int32(a) <= int32(b), 15: int32(a) > int32(b),
			} {
				if Cond(f, cc) != want {
					t.Errorf("%#x, %#x: condition %d is %v", a, b, cc, !want)
				}
			}
		}
	}
}

// bitOf: which bit each flag is, CF first.
var bitOf = []int{0, 2, 4, 6, 7, 11}

func TestWordP7_2(t *testing.T) {
	for _, c := range []struct {
		f    api.Flags
		want uint32
	}{
		{api.Flags{}, 0x002},
		{api.Flags{CF: true}, 0x003},
		{api.Flags{PF: true}, 0x006},
		{api.Flags{AF: true}, 0x012},
		{api.Flags{ZF: true}, 0x042},
		{api.Flags{SF: true}, 0x082},
		{api.Flags{OF: true}, 0x802},
		{api.Flags{CF: true, PF: true, AF: true, ZF: true, SF: true, OF: true}, 0x8d7},
	} {
		if got := Word(c.f); got != c.want {
			t.Errorf("Word(%+v): %#x, want %#x", c.f, got, c.want)
		}
	}
	for n, f := range allFlags() {
		want := uint32(2)
		for i, bit := range bitOf {
			want += uint32(n) >> i % 2 << bit
		}
		if got := Word(f); got != want {
			t.Errorf("Word(%+v): %#x, want %#x", f, got, want)
		}
	}
}

func TestFlagsP7_2(t *testing.T) {
	for bit := range 32 { // each bit by itself, and all but this one
		n := 0
		for i, b := range bitOf {
			if b == bit {
				n = 1 << i
			}
		}
		alone, _ := flagged(n)
		others, _ := flagged(63 &^ n)
		if got := Flags(1 << bit); got != alone {
			t.Errorf("Flags(1 << %d): %+v", bit, got)
		}
		if got := Flags(^uint32(1 << bit)); got != others {
			t.Errorf("Flags(^(1 << %d)): %+v", bit, got)
		}
	}
	if got := Flags(0); got != (api.Flags{}) {
		t.Errorf("Flags(0): %+v", got)
	}
	if got, _ := flagged(63); Flags(math.MaxUint32) != got {
		t.Errorf("Flags of all ones: %+v", Flags(math.MaxUint32))
	}
}

func TestFlagsAndWordP7_2(t *testing.T) {
	r := rand.New(rand.NewSource(77))
	const counting = 0x8d5
	for _, f := range allFlags() {
		w := Word(f)
		if got := Flags(w); got != f {
			t.Errorf("Flags(Word(%+v)): %+v", f, got)
		}
		noise := []uint32{0, math.MaxUint32, 2, 0x400, 0x80000000, 0xfffff000}
		for range 20 {
			noise = append(noise, r.Uint32())
		}
		for _, n := range noise {
			v := w&counting | n&^counting
			if got := Flags(v); got != f {
				t.Errorf("Flags(%#x): %+v, want %+v", v, got, f)
			}
			if got := Word(Flags(v)); got != w {
				t.Errorf("Word(Flags(%#x)): %#x, want %#x", v, got, w)
			}
		}
	}
}

func TestPutIsGotP7_3(t *testing.T) {
	r := rand.New(rand.NewSource(78))
	for name, fill := range fills() {
		h := busy(fill)
		for range 300 {
			s := someState(r)
			Put(h, s)
			if got := Get(h); got != s {
				t.Fatalf("%s: %+v, want %+v", name, got, s)
			}
			if got := Get(h); got != s {
				t.Fatalf("%s: got again: %+v, want %+v", name, got, s)
			}
		}
		for _, f := range numbers {
			Put(h, api.State{F: f})
			if got := Get(h); got != (api.State{F: f}) {
				t.Fatalf("%s: F %#x: %+v", name, f, got)
			}
		}
		for n := range 128 {
			s := sample
			s.Fl, s.DF = flagged(n)
			Put(h, s)
			if got := Get(h); got != s {
				t.Fatalf("%s: flags %#b: %+v", name, n, got)
			}
		}
	}
}

// TestGotIsPutP7_3: what is got of any words and put again is got again, with flags as 0 or 1.
func TestGotIsPutP7_3(t *testing.T) {
	for name, fill := range fills() {
		h := busy(fill)
		s, want := Get(h), shotOf(h)
		for i := range uint32(7) {
			if v, _ := h.Load(100+4*i, 4); v != 0 {
				want.set(100+4*i, 1)
			}
		}
		Put(h, s)
		same(t, h, want, name)
		if got := Get(h); got != s {
			t.Errorf("%s: %+v, want %+v", name, got, s)
		}
	}
}

func TestHostsOfTheirOwnP7_3(t *testing.T) {
	r := rand.New(rand.NewSource(79))
	a, s := host.New(), someState(r)
	Put(a, s)
	b, o := a.Copy(), someState(r)
	Put(b, o)
	if Get(a) != s || Get(b) != o {
		t.Error("one host's state hangs on another one's")
	}
	var all sync.WaitGroup
	for seed := range int64(8) {
		all.Go(func() {
			r, h := rand.New(rand.NewSource(seed)), host.New()
			for range 200 {
				s := someState(r)
				if Put(h, s); Get(h) != s {
					t.Errorf("beside others: %+v, want %+v", Get(h), s)
					return
				}
			}
		})
	}
	all.Wait()
}
