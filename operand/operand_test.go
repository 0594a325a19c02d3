package operand

import (
	"fmt"
	"math"
	"math/big"
	"math/rand"
	"sync"
	"testing"

	"ferryman/api"
	"ferryman/page"
)

const (
	r   = api.CanRead
	w   = api.CanWrite
	x   = api.CanRun
	rw  = r | w
	rwx = r | w | x
)

// sample: a state of which each byte is another one.
var sample = api.State{
	R:  [8]uint32{0x13121110, 0x17161514, 0x1b1a1918, 0x1f1e1d1c, 0x23222120, 0x27262524, 0x2b2a2928, 0x2f2e2d2c},
	PC: 0x33323130,
	Fl: api.Flags{CF: true, AF: true, SF: true},
	DF: true,
	F:  0xa7a6a5a4a3a2a1a0,
}

// shot: all that can be told of a memory; noughts stand for the bytes of unmapped pages.
type shot struct {
	rights [api.Pages]int
	bytes  [api.GuestSize]byte
}

// shotOf tells all that can be told of m.
func shotOf(m *page.Memory) *shot {
	var s shot
	for p := range s.rights {
		s.rights[p] = m.Rights(p)
		copy(s.bytes[256*p:], m.Peek(uint32(256*p), 256))
	}
	return &s
}

// is fails, if m isn't as s has it.
func is(t *testing.T, m *page.Memory, s *shot, about ...any) {
	t.Helper()
	got := shotOf(m)
	if *got == *s {
		return
	}
	for p := range s.rights {
		if got.rights[p] != s.rights[p] {
			t.Errorf("%v: page %d has rights %d, want %d", about, p, got.rights[p], s.rights[p])
		}
	}
	for at := range s.bytes {
		if got.bytes[at] != s.bytes[at] {
			t.Errorf("%v: byte %#x is %#x, want %#x", about, at, got.bytes[at], s.bytes[at])
		}
	}
	t.FailNow()
}

// mapped tells a memory of pages from first on with these rights (0: unmapped), none of their
// bytes nought.
func mapped(t *testing.T, first int, rights ...int) *page.Memory {
	t.Helper()
	m := page.New()
	for i, rt := range rights {
		if rt == 0 {
			continue
		}
		if e := m.Map(first+i, 1, rt); e != api.OK {
			t.Fatal(e)
		}
		if e := m.Poke(uint32(256*(first+i)), many(first+i)); e != api.OK {
			t.Fatal(e)
		}
	}
	return m
}

// whole tells a memory of all pages, each with all of these rights.
func whole(t *testing.T, rights int) *page.Memory {
	t.Helper()
	var l [api.Pages]int
	for p := range l {
		l[p] = rights
	}
	return mapped(t, 0, l[:]...)
}

// holed tells a memory of pages with rights of all kinds, and of none, beside one another.
func holed(t *testing.T) *page.Memory {
	t.Helper()
	var l [api.Pages]int
	for p := range l {
		l[p] = (p*5 + p/8) % 8
	}
	return mapped(t, 0, l[:]...)
}

// many tells a page's worth of bytes, none of them nought.
func many(seed int) []byte {
	b := make([]byte, 256)
	for i := range b {
		b[i] = byte(1 + (7*i+31*seed)%255)
	}
	return b
}

// model: what the calls are to tell, reckoned in another way: numbers without bounds, and a
// byte after the other.
type model struct {
	mem *shot
	s   api.State
}

// number tells how many bytes count, where so many are said.
func (o model) number(bytes int) int {
	if bytes != 1 {
		return 4
	}
	return 1
}

// which tells which register is meant, -1 of none.
func (o model) which(i int) int {
	if i == -1 {
		return -1
	}
	rest := new(big.Int).Mod(big.NewInt(int64(i)), big.NewInt(8)) // never below 0
	return int(rest.Int64())
}

func (o model) register(i int) uint32 {
	if i = o.which(i); i >= 0 {
		return o.s.R[i]
	}
	return 0
}

func (o model) Place(a api.Operand) uint32 {
	if a.Kind != api.KMem {
		return 0
	}
	n := func(v uint32) *big.Int { return new(big.Int).SetUint64(uint64(v)) }
	sum := new(big.Int).Mul(n(o.register(a.Index)), n(a.Scale))
	sum.Add(sum, n(o.register(a.Base)))
	sum.Add(sum, n(a.Imm))
	return uint32(sum.Mod(sum, new(big.Int).Lsh(big.NewInt(1), 32)).Uint64())
}

// fault tells the fault of the first of n bytes that isn't in a page with all of these rights.
func (o model) fault(at uint32, n, rights int) (api.Fault, bool) {
	for k := 0; k < n; k++ {
		has := 0
		if here := at + uint32(k); here < 16384 {
			has = o.mem.rights[here>>8]
		}
		for _, right := range []int{r, w, x} {
			if rights&right != 0 && has&right == 0 {
				return api.Fault{Kind: api.FPage, Addr: at + uint32(k), Want: right}, false
			}
		}
	}
	return api.Fault{}, true
}

// load tells n bytes from a place on, or the fault.
func (o model) load(at uint32, n int) (uint64, api.Fault, bool) {
	f, ok := o.fault(at, n, r)
	v := uint64(0)
	for k := n - 1; ok && k >= 0; k-- {
		v = v*256 + uint64(o.mem.bytes[at+uint32(k)])
	}
	return v, f, ok
}

// store sets n bytes from a place on, or tells the fault.
func (o model) store(at uint32, n int, v uint64) (api.Fault, bool) {
	f, ok := o.fault(at, n, w)
	for k := 0; ok && k < n; k++ {
		o.mem.bytes[at+uint32(k)] = byte(v)
		v /= 256
	}
	return f, ok
}

func (o model) Read(a api.Operand, bytes int) (uint32, api.Fault, bool) {
	n := o.number(bytes)
	switch {
	case a.Kind == api.KMem:
		v, f, ok := o.load(o.Place(a), n)
		return uint32(v), f, ok
	case a.Kind == api.KImm && n == 1:
		return a.Imm % 256, api.Fault{}, true
	case a.Kind == api.KImm:
		return a.Imm, api.Fault{}, true
	case a.Kind != api.KReg || o.which(a.Reg) < 0:
		return 0, api.Fault{}, true
	case n == 4:
		return o.s.R[o.which(a.Reg)], api.Fault{}, true
	case o.which(a.Reg) < 4:
		return o.s.R[o.which(a.Reg)] % 256, api.Fault{}, true
	}
	return o.s.R[o.which(a.Reg)-4] / 256 % 256, api.Fault{}, true
}

// Write tells the state behind it, also where it can't be, and changes the model's memory.
func (o model) Write(a api.Operand, bytes int, v uint32) (api.State, api.Fault, bool) {
	n, s := o.number(bytes), o.s
	if a.Kind == api.KMem {
		f, ok := o.store(o.Place(a), n, uint64(v))
		return s, f, ok
	}
	if i := o.which(a.Reg); a.Kind == api.KReg && i >= 0 {
		switch {
		case n == 4:
			s.R[i] = v
		case i < 4:
			s.R[i] = s.R[i]/256*256 + v%256
		default:
			s.R[i-4] = s.R[i-4]/65536*65536 + v%256*256 + s.R[i-4]%256
		}
	}
	return s, api.Fault{}, true
}

func (o model) Can(a api.Operand, bytes, rights int) (api.Fault, bool) {
	if a.Kind != api.KMem {
		return api.Fault{}, true
	}
	return o.fault(o.Place(a), bytes, rights)
}

// pair: a memory, a state and a model of both, that are told the same.
type pair struct {
	t *testing.T
	m *page.Memory
	o model
}

// pairOf tells the pair of a memory and a state.
func pairOf(t *testing.T, m *page.Memory, s api.State) pair {
	return pair{t, m, model{shotOf(m), s}}
}

// hold fails, if what was told isn't what is to be told.
func (c pair) hold(got, want any, about ...any) {
	c.t.Helper()
	if got != want {
		c.t.Fatalf("%v: %+v, want %+v", fmt.Sprint(about...), got, want)
	}
}

type placed struct {
	v  uint64
	f  api.Fault
	ok bool
}

type left struct {
	s  api.State
	f  api.Fault
	ok bool
}

func (c pair) read(a api.Operand, bytes int) {
	c.t.Helper()
	v, f, ok := Read(c.m, c.o.s, a, bytes)
	wantV, wantF, wantOK := c.o.Read(a, bytes)
	c.hold(placed{uint64(v), f, ok}, placed{uint64(wantV), wantF, wantOK}, "Read ", a, bytes)
}

func (c pair) write(a api.Operand, bytes int, v uint32) {
	c.t.Helper()
	s, f, ok := Write(c.m, c.o.s, a, bytes, v)
	wantS, wantF, wantOK := c.o.Write(a, bytes, v)
	c.hold(left{s, f, ok}, left{wantS, wantF, wantOK}, "Write ", a, bytes)
}

func (c pair) can(a api.Operand, bytes, rights int) {
	c.t.Helper()
	f, ok := Can(c.m, c.o.s, a, bytes, rights)
	wantF, wantOK := c.o.Can(a, bytes, rights)
	c.hold(placed{f: f, ok: ok}, placed{f: wantF, ok: wantOK}, "Can ", a, bytes, rights)
}

func (c pair) read8(at uint32) {
	c.t.Helper()
	v, f, ok := Read8(c.m, at)
	wantV, wantF, wantOK := c.o.load(at, 8)
	c.hold(placed{v, f, ok}, placed{wantV, wantF, wantOK}, "Read8 ", at)
}

func (c pair) write8(at uint32, v uint64) {
	c.t.Helper()
	f, ok := Write8(c.m, at, v)
	wantF, wantOK := c.o.store(at, 8, v)
	c.hold(placed{f: f, ok: ok}, placed{f: wantF, ok: wantOK}, "Write8 ", at)
}

// same fails, if the memory isn't the model's.
func (c pair) same(about ...any) {
	c.t.Helper()
	is(c.t, c.m, c.o.mem, about...)
}

func reg(i int) api.Operand    { return api.Operand{Kind: api.KReg, Reg: i} }
func imm(n uint32) api.Operand { return api.Operand{Kind: api.KImm, Imm: n} }
func mem(base, index int, scale, far uint32) api.Operand {
	return api.Operand{Kind: api.KMem, Base: base, Index: index, Scale: scale, Imm: far}
}

// at tells the operand that is at a place of its own, whatever the state.
func at(place uint32) api.Operand { return mem(-1, -1, 1, place) }

// kindsOfNone: what isn't a kind of operands.
var kindsOfNone = []int{-1, 4, 5, 8, -3, -4, 257, 259, 1<<32 + 1, 1<<32 + 3, math.MaxInt, math.MinInt, math.MinInt + 3}

// asFour: numbers of bytes that count as 4.
var asFour = []int{4, 0, 2, 3, 5, 7, 8, 16, -1, -4, 255, 256, 257, 1<<32 + 1, math.MaxInt, math.MinInt, math.MinInt + 1}

// far: numbers far from 0, each with the register that it is.
var far = []struct{ i, reg int }{
	{math.MaxInt, 7}, {math.MaxInt - 1, 6}, {math.MaxInt - 7, 0}, {math.MinInt, 0}, {math.MinInt + 1, 1}, {math.MinInt + 7, 7},
	{math.MaxInt32, 7}, {math.MaxInt32 + 1, 0}, {math.MinInt32, 0}, {math.MinInt32 - 1, 7}, {1 << 40, 0}, {-1<<40 + 3, 3}, {255, 7}, {256, 0}, {-256, 0},
}

// around does it with numbers on both sides of 0, and with the register that each is, -1 of
// none.
func around(do func(i, reg int)) {
	reg := 0
	for i := -48; i <= 48; i++ {
		if i == -1 {
			do(i, -1)
		} else {
			do(i, reg)
		}
		reg++
		if reg == 8 {
			reg = 0
		}
	}
	for _, c := range far {
		do(c.i, c.reg)
	}
}

func TestExampleP12_1(t *testing.T) {
	s := api.State{}
	s.R[api.EBX], s.R[api.ECX] = 0x1000, 0x20
	if got := Place(s, mem(api.EBX, api.ECX, 4, 8)); got != 0x1088 {
		t.Errorf("[EBX + ECX * 4 + 8]: %#x, want 0x1088", got)
	}
}

func TestPlaceP12_1(t *testing.T) {
	s := sample
	for _, c := range []struct {
		o    api.Operand
		want uint32
	}{
		{mem(-1, -1, 1, 0), 0}, {mem(-1, -1, 1, 0x12345678), 0x12345678}, {mem(-1, -1, 8, 5), 5},
		{mem(api.EAX, -1, 1, 0), 0x13121110}, {mem(api.ESP, -1, 1, 4), 0x23222124}, {mem(api.EDI, -1, 8, 0xffffffff), 0x2f2e2d2b},
		{mem(-1, api.EAX, 1, 0), 0x13121110}, {mem(-1, api.EAX, 2, 0), 0x26242220}, {mem(-1, api.EDX, 4, 1), 0x6c686461},
		{mem(-1, api.EDI, 8, 0), 0x79716960}, {mem(-1, api.ESP, 8, 0), 0x19110900}, {mem(api.EBX, api.EBX, 1, 0), 0x3e3c3a38},
		{mem(api.EAX, api.ECX, 1, 0), 0x2a282624}, {mem(api.ECX, api.EAX, 2, 0), 0x3d3a3734},
	} {
		if got := Place(s, c.o); got != c.want {
			t.Errorf("Place(%v): %#x, want %#x", c.o, got, c.want)
		}
	}
}

// distances: those at the edges.
var distances = []uint32{0, 1, 8, 127, 128, 0x7fffffff, 0x80000000, 0x80000001, 0xdcedcefe, 0xffffff80, 0xfffffffe, 0xffffffff}

func TestPlaceOfAllPartsP12_1(t *testing.T) {
	top := sample
	for i := range top.R {
		top.R[i] = ^sample.R[i] // the sums go past 2^32
	}
	for _, s := range []api.State{sample, top, {}} {
		o := model{nil, s}
		for base := -1; base < 8; base++ {
			for index := -1; index < 8; index++ {
				for _, scale := range []uint32{1, 2, 4, 8} {
					for _, d := range distances {
						a := mem(base, index, scale, d)
						if got, want := Place(s, a), o.Place(a); got != want {
							t.Fatalf("Place(%v): %#x, want %#x", a, got, want)
						}
					}
				}
			}
		}
	}
}

func TestPlacePastTheEndP12_1(t *testing.T) {
	s := api.State{R: [8]uint32{api.EAX: 0xffffffff, api.ECX: 0x80000000, api.EDX: 0x20000001, api.EBX: 0xfffffff0}}
	for _, c := range []struct {
		o    api.Operand
		want uint32
	}{
		{mem(api.EAX, -1, 1, 1), 0}, {mem(api.EAX, -1, 1, 0xffffffff), 0xfffffffe}, {mem(api.EAX, api.EAX, 1, 0), 0xfffffffe},
		{mem(api.EAX, api.EAX, 8, 0xffffffff), 0xfffffff6}, {mem(-1, api.EAX, 8, 0), 0xfffffff8}, {mem(-1, api.EAX, 8, 8), 0},
		{mem(-1, api.ECX, 2, 0), 0}, {mem(api.ECX, api.ECX, 1, 7), 7}, {mem(-1, api.EDX, 8, 0), 8}, {mem(api.EBX, -1, 1, 0x20), 0x10},
		{mem(api.EBX, api.EDX, 8, 0x10), 8},
	} {
		if got := Place(s, c.o); got != c.want {
			t.Errorf("Place(%v): %#x, want %#x", c.o, got, c.want)
		}
	}
}

// Of scales that no instruction has, the index register is taken that often too.
func TestScalesP12_1(t *testing.T) {
	o := model{nil, sample}
	for _, scale := range []uint32{0, 3, 5, 7, 9, 16, 256, 0x10001, 0x80000000, 0xffffffff} {
		for _, index := range []int{-1, 0, 3, 7} {
			a := mem(5, index, scale, 0x1234)
			if got, want := Place(sample, a), o.Place(a); got != want {
				t.Errorf("Place(%v): %#x, want %#x", a, got, want)
			}
		}
	}
	if got := Place(sample, mem(-1, api.EAX, 0, 6)); got != 6 {
		t.Errorf("Place with scale 0: %#x", got)
	}
}

func TestPlaceOfOtherKindsP12_1(t *testing.T) {
	for _, kind := range append([]int{api.KNone, api.KReg, api.KImm}, kindsOfNone...) {
		a := mem(2, 3, 4, 5)
		a.Kind, a.Reg = kind, 6
		if got := Place(sample, a); got != 0 {
			t.Errorf("Place of kind %d: %#x", kind, got)
		}
		if got := Place(sample, api.Operand{Kind: kind, Imm: 77, Base: -1, Index: -1}); got != 0 {
			t.Errorf("Place of kind %d: %#x", kind, got)
		}
	}
}

func TestRegNeverCountsInMemoryP12_1(t *testing.T) {
	for _, i := range []int{-1, 0, 7, 8, math.MinInt} {
		a := mem(2, 3, 4, 5)
		want := Place(sample, a)
		if a.Reg = i; Place(sample, a) != want {
			t.Errorf("Reg %d counts", i)
		}
	}
}

func TestBasesAndIndexesP12_1(t *testing.T) {
	around(func(i, which int) {
		for _, other := range []int{-1, 0, 5} {
			if got, want := Place(sample, mem(i, other, 2, 9)), Place(sample, mem(which, other, 2, 9)); got != want {
				t.Errorf("base %d: %#x, want %#x", i, got, want)
			}
			if got, want := Place(sample, mem(other, i, 4, 9)), Place(sample, mem(other, which, 4, 9)); got != want {
				t.Errorf("index %d: %#x, want %#x", i, got, want)
			}
		}
		want := uint32(9)
		if which >= 0 {
			want = sample.R[which] + 9
		}
		if got := Place(sample, mem(i, -1, 1, 9)); got != want {
			t.Errorf("base %d alone: %#x, want %#x", i, got, want)
		}
		if got := Place(sample, mem(-1, i, 1, 9)); got != want {
			t.Errorf("index %d alone: %#x, want %#x", i, got, want)
		}
	})
}

// told fails, if Read doesn't tell v.
func told(t *testing.T, m *page.Memory, s api.State, o api.Operand, bytes int, v uint32) {
	t.Helper()
	got, f, ok := Read(m, s, o, bytes)
	if got != v || f != (api.Fault{}) || !ok {
		t.Errorf("Read(%v, %d): %#x, %v, %v, want %#x", o, bytes, got, f, ok, v)
	}
}

func TestReadRegisterP12_1(t *testing.T) {
	m := page.New()
	around(func(i, which int) {
		want := uint32(0)
		if which >= 0 {
			want = sample.R[which]
		}
		for _, bytes := range asFour {
			told(t, m, sample, reg(i), bytes, want)
		}
	})
}

// bytesOf: the registers of one byte of sample.
var bytesOf = [8]uint32{0x10, 0x14, 0x18, 0x1c, 0x11, 0x15, 0x19, 0x1d}

func TestReadByteRegisterP12_1(t *testing.T) {
	m := page.New()
	around(func(i, which int) {
		want := uint32(0)
		if which >= 0 {
			want = bytesOf[which]
		}
		told(t, m, sample, reg(i), 1, want)
	})
	told(t, m, api.State{R: [8]uint32{0xaabbccdd}}, reg(0), 1, 0xdd)
	told(t, m, api.State{R: [8]uint32{0xaabbccdd}}, reg(4), 1, 0xcc)
	told(t, m, api.State{R: [8]uint32{4: 0xaabbccdd}}, reg(4), 1, 0)
}

func TestReadNumberP12_1(t *testing.T) {
	m := page.New()
	for _, n := range append([]uint32{0x12345678, 0xaabbccff, 255, 256, 0xffffff00}, distances...) {
		for _, bytes := range asFour {
			told(t, m, sample, imm(n), bytes, n)
		}
		told(t, m, sample, imm(n), 1, n&0xff)
	}
}

func TestReadNothingP12_1(t *testing.T) {
	m := whole(t, rwx)
	for _, kind := range append([]int{api.KNone}, kindsOfNone...) {
		for _, bytes := range append([]int{1}, asFour...) {
			told(t, m, sample, api.Operand{Kind: kind}, bytes, 0)
			told(t, m, sample, api.Operand{Kind: kind, Reg: 3, Imm: 0x1234, Base: 2, Index: 1, Scale: 4}, bytes, 0)
			told(t, m, sample, api.Operand{Kind: kind, Imm: 0x20000, Base: -1, Index: -1, Scale: 1}, bytes, 0)
		}
	}
}

func TestReadMemoryP12_1(t *testing.T) {
	m := mapped(t, 0, r, r)
	if e := m.Poke(253, []byte{0x11, 0x22, 0x83, 0x44, 0xf5, 0x66}); e != api.OK {
		t.Fatal(e)
	}
	s := api.State{R: [8]uint32{api.EBX: 200, api.ECX: 10}}
	for _, c := range []struct {
		o         api.Operand
		one, four uint32
	}{
		{at(253), 0x11, 0x44832211}, {at(254), 0x22, 0xf5448322}, {at(255), 0x83, 0x66f54483},
		{mem(api.EBX, api.ECX, 4, 13), 0x11, 0x44832211}, {mem(api.EBX, api.ECX, 8, 0xffffffe7), 0x83, 0x66f54483},
		{mem(api.EBX, -1, 1, 54), 0x22, 0xf5448322}, {mem(-1, api.ECX, 8, 173), 0x11, 0x44832211},
	} {
		for _, bytes := range asFour {
			told(t, m, s, c.o, bytes, c.four)
		}
		told(t, m, s, c.o, 1, c.one)
	}
}

// What else an operand has counts for nothing.
func TestLeftoversP12_1(t *testing.T) {
	c := pairOf(t, whole(t, rw), sample)
	for _, a := range []api.Operand{
		{Kind: api.KReg, Reg: 5, Imm: 0x20000, Base: -1, Index: -1, Scale: 1}, {Kind: api.KReg, Reg: 2, Imm: 256, Base: 1, Index: 3, Scale: 8},
		{Kind: api.KImm, Imm: 0x20010, Reg: 4, Base: 3, Index: 2, Scale: 2}, {Kind: api.KImm, Imm: 0x10, Reg: -1, Base: -1, Index: -1},
		{Kind: api.KMem, Imm: 0x310, Reg: 4, Base: -1, Index: -1, Scale: 7}, {Kind: api.KMem, Imm: 0x310, Reg: -1, Base: -1, Index: -1},
	} {
		for _, bytes := range []int{1, 4} {
			c.read(a, bytes)
			c.write(a, bytes, 0xa1b2c3d4)
			c.can(a, bytes, rwx)
			c.same(a)
		}
	}
}

// becomes fails, if Write doesn't tell that state, and no fault.
func becomes(t *testing.T, m *page.Memory, o api.Operand, bytes int, v uint32, want api.State) {
	t.Helper()
	s, f, ok := Write(m, sample, o, bytes, v)
	if s != want || f != (api.Fault{}) || !ok {
		t.Errorf("Write(%v, %d, %#x): %+v, %v, %v, want %+v", o, bytes, v, s, f, ok, want)
	}
}

func TestWriteRegisterP12_1(t *testing.T) {
	m := holed(t)
	before := shotOf(m)
	around(func(i, which int) {
		for _, bytes := range asFour {
			want := sample
			if which >= 0 {
				want.R[which] = 0xa1b2c3d4
			}
			becomes(t, m, reg(i), bytes, 0xa1b2c3d4, want)
		}
	})
	is(t, m, before, "registers are written")
}

func TestWriteByteRegisterP12_1(t *testing.T) {
	m := holed(t)
	before := shotOf(m)
	rows := [8]struct {
		which int
		is    uint32
	}{{0, 0x131211d4}, {1, 0x171615d4}, {2, 0x1b1a19d4}, {3, 0x1f1e1dd4}, {0, 0x1312d410}, {1, 0x1716d414}, {2, 0x1b1ad418}, {3, 0x1f1ed41c}}
	around(func(i, which int) {
		want := sample
		if which >= 0 {
			want.R[rows[which].which] = rows[which].is
		}
		becomes(t, m, reg(i), 1, 0xd4, want)
		becomes(t, m, reg(i), 1, 0xa1b2c3d4, want)
	})
	is(t, m, before, "registers are written")
}

func TestWriteNothingP12_1(t *testing.T) {
	m := whole(t, rwx)
	before := shotOf(m)
	for _, kind := range append([]int{api.KNone, api.KImm}, kindsOfNone...) {
		for _, bytes := range append([]int{1}, asFour...) {
			becomes(t, m, api.Operand{Kind: kind}, bytes, 0xa1b2c3d4, sample)
			becomes(t, m, api.Operand{Kind: kind, Reg: 3, Imm: 0x34, Base: -1, Index: -1, Scale: 4}, bytes, 0xa1b2c3d4, sample)
			becomes(t, m, api.Operand{Kind: kind, Reg: 3, Imm: 0x20000, Base: -1, Index: -1, Scale: 4}, bytes, 0xa1b2c3d4, sample)
		}
	}
	is(t, m, before, "nothing is written")
}

func TestWriteMemoryP12_1(t *testing.T) {
	for _, bytes := range append([]int{1}, asFour...) {
		for _, place := range []uint32{0, 100, 252, 253, 254, 255, 256, 508, 511} {
			m := mapped(t, 0, w, rw, w)
			want := shotOf(m)
			becomes(t, m, at(place), bytes, 0xa1b2c3d4, sample)
			if copy(want.bytes[place:], []byte{0xd4}); bytes != 1 {
				copy(want.bytes[place:], []byte{0xd4, 0xc3, 0xb2, 0xa1})
			}
			is(t, m, want, "Write", place, bytes)
		}
	}
}

func TestWritePlaceP12_1(t *testing.T) {
	s := api.State{R: [8]uint32{api.EBX: 200, api.ECX: 10, api.ESI: 0xfffffff0}}
	m := mapped(t, 0, rw)
	want := shotOf(m)
	for _, c := range []struct {
		o     api.Operand
		bytes int
		v     uint32
	}{{mem(api.EBX, api.ECX, 4, 8), 4, 0x01020304}, {mem(api.ESI, api.ECX, 2, 0), 1, 0xeeddccbb}} {
		if got, f, ok := Write(m, s, c.o, c.bytes, c.v); got != s || f != (api.Fault{}) || !ok {
			t.Errorf("Write(%v): %+v, %v, %v", c.o, got, f, ok)
		}
	}
	copy(want.bytes[248:], []byte{4, 3, 2, 1})
	want.bytes[4] = 0xbb
	is(t, m, want, "Write at places of registers")
}

// accessed reads, writes and asks at a place and holds what is told, and all the memory, to
// the model.
func (c pair) accessed(place uint32) {
	c.t.Helper()
	for _, bytes := range []int{1, 4, 2, 8} {
		c.read(at(place), bytes)
		for rights := range 8 {
			c.can(at(place), bytes, rights)
		}
	}
	c.read8(place)
	c.same("asked", place)
	for i, bytes := range []int{1, 4, 3} {
		c.write(at(place), bytes, 0x9badc0de^place*0x01010101+uint32(i))
		c.same("Write", place, bytes)
	}
	c.write8(place, 0x0123456789abcdef^uint64(place)*0x0101010101010101)
	c.same("Write8", place)
}

// Two pages beside one another, of all pairs of rights (0: unmapped), and what lies across.
func TestAcrossPagesP12_1(t *testing.T) {
	for first := range 8 {
		for second := range 8 {
			for _, p := range []int{0, 5, 62} {
				c := pairOf(t, mapped(t, p, first, second), sample)
				seam := uint32(256 * (p + 1))
				for place := seam - 9; place < seam+2; place++ {
					c.accessed(place)
				}
			}
		}
	}
}

// Both ends of the guest's memory and of the 32 bits, where all pages can do all; and places
// that would be in pages, if some of their bits didn't count.
func TestEndsP12_1(t *testing.T) {
	c := pairOf(t, whole(t, rwx), sample)
	for _, end := range []uint32{0, api.GuestSize, 1 << 15, 1 << 16, 1 << 20, 1 << 24, 1 << 30, 1 << 31, 3 << 30, 0xffffff00, 0xff000000, 0xffffc000} {
		for off := -9; off <= 3; off++ {
			c.accessed(end + uint32(off))
		}
	}
}

func TestFaultsP12_1(t *testing.T) {
	m := mapped(t, 0, r, w, rw, x, 0, rw)
	s := api.State{R: [8]uint32{api.EDX: 250, api.EDI: 1}, PC: 0x77}
	fault := func(place uint32, want int) api.Fault { return api.Fault{Kind: api.FPage, Addr: place, Want: want} }
	for _, c := range []struct {
		o           api.Operand
		bytes       int
		read, write api.Fault
	}{
		{mem(api.EDX, api.EDI, 2, 0), 4, api.Fault{}, fault(252, w)},
		{mem(api.EDX, api.EDI, 4, 0), 4, fault(256, r), fault(254, w)},
		{mem(api.EDX, api.EDI, 4, 1), 1, api.Fault{}, fault(255, w)},
		{mem(api.EDX, api.EDI, 4, 2), 1, fault(256, r), api.Fault{}},
		{at(510), 4, fault(510, r), api.Fault{}},
		{at(512), 4, api.Fault{}, api.Fault{}},
		{at(766), 4, fault(768, r), fault(768, w)},
		{at(767), 1, api.Fault{}, api.Fault{}},
		{at(1022), 4, fault(1022, r), fault(1022, w)},
		{at(1277), 4, fault(1277, r), fault(1277, w)},
		{at(1535), 4, fault(1536, r), fault(1536, w)},
		{at(0xffffffff), 4, fault(0xffffffff, r), fault(0xffffffff, w)},
		{at(0xfffffffe), 1, fault(0xfffffffe, r), fault(0xfffffffe, w)},
	} {
		if _, f, ok := Read(m, s, c.o, c.bytes); f != c.read || ok != (c.read == api.Fault{}) {
			t.Errorf("Read(%v, %d): %v, %v, want %v", c.o, c.bytes, f, ok, c.read)
		}
		if _, f, ok := Write(m, s, c.o, c.bytes, 5); f != c.write || ok != (c.write == api.Fault{}) {
			t.Errorf("Write(%v, %d): %v, %v, want %v", c.o, c.bytes, f, ok, c.write)
		}
	}
}

func TestCanP12_1(t *testing.T) {
	m := mapped(t, 0, rwx, r, rw, w|x, 0, r|x)
	fault := func(place uint32, want int) api.Fault { return api.Fault{Kind: api.FPage, Addr: place, Want: want} }
	s := api.State{R: [8]uint32{api.EBX: 240, api.ECX: 3}, PC: 0x1234}
	for _, c := range []struct {
		o             api.Operand
		bytes, rights int
		want          api.Fault
	}{
		{at(0), 256, rwx, api.Fault{}}, {at(0), 257, rwx, fault(256, w)}, {at(0), 257, r | x, fault(256, x)}, {at(0), 257, r, api.Fault{}},
		{mem(api.EBX, api.ECX, 4, 0), 4, rw, api.Fault{}}, {mem(api.EBX, api.ECX, 4, 0), 5, rw, fault(256, w)},
		{mem(api.EBX, api.ECX, 4, 1), 4, w | x, fault(256, w)}, {mem(api.EBX, api.ECX, 4, 1), 4, x, fault(256, x)},
		{at(512), 256, rw, api.Fault{}}, {at(512), 256, rwx, fault(512, x)}, {at(512), 257, rw, fault(768, r)}, {at(512), 257, w, api.Fault{}},
		{at(768), 1, rwx, fault(768, r)}, {at(768), 1, w | x, api.Fault{}}, {at(768), 1, r, fault(768, r)},
		{at(1020), 8, w | x, fault(1024, w)}, {at(1024), 1, rwx, fault(1024, r)}, {at(1024), 1, w | x, fault(1024, w)}, {at(1024), 1, x, fault(1024, x)},
		{at(1280), 16, r | x, api.Fault{}}, {at(1280), 16, rw, fault(1280, w)}, {at(1530), 16, r | x, fault(1536, r)}, {at(1530), 6, r | x, api.Fault{}},
		{at(0xffffffff), 1, x, fault(0xffffffff, x)}, {at(0xfffffffe), 8, rw, fault(0xfffffffe, r)}, {at(16384), 1, w, fault(16384, w)},
	} {
		f, ok := Can(m, s, c.o, c.bytes, c.rights)
		if f != c.want || ok != (c.want == api.Fault{}) {
			t.Errorf("Can(%v, %d, %d): %v, %v, want %v", c.o, c.bytes, c.rights, f, ok, c.want)
		}
	}
}

// Each number of bytes counts as it is: from each place of three pages on, over one of each
// set of rights in the middle.
func TestCanOfManyBytesP12_1(t *testing.T) {
	for middle := range 8 {
		c := pairOf(t, mapped(t, 1, rwx, middle, rwx), sample)
		for rights := range 8 {
			for _, place := range []uint32{200, 256, 500, 508, 511, 512, 600, 767, 768, 1000, 1023} {
				for _, bytes := range []int{0, 1, 2, 3, 4, 5, 7, 8, 9, 12, 15, 16, 17, 255, 256, 257, 600, 2000} {
					c.can(at(place), bytes, rights)
				}
			}
		}
	}
}

func TestCanOfNoBytesP12_1(t *testing.T) {
	m := mapped(t, 0, r)
	for _, bytes := range []int{0, -1, -4, math.MinInt, math.MinInt + 1, -1 << 32} {
		for _, place := range []uint32{0, 256, 20000, 0xffffffff} {
			if f, ok := Can(m, sample, at(place), bytes, rwx); f != (api.Fault{}) || !ok {
				t.Errorf("Can(%#x, %d): %v, %v", place, bytes, f, ok)
			}
		}
	}
}

// However many bytes there are to be, it ends.
func TestCanOfTooManyBytesP12_1(t *testing.T) {
	m := whole(t, rwx)
	for _, place := range []uint32{0, 1, 255, 16383} {
		for _, bytes := range []int{16385, 1 << 20, 1 << 32, 1<<32 + 4, math.MaxInt} {
			f, ok := Can(m, sample, at(place), bytes, rwx)
			if want := (api.Fault{Kind: api.FPage, Addr: 16384, Want: r}); f != want || ok {
				t.Errorf("Can(%#x, %d): %v, %v, want %v", place, bytes, f, ok, want)
			}
			if f, ok := Can(m, sample, at(place), bytes, 0); f != (api.Fault{}) || !ok {
				t.Errorf("Can(%#x, %d) without rights: %v, %v", place, bytes, f, ok)
			}
		}
	}
	for _, bytes := range []int{16384, 16383} {
		if f, ok := Can(m, sample, at(0), bytes, rwx); f != (api.Fault{}) || !ok {
			t.Errorf("Can(0, %d): %v, %v", bytes, f, ok)
		}
	}
}

// What names no right isn't one that lacks.
func TestCanOfOtherRightsP12_1(t *testing.T) {
	m := mapped(t, 0, rwx, r, 0)
	for _, rights := range []int{8, 15, 16, -1, -8, -7, 1 << 32, 1<<32 + 2, math.MaxInt, math.MinInt, math.MinInt + 4} {
		for _, place := range []uint32{0, 256, 512, 16384} {
			f, ok := Can(m, sample, at(place), 4, rights)
			wantF, wantOK := Can(m, sample, at(place), 4, rights&7)
			if f != wantF || ok != wantOK {
				t.Errorf("Can(%#x) of rights %d: %v, %v, want %v, %v", place, rights, f, ok, wantF, wantOK)
			}
		}
	}
}

func TestCanOfOtherKindsP12_1(t *testing.T) {
	m := page.New()
	for _, kind := range append([]int{api.KNone, api.KReg, api.KImm}, kindsOfNone...) {
		for _, bytes := range []int{1, 4, 8, 100, math.MaxInt} {
			for rights := range 8 {
				f, ok := Can(m, sample, api.Operand{Kind: kind, Reg: 3, Imm: 600, Base: -1, Index: -1}, bytes, rights)
				if f != (api.Fault{}) || !ok {
					t.Errorf("Can of kind %d: %v, %v", kind, f, ok)
				}
			}
		}
	}
}

func TestRead8P12_1(t *testing.T) {
	m := mapped(t, 0, r, r|x)
	if e := m.Poke(252, []byte{0x11, 0x22, 0x33, 0x44, 0x85, 0x66, 0x77, 0x98}); e != api.OK {
		t.Fatal(e)
	}
	v, f, ok := Read8(m, 252)
	if v != 0x9877668544332211 || f != (api.Fault{}) || !ok {
		t.Errorf("Read8: %#x, %v, %v", v, f, ok)
	}
	for off := range uint32(9) {
		v, f, ok := Read8(m, 504+off)
		want := api.Fault{Kind: api.FPage, Addr: max(512, 504+off), Want: r}
		if off > 0 && (v != 0 || f != want || ok) || off == 0 && !ok {
			t.Errorf("Read8(%d): %#x, %v, %v, want %v", 504+off, v, f, ok, want)
		}
	}
}

func TestWrite8P12_1(t *testing.T) {
	for _, place := range []uint32{0, 100, 248, 249, 252, 255, 256, 504} {
		m := mapped(t, 0, w, w|x)
		want := shotOf(m)
		if f, ok := Write8(m, place, 0x9877668544332211); f != (api.Fault{}) || !ok {
			t.Errorf("Write8(%d): %v, %v", place, f, ok)
		}
		copy(want.bytes[place:], []byte{0x11, 0x22, 0x33, 0x44, 0x85, 0x66, 0x77, 0x98})
		is(t, m, want, "Write8", place)
	}
}

func TestWhatIsWrittenIsReadP12_1(t *testing.T) {
	g := rand.New(rand.NewSource(120))
	m := whole(t, rw)
	for range 2000 {
		v, place := g.Uint64(), uint32(g.Intn(16376))
		if _, ok := Write8(m, place, v); !ok {
			t.Fatal("a fault")
		}
		if got, _, ok := Read8(m, place); got != v || !ok {
			t.Fatalf("Read8(%#x): %#x, want %#x", place, got, v)
		}
		told(t, m, sample, at(place), 4, uint32(v))
		told(t, m, sample, at(place+4), 4, uint32(v>>32))
		told(t, m, sample, at(place+7), 1, uint32(v>>56))
	}
}

// Beside a fault the state is as it was, and nothing is touched, wherever the place is.
func TestFaultsTouchNothingP12_2(t *testing.T) {
	m := holed(t)
	before, faults := shotOf(m), 0
	for place := uint32(0); place < api.GuestSize+64; place++ {
		for _, bytes := range []int{1, 4} {
			c := m.Copy()
			if s, f, ok := Write(c, sample, at(place), bytes, ^place); !ok {
				faults++
				if s != sample || f.Kind != api.FPage || f.PC != 0 || f.Want != w || f.Addr-place > 3 || !c.Same(m) {
					t.Fatalf("Write(%#x, %d): %v, %+v, and something is changed", place, bytes, f, s)
				}
			}
			if v, f, ok := Read(c, sample, at(place), bytes); !ok && (v != 0 || f.Kind != api.FPage || f.PC != 0 || f.Want != r) {
				t.Fatalf("Read(%#x, %d): %#x, %v", place, bytes, v, f)
			}
		}
		c := m.Copy()
		if f, ok := Write8(c, place, ^uint64(place)); !ok && (!c.Same(m) || f.Addr-place > 7) {
			t.Fatalf("Write8(%#x): %v, and something is changed", place, f)
		}
		if v, f, ok := Read8(m, place); !ok && (v != 0 || f.Addr-place > 7) {
			t.Fatalf("Read8(%#x): %#x, %v", place, v, f)
		}
		Can(m, sample, at(place), 16, rwx)
		Read(m, sample, at(place), 4)
		Read(m, sample, at(place), 1)
	}
	if faults == 0 {
		t.Error("no faults")
	}
	is(t, m, before, "read and asked at all places")
}

// refused fails, if a word or a byte can be written to o, if the fault is another one, or if the
// state behind it or the memory isn't as it was.
func refused(t *testing.T, m *page.Memory, s api.State, o api.Operand, bytes int, v uint32, first uint32) {
	t.Helper()
	before := shotOf(m)
	got, f, ok := Write(m, s, o, bytes, v)
	if want := (api.Fault{Kind: api.FPage, Addr: first, Want: w}); f != want || ok {
		t.Errorf("Write(%v, %d, %#x): %v, %v, want %v", o, bytes, v, f, ok, want)
	}
	if got != s {
		t.Errorf("Write(%v, %d, %#x): the state behind it is %+v, want %+v", o, bytes, v, got, s)
	}
	is(t, m, before, "Write", o, bytes, v)
}

// Beside a fault the state is told as it was: every register, flag, the direction, the place, the
// number; whether the first byte or a later one can't be written, for whatever right of its page.
func TestStateBesideAFaultP12_2(t *testing.T) {
	all := api.Flags{CF: true, PF: true, AF: true, ZF: true, SF: true, OF: true}
	states := []api.State{{}, sample, {R: [8]uint32{0x01020304}, PC: 9}, {DF: true}, {F: 1 << 63}, {F: 1}, {Fl: all}, {PC: 0xffffffff}}
	for i := range 8 {
		s := api.State{}
		s.R[i] = 0x80000001
		states = append(states, s)
	}
	for _, rights := range []int{0, r, x, r | x} {
		m := mapped(t, 4, rw, rights)
		for _, s := range states {
			for _, v := range []uint32{0, 5, 0xffffffff, 0x01020304} {
				refused(t, m, s, at(1280), 1, v, 1280)
				refused(t, m, s, at(1535), 1, v, 1535)
				for _, bytes := range asFour {
					for off := uint32(1); off < 4; off++ {
						refused(t, m, s, at(1280-off), bytes, v, 1280)
					}
					refused(t, m, s, at(1280), bytes, v, 1280)
					refused(t, m, s, at(1532), bytes, v, 1532)
					refused(t, m, s, at(1535), bytes, v, 1535)
				}
			}
		}
	}
}

// Likewise where registers tell the place, and where it is far from all pages.
func TestStateBesideAFaultByRegistersP12_2(t *testing.T) {
	m := mapped(t, 0, rw, r)
	s := sample
	s.R[api.EBX], s.R[api.ECX] = 200, 18
	refused(t, m, s, mem(api.EBX, api.ECX, 2, 17), 4, 5, 256)
	refused(t, m, s, mem(api.EBX, api.ECX, 4, 0), 1, 5, 272)
	refused(t, m, s, mem(api.EBX, -1, 1, 54), 4, 5, 256)
	refused(t, m, s, mem(-1, api.EBX, 2, 0), 4, 5, 400)
	refused(t, m, sample, mem(api.ESI, api.EDI, 8, 1), 4, 5, 0x2b2a2928+8*0x2f2e2d2c-1<<32+1)
	refused(t, m, sample, at(0xffffffff), 4, 5, 0xffffffff)
	refused(t, m, sample, at(api.GuestSize-2), 4, 5, api.GuestSize-2)
	refused(t, whole(t, rwx), sample, at(api.GuestSize-2), 4, 5, api.GuestSize)
}

// Of eight bytes across two pages that can be written and not, each split of them.
func TestWrite8TouchesNothingP12_2(t *testing.T) {
	for rights := range 8 {
		if rights&w != 0 {
			continue
		}
		for off := uint32(0); off < 8; off++ {
			m := mapped(t, 3, rw, rights)
			before := shotOf(m)
			f, ok := Write8(m, 1024-off, ^uint64(0))
			if want := (api.Fault{Kind: api.FPage, Addr: 1024, Want: w}); f != want || ok {
				t.Errorf("Write8(%d): %v, %v, want %v", 1024-off, f, ok, want)
			}
			is(t, m, before, "Write8", 1024-off)
			m = mapped(t, 3, rights, rw)
			before = shotOf(m)
			f, ok = Write8(m, 1023-off, ^uint64(0))
			if want := (api.Fault{Kind: api.FPage, Addr: 1023 - off, Want: w}); f != want || ok {
				t.Errorf("Write8(%d): %v, %v, want %v", 1023-off, f, ok, want)
			}
			is(t, m, before, "Write8", 1023-off)
		}
	}
}

// Registers can always be written; nothing of memory is touched by them, nor by what is none.
func TestOtherKindsTouchNoMemoryP12_2(t *testing.T) {
	m := whole(t, rwx)
	before := shotOf(m)
	g := rand.New(rand.NewSource(121))
	for range 3000 {
		a := someOperand(g)
		if a.Kind == api.KMem {
			continue
		}
		if s, _, ok := Write(m, sample, a, 1+3*g.Intn(2), g.Uint32()); !ok || s.PC != sample.PC || s.Fl != sample.Fl || s.DF != sample.DF || s.F != sample.F {
			t.Fatalf("Write(%v): %+v, %v", a, s, ok)
		}
	}
	is(t, m, before, "others than places are written")
}

// someNumber tells a register's number: mostly one that is, now and then one of none.
func someNumber(g *rand.Rand) int {
	switch g.Intn(10) {
	case 0:
		return -1
	case 1:
		return far[g.Intn(len(far))].i
	case 2:
		return g.Intn(64) - 32
	case 3:
		return int(g.Uint64())
	}
	return g.Intn(8)
}

// someOperand tells an operand of any kind.
func someOperand(g *rand.Rand) api.Operand {
	a := api.Operand{Kind: g.Intn(4), Reg: someNumber(g), Imm: g.Uint32(), Base: someNumber(g), Index: someNumber(g), Scale: 1 << g.Intn(4)}
	switch g.Intn(12) {
	case 0:
		a.Kind = kindsOfNone[g.Intn(len(kindsOfNone))]
	case 1:
		a.Scale = g.Uint32()
	case 2:
		a.Imm = distances[g.Intn(len(distances))]
	}
	return a
}

// someState tells a state of any bits.
func someState(g *rand.Rand) api.State {
	s := api.State{PC: g.Uint32(), DF: g.Intn(2) == 0, F: g.Uint64()}
	s.Fl = api.Flags{CF: g.Intn(2) == 0, PF: g.Intn(2) == 0, AF: g.Intn(2) == 0, ZF: g.Intn(2) == 0, SF: g.Intn(2) == 0, OF: g.Intn(2) == 0}
	for i := range s.R {
		s.R[i] = g.Uint32()
	}
	return s
}

// aimed tells the operand with its distance so that it is near to a page's end in o, mostly.
func aimed(g *rand.Rand, o model, a api.Operand) api.Operand {
	if g.Intn(8) > 0 {
		a.Imm += uint32(256*g.Intn(66)+g.Intn(20)-10) - o.Place(a)
	}
	return a
}

// someMemory tells a memory with any pages mapped.
func someMemory(t *testing.T, g *rand.Rand) *page.Memory {
	t.Helper()
	var l [api.Pages]int
	for p := range l {
		if l[p] = g.Intn(8); g.Intn(2) == 0 {
			l[p] = rw
		}
	}
	return mapped(t, 0, l[:]...)
}

// act does one thing to both and holds the answers to each other; the state goes on as it is
// told.
func (c *pair) act(g *rand.Rand) {
	c.t.Helper()
	a := aimed(g, c.o, someOperand(g))
	c.hold(Place(c.o.s, a), c.o.Place(a), "Place ", a)
	bytes := []int{1, 4, 1, 4, 1, 4, g.Intn(20) - 2}[g.Intn(7)]
	v := g.Uint32()
	switch g.Intn(7) {
	case 0, 1:
		c.read(a, bytes)
	case 2, 3:
		c.write(a, bytes, v)
		if s, _, ok := c.o.Write(a, bytes, v); ok {
			c.o.s = s
		}
	case 4:
		c.can(a, []int{bytes, g.Intn(40) - 2, g.Intn(2000)}[g.Intn(3)], g.Intn(8))
	case 5:
		c.read8(c.o.Place(a))
	case 6:
		c.write8(c.o.Place(a), g.Uint64())
	}
}

func TestModelP12_2(t *testing.T) {
	for seed := range int64(30) {
		g := rand.New(rand.NewSource(seed))
		c := pairOf(t, someMemory(t, g), someState(g))
		for range 400 {
			c.act(g)
			c.same("seed", seed)
			if g.Intn(10) == 0 {
				c.o.s = someState(g)
			}
		}
	}
}

// Each memory is by itself, whatever is done with others at the same time.
func TestManyMemoriesP12_2(t *testing.T) {
	var all sync.WaitGroup
	for seed := range int64(8) {
		g := rand.New(rand.NewSource(200 + seed))
		c := pairOf(t, someMemory(t, g), someState(g))
		all.Go(func() {
			for range 2000 {
				a := aimed(g, c.o, someOperand(g))
				v, f, ok := Read(c.m, c.o.s, a, 4)
				wantV, wantF, wantOK := c.o.Read(a, 4)
				if v != wantV || f != wantF || ok != wantOK {
					t.Errorf("seed %d: Read(%v): %#x, %v, %v", seed, a, v, f, ok)
				}
				Write(c.m, c.o.s, a, 4, v+1)
				c.o.Write(a, 4, v+1)
			}
			if *shotOf(c.m) != *c.o.mem {
				t.Error("memories aren't by themselves: seed", seed)
			}
		})
	}
	all.Wait()
}
