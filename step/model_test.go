package step

import (
	"math"
	"math/big"
	"math/bits"
	"math/rand"
	"testing"

	"ferryman/api"
	"ferryman/decode"
	"ferryman/insn"
	"ferryman/page"
)

const (
	r   = api.CanRead
	w   = api.CanWrite
	x   = api.CanRun
	rw  = r | w
	rwx = r | w | x
)

// sample: a state of which each byte is another one.
var sample = api.State{
	R:  [8]uint32{0x13121110, 0x17161514, 0x1b1a1918, 0x1f1e1d1c, 0x23222120, 0x27262524, 0x2b2a2928, 0x2f2e2d2c},
	PC: 0x33323130,
	Fl: api.Flags{CF: true, AF: true, SF: true},
	F:  0xa7a6a5a4a3a2a1a0,
}

// mapped tells a memory of pages from first on with these rights (0: unmapped), none of their
// bytes nought.
func mapped(t *testing.T, first int, rights ...int) *page.Memory {
	t.Helper()
	m := page.New()
	for i, rt := range rights {
		if rt == 0 {
			continue
		}
		if e := m.Map(first+i, 1, rt); e != api.OK {
			t.Fatal(e)
		}
		put(t, m, uint32(256*(first+i)), many(first+i)...)
	}
	return m
}

// whole tells a memory of all pages, each with all of these rights.
func whole(t *testing.T, rights int) *page.Memory {
	t.Helper()
	var l [api.Pages]int
	for p := range l {
		l[p] = rights
	}
	return mapped(t, 0, l[:]...)
}

// many tells a page's worth of bytes, none of them nought.
func many(seed int) []byte {
	b := make([]byte, 256)
	for i := range b {
		b[i] = byte(1 + (7*i+31*seed)%255)
	}
	return b
}

// put lays bytes into a memory, whatever the rights.
func put(t *testing.T, m *page.Memory, place uint32, b ...byte) {
	t.Helper()
	if e := m.Poke(place, b); e != api.OK {
		t.Fatal(e)
	}
}

// little tells the lowest n bytes of v, the lowest first.
func little(v uint64, n int) []byte {
	b := make([]byte, n)
	for k := range b {
		b[k] = byte(v % 256)
		v /= 256
	}
	return b
}

// model: what the calls are to tell, reckoned in another way: which bytes are read and written
// first, then numbers wider than words, bits one by one.
type model struct {
	mem *page.Memory
	s   api.State
}

// access: so many bytes at a place that are to have rights.
type access struct {
	place  uint32
	n      int
	rights int
}

// fault tells the fault of the first byte of the first of these that lacks a right.
func (o *model) fault(l []access) (api.Fault, bool) {
	for _, a := range l {
		for k := range a.n {
			here := a.place + uint32(k)
			has := 0
			if here < api.GuestSize {
				has = o.mem.Rights(int(here) / 256)
			}
			for _, right := range []int{r, w, x} {
				if a.rights&right != 0 && has&right == 0 {
					return api.Fault{Kind: api.FPage, PC: o.s.PC, Addr: here, Want: right}, false
				}
			}
		}
	}
	return api.Fault{}, true
}

// load tells n bytes from a place on, that are there.
func (o *model) load(place uint32, n int) uint64 {
	v := uint64(0)
	for k := n - 1; k >= 0; k-- {
		v = v*256 + uint64(o.mem.Peek(place+uint32(k), 1)[0])
	}
	return v
}

// store sets n bytes from a place on, that are there.
func (o *model) store(place uint32, n int, v uint64) {
	if o.mem.Poke(place, little(v, n)) != api.OK {
		panic("the model stores where nothing is")
	}
}

// place tells where an operand is.
func (o *model) place(a api.Operand) uint32 {
	sum := uint64(a.Imm)
	if a.Base >= 0 {
		sum += uint64(o.s.R[a.Base])
	}
	if a.Index >= 0 {
		sum += uint64(o.s.R[a.Index]) * uint64(a.Scale)
	}
	return uint32(sum % (1 << 32))
}

// get tells what an operand of n bytes is.
func (o *model) get(a api.Operand, n int) uint32 {
	switch {
	case a.Kind == api.KMem:
		return uint32(o.load(o.place(a), n))
	case a.Kind == api.KImm:
		return a.Imm
	case n == 4:
		return o.s.R[a.Reg]
	case a.Reg < 4:
		return o.s.R[a.Reg] % 256
	}
	return o.s.R[a.Reg-4] / 256 % 256
}

// set makes an operand of n bytes v.
func (o *model) set(a api.Operand, n int, v uint32) {
	switch {
	case a.Kind == api.KMem:
		o.store(o.place(a), n, uint64(v))
	case n == 4:
		o.s.R[a.Reg] = v
	case a.Reg < 4:
		o.s.R[a.Reg] = o.s.R[a.Reg]/256*256 + v%256
	default:
		o.s.R[a.Reg-4] = o.s.R[a.Reg-4]/65536*65536 + v%256*256 + o.s.R[a.Reg-4]%256
	}
}

// asked tells what an operation does with its operands in memory: how many bytes each has there,
// and the rights that A and B are to have.
func asked(op int) (n, a, b int) {
	switch op {
	case api.OMov:
		return 4, w, r
	case api.OMov8, api.OSet:
		return 1, w, r
	case api.OMovzx, api.OMovsx:
		return 1, 0, r
	case api.OLea:
		return 0, 0, 0
	case api.OCmp, api.OTest, api.OMul, api.OImul, api.ODiv, api.OIdiv, api.OPush, api.OCall, api.OJmp:
		return 4, r, r
	case api.OFld, api.OFadd, api.OFsub, api.OFmul, api.OFdiv, api.OFcom:
		return 8, r, 0
	case api.OFst:
		return 8, w, 0
	}
	return 4, rw, r
}

// accesses tells which bytes i reads and writes, in their order.
func (o *model) accesses(i api.Insn) []access {
	var l []access
	n, a, b := asked(i.Op)
	if i.A.Kind == api.KMem {
		l = append(l, access{o.place(i.A), n, a})
	}
	if i.B.Kind == api.KMem {
		l = append(l, access{o.place(i.B), n, b})
	}
	switch i.Op {
	case api.OPush, api.OCall:
		l = append(l, access{o.s.R[4] - 4, 4, w})
	case api.OPop, api.ORet:
		l = append(l, access{o.s.R[4], 4, r})
	case api.OMovs, api.OStos:
		if i.Rep && o.s.R[1] == 0 {
			break
		}
		if i.Op == api.OMovs {
			l = append(l, access{o.s.R[6], 4, r})
		}
		l = append(l, access{o.s.R[7], 4, w})
	}
	return l
}

// Do does what Do is to do of an instruction: the fault; the model stays with one.
func (o *model) Do(i api.Insn) (api.Fault, bool) {
	if f, ok := o.fault(o.accesses(i)); !ok {
		return f, false
	}
	if i.Op == api.ODiv || i.Op == api.OIdiv {
		return o.divide(i)
	}
	here := o.s.PC
	o.s.PC = uint32((uint64(here) + uint64(i.Len)) % (1 << 32))
	switch {
	case i.Op >= api.OFld:
		o.number(i)
	case i.Op >= api.OMul && i.Op <= api.OImul2:
		o.multiply(i)
	case i.Op >= api.OAdd && i.Op <= api.OSar:
		o.change(i)
	case i.Op == api.OMovs || i.Op == api.OStos:
		o.row(i, here)
	default:
		o.other(i)
	}
	return api.Fault{}, true
}

// condition tells whether a condition holds, by the list of them all.
func condition(f api.Flags, cc int) bool {
	return [16]bool{
		f.OF, !f.OF, f.CF, !f.CF, f.ZF, !f.ZF, f.CF || f.ZF, !f.CF && !f.ZF, f.SF, !f.SF, f.PF, !f.PF,
		f.SF && !f.OF || !f.SF && f.OF, f.SF == f.OF, f.ZF || f.SF && !f.OF || !f.SF && f.OF, !f.ZF && f.SF == f.OF,
	}[cc]
}

func (o *model) other(i api.Insn) {
	so := condition(o.s.Fl, i.Cond)
	far := o.s.PC + i.A.Imm
	switch i.Op {
	case api.OMov:
		o.set(i.A, 4, o.get(i.B, 4))
	case api.OMov8:
		o.set(i.A, 1, o.get(i.B, 1))
	case api.OMovzx:
		o.set(i.A, 4, o.get(i.B, 1))
	case api.OMovsx:
		v := o.get(i.B, 1)
		if v >= 128 {
			v += 0xffffff00
		}
		o.set(i.A, 4, v)
	case api.OLea:
		o.set(i.A, 4, o.place(i.B))
	case api.OXchg:
		a, b := o.get(i.A, 4), o.get(i.B, 4)
		o.set(i.A, 4, b)
		o.set(i.B, 4, a)
	case api.OCdq:
		o.s.R[2] = o.s.R[0] / (1 << 31) * 0xffffffff
	case api.OSet:
		o.set(i.A, 1, map[bool]uint32{true: 1}[so])
	case api.OCmov:
		if so {
			o.set(i.A, 4, o.get(i.B, 4))
		}
	case api.OCld:
		o.s.DF = false
	case api.OStd:
		o.s.DF = true
	case api.OPush:
		v := o.get(i.A, 4)
		o.s.R[4] -= 4
		o.store(o.s.R[4], 4, uint64(v))
	case api.OPop:
		v := uint32(o.load(o.s.R[4], 4))
		o.s.R[4] += 4
		o.s.R[i.A.Reg] = v
	case api.OCall:
		to := far
		if i.A.Kind != api.KImm {
			to = o.get(i.A, 4)
		}
		o.s.R[4] -= 4
		o.store(o.s.R[4], 4, uint64(o.s.PC))
		o.s.PC = to
	case api.ORet:
		o.s.PC = uint32(o.load(o.s.R[4], 4))
		o.s.R[4] += 4
	case api.OJmp:
		if i.A.Kind != api.KImm {
			far = o.get(i.A, 4)
		}
		o.s.PC = far
	case api.OJcc:
		if so {
			o.s.PC = far
		}
	}
}

func (o *model) row(i api.Insn, here uint32) {
	if i.Rep && o.s.R[1] == 0 {
		return
	}
	far := int64(4)
	if o.s.DF {
		far = -4
	}
	v := uint64(o.s.R[0])
	if i.Op == api.OMovs {
		v = o.load(o.s.R[6], 4)
		o.s.R[6] = uint32(int64(o.s.R[6]) + far)
	}
	o.store(o.s.R[7], 4, v)
	o.s.R[7] = uint32(int64(o.s.R[7]) + far)
	if i.Rep {
		o.s.R[1]--
		if o.s.R[1] > 0 {
			o.s.PC = here
		}
	}
}

// byResult sets the flags that go by a result alone.
func (o *model) byResult(v uint32) {
	o.s.Fl.ZF, o.s.Fl.SF = v == 0, v >= 1<<31
	o.s.Fl.PF = bits.OnesCount8(uint8(v))%2 == 0
}

// fits tells whether v is a number of 32 bits with a sign.
func fits(v int64) bool { return v >= math.MinInt32 && v <= math.MaxInt32 }

func (o *model) change(i api.Insn) {
	a, b := o.get(i.A, 4), uint32(0)
	if i.B.Kind != api.KNone {
		b = o.get(i.B, 4)
	}
	was := o.s.Fl
	c := uint32(0)
	if was.CF && (i.Op == api.OAdc || i.Op == api.OSbb) {
		c = 1
	}
	v := a
	switch i.Op {
	case api.OInc:
		v = o.sum(a, 1, 0)
		o.s.Fl.CF = was.CF
	case api.OAdd, api.OAdc:
		v = o.sum(a, b, c)
	case api.ODec:
		v = o.difference(a, 1, 0)
		o.s.Fl.CF = was.CF
	case api.OSub, api.OSbb:
		v = o.difference(a, b, c)
	case api.ONeg:
		v = o.difference(0, a, 0)
	case api.OCmp:
		o.difference(a, b, 0)
		return
	case api.OTest:
		o.logic(a & b)
		return
	case api.OAnd:
		v = o.logic(a & b)
	case api.OOr:
		v = o.logic(a | b)
	case api.OXor:
		v = o.logic(a ^ b)
	case api.ONot:
		v = 0xffffffff - a
	default:
		v = o.shift(i.Op, a, int(b%32))
	}
	o.set(i.A, 4, v)
}

func (o *model) logic(v uint32) uint32 {
	o.s.Fl = api.Flags{}
	o.byResult(v)
	return v
}

func (o *model) sum(a, b, c uint32) uint32 {
	v := uint64(a) + uint64(b) + uint64(c)
	o.s.Fl = api.Flags{CF: v >= 1<<32, AF: a%16+b%16+c > 15, OF: !fits(int64(int32(a)) + int64(int32(b)) + int64(c))}
	o.byResult(uint32(v))
	return uint32(v)
}

func (o *model) difference(a, b, c uint32) uint32 {
	v := int64(a) - int64(b) - int64(c)
	o.s.Fl = api.Flags{CF: v < 0, AF: a%16 < b%16+c, OF: !fits(int64(int32(a)) - int64(int32(b)) - int64(c))}
	o.byResult(uint32(v))
	return uint32(v)
}

// shift goes one bit after the other.
func (o *model) shift(op int, a uint32, n int) uint32 {
	v := a
	for range n {
		top, low := v>>31, v&1
		switch op {
		case api.OShl:
			v, o.s.Fl.CF = v*2, top == 1
		case api.ORol:
			v, o.s.Fl.CF = v*2+top, top == 1
		case api.OShr:
			v, o.s.Fl.CF = v/2, low == 1
		case api.OSar:
			v, o.s.Fl.CF = v/2+top<<31, low == 1
		case api.ORor:
			v, o.s.Fl.CF = v/2+low<<31, low == 1
		}
	}
	if n == 1 {
		o.s.Fl.OF = a>>31 != v>>31
	}
	if n > 0 && op != api.ORol && op != api.ORor {
		o.byResult(v)
	}
	return v
}

func (o *model) multiply(i api.Insn) {
	a := o.get(i.A, 4)
	switch i.Op {
	case api.OMul:
		v := uint64(a) * uint64(o.s.R[0])
		o.s.R[0], o.s.R[2] = uint32(v), uint32(v>>32)
		o.s.Fl.CF = v >= 1<<32
	case api.OImul:
		v := int64(int32(a)) * int64(int32(o.s.R[0]))
		o.s.R[0], o.s.R[2] = uint32(v), uint32(v>>32)
		o.s.Fl.CF = !fits(v)
	case api.OImul2:
		v := int64(int32(a)) * int64(int32(o.get(i.B, 4)))
		o.set(i.A, 4, uint32(v))
		o.s.Fl.CF = !fits(v)
	}
	o.s.Fl.OF = o.s.Fl.CF
}

// divide does it by numbers without bounds.
func (o *model) divide(i api.Insn) (api.Fault, bool) {
	n := new(big.Int).SetUint64(uint64(o.s.R[2])<<32 + uint64(o.s.R[0]))
	d := new(big.Int).SetUint64(uint64(o.get(i.A, 4)))
	low, high := big.NewInt(0), big.NewInt(math.MaxUint32)
	if i.Op == api.OIdiv {
		n = big.NewInt(int64(uint64(o.s.R[2])<<32 + uint64(o.s.R[0])))
		d = big.NewInt(int64(int32(o.get(i.A, 4))))
		low, high = big.NewInt(math.MinInt32), big.NewInt(math.MaxInt32)
	}
	none := api.Fault{Kind: api.FDivide, PC: o.s.PC}
	if d.Sign() == 0 {
		return none, false
	}
	q, rest := new(big.Int).QuoRem(n, d, new(big.Int))
	if q.Cmp(low) < 0 || q.Cmp(high) > 0 {
		return none, false
	}
	o.s.R[0], o.s.R[2] = uint32(q.Int64()), uint32(rest.Int64())
	o.s.PC += uint32(i.Len)
	return api.Fault{}, true
}

func (o *model) number(i api.Insn) {
	f := math.Float64frombits(o.s.F)
	by := uint64(0)
	if i.A.Kind == api.KMem {
		by = o.load(o.place(i.A), 8)
	}
	n := math.Float64frombits(by)
	switch i.Op {
	case api.OFld:
		o.s.F = by
		return
	case api.OFst:
		o.store(o.place(i.A), 8, o.s.F)
		return
	case api.OFchs:
		o.s.F += 1 << 63
		return
	case api.OFabs:
		o.s.F = o.s.F % (1 << 63)
		return
	case api.OFcom:
		no := f != f || n != n
		o.s.Fl.ZF, o.s.Fl.PF, o.s.Fl.CF = no || f == n, no, no || f < n
		return
	case api.OFadd:
		f += n
	case api.OFsub:
		f -= n
	case api.OFmul:
		f *= n
	case api.OFdiv:
		f /= n
	}
	if o.s.F = math.Float64bits(f); f != f {
		o.s.F = 0x7ff8000000000000
	}
}

// Fetch tells what Fetch is to tell: of all the bytes that can be run from a place on at once.
func (o *model) Fetch(pc uint32) (api.Insn, api.Fault, bool) {
	var b []byte
	for len(b) < 15 {
		if _, ok := (&model{mem: o.mem}).fault([]access{{pc + uint32(len(b)), 1, x}}); !ok {
			break
		}
		b = append(b, o.mem.Peek(pc+uint32(len(b)), 1)...)
	}
	i, _, e := decode.Decode(b)
	switch e {
	case api.ErrShort:
		return api.Insn{}, api.Fault{Kind: api.FPage, PC: pc, Addr: pc + uint32(len(b)), Want: x}, false
	case api.ErrInsn:
		return api.Insn{}, api.Fault{Kind: api.FInsn, PC: pc}, false
	case api.ErrForm:
		return api.Insn{}, api.Fault{Kind: api.FOther, PC: pc}, false
	}
	return i, api.Fault{}, true
}

// pair: a memory and a model of it and of a state, that are told the same.
type pair struct {
	t *testing.T
	m *page.Memory
	o *model
}

// pairOf tells the pair of a memory, as it is now, and a state.
func pairOf(t *testing.T, m *page.Memory, s api.State) pair {
	return pair{t, m, &model{m.Copy(), s}}
}

// left: what Do and Step tell.
type left struct {
	s    api.State
	f    api.Fault
	ok   bool
	asks bool
}

// do does i with both and holds them to each other; the state goes on.
func (c pair) do(i api.Insn) bool {
	c.t.Helper()
	before := c.o.s
	s, f, ok := Do(c.m, before, i)
	wantF, wantOK := c.o.Do(i)
	if got, want := (left{s: s, f: f, ok: ok}), (left{s: c.o.s, f: wantF, ok: wantOK}); got != want {
		c.t.Fatalf("%+v\nof %+v\ntells %+v\nwant  %+v", i, before, got, want)
	}
	if !ok && s != before {
		c.t.Fatalf("%+v\nof %+v\nfaults with %+v", i, before, s)
	}
	c.same(i, before)
	return ok
}

// step does a step with both and holds them to each other; the state goes on.
func (c pair) step() bool {
	c.t.Helper()
	before := c.o.s
	i, f, ok := Fetch(c.m, before.PC)
	wantI, wantF, wantOK := c.o.Fetch(before.PC)
	if i != wantI || f != wantF || ok != wantOK {
		c.t.Fatalf("Fetch(%#x): %+v, %+v, %v, want %+v, %+v, %v", before.PC, i, f, ok, wantI, wantF, wantOK)
	}
	if wantOK {
		wantF, wantOK = c.o.Do(wantI)
	}
	var got left
	got.s, got.f, got.ok, got.asks = Step(c.m, before)
	if want := (left{c.o.s, wantF, wantOK, wantOK && wantI.Op == api.OInt}); got != want {
		c.t.Fatalf("%+v\nof %+v\ntells %+v\nwant  %+v", wantI, before, got, want)
	}
	c.same(wantI, before)
	return got.ok
}

// same fails, if the memories aren't.
func (c pair) same(about ...any) {
	c.t.Helper()
	if c.m.Same(c.o.mem) {
		return
	}
	for p := range api.Pages {
		got, want := c.m.Peek(uint32(256*p), 256), c.o.mem.Peek(uint32(256*p), 256)
		for k := range min(len(got), len(want)) {
			if got[k] != want[k] {
				c.t.Errorf("%+v: byte %#x is %#x, want %#x", about, 256*p+k, got[k], want[k])
			}
		}
	}
	c.t.Fatalf("%+v: another memory", about)
}

func reg(i int) api.Operand    { return api.Operand{Kind: api.KReg, Reg: i} }
func imm(n uint32) api.Operand { return api.Operand{Kind: api.KImm, Imm: n} }
func mem(base, index int, scale, far uint32) api.Operand {
	return api.Operand{Kind: api.KMem, Base: base, Index: index, Scale: scale, Imm: far}
}

// by tells the operand that a register alone tells the place of.
func by(base int) api.Operand { return mem(base, -1, 1, 0) }

// on tells the operand that is at a place of its own, whatever the state.
func on(place uint32) api.Operand { return mem(-1, -1, 1, place) }

// ops: all operations.
func ops() []int {
	var l []int
	for op := api.OMov; op <= api.OFcom; op++ {
		l = append(l, op)
	}
	return l
}

// edges: words at which something turns over.
var edges = []uint32{0, 1, 2, 3, 4, 7, 8, 15, 16, 31, 32, 33, 127, 128, 255, 256, 0x7fff, 0x8000, 0xffff, 0x10000, 0x7ffffffe, 0x7fffffff, 0x80000000, 0x80000001, 0xaaaaaaaa, 0x55555555, 0xfffffff0, 0xfffffffe, 0xffffffff}

// numbers: bits of numbers at their edges.
var numbers = []uint64{
	0, 1 << 63, 1, 1<<63 | 1, 0x000fffffffffffff, 0x0010000000000000, 0x3ff0000000000000, 0xbff0000000000000, 0x4000000000000000,
	0x3ff8000000000000, 0x7fefffffffffffff, 0xffefffffffffffff, 0x7ff0000000000000, 0xfff0000000000000, 0x7ff8000000000000,
	0xfff8000000000000, 0x7ff0000000000001, 0xfff0000000000001, 0x7fffffffffffffff, 0xffffffffffffffff,
}

// someWord tells a word: often one at an edge, often a place near to a page's end.
func someWord(g *rand.Rand) uint32 {
	switch g.Intn(3) {
	case 0:
		return edges[g.Intn(len(edges))]
	case 1:
		return uint32(256*g.Intn(65) + g.Intn(20) - 10)
	}
	return g.Uint32()
}

// someFlags tells flags of any kind.
func someFlags(g *rand.Rand) api.Flags {
	n := g.Intn(64)
	return api.Flags{CF: n&1 != 0, PF: n&2 != 0, AF: n&4 != 0, ZF: n&8 != 0, SF: n&16 != 0, OF: n&32 != 0}
}

// someState tells a state of any bits, its stack and its rows mostly in memory.
func someState(g *rand.Rand) api.State {
	s := api.State{PC: g.Uint32(), DF: g.Intn(2) == 0, F: g.Uint64(), Fl: someFlags(g)}
	for i := range s.R {
		s.R[i] = someWord(g)
	}
	for _, i := range []int{api.ESP, api.ESI, api.EDI} {
		if g.Intn(4) > 0 {
			s.R[i] = uint32(256*g.Intn(65) + g.Intn(20) - 10)
		}
	}
	if g.Intn(2) == 0 {
		s.R[api.ECX] = uint32(g.Intn(4))
	}
	if g.Intn(2) == 0 {
		s.F = numbers[g.Intn(len(numbers))]
	}
	if g.Intn(4) == 0 {
		s.PC = edges[g.Intn(len(edges))]
	}
	return s
}

// someOperand tells an operand that may be.
func someOperand(g *rand.Rand) api.Operand {
	switch g.Intn(8) {
	case 0:
		return api.Operand{}
	case 1:
		return imm(someWord(g))
	case 2:
		return imm(uint32(g.Intn(256)))
	case 3, 4:
		return reg(g.Intn(8))
	}
	o := mem(g.Intn(9)-1, g.Intn(9)-1, 1<<g.Intn(4), someWord(g))
	if o.Index == api.ESP || o.Index == -1 {
		o.Index, o.Scale = -1, 1
	}
	return o
}

// someInsn tells an instruction, its places mostly near to a page's end in o.
func someInsn(g *rand.Rand, o *model) api.Insn {
	for {
		i := api.Insn{Op: 1 + g.Intn(api.OFcom), A: someOperand(g), B: someOperand(g), Len: g.Intn(16), Rep: g.Intn(2) == 0}
		if i.Op == api.OInt {
			i.A.Imm = 128
		}
		switch i.Op {
		case api.OSet, api.OCmov, api.OJcc:
			i.Cond = g.Intn(16)
		}
		if i.Op >= api.ORol && i.Op <= api.OSar && g.Intn(3) == 0 {
			i.B = reg(1)
		}
		if insn.Is(i) {
			aim(g, o, &i.A)
			aim(g, o, &i.B)
			return i
		}
	}
}

// aim brings a place near to a page's end in o, mostly.
func aim(g *rand.Rand, o *model, a *api.Operand) {
	if a.Kind == api.KMem && g.Intn(8) > 0 {
		a.Imm += uint32(256*g.Intn(66)+g.Intn(20)-10) - o.place(*a)
	}
}

// someMemory tells a memory with any pages mapped, most so that they can be read and written.
func someMemory(t *testing.T, g *rand.Rand) *page.Memory {
	t.Helper()
	var l [api.Pages]int
	for p := range l {
		if l[p] = g.Intn(8); g.Intn(3) > 0 {
			l[p] = rwx
		}
	}
	return mapped(t, 0, l[:]...)
}
