package step

import (
	"math"
	"math/rand"
	"sync"
	"testing"

	"ferryman/api"
	"ferryman/encode"
	"ferryman/insn"
	"ferryman/page"
)

// Fetch

// bytesOf: bytes and the instructions that they are.
var bytesOf = []struct {
	b string
	i api.Insn
}{
	{"\x90", api.Insn{Op: api.ONop}},
	{"\xc3", api.Insn{Op: api.ORet}},
	{"\x41", api.Insn{Op: api.OInc, A: reg(api.ECX)}},
	{"\x01\xd8", api.Insn{Op: api.OAdd, A: reg(api.EAX), B: reg(api.EBX)}},
	{"\xcd\x80", api.Insn{Op: api.OInt, A: imm(128)}},
	{"\xf3\xa5", api.Insn{Op: api.OMovs, Rep: true}},
	{"\xeb\xfe", api.Insn{Op: api.OJmp, A: imm(0xfffffffe)}},
	{"\x8b\x45\x08", api.Insn{Op: api.OMov, A: reg(api.EAX), B: mem(api.EBP, -1, 1, 8)}},
	{"\x0f\x94\xc3", api.Insn{Op: api.OSet, Cond: 4, A: reg(3)}},
	{"\xff\x34\x24", api.Insn{Op: api.OPush, A: by(api.ESP)}},
	{"\x8b\x44\x8b\x08", api.Insn{Op: api.OMov, A: reg(api.EAX), B: mem(api.EBX, api.ECX, 4, 8)}},
	{"\xe8\x04\x03\x02\x01", api.Insn{Op: api.OCall, A: imm(0x01020304)}},
	{"\x0f\x85\x04\x03\x02\x01", api.Insn{Op: api.OJcc, Cond: 5, A: imm(0x01020304)}},
	{"\x8b\x84\x24\x04\x03\x02\x01", api.Insn{Op: api.OMov, A: reg(api.EAX), B: mem(api.ESP, -1, 1, 0x01020304)}},
	{"\x0f\xaf\x84\x24\x04\x03\x02\x01", api.Insn{Op: api.OImul2, A: reg(api.EAX), B: mem(api.ESP, -1, 1, 0x01020304)}},
	{"\xc7\x05\x04\x03\x02\x01\x08\x07\x06\x05", api.Insn{Op: api.OMov, A: on(0x01020304), B: imm(0x05060708)}},
	{"\x81\x84\x8b\x04\x03\x02\x01\x08\x07\x06\x05", api.Insn{Op: api.OAdd, A: mem(api.EBX, api.ECX, 4, 0x01020304), B: imm(0x05060708)}},
}

// noBytes: bytes that are no instruction, or one that isn't in here, told by the last of them.
var noBytes = []struct {
	b    string
	kind int
}{
	{"\x0f\x0b", api.FInsn}, {"\x8d\xc0", api.FInsn}, {"\xc6\xc8", api.FInsn}, {"\xc7\x4c", api.FInsn}, {"\xff\xf8", api.FInsn}, {"\xff\x3c", api.FInsn},
	{"\xf4", api.FOther}, {"\x66", api.FOther}, {"\x00", api.FOther}, {"\x0f\x05", api.FOther}, {"\xf3\x90", api.FOther}, {"\xcd\x81", api.FOther}, {"\xdd\xc0", api.FOther}, {"\xd9\xe8", api.FOther},
}

func fetches(t *testing.T, m *page.Memory, pc uint32, want api.Insn) {
	t.Helper()
	i, f, ok := Fetch(m, pc)
	if i != want || f != (api.Fault{}) || !ok {
		t.Errorf("Fetch(%#x): %+v, %+v, %v, want %+v", pc, i, f, ok, want)
	}
}

func fetchFaults(t *testing.T, m *page.Memory, pc uint32, want api.Fault) {
	t.Helper()
	i, f, ok := Fetch(m, pc)
	if i != (api.Insn{}) || f != want || ok {
		t.Errorf("Fetch(%#x): %+v, %+v, %v, want %+v", pc, i, f, ok, want)
	}
}

func TestFetchP13_1(t *testing.T) {
	for _, c := range bytesOf {
		want := c.i
		want.Len = len(c.b)
		for _, pc := range []uint32{0, 1, 100, 256 - uint32(len(c.b)), 512, api.GuestSize - uint32(len(c.b))} {
			m := whole(t, x)
			put(t, m, pc, []byte(c.b)...)
			was := m.Copy()
			fetches(t, m, pc, want)
			if !m.Same(was) {
				t.Errorf("%x: Fetch changes the memory", c.b)
			}
		}
	}
}

// An instruction's own bytes are asked for alone: up to a page's end, behind which nothing is.
func TestFetchNoMoreThanNeededP13_1(t *testing.T) {
	for _, c := range bytesOf {
		want := c.i
		want.Len = len(c.b)
		for _, behind := range []int{0, r, w, rw} {
			m := mapped(t, 2, x, behind)
			pc := 768 - uint32(len(c.b))
			put(t, m, pc, []byte(c.b)...)
			fetches(t, m, pc, want)
		}
	}
	for _, c := range noBytes {
		m := mapped(t, 2, x, 0)
		pc := 768 - uint32(len(c.b))
		put(t, m, pc, []byte(c.b)...)
		fetchFaults(t, m, pc, api.Fault{Kind: c.kind, PC: pc})
	}
}

// Each split of an instruction's bytes by a page's end: behind it a page that can be run, and one
// that can't.
func TestFetchAcrossPagesP13_1(t *testing.T) {
	for _, c := range bytesOf {
		want := c.i
		want.Len = len(c.b)
		for k := 1; k < len(c.b); k++ {
			pc := 768 - uint32(k)
			for behind := range 8 {
				m := mapped(t, 2, rwx, rw, rwx)
				put(t, m, pc, []byte(c.b)...)
				if behind == 0 {
					m.Unmap(3, 1)
				} else {
					m.Protect(3, 1, behind)
				}
				if behind&x != 0 {
					fetches(t, m, pc, want)
				} else {
					fetchFaults(t, m, pc, api.Fault{Kind: api.FPage, PC: pc, Addr: 768, Want: x})
				}
			}
		}
	}
	for _, c := range noBytes {
		if len(c.b) == 1 {
			continue
		}
		m := mapped(t, 2, x, rw)
		put(t, m, 767, []byte(c.b)...)
		fetchFaults(t, m, 767, api.Fault{Kind: api.FPage, PC: 767, Addr: 768, Want: x})
		m.Protect(3, 1, x)
		fetchFaults(t, m, 767, api.Fault{Kind: c.kind, PC: 767})
	}
}

func TestFetchRightsP13_1(t *testing.T) {
	for rights := range 8 {
		m := mapped(t, 5, rights)
		if rights != 0 {
			put(t, m, 1300, 0x41)
		}
		if rights&x != 0 {
			fetches(t, m, 1300, api.Insn{Op: api.OInc, A: reg(api.ECX), Len: 1})
		} else {
			fetchFaults(t, m, 1300, api.Fault{Kind: api.FPage, PC: 1300, Addr: 1300, Want: x})
		}
	}
}

func TestFetchOfNoInstructionP13_1(t *testing.T) {
	for _, c := range noBytes {
		for _, pc := range []uint32{0, 77, 255, 16000} {
			m := whole(t, rwx)
			put(t, m, pc, []byte(c.b)...)
			was := m.Copy()
			fetchFaults(t, m, pc, api.Fault{Kind: c.kind, PC: pc})
			if !m.Same(was) {
				t.Errorf("%x: Fetch changes the memory", c.b)
			}
		}
	}
}

// Both ends of the pages and of all places.
func TestFetchAtTheEndsP13_1(t *testing.T) {
	m := whole(t, rwx)
	put(t, m, 0, 0x01, 0xd8)
	put(t, m, api.GuestSize-2, 0x41, 0x81)
	fetches(t, m, 0, api.Insn{Op: api.OAdd, A: reg(0), B: reg(3), Len: 2})
	fetches(t, m, api.GuestSize-2, api.Insn{Op: api.OInc, A: reg(1), Len: 1})
	fetchFaults(t, m, api.GuestSize-1, api.Fault{Kind: api.FPage, PC: api.GuestSize - 1, Addr: api.GuestSize, Want: x})
	for _, pc := range []uint32{api.GuestSize, api.GuestSize + 1, 1 << 15, 1 << 16, 1 << 24, 1 << 31, 0xffffc000, 0xfffffff0, 0xfffffffe, 0xffffffff} {
		fetchFaults(t, m, pc, api.Fault{Kind: api.FPage, PC: pc, Addr: pc, Want: x})
	}
}

// All places of memories with pages of all kinds beside one another, with bytes at random.
func TestFetchEverywhereP13_1(t *testing.T) {
	for seed := range int64(6) {
		g := rand.New(rand.NewSource(seed))
		m := someMemory(t, g)
		for p := range api.Pages {
			b := make([]byte, 256)
			g.Read(b)
			for k := 0; k < len(b); k += 1 + g.Intn(12) {
				copy(b[k:], bytesOf[g.Intn(len(bytesOf))].b)
			}
			if m.Rights(p) != 0 {
				put(t, m, uint32(256*p), b...)
			}
		}
		c := pairOf(t, m, sample)
		for pc := uint32(0); pc < api.GuestSize+9; pc++ {
			i, f, ok := Fetch(m, pc)
			wantI, wantF, wantOK := c.o.Fetch(pc)
			if i != wantI || f != wantF || ok != wantOK {
				t.Fatalf("Fetch(%#x): %+v, %+v, %v, want %+v, %+v, %v", pc, i, f, ok, wantI, wantF, wantOK)
			}
		}
		c.same("Fetch everywhere")
	}
}

// Do, by hand

// change: what is other behind an instruction.
type change func(*api.State)

// sets tells the change of a register.
func sets(i int, v uint32) change { return func(s *api.State) { s.R[i] = v } }

// goes tells the change of the place.
func goes(pc uint32) change { return func(s *api.State) { s.PC = pc } }

// flags tells the change of all flags, by the letters of those that are true.
func flags(set string) change {
	return func(s *api.State) { s.Fl = flagsOf(set) }
}

// flagsOf tells flags by the letters of those that are true.
func flagsOf(set string) api.Flags {
	var f api.Flags
	for _, c := range set {
		switch c {
		case 'C':
			f.CF = true
		case 'P':
			f.PF = true
		case 'A':
			f.AF = true
		case 'Z':
			f.ZF = true
		case 'S':
			f.SF = true
		case 'O':
			f.OF = true
		}
	}
	return f
}

// hand: a memory and a state on which instructions are done, each from these.
type hand struct {
	t *testing.T
	m *page.Memory
	s api.State
}

// byHand tells one with pages 0 to 3, which can be read and written; [EBX] is the word at 512, the
// stack's top is 768.
func byHand(t *testing.T) hand {
	s := sample
	s.R[api.EBX], s.R[api.ESP] = 512, 768
	return hand{t, mapped(t, 0, rw, rw, rw, rw), s}
}

// with tells the same with some changes ahead of the instruction.
func (h hand) with(l ...change) hand {
	for _, c := range l {
		c(&h.s)
	}
	return h
}

// holding tells the same with other bytes at a place.
func (h hand) holding(place uint32, b ...byte) hand {
	h.m = h.m.Copy()
	put(h.t, h.m, place, b...)
	return h
}

// word tells the same with another word at a place.
func (h hand) word(place, v uint32) hand { return h.holding(place, little(uint64(v), 4)...) }

// number tells the same with another number of eight bytes at a place.
func (h hand) number(place uint32, v uint64) hand { return h.holding(place, little(v, 8)...) }

// does fails, if i, of two bytes, doesn't leave the state as it was but for the place and some
// changes, or not the memory of another hand.
func (h hand) does(i api.Insn, behind hand, l ...change) {
	h.t.Helper()
	i.Len = 2
	want := h.s
	want.PC += 2
	for _, c := range l {
		c(&want)
	}
	m := h.m.Copy()
	s, f, ok := Do(m, h.s, i)
	if f != (api.Fault{}) || !ok {
		h.t.Errorf("%+v: %+v, %v", i, f, ok)
	}
	if s != want {
		h.t.Errorf("%+v:\ntells %+v\nwant  %+v", i, s, want)
	}
	if !m.Same(behind.m) {
		h.t.Errorf("%+v: another memory than is to be", i)
	}
}

// makes fails likewise; the memory is to be as it was.
func (h hand) makes(i api.Insn, l ...change) {
	h.t.Helper()
	h.does(i, h, l...)
}

// faults fails, if i doesn't tell the fault, with all as it was.
func (h hand) faults(i api.Insn, want api.Fault) {
	h.t.Helper()
	i.Len = 2
	want.PC = h.s.PC
	m := h.m.Copy()
	s, f, ok := Do(m, h.s, i)
	if f != want || ok {
		h.t.Errorf("%+v: %+v, %v, want %+v", i, f, ok, want)
	}
	if s != h.s || !m.Same(h.m) {
		h.t.Errorf("%+v: something is changed at a fault: %+v, want %+v", i, s, h.s)
	}
}

func lacks(place uint32, want int) api.Fault {
	return api.Fault{Kind: api.FPage, Addr: place, Want: want}
}

func of(op int, l ...api.Operand) api.Insn {
	i := api.Insn{Op: op}
	if len(l) > 0 {
		i.A = l[0]
	}
	if len(l) > 1 {
		i.B = l[1]
	}
	return i
}

func TestMovP13_2(t *testing.T) {
	h := byHand(t)
	h.makes(of(api.OMov, reg(0), reg(1)), sets(0, 0x17161514))
	h.makes(of(api.OMov, reg(4), reg(7)), sets(4, 0x2f2e2d2c))
	h.makes(of(api.OMov, reg(5), reg(5)))
	h.makes(of(api.OMov, reg(6), imm(0x87654321)), sets(6, 0x87654321))
	h.word(520, 0x89abcdef).makes(of(api.OMov, reg(2), mem(api.EBX, -1, 1, 8)), sets(2, 0x89abcdef))
	h.word(512, 0x89abcdef).makes(of(api.OMov, reg(3), by(api.EBX)), sets(3, 0x89abcdef))
	h.does(of(api.OMov, by(api.EBX), reg(1)), h.word(512, 0x17161514))
	h.does(of(api.OMov, by(api.EBX), reg(api.EBX)), h.word(512, 512))
	h.does(of(api.OMov, on(510), imm(0x01020304)), h.word(510, 0x01020304))
	w := h
	w.m = mapped(t, 0, 2, 2)
	w.does(of(api.OMov, on(254), imm(5)), w.word(254, 5))
	w.faults(of(api.OMov, reg(0), on(254)), lacks(254, api.CanRead))
}

func TestMov8P13_2(t *testing.T) {
	h := byHand(t)
	h.makes(of(api.OMov8, reg(0), reg(1)), sets(0, 0x13121114))
	h.makes(of(api.OMov8, reg(4), reg(1)), sets(0, 0x13121410))
	h.makes(of(api.OMov8, reg(2), reg(5)), sets(2, 0x1b1a1915))
	h.makes(of(api.OMov8, reg(7), reg(6)), sets(3, 0x1900))
	h.makes(of(api.OMov8, reg(1), imm(0xff)), sets(1, 0x171615ff))
	h.makes(of(api.OMov8, reg(5), imm(0)), sets(1, 0x17160014))
	h.holding(519, 0xa7).makes(of(api.OMov8, reg(6), mem(api.EBX, -1, 1, 7)), sets(2, 0x1b1aa718))
	h.does(of(api.OMov8, by(api.EBX), reg(5)), h.holding(512, 0x15))
	h.does(of(api.OMov8, by(api.EBX), imm(7)), h.holding(512, 7))
	h.does(of(api.OMov8, on(1023), imm(7)), h.holding(1023, 7))
	h.faults(of(api.OMov8, on(1024), imm(7)), lacks(1024, api.CanWrite))
	h.makes(of(api.OMov8, reg(0), on(1023)), sets(0, 0x13121100+uint32(h.m.Peek(1023, 1)[0])))
	h.faults(of(api.OMov8, reg(0), on(1024)), lacks(1024, api.CanRead))
	w := h
	w.m = mapped(t, 0, 2)
	w.does(of(api.OMov8, on(255), imm(5)), w.holding(255, 5))
}

func TestMovzxMovsxP13_2(t *testing.T) {
	h := byHand(t)
	for _, c := range []struct {
		v      byte
		signed uint32
	}{{0, 0}, {1, 1}, {0x7f, 0x7f}, {0x80, 0xffffff80}, {0xff, 0xffffffff}} {
		at := h.holding(1023, c.v)
		at.makes(of(api.OMovzx, reg(6), on(1023)), sets(6, uint32(c.v)))
		at.makes(of(api.OMovsx, reg(6), on(1023)), sets(6, c.signed))
		low := h.with(sets(2, 0xa5a5a500+uint32(c.v)))
		low.makes(of(api.OMovzx, reg(0), reg(2)), sets(0, uint32(c.v)))
		low.makes(of(api.OMovsx, reg(2), reg(2)), sets(2, c.signed))
		second := h.with(sets(2, 0xa5a500a5+uint32(c.v)<<8))
		second.makes(of(api.OMovzx, reg(7), reg(6)), sets(7, uint32(c.v)))
		second.makes(of(api.OMovsx, reg(4), reg(6)), sets(4, c.signed))
	}
	h.faults(of(api.OMovzx, reg(6), on(1024)), lacks(1024, api.CanRead))
	h.faults(of(api.OMovsx, reg(6), on(1024)), lacks(1024, api.CanRead))
}

func TestLeaP13_2(t *testing.T) {
	h := byHand(t)
	h.makes(of(api.OLea, reg(0), mem(api.EBX, api.ESI, 4, 8)), sets(0, 0xaca8a4a0+512+8))
	h.makes(of(api.OLea, reg(3), mem(api.EBX, -1, 1, 0xfffffe00)), sets(3, 0))
	h.makes(of(api.OLea, reg(4), mem(api.ESP, -1, 1, 0xfffffffc)), sets(4, 764))
	h.makes(of(api.OLea, reg(1), on(0xffffffff)), sets(1, 0xffffffff))
}

func TestXchgP13_2(t *testing.T) {
	h := byHand(t)
	h.makes(of(api.OXchg, reg(0), reg(1)), sets(0, 0x17161514), sets(1, 0x13121110))
	h.makes(of(api.OXchg, reg(2), reg(2)))
	h.makes(of(api.OXchg, reg(4), reg(3)), sets(3, 768), sets(4, 512))
	at := h.word(512, 0x89abcdef)
	at.does(of(api.OXchg, by(api.EBX), reg(1)), h.word(512, 0x17161514), sets(1, 0x89abcdef))
	at.does(of(api.OXchg, by(api.EBX), reg(api.EBX)), h.word(512, 512), sets(api.EBX, 0x89abcdef))
}

// sums: operations of two words: flags ahead, both words, the result, the flags behind.
var sums = []struct {
	op     int
	ahead  string
	a, b   uint32
	v      uint32
	behind string
}{
	{api.OAdd, "CPAZSO", 5, 7, 12, "P"}, {api.OAdd, "", 0xffffffff, 1, 0, "CPAZ"}, {api.OAdd, "C", 0x7fffffff, 1, 0x80000000, "PASO"},
	{api.OOr, "CAO", 0xf0, 0x0f, 0xff, "P"}, {api.OOr, "C", 0, 0, 0, "PZ"}, {api.OAdc, "C", 0xffffffff, 0, 0, "CPAZ"},
	{api.OAdc, "PAZSO", 1, 1, 2, ""}, {api.OSbb, "C", 5, 5, 0xffffffff, "CPAS"}, {api.OSbb, "", 5, 5, 0, "PZ"},
	{api.OAnd, "CAO", 0xff00, 0xff0, 0xf00, "P"}, {api.OSub, "O", 3, 5, 0xfffffffe, "CAS"}, {api.OSub, "CPAZ", 0x80000000, 1, 0x7fffffff, "PAO"},
	{api.OXor, "CAO", 0x80000001, 1, 0x80000000, "PS"},
	{api.OCmp, "", 3, 5, 3, "CAS"}, {api.OCmp, "CPAZSO", 5, 5, 5, "PZ"}, {api.OTest, "CAO", 0x80, 0xff, 0x80, ""}, {api.OTest, "CAO", 1, 2, 1, "PZ"},
}

func TestTwoOperandsP13_2(t *testing.T) {
	h := byHand(t)
	for _, c := range sums {
		f := h.with(flags(c.ahead))
		f.with(sets(0, c.a), sets(6, c.b)).makes(of(c.op, reg(0), reg(6)), sets(0, c.v), flags(c.behind))
		f.with(sets(4, c.a)).makes(of(c.op, reg(4), imm(c.b)), sets(4, c.v), flags(c.behind))
		f.word(512, c.a).with(sets(7, c.b)).does(of(c.op, by(3), reg(7)), f.word(512, c.v), sets(7, c.b), flags(c.behind))
		f.word(512, c.a).does(of(c.op, by(3), imm(c.b)), f.word(512, c.v), flags(c.behind))
		if c.op != api.OTest {
			f.word(512, c.b).with(sets(2, c.a)).makes(of(c.op, reg(2), by(3)), sets(2, c.v), flags(c.behind))
			f.word(40, c.b).with(sets(3, c.a)).makes(of(c.op, reg(3), on(40)), sets(3, c.v), flags(c.behind))
		}
	}
	h.with(flags("CAO")).makes(of(api.OXor, reg(3), reg(3)), sets(3, 0), flags("PZ"))
	h.makes(of(api.OSub, reg(1), reg(1)), sets(1, 0), flags("PZ"))
	h.with(flags("C"), sets(1, 7)).makes(of(api.OAdc, reg(1), reg(1)), sets(1, 15), flags("P"))
}

func TestOneOperandP13_2(t *testing.T) {
	h := byHand(t)
	for _, c := range []struct {
		op     int
		ahead  string
		a, v   uint32
		behind string
	}{
		{api.OInc, "C", 0xffffffff, 0, "CPAZ"}, {api.OInc, "", 0x7fffffff, 0x80000000, "PASO"}, {api.OInc, "AO", 6, 7, ""},
		{api.ODec, "", 0, 0xffffffff, "PAS"}, {api.ODec, "C", 0x80000000, 0x7fffffff, "CPAO"}, {api.ODec, "C", 1, 0, "CPZ"},
		{api.ONot, "CZO", 0x0f0f0f0f, 0xf0f0f0f0, "CZO"}, {api.ONeg, "", 1, 0xffffffff, "CPAS"}, {api.ONeg, "CAO", 0, 0, "PZ"}, {api.ONeg, "", 0x80000000, 0x80000000, "CPSO"},
	} {
		f := h.with(flags(c.ahead))
		for k := range 8 {
			f.with(sets(k, c.a)).makes(of(c.op, reg(k)), sets(k, c.v), flags(c.behind))
		}
		f.word(510, c.a).does(of(c.op, mem(3, -1, 1, 0xfffffffe)), f.word(510, c.v), flags(c.behind))
	}
}

func TestShiftsP13_2(t *testing.T) {
	h := byHand(t)
	for _, c := range []struct {
		op     int
		ahead  string
		a, n   uint32
		v      uint32
		behind string
	}{
		{api.OShl, "A", 0x40000001, 1, 0x80000002, "ASO"}, {api.OShl, "O", 0x80000001, 4, 0x10, "O"}, {api.OShl, "CPAZSO", 5, 0, 5, "CPAZSO"}, {api.OShl, "CO", 5, 32, 5, "CO"},
		{api.OShl, "O", 3, 33, 6, "P"}, {api.OShl, "", 1, 0xe1, 2, ""}, {api.OShr, "", 0x80000001, 1, 0x40000000, "CPO"}, {api.OShr, "SO", 0xff, 4, 0xf, "CPO"},
		{api.OSar, "O", 0x80000001, 1, 0xc0000000, "CPS"}, {api.OSar, "", 0x80000000, 31, 0xffffffff, "PS"}, {api.OSar, "", 0x80000000, 63, 0xffffffff, "PS"},
		{api.ORol, "PAZS", 0x80000001, 1, 3, "CPAZSO"}, {api.ORol, "", 0x12345678, 8, 0x34567812, ""}, {api.ORor, "PAZS", 1, 1, 0x80000000, "CPAZSO"}, {api.ORor, "O", 0x12345678, 8, 0x78123456, "O"},
		{api.ORor, "CO", 7, 64, 7, "CO"},
	} {
		f := h.with(flags(c.ahead))
		f.with(sets(0, c.a)).makes(of(c.op, reg(0), imm(c.n)), sets(0, c.v), flags(c.behind))
		f.word(600, c.a).does(of(c.op, on(600), imm(c.n)), f.word(600, c.v), flags(c.behind))
		// Of ECX the lowest five bits count.
		for _, n := range []uint32{c.n, c.n | 0xabcdef00, c.n + 32, c.n | 0x80000000} {
			f = f.with(sets(1, n))
			f.with(sets(5, c.a)).makes(of(c.op, reg(5), reg(1)), sets(5, c.v), flags(c.behind))
			f.word(600, c.a).does(of(c.op, on(600), reg(1)), f.word(600, c.v), flags(c.behind))
		}
	}
	h.with(sets(1, 4), flags("")).makes(of(api.OShl, reg(1), reg(1)), sets(1, 64), flags(""))
}

func TestProductsP13_2(t *testing.T) {
	h := byHand(t)
	for _, c := range []struct {
		op        int
		ahead     string
		a, b      uint32
		low, high uint32
		behind    string
	}{
		{api.OMul, "PAZSCO", 5, 7, 35, 0, "PAZS"}, {api.OMul, "", 0xffffffff, 0xffffffff, 1, 0xfffffffe, "CO"}, {api.OMul, "Z", 0x10000, 0x10000, 0, 1, "CZO"},
		{api.OImul, "COPAZS", 0xffffffff, 0xffffffff, 1, 0, "PAZS"}, {api.OImul, "CO", 0xffffffff, 7, 0xfffffff9, 0xffffffff, ""}, {api.OImul, "", 0x80000000, 2, 0, 0xffffffff, "CO"},
		{api.OImul, "", 0x40000000, 2, 0x80000000, 0, "CO"},
	} {
		f := h.with(flags(c.ahead), sets(0, c.a))
		f.with(sets(1, c.b)).makes(of(c.op, reg(1)), sets(0, c.low), sets(2, c.high), flags(c.behind))
		f.with(sets(2, c.b)).makes(of(c.op, reg(2)), sets(0, c.low), sets(2, c.high), flags(c.behind))
		f.word(512, c.b).makes(of(c.op, by(3)), sets(0, c.low), sets(2, c.high), flags(c.behind))
	}
	h.with(sets(0, 0x10001), flags("")).makes(of(api.OMul, reg(0)), sets(0, 0x20001), sets(2, 1), flags("CO"))
	h.with(sets(0, 0xfffffffd), flags("")).makes(of(api.OImul, reg(0)), sets(0, 9), sets(2, 0))
	for _, c := range []struct {
		ahead   string
		a, b, v uint32
		behind  string
	}{
		{"COPAZS", 6, 7, 42, "PAZS"}, {"", 0x10000, 0x10000, 0, "CO"}, {"", 0xffffffff, 5, 0xfffffffb, ""}, {"", 0x80000000, 0xffffffff, 0x80000000, "CO"},
	} {
		f := h.with(flags(c.ahead), sets(6, c.a))
		f.with(sets(7, c.b)).makes(of(api.OImul2, reg(6), reg(7)), sets(6, c.v), flags(c.behind))
		f.word(512, c.b).makes(of(api.OImul2, reg(6), by(3)), sets(6, c.v), flags(c.behind))
	}
	h.with(sets(0, 9), flags("")).makes(of(api.OImul2, reg(0), reg(0)), sets(0, 81))
}

func TestQuotientsP13_2(t *testing.T) {
	h := byHand(t)
	for _, c := range []struct {
		op              int
		low, high, d    uint32
		quotient, rest_ uint32
	}{
		{api.ODiv, 43, 0, 7, 6, 1}, {api.ODiv, 0, 1, 2, 0x80000000, 0}, {api.ODiv, 0xffffffff, 6, 7, 0xffffffff, 6}, {api.ODiv, 0xfffffff9, 0, 2, 0x7ffffffc, 1},
		{api.OIdiv, 0xfffffff9, 0xffffffff, 2, 0xfffffffd, 0xffffffff}, {api.OIdiv, 7, 0, 0xfffffffe, 0xfffffffd, 1}, {api.OIdiv, 0x80000000, 0xffffffff, 1, 0x80000000, 0},
		{api.OIdiv, 0, 0x40000000, 0x80000000, 0x80000000, 0},
	} {
		f := h.with(sets(0, c.low), sets(2, c.high))
		f.with(sets(1, c.d)).makes(of(c.op, reg(1)), sets(0, c.quotient), sets(2, c.rest_))
		f.word(512, c.d).makes(of(c.op, by(3)), sets(0, c.quotient), sets(2, c.rest_))
	}
	h.with(sets(0, 5), sets(2, 0)).makes(of(api.ODiv, reg(0)), sets(0, 1))
	h.with(sets(0, 0xfffffff9), sets(2, 0xffffffff)).makes(of(api.OIdiv, reg(2)), sets(0, 7), sets(2, 0))
	for _, c := range []struct {
		op           int
		low, high, d uint32
	}{
		{api.ODiv, 1, 0, 0}, {api.ODiv, 0, 0, 0}, {api.ODiv, 0, 1, 1}, {api.ODiv, 0, 7, 7}, {api.ODiv, 0xffffffff, 0xffffffff, 0xffffffff},
		{api.OIdiv, 1, 0, 0}, {api.OIdiv, 0x80000000, 0, 1}, {api.OIdiv, 0x80000000, 0xffffffff, 0xffffffff}, {api.OIdiv, 0x7fffffff, 0xffffffff, 1},
		{api.OIdiv, 0, 0x80000000, 0xffffffff}, {api.OIdiv, 0, 0x40000000, 0x7fffffff},
	} {
		f := h.with(sets(0, c.low), sets(2, c.high))
		none := api.Fault{Kind: api.FDivide}
		f.with(sets(7, c.d)).faults(of(c.op, reg(7)), none)
		f.word(512, c.d).faults(of(c.op, by(3)), none)
		f.word(1020, c.d).faults(of(c.op, on(1021)), lacks(1024, api.CanRead))
	}
	h.with(sets(2, 9)).faults(of(api.ODiv, reg(2)), api.Fault{Kind: api.FDivide})
}

func TestCdqP13_2(t *testing.T) {
	h := byHand(t)
	for _, c := range []struct{ a, d uint32 }{{0, 0}, {1, 0}, {0x7fffffff, 0}, {0x80000000, 0xffffffff}, {0xffffffff, 0xffffffff}, {0xfffffff, 0}} {
		h.with(sets(0, c.a)).makes(of(api.OCdq), sets(2, c.d))
	}
}

// letters: the flags by which each condition holds are true in these and not in those.
var letters = [16]struct{ holds, fails []string }{
	{[]string{"O", "CPAZSO"}, []string{"", "CPAZS"}}, {[]string{"", "CPAZS"}, []string{"O", "CPAZSO"}},
	{[]string{"C", "CPAZSO"}, []string{"", "PAZSO"}}, {[]string{"", "PAZSO"}, []string{"C", "CPAZSO"}},
	{[]string{"Z", "CPAZSO"}, []string{"", "CPASO"}}, {[]string{"", "CPASO"}, []string{"Z", "CPAZSO"}},
	{[]string{"Z", "C", "CZ"}, []string{"", "PASO"}}, {[]string{"", "PASO"}, []string{"Z", "C", "CZ"}},
	{[]string{"S", "CPAZSO"}, []string{"", "CPAZO"}}, {[]string{"", "CPAZO"}, []string{"S", "CPAZSO"}},
	{[]string{"P", "CPAZSO"}, []string{"", "CAZSO"}}, {[]string{"", "CAZSO"}, []string{"P", "CPAZSO"}},
	{[]string{"S", "O", "CPAZO"}, []string{"", "SO", "CPAZ"}}, {[]string{"", "SO", "CPAZ"}, []string{"S", "O", "CPAZO"}},
	{[]string{"S", "O", "Z", "ZSO"}, []string{"", "SO", "CPA"}}, {[]string{"", "SO", "CPA"}, []string{"S", "O", "Z", "ZSO"}},
}

func TestConditionsP13_2(t *testing.T) {
	h := byHand(t)
	for cc, c := range letters {
		so := func(op int, l ...api.Operand) api.Insn {
			i := of(op, l...)
			i.Cond = cc
			return i
		}
		for _, set := range c.holds {
			f := h.with(flags(set))
			f.makes(so(api.OSet, reg(1)), sets(1, 0x17161501))
			f.makes(so(api.OSet, reg(7)), sets(3, 0x100))
			f.does(so(api.OSet, on(1023)), f.holding(1023, 1))
			f.makes(so(api.OCmov, reg(0), reg(7)), sets(0, 0x2f2e2d2c))
			f.word(512, 99).makes(so(api.OCmov, reg(3), by(3)), sets(3, 99))
			f.makes(so(api.OJcc, imm(5)), goes(0x33323137))
			f.makes(so(api.OJcc, imm(0xfffffffe)), goes(0x33323130))
		}
		for _, set := range c.fails {
			f := h.with(flags(set))
			f.makes(so(api.OSet, reg(1)), sets(1, 0x17161500))
			f.makes(so(api.OSet, reg(6)), sets(2, 0x1b1a0018))
			f.does(so(api.OSet, on(1023)), f.holding(1023, 0))
			f.makes(so(api.OCmov, reg(0), reg(7)))
			f.word(512, 99).makes(so(api.OCmov, reg(3), by(3)))
			f.makes(so(api.OJcc, imm(5)))
			f.makes(so(api.OJcc, imm(0xfffffffe)))
		}
		for _, set := range append(c.holds, c.fails...) {
			// Read and written, whether it holds or not.
			h.with(flags(set)).faults(so(api.OCmov, reg(0), on(1021)), lacks(1024, api.CanRead))
			h.with(flags(set)).faults(so(api.OSet, on(1024)), lacks(1024, api.CanWrite))
		}
	}
}

func TestOthersP13_2(t *testing.T) {
	h := byHand(t)
	for _, df := range []bool{false, true} {
		d := h.with(func(s *api.State) { s.DF = df })
		d.makes(of(api.OCld), func(s *api.State) { s.DF = false })
		d.makes(of(api.OStd), func(s *api.State) { s.DF = true })
		d.makes(of(api.ONop))
		d.makes(of(api.OInt, imm(128)))
	}
}

func TestPushPopP13_2(t *testing.T) {
	h := byHand(t)
	h.does(of(api.OPush, reg(0)), h.word(764, 0x13121110), sets(4, 764))
	h.does(of(api.OPush, imm(0x89abcdef)), h.word(764, 0x89abcdef), sets(4, 764))
	h.does(of(api.OPush, reg(api.ESP)), h.word(764, 768), sets(4, 764))
	at := h.word(512, 0x89abcdef)
	at.does(of(api.OPush, by(3)), at.word(764, 0x89abcdef), sets(4, 764))
	at = h.word(768, 77).word(764, 76).word(760, 75)
	at.does(of(api.OPush, by(api.ESP)), at.word(764, 77), sets(4, 764))
	at.does(of(api.OPush, mem(api.ESP, -1, 1, 0xfffffffc)), at.word(764, 76), sets(4, 764))
	at.does(of(api.OPush, mem(api.ESP, -1, 1, 0xfffffff8)), at.word(764, 75), sets(4, 764))
	at.makes(of(api.OPop, reg(0)), sets(0, 77), sets(4, 772))
	at.makes(of(api.OPop, reg(api.EDI)), sets(7, 77), sets(4, 772))
	at.makes(of(api.OPop, reg(api.ESP)), sets(4, 77))
	h.with(sets(4, 4)).does(of(api.OPush, reg(0)), h.word(0, 0x13121110), sets(4, 0))
	h.word(0, 5).with(sets(4, 0)).makes(of(api.OPop, reg(0)), sets(0, 5), sets(4, 4))
	h.word(1020, 5).with(sets(4, 1020)).makes(of(api.OPop, reg(0)), sets(0, 5), sets(4, 1024))
	h.with(sets(4, 1024)).does(of(api.OPush, imm(9)), h.word(1020, 9), sets(4, 1020))
	h.with(sets(4, 767)).does(of(api.OPush, imm(9)), h.word(763, 9), sets(4, 763))
	h.with(sets(4, 0)).faults(of(api.OPush, reg(0)), lacks(0xfffffffc, api.CanWrite))
	h.with(sets(4, 3)).faults(of(api.OPush, reg(0)), lacks(0xffffffff, api.CanWrite))
	h.with(sets(4, 1026)).faults(of(api.OPush, reg(api.ESP)), lacks(1024, api.CanWrite))
	h.with(sets(4, 1021)).faults(of(api.OPop, reg(0)), lacks(1024, api.CanRead))
	h.with(sets(4, 0xffffffff)).faults(of(api.OPop, reg(api.ESP)), lacks(0xffffffff, api.CanRead))
	// What is pushed is read first.
	h.with(sets(4, 3)).faults(of(api.OPush, on(2000)), lacks(2000, api.CanRead))
	h.with(sets(4, 3)).faults(of(api.OPush, by(3)), lacks(0xffffffff, api.CanWrite))
}

func TestCallRetP13_2(t *testing.T) {
	h := byHand(t)
	pushed := h.word(764, 0x33323132)
	h.does(of(api.OCall, imm(8)), pushed, goes(0x3332313a), sets(4, 764))
	h.does(of(api.OCall, imm(0)), pushed, sets(4, 764))
	h.does(of(api.OCall, imm(0xfffffffe)), pushed, goes(0x33323130), sets(4, 764))
	h.does(of(api.OCall, imm(0xcccdcece)), pushed, goes(0), sets(4, 764))
	h.does(of(api.OCall, reg(2)), pushed, goes(0x1b1a1918), sets(4, 764))
	h.does(of(api.OCall, reg(api.ESP)), pushed, goes(768), sets(4, 764))
	at := h.word(512, 0x89abcdef).word(768, 99).word(764, 98)
	at.does(of(api.OCall, by(3)), at.word(764, 0x33323132), goes(0x89abcdef), sets(4, 764))
	at.does(of(api.OCall, by(4)), at.word(764, 0x33323132), goes(99), sets(4, 764))
	at.does(of(api.OCall, mem(4, -1, 1, 0xfffffffc)), at.word(764, 0x33323132), goes(98), sets(4, 764))
	at.makes(of(api.ORet), goes(99), sets(4, 772))
	h.word(1020, 0xffffffff).with(sets(4, 1020)).makes(of(api.ORet), goes(0xffffffff), sets(4, 1024))
	h.with(sets(4, 1021)).faults(of(api.ORet), lacks(1024, api.CanRead))
	h.with(sets(4, 2)).faults(of(api.OCall, imm(8)), lacks(0xfffffffe, api.CanWrite))
	h.with(sets(4, 1025)).faults(of(api.OCall, reg(0)), lacks(1024, api.CanWrite))
	// Where it goes is found first.
	h.with(sets(4, 2)).faults(of(api.OCall, on(1022)), lacks(1024, api.CanRead))
	h.with(sets(4, 2)).faults(of(api.OCall, on(1020)), lacks(0xfffffffe, api.CanWrite))
}

func TestJmpP13_2(t *testing.T) {
	h := byHand(t)
	h.makes(of(api.OJmp, imm(8)), goes(0x3332313a))
	h.makes(of(api.OJmp, imm(0)))
	h.makes(of(api.OJmp, imm(0xfffffffe)), goes(0x33323130))
	h.makes(of(api.OJmp, reg(4)), goes(768))
	h.makes(of(api.OJmp, reg(7)), goes(0x2f2e2d2c))
	h.word(512, 0x89abcdef).makes(of(api.OJmp, by(3)), goes(0x89abcdef))
	h.faults(of(api.OJmp, on(1023)), lacks(1024, api.CanRead))
}

// Places at the end of all places and behind it, with each number of bytes.
func TestPlacesModuloP13_2(t *testing.T) {
	h := byHand(t)
	for n := range 16 {
		for _, c := range []struct{ pc, next uint32 }{{0, uint32(n)}, {0xffffffff, uint32(n) - 1}, {0xfffffff8, uint32(n) - 8}, {0x7fffffff, uint32(n) + 0x7fffffff}} {
			s := h.with(goes(c.pc)).s
			for _, e := range []struct {
				i    api.Insn
				want uint32
			}{
				{of(api.ONop), c.next}, {of(api.OJmp, imm(3)), c.next + 3}, {of(api.OJmp, imm(0xfffffffd)), c.next - 3}, {of(api.OJmp, reg(3)), 512},
				{api.Insn{Op: api.OJcc, Cond: 2, A: imm(100)}, c.next + 100}, {api.Insn{Op: api.OJcc, Cond: 3, A: imm(100)}, c.next},
				{of(api.OCall, imm(0x80000000)), c.next + 0x80000000}, {of(api.OPush, imm(3)), c.next}, {of(api.OAdd, reg(0), imm(1)), c.next}, {of(api.OInt, imm(128)), c.next},
			} {
				e.i.Len = n
				m := h.m.Copy()
				got, _, ok := Do(m, s, e.i)
				if got.PC != e.want || !ok {
					t.Errorf("%+v at %#x: %#x, %v, want %#x", e.i, c.pc, got.PC, ok, e.want)
				}
				if v, _, _ := m.Read(764, 4, api.CanRead); e.i.Op == api.OCall && v != c.next {
					t.Errorf("%+v at %#x: pushes %#x, want %#x", e.i, c.pc, v, c.next)
				}
			}
		}
	}
}

// down turns the direction.
func down(s *api.State) { s.DF = true }

func TestRowsP13_2(t *testing.T) {
	h := byHand(t).word(256, 0x89abcdef).with(sets(6, 256), sets(7, 700))
	h.does(of(api.OMovs), h.word(700, 0x89abcdef), sets(6, 260), sets(7, 704))
	h.with(down).does(of(api.OMovs), h.word(700, 0x89abcdef), sets(6, 252), sets(7, 696))
	h.does(of(api.OStos), h.word(700, 0x13121110), sets(7, 704))
	h.with(down).does(of(api.OStos), h.word(700, 0x13121110), sets(7, 696))
	// Each byte is read ahead of all that is written.
	h.with(sets(7, 258)).does(of(api.OMovs), h.word(258, 0x89abcdef), sets(6, 260), sets(7, 262))
	h.with(sets(7, 254)).does(of(api.OMovs), h.word(254, 0x89abcdef), sets(6, 260), sets(7, 258))
	h.with(sets(7, 256)).makes(of(api.OMovs), sets(6, 260), sets(7, 260))
	// Around the end of all words: ECX 0 isn't asked for without Rep.
	h.with(sets(1, 0)).does(of(api.OMovs), h.word(700, 0x89abcdef), sets(6, 260), sets(7, 704))
	zero := h.word(0, 5)
	zero.with(sets(6, 0), down).does(of(api.OMovs), zero.word(700, 5), sets(6, 0xfffffffc), sets(7, 696))
	h.with(sets(7, 0), down).does(of(api.OStos), h.word(0, 0x13121110), sets(7, 0xfffffffc))
	h.with(sets(7, 1020)).does(of(api.OStos), h.word(1020, 0x13121110), sets(7, 1024))
	h.with(sets(6, 1021)).faults(of(api.OMovs), lacks(1024, api.CanRead))
	h.with(sets(7, 1022)).faults(of(api.OMovs), lacks(1024, api.CanWrite))
	h.with(sets(6, 1021), sets(7, 1022)).faults(of(api.OMovs), lacks(1024, api.CanRead))
	h.with(sets(7, 0xfffffffe)).faults(of(api.OStos), lacks(0xfffffffe, api.CanWrite))
}

// again tells i, of two bytes, as one that is repeated.
func again(op int) api.Insn { return api.Insn{Op: op, Rep: true} }

func TestRepP13_2(t *testing.T) {
	h := byHand(t).word(256, 0x89abcdef).with(sets(6, 256), sets(7, 700))
	none := h.with(sets(1, 0))
	none.makes(again(api.OMovs))
	none.makes(again(api.OStos))
	none.with(sets(6, 5000), sets(7, 6000)).makes(again(api.OMovs))
	none.with(sets(7, 0xffffffff), down).makes(again(api.OStos))
	last := h.with(sets(1, 1))
	last.does(again(api.OMovs), h.word(700, 0x89abcdef), sets(1, 0), sets(6, 260), sets(7, 704))
	last.with(down).does(again(api.OMovs), h.word(700, 0x89abcdef), sets(1, 0), sets(6, 252), sets(7, 696))
	last.does(again(api.OStos), h.word(700, 0x13121110), sets(1, 0), sets(7, 704))
	last.with(down).does(again(api.OStos), h.word(700, 0x13121110), sets(1, 0), sets(7, 696))
	for _, n := range []uint32{2, 3, 256, 0x80000000, 0x80000001, 0xffffffff} {
		more := h.with(sets(1, n))
		stays := goes(sample.PC)
		more.does(again(api.OMovs), h.word(700, 0x89abcdef), sets(1, n-1), sets(6, 260), sets(7, 704), stays)
		more.with(down).does(again(api.OMovs), h.word(700, 0x89abcdef), sets(1, n-1), sets(6, 252), sets(7, 696), stays)
		more.does(again(api.OStos), h.word(700, 0x13121110), sets(1, n-1), sets(7, 704), stays)
		more.with(down).does(again(api.OStos), h.word(700, 0x13121110), sets(1, n-1), sets(7, 696), stays)
		more.with(sets(6, 1022)).faults(again(api.OMovs), lacks(1024, api.CanRead))
		more.with(sets(7, 1022)).faults(again(api.OMovs), lacks(1024, api.CanWrite))
		more.with(sets(7, 1022)).faults(again(api.OStos), lacks(1024, api.CanWrite))
	}
}

// A row to its end, and one that comes to a page that can't be written: what was done stays.
func TestRepRowsP13_2(t *testing.T) {
	for _, c := range []struct {
		op, n, done int
		df          bool
		to          uint32
	}{
		{api.OMovs, 5, 5, false, 600}, {api.OStos, 5, 5, false, 600}, {api.OMovs, 5, 5, true, 600}, {api.OStos, 5, 5, true, 600},
		{api.OMovs, 9, 3, false, 1012}, {api.OStos, 9, 3, false, 1012}, {api.OMovs, 9, 3, true, 8}, {api.OStos, 9, 3, true, 8},
		{api.OStos, 9, 2, false, 1014}, {api.OStos, 9, 2, true, 6}, {api.OMovs, 3, 3, false, 1012},
	} {
		s := byHand(t).with(sets(6, 400), sets(7, c.to), sets(1, uint32(c.n))).s
		s.DF = c.df
		p := pairOf(t, mapped(t, 0, rw, rw, rw, rw), s)
		i := api.Insn{Op: c.op, Rep: true, Len: 2}
		for k := range c.done {
			if !p.do(i) || p.o.s.R[1] != uint32(c.n-k-1) {
				t.Fatalf("%+v: ECX is %d behind %d", c, p.o.s.R[1], k+1)
			}
		}
		if c.done < c.n {
			if p.o.s.PC != s.PC || p.do(i) || p.o.s.R[1] != uint32(c.n-c.done) {
				t.Errorf("%+v: no fault: %+v", c, p.o.s)
			}
		} else if p.o.s.PC != s.PC+2 {
			t.Errorf("%+v: the place is %#x", c, p.o.s.PC)
		}
	}
}

const (
	one   = 0x3ff0000000000000
	two   = 0x4000000000000000
	three = 0x4008000000000000
	inf   = 0x7ff0000000000000
	no    = 0x7ff8000000000000
	minus = 1 << 63
)

// becomes tells the change of the number register.
func becomes(f uint64) change { return func(s *api.State) { s.F = f } }

func TestNumbersP13_2(t *testing.T) {
	h := byHand(t)
	for _, c := range []struct {
		op      int
		f, by   uint64
		becomes uint64
	}{
		{api.OFadd, one, two, three}, {api.OFsub, one, three, two | minus}, {api.OFsub, three, one, two}, {api.OFmul, two, three, 0x4018000000000000},
		{api.OFdiv, three, two, 0x3ff8000000000000}, {api.OFdiv, one, two, 0x3fe0000000000000}, {api.OFdiv, one, 0, inf}, {api.OFdiv, one, minus, inf | minus},
		{api.OFdiv, 0, 0, no}, {api.OFsub, inf, inf, no}, {api.OFmul, inf, 0, no}, {api.OFadd, 0x7ff0000000000001, one, no}, {api.OFadd, one, 0xffffffffffffffff, no},
		{api.OFadd, minus, minus, minus}, {api.OFadd, 0, minus, 0}, {api.OFmul, 1, 0x3fe0000000000000, 0}, {api.OFadd, 0x7fefffffffffffff, 0x7fefffffffffffff, inf},
		{api.OFsub, 0, 1, 1 | minus}, {api.OFdiv, three | minus, inf, minus},
		{api.OFld, three, two, two}, {api.OFld, three, 0xfff0000000000001, 0xfff0000000000001}, {api.OFld, 0, minus, minus},
	} {
		f := h.with(becomes(c.f))
		f.number(512, c.by).makes(of(c.op, by(3)), becomes(c.becomes))
		f.number(1016, c.by).makes(of(c.op, on(1016)), becomes(c.becomes))
		f.number(252, c.by).makes(of(c.op, mem(3, -1, 1, 0xfffffefc)), becomes(c.becomes))
	}
	for _, v := range []uint64{0, minus, one, 0x0807060504030201, 0xfff0000000000001, no} {
		f := h.with(becomes(v))
		f.does(of(api.OFst, by(3)), f.number(512, v))
		f.does(of(api.OFst, on(253)), f.number(253, v))
		f.makes(of(api.OFchs), becomes(v^minus))
		f.makes(of(api.OFabs), becomes(v&^minus))
	}
}

func TestFcomP13_2(t *testing.T) {
	h := byHand(t)
	for _, c := range []struct {
		f, by uint64
		set   string
	}{
		{one, two, "C"}, {two, one, ""}, {one, one, "Z"}, {0, minus, "Z"}, {minus, 0, "Z"}, {inf | minus, inf, "C"}, {inf, inf, "Z"}, {1 | minus, 0, "C"}, {1, 0, ""},
		{no, one, "CPZ"}, {one, no, "CPZ"}, {0x7ff0000000000001, 0xfff0000000000001, "CPZ"}, {no, no, "CPZ"},
	} {
		for _, stay := range []string{"", "A", "S", "O", "ASO"} {
			f := h.with(becomes(c.f)).number(512, c.by)
			f.with(flags(stay)).makes(of(api.OFcom, by(3)), flags(c.set+stay))
			f.with(flags("CPZ"+stay)).makes(of(api.OFcom, by(3)), flags(c.set+stay))
		}
	}
}

func TestNumberFaultsP13_2(t *testing.T) {
	h := byHand(t)
	h.m = mapped(t, 0, rw, r, w, rw)
	for _, op := range []int{api.OFld, api.OFadd, api.OFsub, api.OFmul, api.OFdiv, api.OFcom} {
		for off := uint32(1); off < 8; off++ {
			h.faults(of(op, on(512-off)), lacks(512, api.CanRead))
			h.faults(of(op, on(1024-off)), lacks(1024, api.CanRead))
		}
		h.faults(of(op, on(600)), lacks(600, api.CanRead))
		h.faults(of(op, on(0xfffffffc)), lacks(0xfffffffc, api.CanRead))
	}
	for off := uint32(1); off < 8; off++ {
		h.faults(of(api.OFst, on(256-off)), lacks(256, api.CanWrite))
		h.faults(of(api.OFst, on(1024-off)), lacks(1024, api.CanWrite))
	}
	h.faults(of(api.OFst, on(511)), lacks(511, api.CanWrite))
	h.does(of(api.OFst, on(764)), h.number(764, h.s.F))
}

// Do, at faults

// readers: what reads an operand and then writes it.
func readers() []api.Insn {
	var l []api.Insn
	for _, op := range []int{api.OAdd, api.OOr, api.OAdc, api.OSbb, api.OAnd, api.OSub, api.OXor} {
		l = append(l, of(op, by(3), reg(1)), of(op, by(3), imm(0)))
	}
	for _, op := range []int{api.OInc, api.ODec, api.ONot, api.ONeg} {
		l = append(l, of(op, by(3)))
	}
	for _, op := range []int{api.ORol, api.ORor, api.OShl, api.OShr, api.OSar} {
		l = append(l, of(op, by(3), reg(1)), of(op, by(3), imm(0)), of(op, by(3), imm(1)))
	}
	return append(l, of(api.OXchg, by(3), reg(1)), of(api.OXchg, by(3), reg(3)))
}

// What is read and then written must be both, ahead of all else; what is only read or only written
// needn't.
func TestBothRightsP13_2(t *testing.T) {
	h := byHand(t).with(sets(1, 0))
	h.m = mapped(t, 0, rw, r, w, x, 0, rw, w, r, rw)
	for _, i := range readers() {
		for _, c := range []struct {
			place uint32
			fault api.Fault
		}{
			{300, lacks(300, api.CanWrite)}, {600, lacks(600, api.CanRead)}, {800, lacks(800, api.CanRead)}, {1100, lacks(1100, api.CanRead)},
			{254, lacks(256, api.CanWrite)}, {510, lacks(510, api.CanWrite)}, {1278, lacks(1278, api.CanRead)}, {1535, lacks(1536, api.CanRead)},
			{1790, lacks(1790, api.CanRead)}, {2045, lacks(2045, api.CanWrite)}, {2303, lacks(2304, api.CanRead)}, {0xfffffffe, lacks(0xfffffffe, api.CanRead)},
		} {
			h.with(sets(3, c.place)).faults(i, c.fault)
		}
	}
	for _, i := range []api.Insn{of(api.OCmp, by(3), imm(1)), of(api.OTest, by(3), imm(1)), of(api.OMul, by(3)), of(api.OImul, by(3)), of(api.OJmp, by(3)), of(api.OCmp, reg(1), by(3))} {
		h.with(sets(3, 600)).faults(i, lacks(600, api.CanRead))
		if _, _, ok := Do(h.m.Copy(), h.with(sets(3, 300)).s, i); !ok {
			t.Errorf("%+v asks for more than reading", i)
		}
	}
	for _, i := range []api.Insn{of(api.OMov, by(3), imm(1)), of(api.OMov8, by(3), imm(1)), of(api.OSet, by(3)), of(api.OFst, by(3))} {
		h.with(sets(3, 300)).faults(i, lacks(300, api.CanWrite))
		if _, _, ok := Do(h.m.Copy(), h.with(sets(3, 600)).s, i); !ok {
			t.Errorf("%+v asks for more than writing", i)
		}
	}
}

// Operands in pages of all pairs of rights beside one another, at each split of their bytes.
func TestRightsP13_4(t *testing.T) {
	s := byHand(t).with(sets(api.ESP, 64), sets(api.ECX, 1)).s
	for first := range 8 {
		for second := range 8 {
			m := mapped(t, 0, rw, 0, first, second)
			for _, i := range inMemory() {
				for off := uint32(0); off < 9; off++ {
					s.R[3] = 768 - off
					s.R[6], s.R[7] = s.R[3], s.R[3]
					pairOf(t, m.Copy(), s).do(i)
					s.R[6] = 32
					pairOf(t, m.Copy(), s).do(i)
				}
			}
		}
	}
}

// inMemory tells instructions with an operand where EBX is, of each operation and each way it
// takes one, and those that go by ESI and EDI.
func inMemory() []api.Insn {
	var l []api.Insn
	for _, op := range ops() {
		for _, i := range []api.Insn{of(op), of(op, by(3)), of(op, by(3), imm(7)), of(op, by(3), reg(1)), of(op, reg(1), by(3))} {
			if i.Len = 3; insn.Is(i) {
				l = append(l, i)
			}
		}
	}
	return append(l, api.Insn{Op: api.OMovs, Rep: true, Len: 2}, api.Insn{Op: api.OStos, Rep: true, Len: 2})
}

// The stack in pages of all pairs of rights beside one another.
func TestStackRightsP13_4(t *testing.T) {
	s := byHand(t).s
	s.R[3] = 1020
	for first := range 8 {
		for second := range 8 {
			m := mapped(t, 0, rw, 0, first, second)
			for _, i := range []api.Insn{of(api.OPush, reg(4)), of(api.OPush, on(16)), of(api.OPush, on(254)), of(api.OPush, by(3)), of(api.OPush, by(4)), of(api.OPop, reg(0)), of(api.OPop, reg(4)), of(api.OCall, imm(4)), of(api.OCall, reg(0)), of(api.OCall, on(16)), of(api.OCall, by(4)), of(api.ORet)} {
				for off := uint32(0); off < 9; off++ {
					s.R[4] = 770 - off
					pairOf(t, m.Copy(), s).do(i)
				}
			}
		}
	}
}

// The document's example.
func TestExampleP13_4(t *testing.T) {
	for _, rights := range []int{0, r, x, r | x} {
		m := mapped(t, 0, rights)
		was := m.Copy()
		s := sample
		s.R[api.ESP] = 100
		got, f, ok := Do(m, s, api.Insn{Op: api.OPush, A: reg(api.EAX), Len: 1})
		if want := (api.Fault{Kind: api.FPage, PC: sample.PC, Addr: 96, Want: api.CanWrite}); f != want || ok {
			t.Errorf("PUSH: %+v, %v, want %+v", f, ok, want)
		}
		if got != s || !m.Same(was) {
			t.Errorf("PUSH: %+v, want %+v", got, s)
		}
	}
}

// Do, by the model

// shapes: operands of each kind.
func shapes() []api.Operand {
	l := []api.Operand{{}, imm(0), imm(1), imm(31), imm(128), imm(255), imm(0x80000000), imm(0xffffffff), on(700), mem(3, -1, 1, 2), mem(4, -1, 1, 0xfffffffc), mem(3, 1, 8, 1), mem(-1, 2, 4, 600)}
	for k := range 8 {
		l = append(l, reg(k))
	}
	return l
}

// All instructions of these operands, with all of their conditions.
func TestAllFormsP13_2(t *testing.T) {
	g := rand.New(rand.NewSource(131))
	count := map[int]int{}
	m := whole(t, rwx)
	for _, op := range ops() {
		for _, a := range shapes() {
			for _, b := range shapes() {
				for cond := range 16 {
					i := api.Insn{Op: op, A: a, B: b, Cond: cond, Len: 1 + cond%4}
					if !insn.Is(i) {
						continue
					}
					count[op]++
					for range 6 {
						s := someState(g)
						s.R[1], s.R[2], s.R[3] = uint32(g.Intn(40)), uint32(g.Intn(500)), uint32(g.Intn(5000))
						pairOf(t, m.Copy(), s).do(i)
					}
					i.Rep = true
					if insn.Is(i) {
						pairOf(t, m.Copy(), someState(g)).do(i)
					}
				}
			}
		}
	}
	for _, op := range ops() {
		if count[op] == 0 {
			t.Errorf("no instruction of operation %d", op)
		}
	}
}

// Words at edges, of each operation with registers, and all flags ahead.
func TestEdgesP13_2(t *testing.T) {
	g := rand.New(rand.NewSource(132))
	m := whole(t, rwx)
	for _, op := range ops() {
		for _, i := range []api.Insn{of(op, reg(3), reg(1)), of(op, reg(1)), of(op)} {
			if i.Len = 2; !insn.Is(i) {
				continue
			}
			for _, a := range edges {
				for _, b := range edges {
					s := someState(g)
					s.R[0], s.R[3], s.R[1] = a, a, b
					s.R[2] = []uint32{0, 0xffffffff, a, b / 2}[g.Intn(4)]
					pairOf(t, m, s).do(i)
				}
			}
		}
	}
}

func TestNumbersAtEdgesP13_2(t *testing.T) {
	g := rand.New(rand.NewSource(133))
	m := mapped(t, 0, rw)
	for _, f := range numbers {
		for _, by := range numbers {
			put(t, m, 40, little(by, 8)...)
			for op := api.OFld; op <= api.OFcom; op++ {
				i := of(op, on(40))
				if !insn.Is(i) {
					i = of(op)
				}
				s := someState(g)
				s.F = f
				pairOf(t, m.Copy(), s).do(i)
			}
		}
	}
}

func TestRandomP13_2(t *testing.T) {
	done, faults := map[int]int{}, map[int]int{}
	for seed := range int64(40) {
		g := rand.New(rand.NewSource(1000 + seed))
		c := pairOf(t, someMemory(t, g), someState(g))
		for range 2500 {
			i := someInsn(g, c.o)
			if c.do(i) {
				done[i.Op]++
			} else {
				faults[i.Op]++
			}
			if g.Intn(4) == 0 {
				c.o.s = someState(g)
			}
		}
	}
	for _, op := range ops() {
		if done[op] == 0 {
			t.Errorf("operation %d was never done", op)
		}
	}
	for _, i := range inMemory() {
		if insn.Touches(i) && faults[i.Op] == 0 {
			t.Errorf("operation %d never faulted", i.Op)
		}
	}
}

// noInsn: what is no instruction.
func noInsn() []api.Insn {
	l := []api.Insn{
		{}, {Op: -1}, {Op: api.OFcom + 1}, {Op: math.MaxInt}, {Op: math.MinInt}, {Op: api.OMov + 1<<32, A: reg(0), B: reg(1)},
		{Op: api.ONop, Len: -1}, {Op: api.ONop, Len: 16}, {Op: api.ONop, Len: math.MinInt}, {Op: api.ONop, Rep: true}, {Op: api.ONop, Cond: 1}, {Op: api.ONop, A: reg(0)},
		{Op: api.OMov, A: reg(8), B: reg(1)}, {Op: api.OMov, A: reg(-1), B: reg(1)}, {Op: api.OMov, A: imm(0), B: reg(1)}, {Op: api.OMov, A: on(0), B: on(4)}, {Op: api.OMov, A: reg(0)},
		{Op: api.OAdd, A: reg(0), B: mem(9, -1, 1, 0)}, {Op: api.OAdd, A: mem(0, 4, 1, 0), B: imm(1)}, {Op: api.OInc}, {Op: api.OInc, A: reg(0), B: reg(0)}, {Op: api.OInc, A: on(4), B: reg(0)},
		{Op: api.OMov8, A: reg(0), B: imm(256)}, {Op: api.OMov8, A: on(8), B: imm(256)}, {Op: api.OShl, A: on(4), B: reg(2)}, {Op: api.OShl, A: reg(0), B: imm(256)},
		{Op: api.OXchg, A: reg(0), B: imm(0)}, {Op: api.OXchg, A: reg(0), B: on(0)}, {Op: api.OLea, A: reg(0), B: reg(1)}, {Op: api.OPush}, {Op: api.OPop, A: on(0)}, {Op: api.OCall},
		{Op: api.OJcc, A: imm(4), Cond: 16}, {Op: api.OJcc, A: imm(4), Cond: -1}, {Op: api.OSet, A: imm(0)}, {Op: api.OInt, A: imm(3)}, {Op: api.OInt}, {Op: api.OFld, A: reg(0)}, {Op: api.OFst},
		{Op: api.OFchs, A: on(8)}, {Op: api.OMovs, A: reg(0)}, {Op: api.ODiv}, {Op: api.ODiv, A: imm(0)}, {Op: api.ORet, A: imm(4)},
	}
	for k := range 16 {
		l = append(l, api.Insn{Op: api.OMov, A: api.Operand{Kind: 4 + k}, B: reg(0)}, api.Insn{Op: api.OJmp, A: api.Operand{Kind: -k}})
	}
	return l
}

// What is no instruction isn't done: all is as it was, without a fault.
func TestNoInstructionP13_2(t *testing.T) {
	m := whole(t, rwx)
	was := m.Copy()
	s := sample
	s.R[4], s.R[6], s.R[7] = 800, 900, 1000
	for _, i := range noInsn() {
		if got, f, ok := Do(m, s, i); got != s || f != (api.Fault{}) || ok {
			t.Errorf("Do(%+v): %+v, %+v, %v", i, got, f, ok)
		}
	}
	g := rand.New(rand.NewSource(134))
	none := 0
	for range 50000 {
		i := api.Insn{Op: g.Intn(60) - 2, Cond: g.Intn(18) - 1, A: someOperand(g), B: someOperand(g), Rep: g.Intn(2) == 0, Len: g.Intn(18) - 1}
		if insn.Is(i) {
			continue
		}
		none++
		if got, f, ok := Do(m, s, i); got != s || f != (api.Fault{}) || ok {
			t.Fatalf("Do(%+v): %+v, %+v, %v", i, got, f, ok)
		}
	}
	if !m.Same(was) || none == 0 {
		t.Error("what is no instruction changes the memory")
	}
}

// Step

// steps fails, if a step of the bytes at 256 isn't as Do of their instruction is, or whether the
// guest asks isn't this.
func (h hand) steps(b string, i api.Insn, asks bool) {
	h.t.Helper()
	i.Len = len(b)
	h = h.with(goes(256)).holding(256, []byte(b)...)
	m, other := h.m.Copy(), h.m.Copy()
	s, f, ok, asked := Step(m, h.s)
	wantS, wantF, wantOK := Do(other, h.s, i)
	if got, want := (left{s, f, ok, asked}), (left{wantS, wantF, wantOK, asks}); got != want {
		h.t.Errorf("Step of %x: %+v, want %+v", b, got, want)
	}
	if !m.Same(other) {
		h.t.Errorf("Step of %x: another memory", b)
	}
}

func TestStepP13_3(t *testing.T) {
	h := byHand(t)
	h.m = mapped(t, 0, rw, rwx, rw, rw)
	for _, c := range bytesOf {
		h.steps(c.b, c.i, c.i.Op == api.OInt)
	}
	h.with(sets(6, 300), sets(7, 400), sets(1, 3)).steps("\xf3\xa5", again(api.OMovs), false)
	h.with(sets(7, 4000), sets(1, 3)).steps("\xf3\xab", again(api.OStos), false)
	h.steps("\xf7\xf1", of(api.ODiv, reg(1)), false)
}

// What can't be fetched isn't done, and the guest asks for nothing.
func TestStepOfNoInstructionP13_3(t *testing.T) {
	for _, c := range noBytes {
		m := mapped(t, 0, rwx)
		put(t, m, 100, []byte(c.b)...)
		was := m.Copy()
		s := sample
		s.PC = 100
		got, f, ok, asks := Step(m, s)
		if got != s || f != (api.Fault{Kind: c.kind, PC: 100}) || ok || asks || !m.Same(was) {
			t.Errorf("Step of %x: %+v, %+v, %v, %v", c.b, got, f, ok, asks)
		}
	}
	m := mapped(t, 0, rwx, rw)
	put(t, m, 255, 0xcd, 0x80)
	for _, c := range []struct{ pc, at uint32 }{{255, 256}, {256, 256}, {5000, 5000}, {0xffffffff, 0xffffffff}, {sample.PC, sample.PC}} {
		s := sample
		s.PC = c.pc
		got, f, ok, asks := Step(m, s)
		if got != s || f != (api.Fault{Kind: api.FPage, PC: c.pc, Addr: c.at, Want: api.CanRun}) || ok || asks {
			t.Errorf("Step at %#x: %+v, %+v, %v, %v", c.pc, got, f, ok, asks)
		}
	}
}

// An instruction may write over itself: it is fetched ahead of that.
func TestStepOverItselfP13_3(t *testing.T) {
	m := mapped(t, 0, rwx)
	put(t, m, 16, 0xc7, 0x05, 16, 0, 0, 0, 0x41, 0x90, 0x90, 0x90)
	s, f, ok, asks := Step(m, api.State{PC: 16})
	if s != (api.State{PC: 26}) || f != (api.Fault{}) || !ok || asks {
		t.Errorf("Step: %+v, %+v, %v, %v", s, f, ok, asks)
	}
	s.PC = 16
	s, _, ok, _ = Step(m, s)
	if want := (api.State{R: [8]uint32{api.ECX: 1}, PC: 17}); s != want || !ok {
		t.Errorf("Step: %+v, %v, want %+v", s, ok, want)
	}
}

// A guest that counts, by steps: ECX from 10 down, EAX the sum.
func TestStepsP13_3(t *testing.T) {
	l := []api.Insn{
		of(api.OMov, reg(api.ECX), imm(10)), of(api.OMov, reg(api.EAX), imm(0)),
		of(api.OAdd, reg(api.EAX), reg(api.ECX)), of(api.ODec, reg(api.ECX)), {Op: api.OJcc, Cond: 5, A: imm(0xfffffffb)},
		of(api.OPush, reg(api.EAX)), of(api.OPop, reg(api.EBX)), of(api.OInt, imm(128)),
	}
	b, e := encode.All(l)
	if e != api.OK {
		t.Fatal(e)
	}
	m := mapped(t, 0, rwx, rw)
	put(t, m, 0, b...)
	s := api.State{R: [8]uint32{api.ESP: 512}}
	for n := 1; ; n++ {
		var f api.Fault
		var ok, asks bool
		s, f, ok, asks = Step(m, s)
		if !ok || asks != (n == 35) {
			t.Fatalf("step %d: %+v, %v, %v, %+v", n, f, ok, asks, s)
		}
		if asks {
			break
		}
	}
	if s.R[api.EAX] != 55 || s.R[api.EBX] != 55 || s.R[api.ECX] != 0 || s.R[api.ESP] != 512 || s.PC != uint32(len(b)) {
		t.Errorf("%+v", s)
	}
}

// filled fills the pages of a memory with instructions at random.
func filled(t *testing.T, g *rand.Rand, m *page.Memory) {
	t.Helper()
	for p := range api.Pages {
		if m.Rights(p) == 0 {
			continue
		}
		b := make([]byte, 0, 300)
		for len(b) < 256 {
			i := someInsn(g, &model{m, someState(g)})
			if l, e := encode.Encode(i); e == api.OK && g.Intn(60) > 0 {
				b = append(b, l...)
			} else {
				b = append(b, byte(g.Intn(256)))
			}
		}
		put(t, m, uint32(256*p), b[:256]...)
	}
}

func TestRandomStepsP13_3(t *testing.T) {
	done, asked := 0, 0
	for seed := range int64(30) {
		g := rand.New(rand.NewSource(2000 + seed))
		m := someMemory(t, g)
		filled(t, g, m)
		c := pairOf(t, m, someState(g))
		c.o.s.PC = uint32(g.Intn(api.GuestSize))
		for range 1200 {
			if c.step() {
				done++
				continue
			}
			c.o.s = someState(g)
			c.o.s.PC = uint32(g.Intn(api.GuestSize + 4))
			asked++
		}
	}
	if done < 5000 || asked < 500 {
		t.Errorf("%d steps done, %d not", done, asked)
	}
}

// Instructions held against one another

// both fails, if two rows of instructions don't leave the same registers, flags (but for those
// that are named), number register and memory.
func both(t *testing.T, m *page.Memory, s api.State, but string, a, b []api.Insn) {
	t.Helper()
	run := func(l []api.Insn) (*page.Memory, api.State) {
		n, s := m.Copy(), s
		for _, i := range l {
			var f api.Fault
			var ok bool
			if s, f, ok = Do(n, s, i); !ok {
				t.Fatalf("%+v: %+v", i, f)
			}
		}
		s.PC = 0
		if but == "all" {
			s.Fl = api.Flags{}
		}
		if but == "C" {
			s.Fl.CF = false
		}
		return n, s
	}
	m1, s1 := run(a)
	m2, s2 := run(b)
	if s1 != s2 || !m1.Same(m2) {
		t.Fatalf("of %+v:\n%+v\nmake %+v\n%+v\nmake %+v", s, a, s1, b, s2)
	}
}

func TestAgainstOneAnotherP13_2(t *testing.T) {
	g := rand.New(rand.NewSource(135))
	m := whole(t, rw)
	row := func(l ...api.Insn) []api.Insn { return l }
	for range 1000 {
		s := someState(g)
		s.R[3], s.R[4], s.R[6], s.R[7] = uint32(g.Intn(16000)), 8+uint32(g.Intn(16000)), uint32(g.Intn(16000)), uint32(g.Intn(16000))
		for _, o := range []api.Operand{reg(0), reg(2), reg(5), by(3), mem(3, -1, 1, 77)} {
			both(t, m, s, "", row(of(api.ONot, o), of(api.ONot, o)), nil)
			both(t, m, s, "", row(of(api.OXchg, o, reg(1)), of(api.OXchg, o, reg(1))), nil)
			both(t, m, s, "C", row(of(api.OInc, o)), row(of(api.OAdd, o, imm(1))))
			both(t, m, s, "C", row(of(api.ODec, o)), row(of(api.OSub, o, imm(1))))
			both(t, m, s, "all", row(of(api.OAdd, o, reg(1)), of(api.OSub, o, reg(1))), nil)
			both(t, m, s, "all", row(of(api.ONeg, o)), row(of(api.ONot, o), of(api.OInc, o)))
			both(t, m, s, "all", row(of(api.OXor, o, reg(1)), of(api.OXor, o, reg(1))), nil)
			both(t, m, s, "all", row(of(api.ORol, o, reg(1)), of(api.ORor, o, reg(1))), nil)
		}
		both(t, m, s, "", row(of(api.OPush, reg(0)), of(api.OPop, reg(1)), of(api.OMov, mem(4, -1, 1, 0xfffffffc), imm(word(t, m, s.R[4]-4)))), row(of(api.OMov, reg(1), reg(0))))
		both(t, m, s, "", row(of(api.OFchs), of(api.OFchs)), nil)
		both(t, m, s, "", row(of(api.OFchs), of(api.OFabs)), row(of(api.OFabs)))
		both(t, m, s, "", row(of(api.OLea, reg(0), mem(3, 1, 4, 9))), row(of(api.OLea, reg(0), mem(-1, 1, 4, 9)), of(api.OLea, reg(0), mem(0, 3, 1, 0))))
	}
}

// word tells the word at a place of a memory.
func word(t *testing.T, m *page.Memory, place uint32) uint32 {
	t.Helper()
	v, _, ok := m.Read(place, 4, api.CanRead)
	if !ok {
		t.Fatal("no word there")
	}
	return v
}

// Each memory is by itself, whatever is done with others at the same time.
func TestManyGuestsP13_3(t *testing.T) {
	var all sync.WaitGroup
	for seed := range int64(8) {
		g := rand.New(rand.NewSource(300 + seed))
		m := someMemory(t, g)
		filled(t, g, m)
		o := &model{m.Copy(), someState(g)}
		all.Go(func() {
			for range 2000 {
				o.s.PC = uint32(g.Intn(api.GuestSize))
				s, _, ok, _ := Step(m, o.s)
				i, _, is := o.Fetch(o.s.PC)
				if is {
					_, is = o.Do(i)
				}
				if s != o.s || ok != is {
					t.Errorf("seed %d: %+v: %+v, want %+v", seed, i, s, o.s)
					return
				}
			}
			if !m.Same(o.mem) {
				t.Error("memories aren't by themselves: seed", seed)
			}
		})
	}
	all.Wait()
}
