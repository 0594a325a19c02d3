package oracle

import (
	"math"
	"math/rand"
	"slices"
	"strings"
	"sync"
	"testing"

	"ferryman/api"
	"ferryman/page"
)

const (
	r   = api.CanRead
	w   = api.CanWrite
	x   = api.CanRun
	rw  = r | w
	rwx = r | w | x

	minus14 = 0xfffffff2
	minus22 = 0xffffffea
	minus38 = 0xffffffda

	last = math.MaxUint32 // of all places
)

// Code of the guest.
const (
	nop  = "\x90"
	ask  = "\xcd\x80"
	stay = "\xeb\xfe" // it jumps to itself
	exit = "\xb8\x01\x00\x00\x00" + ask
)

// little tells the bytes of words, the lowest first.
func little(l ...uint32) string {
	var b []byte
	for _, v := range l {
		b = append(b, byte(v), byte(v>>8), byte(v>>16), byte(v>>24))
	}
	return string(b)
}

// mov tells the code that sets a register.
func mov(reg int, v uint32) string { return string([]byte{byte(0xb8 + reg)}) + little(v) }

// calling tells the code of a call of the guest.
func calling(n, b, c, d uint32) string {
	return mov(api.EAX, n) + mov(api.EBX, b) + mov(api.ECX, c) + mov(api.EDX, d) + ask
}

// many tells a page's worth of bytes, none of them nought.
func many(seed int) string {
	b := make([]byte, 256)
	for i := range b {
		b[i] = byte(1 + (7*i+31*seed)%255)
	}
	return string(b)
}

// someState tells a state of which each byte is another one, but for the place, 0, and the
// stack, which ends at 512.
func someState() api.State {
	return api.State{
		R:  [8]uint32{0x13121110, 0x17161514, 0x1b1a1918, 0x1f1e1d1c, 512, 0x27262524, 0x2b2a2928, 0x2f2e2d2c},
		Fl: api.Flags{CF: true, AF: true, SF: true},
		DF: true,
		F:  0xa7a6a5a4a3a2a1a0,
	}
}

// guest tells an image: page 0 with all rights and this code; page 1 to read and write, 2 to
// read, 3 to write, 4 to run, none of their bytes nought; no page 5; page 6 like page 1.
func guest(code string) api.Image {
	return api.Image{
		S: someState(),
		Spans: []api.Span{
			{Page: 0, Count: 1, Rights: rwx, Bytes: code},
			{Page: 1, Count: 1, Rights: rw, Bytes: many(1)},
			{Page: 2, Count: 1, Rights: r, Bytes: many(2)},
			{Page: 3, Count: 1, Rights: w, Bytes: many(3)},
			{Page: 4, Count: 1, Rights: x, Bytes: many(4)},
			{Page: 6, Count: 1, Rights: rw, Bytes: many(6)},
		},
	}
}

// of tells an image with other registers.
func of(i api.Image, change func(s *api.State)) api.Image {
	change(&i.S)
	return i
}

// loaded tells the memory of spans.
func loaded(t *testing.T, l []api.Span) *page.Memory {
	t.Helper()
	m := page.New()
	fine(t, m.Load(l))
	return m
}

// fine fails, if e isn't OK.
func fine(t *testing.T, e api.Errno) {
	t.Helper()
	if e != api.OK {
		t.Fatal(e)
	}
}

// started tells an oracle of an image.
func started(t *testing.T, i api.Image, replies []uint32, input string) *Oracle {
	t.Helper()
	o, e := New(i, replies, input)
	fine(t, e)
	return o
}

// seen: all that an oracle tells.
type seen struct {
	s       api.State
	m       *page.Memory
	events  []api.Event
	outcome api.Outcome
	steps   int
}

// fresh tells what is to be seen of a new oracle of an image.
func fresh(t *testing.T, i api.Image) seen {
	t.Helper()
	return seen{s: i.S, m: loaded(t, i.Spans)}
}

// seenOf tells what is seen of an oracle.
func seenOf(o *Oracle) seen {
	return seen{o.State(), o.Memory(), o.Events(), o.Outcome(), o.Steps()}
}

// is fails, if anything else is seen of an oracle.
func (want seen) is(t *testing.T, o *Oracle) {
	t.Helper()
	if s := o.State(); s != want.s {
		t.Fatalf("the state is\n%+v, want\n%+v", s, want.s)
	}
	if e := o.Events(); !slices.Equal(e, want.events) {
		t.Fatalf("the events are\n%+v, want\n%+v", e, want.events)
	}
	if v := o.Outcome(); v != want.outcome {
		t.Fatalf("the outcome is %+v, want %+v", v, want.outcome)
	}
	if n := o.Steps(); n != want.steps {
		t.Fatalf("%d steps, want %d", n, want.steps)
	}
	if !o.Memory().Same(want.m) {
		t.Fatal("the memory isn't as it should be")
	}
}

// faulted tells the outcome of a fault.
func faulted(kind int, pc, addr uint32, want int) api.Outcome {
	return api.Outcome{Kind: api.Faulted, Fault: api.Fault{Kind: kind, PC: pc, Addr: addr, Want: want}}
}

// exited tells the outcome of an end by a call.
func exited(code uint32) api.Outcome { return api.Outcome{Kind: api.Exited, Code: code} }

// New

func TestExampleP15_1(t *testing.T) {
	i := api.Image{S: api.State{PC: 5}}
	o := started(t, i, nil, "")
	want := fresh(t, i)
	want.is(t, o)
	if o.Step() {
		t.Error("it goes on")
	}
	want.outcome = faulted(api.FPage, 5, 5, x)
	want.is(t, o)
}

// noImages: spans that can't be loaded, by each reason, each with the spans beside it that can.
var noImages = []struct {
	why     string
	bad, ok api.Span
}{
	{"a page below 0", api.Span{Page: -1, Count: 1, Rights: r}, api.Span{Page: 0, Count: 1, Rights: r}},
	{"pages from below 0 on", api.Span{Page: -1, Count: 2, Rights: r}, api.Span{Page: 0, Count: 2, Rights: r}},
	{"a page far below 0", api.Span{Page: math.MinInt, Count: 1, Rights: r}, api.Span{Page: 0, Count: 1, Rights: r}},
	{"a page beyond the last one", api.Span{Page: 64, Count: 1, Rights: r}, api.Span{Page: 63, Count: 1, Rights: r}},
	{"a page far beyond", api.Span{Page: math.MaxInt, Count: 1, Rights: r}, api.Span{Page: 63, Count: 1, Rights: r}},
	{"pages up to one beyond", api.Span{Page: 62, Count: 3, Rights: r}, api.Span{Page: 62, Count: 2, Rights: r}},
	{"more than there are", api.Span{Page: 0, Count: 65, Rights: r}, api.Span{Page: 0, Count: 16, Rights: r}},
	{"as many as numbers go", api.Span{Page: 1, Count: math.MaxInt, Rights: r}, api.Span{Page: 1, Count: 1, Rights: r}},
	{"no pages", api.Span{Page: 0, Count: 0, Rights: r}, api.Span{Page: 0, Count: 1, Rights: r}},
	{"fewer than none", api.Span{Page: 9, Count: -1, Rights: r}, api.Span{Page: 9, Count: 1, Rights: r}},
	{"far fewer than none", api.Span{Page: 9, Count: math.MinInt, Rights: r}, api.Span{Page: 9, Count: 1, Rights: r}},
	{"no rights", api.Span{Page: 0, Count: 1, Rights: 0}, api.Span{Page: 0, Count: 1, Rights: 1}},
	{"rights above 7", api.Span{Page: 0, Count: 1, Rights: 8}, api.Span{Page: 0, Count: 1, Rights: 7}},
	{"a right beside those that are", api.Span{Page: 0, Count: 1, Rights: 9}, api.Span{Page: 0, Count: 1, Rights: 1}},
	{"rights below 0", api.Span{Page: 0, Count: 1, Rights: -1}, api.Span{Page: 0, Count: 1, Rights: 7}},
	{"a page that is there", api.Span{Page: 20, Count: 1, Rights: r}, api.Span{Page: 19, Count: 1, Rights: r}},
	{"pages up to one that is there", api.Span{Page: 19, Count: 2, Rights: r}, api.Span{Page: 18, Count: 2, Rights: r}},
	{"pages from one that is there on", api.Span{Page: 23, Count: 2, Rights: r}, api.Span{Page: 24, Count: 2, Rights: r}},
	{"more bytes than a page's", api.Span{Page: 0, Count: 1, Rights: r, Bytes: many(1) + "x"}, api.Span{Page: 0, Count: 1, Rights: r, Bytes: many(1)}},
	{"more bytes than three pages'", api.Span{Page: 61, Count: 3, Rights: r, Bytes: many(1) + many(2) + many(3) + "\x00"}, api.Span{Page: 61, Count: 3, Rights: r, Bytes: many(1) + many(2) + many(3)}},
	{"more bytes than there are pages", api.Span{Page: 63, Count: 1, Rights: r, Bytes: many(1) + many(2)}, api.Span{Page: 63, Count: 1, Rights: r, Bytes: many(2)}},
}

func TestNoImageP15_1(t *testing.T) {
	for _, c := range noImages {
		// Pages 20 to 23 are there ahead of it; it is the first one but for these, or the last one.
		there := []api.Span{{Page: 20, Count: 4, Rights: rw, Bytes: many(5)}}
		behind := []api.Span{{Page: 30, Count: 1, Rights: rwx, Bytes: nop}, {Page: 40, Count: 3, Rights: w}}
		for _, l := range [][2][]api.Span{{there, nil}, {there, behind}, {append(behind[:1:1], there...), nil}} {
			bad := append(append(slices.Clone(l[0]), c.bad), l[1]...)
			for _, s := range []api.State{{}, someState()} {
				o, e := New(api.Image{S: s, Spans: bad}, []uint32{1}, "input")
				if o != nil || e != api.ErrImage {
					t.Errorf("%s: %v, %v", c.why, o != nil, e)
				}
			}
			near := api.Image{S: someState(), Spans: append(append(slices.Clone(l[0]), c.ok), l[1]...)}
			fresh(t, near).is(t, started(t, near, nil, ""))
		}
	}
}

// An image that can't be loaded leaves nothing behind for one that can.
func TestBehindNoImageP15_1(t *testing.T) {
	i := guest(stay)
	for _, c := range noImages {
		if _, e := New(api.Image{S: someState(), Spans: []api.Span{{Page: 20, Count: 4, Rights: rw}, c.bad}}, nil, ""); e != api.ErrImage {
			t.Errorf("%s: %v", c.why, e)
		}
		fresh(t, i).is(t, started(t, i, nil, ""))
	}
}

func TestImagesP15_1(t *testing.T) {
	all := strings.Repeat(many(3), 64)
	for n, l := range [][]api.Span{
		nil,
		{},
		{{Page: 0, Count: 1, Rights: x}},
		{{Page: 63, Count: 1, Rights: rw, Bytes: many(2)}},
		{{Page: 0, Count: 64, Rights: 7}},
		{{Page: 0, Count: 64, Rights: w, Bytes: all}},
		{{Page: 0, Count: 64, Rights: r, Bytes: all[:api.GuestSize-1]}},
		{{Page: 5, Count: 2, Rights: 1, Bytes: "a"}, {Page: 4, Count: 1, Rights: 2, Bytes: many(1)}, {Page: 7, Count: 3, Rights: 5, Bytes: many(2) + "b"}},
		guest(nop).Spans,
	} {
		for _, s := range []api.State{{}, someState(), {PC: last}} {
			i := api.Image{S: s, Spans: l}
			o := started(t, i, []uint32{3, 4}, "input")
			want := fresh(t, i)
			want.is(t, o)
			if rights := o.Memory().Rights(5); n == 7 && rights != 1 || n < 2 && rights != 0 {
				t.Errorf("page 5 has rights %d", rights)
			}
			want.is(t, o)
		}
	}
}

// drawnState tells a state at random.
func drawnState(g *rand.Rand) api.State {
	s := api.State{PC: g.Uint32(), DF: g.Intn(2) == 0, F: g.Uint64()}
	for i := range s.R {
		s.R[i] = g.Uint32() >> (8 * g.Intn(4))
	}
	s.Fl = api.Flags{CF: g.Intn(2) == 0, PF: g.Intn(2) == 0, AF: g.Intn(2) == 0, ZF: g.Intn(2) == 0, SF: g.Intn(2) == 0, OF: g.Intn(2) == 0}
	return s
}

// Without pages it faults where it is, whatever its state is, and stays as it is.
func TestNoPagesP15_1(t *testing.T) {
	g := rand.New(rand.NewSource(151))
	states := []api.State{{}, someState()}
	for _, pc := range []uint32{0, 1, 255, 256, 1<<14 - 1, 1 << 14, 1<<31 - 1, 1 << 31, last - 14, last} {
		states = append(states, api.State{PC: pc})
	}
	for range 200 {
		states = append(states, drawnState(g))
	}
	for _, s := range states {
		for _, l := range [][]api.Span{nil, {}} {
			i := api.Image{S: s, Spans: l}
			want := fresh(t, i)
			want.outcome = faulted(api.FPage, s.PC, s.PC, x)
			o := started(t, i, []uint32{1}, "input")
			if o.Step() {
				t.Fatal("it goes on")
			}
			want.is(t, o)
			o = started(t, i, []uint32{1}, "input")
			if v := o.Run(100000); v != want.outcome {
				t.Fatalf("%+v, want %+v", v, want.outcome)
			}
			want.is(t, o)
		}
	}
}

// Step: what is done

func TestStepDoneP15_1(t *testing.T) {
	for n, c := range []struct {
		code string
		does func(s *api.State, m *page.Memory)
	}{
		{nop, func(s *api.State, m *page.Memory) { s.PC = 1 }},
		{"\x43", func(s *api.State, m *page.Memory) { // inc ebx
			s.PC, s.R[api.EBX], s.Fl = 1, 0x1f1e1d1d, api.Flags{CF: true, PF: true}
		}},
		{mov(api.EDX, 0x01020304), func(s *api.State, m *page.Memory) { s.PC, s.R[api.EDX] = 5, 0x01020304 }},
		{"\xfc", func(s *api.State, m *page.Memory) { s.PC, s.DF = 1, false }},
		{"\xd9\xe1", func(s *api.State, m *page.Memory) { s.PC, s.F = 2, 0x27a6a5a4a3a2a1a0 }}, // fabs
		{stay, func(s *api.State, m *page.Memory) {}},
		{"\xeb\x7f", func(s *api.State, m *page.Memory) { s.PC = 129 }},
		{"\xe9\xfa\xff\xff\xff", func(s *api.State, m *page.Memory) { s.PC = last }},
		{"\xff\xe5", func(s *api.State, m *page.Memory) { s.PC = 0x27262524 }},                                        // jmp ebp
		{"\x74\x70", func(s *api.State, m *page.Memory) { s.PC = 2 }},                                                 // je, which doesn't
		{"\x72\x70", func(s *api.State, m *page.Memory) { s.PC = 0x72 }},                                              // jb, which does
		{"\x50", func(s *api.State, m *page.Memory) { s.PC, s.R[api.ESP] = 1, 508; put(m, 508, little(0x13121110)) }}, // push eax
		{"\xe8\x05\x00\x00\x00", func(s *api.State, m *page.Memory) { s.PC, s.R[api.ESP] = 10, 508; put(m, 508, little(5)) }},
		{"\xc7\x05\x40\x01\x00\x00" + little(0x01020304), func(s *api.State, m *page.Memory) { s.PC = 10; put(m, 0x140, "\x04\x03\x02\x01") }},
		{"\xc7\x05\x04\x03\x00\x00" + little(0x01020304), func(s *api.State, m *page.Memory) { s.PC = 10; put(m, 0x304, "\x04\x03\x02\x01") }},
		{"\x8b\x2d\x00\x02\x00\x00", func(s *api.State, m *page.Memory) { s.PC, s.R[api.EBP] = 6, word(m, 0x200) }},
		{"\xdd\x1d\xf8\x01\x00\x00", func(s *api.State, m *page.Memory) { s.PC = 6; put(m, 0x1f8, little(0xa3a2a1a0, 0xa7a6a5a4)) }}, // fst
	} {
		i := guest(c.code)
		want := fresh(t, i)
		c.does(&want.s, want.m)
		want.steps = 1
		o := started(t, i, []uint32{1}, "input")
		if !o.Step() {
			t.Errorf("code %d: it ends by %+v", n, o.Outcome())
		}
		want.is(t, o)
		o = started(t, i, nil, "")
		if v := o.Run(1); v != (api.Outcome{}) {
			t.Errorf("code %d: it ends by %+v", n, v)
		}
		want.is(t, o)
	}
}

// put sets bytes of a memory that are there.
func put(m *page.Memory, at uint32, b string) {
	if m.Poke(at, []byte(b)) != api.OK {
		panic("no bytes there")
	}
}

// word tells the word at a place of a memory, whatever rights.
func word(m *page.Memory, at uint32) uint32 {
	b := m.Peek(at, 4)
	return uint32(b[0]) | uint32(b[1])<<8 | uint32(b[2])<<16 | uint32(b[3])<<24
}

// Step: what asks

func TestStepAsksP15_1(t *testing.T) {
	for _, c := range []struct {
		n, b, c, d uint32
		result     uint32
		bytes      string
		does       func(m *page.Memory)
	}{
		{n: 20, b: 1, c: 2, d: 3, result: 7},
		{n: 0, result: 7},
		{n: last, result: 7},
		{n: 3, c: 0x104, d: 3, result: 3, bytes: "inp", does: func(m *page.Memory) { put(m, 0x104, "inp") }},
		{n: 3, b: 9, c: 0x3fb, d: 64, result: 5, bytes: "input", does: func(m *page.Memory) { put(m, 0x3fb, "input") }},
		{n: 3, c: 0x1fe, d: 3, result: minus14},
		{n: 3, c: 0x204, d: 3, result: minus14},
		{n: 4, c: 0x204, d: 3, result: 3, bytes: many(2)[4:7]},
		{n: 4, c: 0x1c1, d: last, result: 64, bytes: (many(1) + many(2))[0xc1:0x101]},
		{n: 4, c: 0x304, d: 3, result: minus14},
		{n: 91, b: 0x200, c: 2, does: func(m *page.Memory) { m.Unmap(2, 2) }},
		{n: 91, b: 0x200, c: 4, result: minus22},
		{n: 125, b: 0x200, c: 3, d: 6, does: func(m *page.Memory) { m.Protect(2, 3, 6) }},
		{n: 125, b: 0x201, c: 2, d: 6, result: minus22},
		{n: 192, b: 0x500, c: 1, d: 5, does: func(m *page.Memory) { m.Map(5, 1, 5) }},
		{n: 192, b: 0x500, c: 1, d: 8, result: minus22},
	} {
		i := of(guest(ask), func(s *api.State) {
			s.R[api.EAX], s.R[api.EBX], s.R[api.ECX], s.R[api.EDX] = c.n, c.b, c.c, c.d
		})
		want := fresh(t, i)
		want.s.PC, want.s.R[api.EAX] = 2, c.result
		want.events = []api.Event{{N: c.n, B: c.b, C: c.c, D: c.d, Result: c.result, Bytes: c.bytes}}
		want.steps = 1
		if c.does != nil {
			c.does(want.m)
		}
		o := started(t, i, []uint32{7, 8}, "input")
		if !o.Step() {
			t.Errorf("call %d: it ends by %+v", c.n, o.Outcome())
		}
		want.is(t, o)
	}
}

// Replies and input are used up from call to call; behind them there are none.
func TestRepliesAndInputP15_1(t *testing.T) {
	reply, read := mov(api.EAX, 20)+ask, calling(3, 0, 0x100, 3)
	o := started(t, guest(reply+read+reply+read+reply+read+stay), []uint32{70, 80}, "input")
	var got []uint32
	for range 21 {
		o.Step()
		if n := len(o.Events()); n > len(got) {
			got = append(got, o.State().R[api.EAX])
		}
	}
	if !slices.Equal(got, []uint32{70, 3, 80, 2, minus38, 0}) {
		t.Errorf("%d", got)
	}
	if b := string(o.Memory().Peek(0x100, 3)); b != "utp" {
		t.Errorf("%q", b)
	}
	for k, e := range o.Events() {
		if e.Result != got[k] || e.Bytes != []string{"", "inp", "", "ut", "", ""}[k] {
			t.Errorf("%+v", e)
		}
	}
}

// Of many calls the latest are told.
func TestLatestEventsP15_1(t *testing.T) {
	// inc ebx; mov eax,20; int 128; jmp back
	o := started(t, of(guest("\x43"+mov(api.EAX, 20)+ask+"\xeb\xf6"), func(s *api.State) { s.R[api.EBX] = 0 }), nil, "")
	for n := range uint32(250) {
		e := o.Events()
		if len(e) != min(int(n), 200) {
			t.Fatalf("%d events of %d", len(e), n)
		}
		for k := range e {
			b := n - uint32(len(e)) + uint32(k) + 1
			if e[k] != (api.Event{N: 20, B: b, C: 0x17161514, D: 0x1b1a1918, Result: minus38}) {
				t.Fatalf("event %d of %d: %+v", k, n, e[k])
			}
		}
		o.Run(4)
	}
}

// What the guest asks for counts for its next instruction: it may change or lose its own code.
func TestAskForOwnCodeP15_1(t *testing.T) {
	for _, c := range []struct {
		code  string
		want  api.Outcome
		steps int
	}{
		// The input is put behind the call: inc ebx, twice, and the end's code by it.
		{calling(3, 7, 22, 2) + nop + nop + exit, exited(9), 9},
		{calling(91, 0, 1, 0) + exit, faulted(api.FPage, 22, 22, x), 5},
		{calling(125, 0, 1, rw) + exit, faulted(api.FPage, 22, 22, x), 5},
		{calling(125, 0, 1, x) + exit, exited(0), 7},
		{calling(125, 0, 2, x) + "\x50", faulted(api.FPage, 22, 508, w), 5},
		{calling(192, 0x500, 1, rw) + "\xc7\x05\x00\x05\x00\x00" + little(5) + exit, exited(0x500), 8},
		{calling(20, 0x600, 1, rw) + "\xc7\x05\x00\x05\x00\x00" + little(5) + exit, faulted(api.FPage, 22, 0x500, w), 5},
	} {
		o := started(t, guest(c.code), nil, "\x43\x43")
		if v := o.Run(1000); v != c.want || o.Steps() != c.steps {
			t.Errorf("%x: %+v behind %d steps, want %+v behind %d", c.code, v, o.Steps(), c.want, c.steps)
		}
	}
}

// Step: what faults

// faults fails, if the one instruction of an image isn't the fault that is wanted, or anything
// else is changed by it.
func faults(t *testing.T, i api.Image, fault api.Outcome) {
	t.Helper()
	want := fresh(t, i)
	want.outcome = fault
	o := started(t, i, []uint32{1}, "input")
	if o.Step() {
		t.Errorf("it goes on; want %+v", fault)
	}
	want.is(t, o)
}

func TestFetchFaultsP15_1(t *testing.T) {
	at := func(pc uint32) api.Image {
		return of(guest(nop), func(s *api.State) { s.PC = pc })
	}
	// No right to run, at the first byte.
	for _, pc := range []uint32{256, 300, 511, 512, 768, 1023, 5 * 256, 6 * 256, 7 * 256, 1<<14 - 1, 1 << 14, 1 << 31, last} {
		faults(t, at(pc), faulted(api.FPage, pc, pc, x))
	}
	// Each byte of an instruction is the first one in a page that can't be run.
	add := "\x81\x05" + little(0x100, 1)
	for k := 1; k < len(add); k++ {
		pc := uint32(256 - k)
		i := of(guest(strings.Repeat(nop, 256-k)+add[:k]), func(s *api.State) { s.PC = pc })
		faults(t, i, faulted(api.FPage, pc, 256, x))
	}
	// No instruction; one that isn't in here.
	for _, pc := range []uint32{0, 9, 254} {
		fill := strings.Repeat(nop, int(pc))
		i := of(guest(fill+"\x0f\x0b"), func(s *api.State) { s.PC = pc })
		faults(t, i, faulted(api.FInsn, pc, 0, 0))
		i = of(guest(fill+"\xf4"), func(s *api.State) { s.PC = pc })
		faults(t, i, faulted(api.FOther, pc, 0, 0))
	}
}

// doings: code that faults in its doing in someState, by each way.
var doings = []struct {
	code       string
	kind       int
	addr, want uint32
}{
	{"\x8b\x05" + little(0x300), api.FPage, 0x300, r}, // mov eax,[..]
	{"\x8b\x05" + little(0x2fd), api.FPage, 0x300, r},
	{"\x8b\x05" + little(0x500), api.FPage, 0x500, r},
	{"\x8b\x05" + little(1<<14-1), api.FPage, 1<<14 - 1, r},
	{"\x8b\x05" + little(last), api.FPage, last, r},
	{"\x89\x05" + little(0x200), api.FPage, 0x200, w}, // mov [..],eax
	{"\x89\x05" + little(0x1fd), api.FPage, 0x200, w},
	{"\xc6\x05" + little(0x2ff) + "a", api.FPage, 0x2ff, w}, // mov byte [..],97
	{"\x81\x05" + little(0x200, 1), api.FPage, 0x200, w},    // add [..],1
	{"\x81\x05" + little(0x300, 1), api.FPage, 0x300, r},
	{"\x81\x3d" + little(0x400, 1), api.FPage, 0x400, r}, // cmp [..],1
	{"\x87\x05" + little(0x1fe), api.FPage, 0x200, w},    // xchg [..],eax
	{"\xff\x35" + little(0x500), api.FPage, 0x500, r},    // push [..]
	{"\xff\x15" + little(0x500), api.FPage, 0x500, r},    // call [..]
	{"\xff\x25" + little(0x500), api.FPage, 0x500, r},    // jmp [..]
	{"\xf7\x35" + little(0x500), api.FPage, 0x500, r},    // div [..]
	{"\xdd\x05" + little(0x2fc), api.FPage, 0x300, r},    // fld [..]
	{"\xdd\x1d" + little(0x1fc), api.FPage, 0x200, w},    // fst [..]
	{"\xa5", api.FPage, 0x2b2a2928, r},                   // movs
	{"\xab", api.FPage, 0x2f2e2d2c, w},                   // stos
	{"\xf3\xa5", api.FPage, 0x2b2a2928, r},               // rep movs
	{"\xf3\xab", api.FPage, 0x2f2e2d2c, w},               // rep stos
	{"\xf7\xf0", api.FDivide, 0, 0},                      // div eax
	{"\xf7\xf9", api.FDivide, 0, 0},                      // idiv ecx
}

func TestDoingFaultsP15_1(t *testing.T) {
	for _, c := range doings {
		faults(t, guest(c.code), faulted(c.kind, 0, c.addr, int(c.want)))
		// Behind two others, at another place.
		i := of(guest(strings.Repeat(nop, 50)+c.code), func(s *api.State) { s.PC = 48 })
		want := fresh(t, i)
		want.s.PC, want.outcome, want.steps = 50, faulted(c.kind, 50, c.addr, int(c.want)), 2
		o := started(t, i, nil, "")
		if v := o.Run(100); v != want.outcome {
			t.Errorf("%x: %+v, want %+v", c.code, v, want.outcome)
		}
		want.is(t, o)
	}
}

// By nought; the stack at places that aren't there.
func TestRegistersFaultP15_1(t *testing.T) {
	for _, c := range []struct {
		code   string
		change func(s *api.State)
		want   api.Outcome
	}{
		{"\xf7\xf1", func(s *api.State) { s.R[api.ECX] = 0 }, faulted(api.FDivide, 0, 0, 0)},
		{"\xf7\xf9", func(s *api.State) { s.R[api.ECX] = 0 }, faulted(api.FDivide, 0, 0, 0)},
		{"\x50", func(s *api.State) { s.R[api.ESP] = 0x300 }, faulted(api.FPage, 0, 0x2fc, w)},
		{"\x50", func(s *api.State) { s.R[api.ESP] = 0x202 }, faulted(api.FPage, 0, 0x200, w)},
		{"\x50", func(s *api.State) { s.R[api.ESP] = 0 }, faulted(api.FPage, 0, last-3, w)},
		{"\x58", func(s *api.State) { s.R[api.ESP] = 0x2fe }, faulted(api.FPage, 0, 0x300, r)},
		{"\xc3", func(s *api.State) { s.R[api.ESP] = 0x400 }, faulted(api.FPage, 0, 0x400, r)},
		{"\xe8" + little(0), func(s *api.State) { s.R[api.ESP] = 0x204 }, faulted(api.FPage, 0, 0x200, w)},
		{"\xff\xd0", func(s *api.State) { s.R[api.ESP] = 0x504 }, faulted(api.FPage, 0, 0x500, w)},
	} {
		faults(t, of(guest(c.code), c.change), c.want)
	}
}

// A repeated instruction is a step each time; where it faults stays what it did.
func TestRepP15_1(t *testing.T) {
	i := of(guest("\xf3\xab"+exit), func(s *api.State) { s.R[api.ECX], s.R[api.EDI], s.DF = 4, 0x1f8, false })
	o := started(t, i, nil, "")
	want := fresh(t, i)
	for k := range uint32(2) {
		if !o.Step() {
			t.Fatal("it ends")
		}
		put(want.m, 0x1f8+4*k, little(0x13121110))
		want.s.R[api.ECX], want.s.R[api.EDI], want.steps = 3-k, 0x1fc+4*k, int(k+1)
		want.is(t, o)
	}
	if o.Step() {
		t.Fatal("it goes on")
	}
	want.outcome = faulted(api.FPage, 0, 0x200, w)
	want.is(t, o)

	for n, steps := range map[uint32]int{0: 1, 1: 1, 2: 2, 40: 40} {
		i := of(guest("\xf3\xa5"+exit), func(s *api.State) {
			s.R[api.ECX], s.R[api.ESI], s.R[api.EDI], s.DF = n, 0x200, 0x600, false
		})
		o := started(t, i, nil, "")
		if v := o.Run(steps); v != (api.Outcome{}) || o.State().PC != 2 || o.Steps() != steps {
			t.Errorf("%d: %+v, %+v", n, v, o.State())
		}
		if v := o.Run(2); v != exited(0x1f1e1d1c) || o.Steps() != steps+2 {
			t.Errorf("%d: %+v behind %d steps", n, v, o.Steps())
		}
		want := loaded(t, i.Spans)
		put(want, 0x600, many(2)[:4*n])
		if !o.Memory().Same(want) {
			t.Errorf("%d: the memory isn't as it should be", n)
		}
	}
}

// Ends

func TestExitP15_1(t *testing.T) {
	for _, code := range []uint32{0, 1, 2, 42, 255, 256, 1<<16 - 1, 1 << 16, 1<<31 - 1, 1 << 31, 0x12345678, minus38, last} {
		i := of(guest(ask+nop), func(s *api.State) { s.R[api.EAX], s.R[api.EBX] = 1, code })
		o := started(t, i, []uint32{9}, "input")
		if o.Step() {
			t.Errorf("code %#x: it goes on", code)
		}
		want := fresh(t, i)
		want.s.PC, want.s.R[api.EAX] = 2, code
		want.events = []api.Event{{N: 1, B: code, C: 0x17161514, D: 0x1b1a1918, Result: code}}
		want.outcome, want.steps = exited(code), 1
		want.is(t, o)
	}
	// Behind others; the instruction behind it counts for nothing.
	for _, behind := range []string{"", nop, stay, "\xf4"} {
		i := guest(mov(api.EBX, 77) + exit + behind)
		o := started(t, i, nil, "")
		if !o.Step() || !o.Step() || o.Step() {
			t.Error("it ends elsewhere")
		}
		want := fresh(t, i)
		want.s.PC, want.s.R[api.EAX], want.s.R[api.EBX] = 12, 77, 77
		want.events = []api.Event{{N: 1, B: 77, C: 0x17161514, D: 0x1b1a1918, Result: 77}}
		want.outcome, want.steps = exited(77), 3
		want.is(t, o)
	}
	// At the end of all that can be run.
	i := of(guest(strings.Repeat(nop, 249)+exit), func(s *api.State) { s.PC = 249 })
	o := started(t, i, nil, "")
	if v := o.Run(9); v != exited(0x1f1e1d1c) || o.State().PC != 256 || o.Steps() != 2 {
		t.Errorf("%+v behind %d steps", v, o.Steps())
	}
}

// enders: code that ends, by each way, with how many steps are done and what comes of it.
var enders = []struct {
	code  string
	steps int
	want  api.Outcome
}{
	{exit, 2, exited(0x1f1e1d1c)},
	{nop + nop + mov(api.EBX, 0) + exit, 5, exited(0)},
	{"\xf4", 0, faulted(api.FOther, 0, 0, 0)},
	{nop + "\x0f\x0b", 1, faulted(api.FInsn, 1, 0, 0)},
	{"\xff\xe5", 1, faulted(api.FPage, 0x27262524, 0x27262524, x)},
	{nop + nop + nop + "\x8b\x05" + little(0x300), 3, faulted(api.FPage, 3, 0x300, r)},
	{"\x50\x50\x50\x89\x05" + little(0x203), 3, faulted(api.FPage, 3, 0x203, w)},
	{"\x99\x42\xf7\xf0", 3, faulted(api.FOther, 4, 0, 0)}, // cdq; inc edx; div eax
	{calling(20, 1, 0, 3) + "\xf7\xf1", 5, faulted(api.FDivide, 22, 0, 0)},
	{calling(91, 0, 1, 0) + nop, 5, faulted(api.FPage, 22, 22, x)},
}

// Behind an end nothing is done, however often and by whatever it is asked.
func TestBehindTheEndP15_1(t *testing.T) {
	for _, c := range enders {
		o := started(t, guest(c.code), []uint32{7}, "input")
		for n := 0; o.Step(); n++ {
			if n > c.steps || o.Outcome() != (api.Outcome{}) || o.Steps() != n+1 {
				t.Fatalf("%x: %+v behind %d steps", c.code, o.Outcome(), o.Steps())
			}
		}
		was := seenOf(o)
		if was.outcome != c.want || was.steps != c.steps {
			t.Errorf("%x: %+v behind %d steps, want %+v behind %d", c.code, was.outcome, was.steps, c.want, c.steps)
		}
		for _, n := range []int{0, -1, 1, 2, 100000, 100001, math.MaxInt, math.MinInt} {
			if o.Step() {
				t.Errorf("%x: it goes on", c.code)
			}
			was.is(t, o)
			if v := o.Run(n); v != c.want {
				t.Errorf("%x: Run(%d) tells %+v, want %+v", c.code, n, v, c.want)
			}
			was.is(t, o)
		}
	}
}

// Run

// Of as many steps as there are, fewer and more, none, and fewer than none.
func TestRunP15_1(t *testing.T) {
	for _, c := range enders {
		for _, n := range []int{math.MinInt, -100000, -2, -1, 0, 1, c.steps - 1, c.steps, c.steps + 1, c.steps + 2, 50} {
			o := started(t, guest(c.code), []uint32{7}, "input")
			v := o.Run(n)
			// An end by a call is the last step that is done; a fault comes behind it.
			steps, want := min(max(n, 0), c.steps), api.Outcome{}
			if c.want.Kind == api.Exited && n >= c.steps || c.want.Kind == api.Faulted && n > c.steps {
				want = c.want
			}
			if v != want || o.Outcome() != want || o.Steps() != steps {
				t.Errorf("%x: Run(%d) tells %+v behind %d steps, want %+v behind %d", c.code, n, v, o.Steps(), want, steps)
			}
		}
	}
}

// A second Run goes on where the first one came to.
func TestRunGoesOnP15_1(t *testing.T) {
	i := guest(factorial)
	for a := range 52 {
		for b := range 52 - a {
			o := started(t, i, nil, "")
			o.Run(a)
			v := o.Run(b)
			one := started(t, i, nil, "")
			if w := one.Run(a + b); v != w {
				t.Fatalf("%d, %d: %+v, want %+v", a, b, v, w)
			}
			seenOf(one).is(t, o)
			if o.Steps() != min(a+b, 48) {
				t.Fatalf("%d, %d: %d steps", a, b, o.Steps())
			}
		}
	}
}

// At most 100000 steps by one Run.
func TestLongRunsP15_1(t *testing.T) {
	o := started(t, guest(stay), nil, "")
	want := 0
	for _, c := range [][2]int{
		{99999, 99999}, {100000, 100000}, {100001, 100000}, {0, 0}, {-1, 0}, {math.MinInt, 0},
		{1000000, 100000}, {math.MaxInt, 100000}, {1 << 32, 100000}, {1<<32 + 1, 100000}, {1, 1},
	} {
		want += c[1]
		if v := o.Run(c[0]); v != (api.Outcome{}) || o.Steps() != want {
			t.Fatalf("Run(%d): %+v, %d steps, want %d", c[0], v, o.Steps(), want)
		}
	}
	if s := o.State(); s != someState() {
		t.Errorf("%+v", s)
	}
}

// counting tells code that does so many steps, the last of them the end.
func counting(steps int) string {
	n := (steps - 4) / 2
	// mov ecx,n; dec ecx; jne to it
	return strings.Repeat(nop, 1+steps%2) + mov(api.ECX, uint32(n)) + "\x49\x75\xfd" + exit
}

func TestEndsAtMostP15_1(t *testing.T) {
	for _, c := range []struct {
		steps, first int
		ends         bool
	}{{99999, 99999, true}, {100000, 100000, true}, {100001, 100000, false}, {100002, 100000, false}} {
		o := started(t, guest(counting(c.steps)), nil, "")
		if v := o.Run(math.MaxInt); (v == exited(0x1f1e1d1c)) != c.ends || !c.ends && v != (api.Outcome{}) || o.Steps() != c.first {
			t.Errorf("%d: %+v behind %d steps", c.steps, v, o.Steps())
		}
		if v := o.Run(c.steps - c.first); v != exited(0x1f1e1d1c) || o.Steps() != c.steps {
			t.Errorf("%d: %+v behind %d steps", c.steps, v, o.Steps())
		}
	}
}

// Guests that do something

// factorial: 6! by calls of itself, told as the end's code.
const factorial = "\xb8\x06\x00\x00\x00" + // 0: mov eax,6
	"\xe8\x09\x00\x00\x00" + // 5: call 19
	"\x89\xc3" + // 10: mov ebx,eax
	exit + // 12
	"\x83\xf8\x01" + // 19: cmp eax,1
	"\x76\x0b" + // 22: jbe 35
	"\x50\x48" + // 24: push eax; dec eax
	"\xe8\xf4\xff\xff\xff" + // 26: call 19
	"\x59" + // 31: pop ecx
	"\x0f\xaf\xc1" + // 32: imul eax,ecx
	"\xc3" // 35: ret

func TestCallsAndReturnsP15_1(t *testing.T) {
	i := guest(factorial)
	o := started(t, i, nil, "")
	if v := o.Run(48); v != exited(720) || o.Steps() != 48 {
		t.Errorf("%+v behind %d steps", v, o.Steps())
	}
	want := i.S
	want.PC = 19
	want.R[api.EAX], want.R[api.EBX], want.R[api.ECX] = 720, 720, 6
	want.Fl = api.Flags{} // of a product that doesn't go beyond; the others are those of 1 - 1
	if s := o.State(); s.R != want.R || s.PC != want.PC || s.F != want.F || s.DF != want.DF || s.Fl.CF || s.Fl.OF || !s.Fl.ZF {
		t.Errorf("%+v", s)
	}
	m := loaded(t, i.Spans)
	at := uint32(508)
	put(m, at, little(10))
	for n := uint32(6); n > 1; n-- {
		put(m, at-8, little(31, n))
		at -= 8
	}
	if !o.Memory().Same(m) {
		t.Error("the stack isn't as it should be")
	}
}

func TestLoopP15_1(t *testing.T) {
	// mov ecx,10; mov ebx,0; add ebx,ecx; dec ecx; jne to the add
	i := guest(mov(api.ECX, 10) + mov(api.EBX, 0) + "\x01\xcb\x49\x75\xfb" + exit)
	o := started(t, i, nil, "")
	sum, want := uint32(0), 2
	for n := uint32(10); n > 0; n-- {
		want += 3
		sum += n
		o.Run(want - o.Steps())
		if s := o.State(); s.R[api.EBX] != sum || s.R[api.ECX] != n-1 || (s.PC == 10) != (n != 1) {
			t.Fatalf("%d: %+v", n, s)
		}
	}
	if v := o.Run(9); v != exited(55) || o.Steps() != 34 {
		t.Errorf("%+v behind %d steps", v, o.Steps())
	}
}

// What is stored into the code counts for the next instruction.
func TestStoresIntoOwnCodeP15_1(t *testing.T) {
	// mov byte [7],43: what is at 7 is inc ebx then
	i := guest("\xc6\x05\x07\x00\x00\x00\x43" + "\x40" + exit)
	o := started(t, i, nil, "")
	if v := o.Run(9); v != exited(0x1f1e1d1d) || o.Steps() != 4 {
		t.Errorf("%+v behind %d steps", v, o.Steps())
	}

	// inc eax; add [0],8; jmp 0: inc eax, then dec eax, then push eax, then pop eax, then none
	i = guest("\x40\x83\x05\x00\x00\x00\x00\x08\xeb\xf6")
	o = started(t, i, nil, "")
	for k, want := range [][2]uint32{{0x13121111, 512}, {0x13121110, 512}, {0x13121110, 508}, {0x13121110, 512}} {
		if !o.Step() {
			t.Fatalf("%d: %+v", k, o.Outcome())
		}
		if s := o.State(); s.R[api.EAX] != want[0] || s.R[api.ESP] != want[1] || s.PC != 1 {
			t.Errorf("%d: %+v", k, s)
		}
		if b := word(o.Memory(), 0); b&0xff != uint32(0x40+8*k) {
			t.Errorf("%d: %#x", k, b)
		}
		o.Run(2)
	}
	if v := o.Run(1); v != faulted(api.FOther, 0, 0, 0) || o.Steps() != 12 {
		t.Errorf("%+v behind %d steps", v, o.Steps())
	}

	// What is stored behind an instruction's own first byte doesn't count for it any more.
	i = guest("\xc7\x05\x02\x00\x00\x00\x0f\x0b\x0f\x0b" + mov(api.EBX, 3) + exit)
	if o := started(t, i, nil, ""); o.Run(9) != exited(3) {
		t.Errorf("%+v", o.Outcome())
	}
}

// What is answered, and handed in

// What is handed in isn't changed, nor is what an oracle tells changed by what becomes of it.
func TestHandedInP15_1(t *testing.T) {
	code := calling(20, 0, 0, 0) + calling(3, 0, 0x100, 9) + calling(20, 0, 0, 0) + exit
	spare := append(guest(code).Spans, api.Span{Page: 50, Count: 3, Rights: 3, Bytes: "spare"}, api.Span{Page: 1})
	replies := []uint32{1, 70, 80, 90, 2}
	wasSpans, wasReplies := slices.Clone(spare), slices.Clone(replies)
	alone := started(t, guest(code), []uint32{70, 80, 90}, "input")

	i := api.Image{S: someState(), Spans: spare[:6]}
	first := started(t, i, replies[1:4], "input")
	second := started(t, i, replies[1:4], "input")
	for range 9 {
		first.Step()
	}
	if !slices.Equal(spare, wasSpans) || !slices.Equal(replies, wasReplies) || i.S != someState() {
		t.Error("what was handed in is changed")
	}
	clear(spare)
	clear(replies)
	for _, o := range []*Oracle{first, second, alone} {
		o.Run(100)
	}
	for _, o := range []*Oracle{first, second} {
		seenOf(alone).is(t, o)
	}
	if e := alone.Events(); alone.Outcome() != exited(0) || len(e) != 4 || e[0].Result != 70 || e[1].Bytes != "input" || e[2].Result != 80 {
		t.Errorf("%+v, %+v", alone.Outcome(), e)
	}
}

// What was told stays as it was, whatever the oracle does, and what is done with it reaches
// neither the oracle nor what is told otherwise.
func TestToldP15_1(t *testing.T) {
	// push eax; mov eax,20; int 128; jmp to itself
	o := started(t, guest("\x50"+mov(api.EAX, 20)+ask+"\xeb\xf6"), []uint32{70, 80}, "input")
	for n := range 260 {
		told := seenOf(o)
		was := seen{told.s, told.m.Copy(), slices.Clone(told.events), told.outcome, told.steps}
		other := seenOf(o)
		other.s.R[0]++
		fine(t, other.m.Poke(0, []byte("\xf4")))
		fine(t, other.m.Protect(0, 2, r))
		clear(other.events[:cap(other.events)])
		was.is(t, o)
		o.Step()
		if n%4 == 2 && len(o.Events()) == 0 {
			t.Fatal("no event")
		}
		if told.s != was.s || !told.m.Same(was.m) || !slices.Equal(told.events, was.events) {
			t.Fatalf("what was told behind %d steps is changed", n)
		}
		a, b := o.Events(), o.Events()
		c, d := append(a, api.Event{N: 98}), append(b, api.Event{N: 99})
		if c[len(a)].N != 98 || d[len(b)].N != 99 {
			t.Fatal("two answers share their spare room")
		}
	}
}

// To look at an oracle changes nothing of it.
func TestLookedAtP15_1(t *testing.T) {
	a, b := started(t, guest(factorial), nil, ""), started(t, guest(factorial), nil, "")
	for n := 0; n < 100 && b.Step(); n++ {
		for range 3 {
			seenOf(b)
		}
	}
	a.Run(100)
	seenOf(a).is(t, b)
}

// Oracles beside each other go their own ways, also those of one image.
func TestBesideEachOtherP15_1(t *testing.T) {
	var all []*Oracle
	// The reply is stored; the input is put where the guest would stay, and is mov bl,.. then.
	code := mov(api.EAX, 20) + ask + "\x89\x05" + little(0x140) + calling(3, 0x100, 35, 2) + stay + exit
	for n := range uint32(12) {
		all = append(all, started(t, guest(code), []uint32{1000 + n}, "\xb3"+string([]byte{byte(n)})))
	}
	for n := range 8 {
		for k, o := range all {
			if k%3 != n%3 {
				o.Step()
			}
		}
	}
	for k, o := range all {
		n := uint32(k)
		if v := o.Run(20); v != exited(0x100+n) || o.Steps() != 11 || word(o.Memory(), 0x140) != 1000+n {
			t.Errorf("%d: %+v behind %d steps", k, v, o.Steps())
		}
		if e := o.Events(); len(e) != 3 || e[0].Result != 1000+n || e[1].Bytes != "\xb3"+string([]byte{byte(n)}) || e[2].Result != 0x100+n {
			t.Errorf("%d: %+v", k, e)
		}
	}
}

// As many at once: each tells what it tells by itself.
func TestAtOnceP15_1(t *testing.T) {
	alone := started(t, guest(counting(3001)), nil, "")
	alone.Run(10000)
	want := seenOf(alone)
	var all sync.WaitGroup
	for range 8 {
		all.Go(func() {
			o, e := New(guest(counting(3001)), nil, "")
			if e != api.OK || o.Run(10000) != want.outcome || o.State() != want.s || !o.Memory().Same(want.m) || o.Steps() != 3001 {
				t.Error("two runs of the same differ")
			}
		})
	}
	all.Wait()
}
