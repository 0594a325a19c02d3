package call

import (
	"math"
	"math/rand"
	"slices"
	"strings"
	"sync"
	"testing"

	"ferryman/api"
	"ferryman/page"
)

const (
	r   = api.CanRead
	w   = api.CanWrite
	x   = api.CanRun
	rw  = r | w
	rwx = r | w | x

	minus14 = 0xfffffff2
	minus22 = 0xffffffea
	minus38 = 0xffffffda

	last = math.MaxUint32 // of all places
)

// others: numbers that are no call's, at the edges and beside those that are.
var others = []uint32{
	0, 2, 5, 6, 20, 90, 92, 124, 126, 127, 128, 191, 193, 199, 200, 255, 256, 257, 259, 260, 347, 381, 448,
	1<<15 - 1, 1 << 15, 1<<16 - 1, 1<<16 + 1, 1<<16 + 3, 1<<16 + 4, 1<<16 + 91, 1<<16 + 125, 1<<16 + 192,
	1<<31 - 1, 1 << 31, 1<<31 + 1, 1<<31 + 3, 1<<31 + 4, 1<<31 + 91, 1<<31 + 125, 1<<31 + 192,
	last - 192, last - 191, last - 125, last - 124, last - 91, last - 90, last - 4, last - 3, last - 2, last - 1, last,
}

// named: the numbers of the calls that the document names.
var named = []uint32{1, 3, 4, 91, 125, 192}

// words: words at their edges.
var words = []uint32{0, 1, 2, 7, 8, 63, 64, 65, 255, 256, 257, 1<<14 - 1, 1 << 14, 1<<16 - 1, 1 << 16, 1<<31 - 1, 1 << 31, 1<<31 + 1, last - 255, last - 63, last - 1, last}

// asking tells a state of which each byte is another one, but for the call and its arguments.
func asking(n, b, c, d uint32) api.State {
	s := api.State{
		R:  [8]uint32{0, 0, 0, 0, 0x23222120, 0x27262524, 0x2b2a2928, 0x2f2e2d2c},
		PC: 0x33323130,
		Fl: api.Flags{CF: true, AF: true, SF: true},
		DF: true,
		F:  0xa7a6a5a4a3a2a1a0,
	}
	s.R[api.EAX], s.R[api.EBX], s.R[api.ECX], s.R[api.EDX] = n, b, c, d
	return s
}

// many tells a page's worth of bytes, none of them nought.
func many(seed int) []byte {
	b := make([]byte, 256)
	for i := range b {
		b[i] = byte(1 + (7*i+31*seed)%255)
	}
	return b
}

// text tells n bytes of input, none of them nought, unlike what pages have.
func text(n int) string {
	b := make([]byte, n)
	for i := range b {
		b[i] = byte(1 + (11*i+128)%255)
	}
	return string(b)
}

// mapped tells a memory of pages from first on with these rights (0: unmapped), none of their
// bytes nought.
func mapped(t *testing.T, first int, rights ...int) *page.Memory {
	t.Helper()
	m := page.New()
	for i, rt := range rights {
		if rt == 0 {
			continue
		}
		ok(t, m.Map(first+i, 1, rt))
		ok(t, m.Poke(uint32(256*(first+i)), many(first+i)))
	}
	return m
}

// holed tells a memory of pages with rights of all kinds, and of none, beside one another.
func holed(t *testing.T) *page.Memory {
	t.Helper()
	var l [api.Pages]int
	for p := range l {
		l[p] = (p*5 + p/8) % 8
	}
	return mapped(t, 0, l[:]...)
}

// ok fails, if e isn't OK.
func ok(t *testing.T, e api.Errno) {
	t.Helper()
	if e != api.OK {
		t.Fatal(e)
	}
}

// given tells m as it is with these bytes at a place.
func given(t *testing.T, m *page.Memory, at uint32, b string) *page.Memory {
	t.Helper()
	o := m.Copy()
	ok(t, o.Poke(at, []byte(b)))
	return o
}

// want: what comes of a call: its result, its event's bytes, whether the guest ends, how many
// replies and bytes of input are gone, and the memory, nil if it is to be as it was.
type want struct {
	result         uint32
	bytes          string
	ends           bool
	replies, input int
	m              *page.Memory
}

// does fails, if anything else comes of a call than is wanted.
func does(t *testing.T, c *Calls, m *page.Memory, s api.State, is want) {
	t.Helper()
	if is.m == nil {
		is.m = m.Copy()
	}
	replies, input := c.Left()
	events := c.Events()
	got, ends := c.Do(m, s)
	after := s
	after.R[api.EAX] = is.result
	if got != after || ends != is.ends {
		t.Errorf("%d of %#x: %+v, %v, want %+v, %v", s.R[api.EAX], s.R[1:4], got, ends, after, is.ends)
	}
	if !m.Same(is.m) {
		t.Errorf("%d of %#x: the memory isn't as it should be", s.R[api.EAX], s.R[1:4])
	}
	if a, b := c.Left(); a != replies-is.replies || b != input-is.input {
		t.Errorf("%d of %#x: %d replies and %d bytes of input are left of %d, %d", s.R[api.EAX], s.R[1:4], a, b, replies, input)
	}
	events = append(events, api.Event{N: s.R[api.EAX], B: s.R[api.EBX], C: s.R[api.ECX], D: s.R[api.EDX], Result: is.result, Bytes: is.bytes})
	if len(events) > 200 {
		events = events[len(events)-200:]
	}
	tells(t, c, events)
}

// tells fails, if c tells other events.
func tells(t *testing.T, c *Calls, want []api.Event) {
	t.Helper()
	got := c.Events()
	if len(got) != len(want) {
		t.Fatalf("%d events, want %d", len(got), len(want))
	}
	for i, e := range want {
		if got[i] != e {
			t.Fatalf("event %d of %d: %+v, want %+v", i, len(want), got[i], e)
		}
	}
}

// left fails, if c tells that something else is left.
func left(t *testing.T, c *Calls, replies, input int) {
	t.Helper()
	if a, b := c.Left(); a != replies || b != input {
		t.Errorf("%d, %d are left, want %d, %d", a, b, replies, input)
	}
}

func TestExampleP14_1(t *testing.T) {
	c := New([]uint32{7}, "")
	s, ends := c.Do(page.New(), api.State{R: [8]uint32{api.EAX: 20}})
	if s != (api.State{R: [8]uint32{api.EAX: 7}}) || ends {
		t.Errorf("%+v, %v", s, ends)
	}
	tells(t, c, []api.Event{{N: 20, Result: 7}})
	left(t, c, 0, 0)
}

func TestNewP14_1(t *testing.T) {
	for _, n := range []int{0, 1, 2, 64, 65, 1000} {
		for _, k := range []int{0, 1, 2, 64, 65, 1000} {
			c := New(make([]uint32, k), text(n))
			left(t, c, k, n)
			tells(t, c, nil)
		}
	}
	left(t, New(nil, ""), 0, 0)
	left(t, New([]uint32{}, ""), 0, 0)
}

// Ends

func TestEndP14_1(t *testing.T) {
	m := holed(t)
	for _, b := range append(words, 0x12345678) {
		c := New([]uint32{5, 6}, "input")
		does(t, c, m, asking(1, b, 0x100, 4), want{result: b, ends: true})
	}
	// What is in the other arguments counts for nothing.
	for _, v := range words {
		does(t, New([]uint32{5}, "input"), m, asking(1, 9, v, ^v), want{result: 9, ends: true})
	}
}

// Calls hang on what was told of them alone: they go on behind an end, if they are asked.
func TestBehindAnEndP14_1(t *testing.T) {
	c, m := New([]uint32{5, 6}, "input"), mapped(t, 0, rw)
	does(t, c, m, asking(20, 0, 0, 0), want{result: 5, replies: 1})
	does(t, c, m, asking(1, 3, 0, 0), want{result: 3, ends: true})
	does(t, c, m, asking(20, 0, 0, 0), want{result: 6, replies: 1})
	does(t, c, m, asking(3, 0, 0, 9), want{result: 5, bytes: "input", input: 5, m: given(t, m, 0, "input")})
	does(t, c, m, asking(1, 4, 0, 0), want{result: 4, ends: true})
}

// What is left in the registers beside the arguments is as it was, whatever it is; so are the
// flags, the direction, the number, the place.
func TestStateP14_1(t *testing.T) {
	g := rand.New(rand.NewSource(14))
	for range 4000 {
		c, m := New([]uint32{5}, "input"), mapped(t, 0, rw, rw)
		n := named[g.Intn(len(named))]
		if g.Intn(3) == 0 {
			n = others[g.Intn(len(others))]
		}
		s := api.State{PC: g.Uint32(), DF: g.Intn(2) == 0, F: g.Uint64()}
		for i := range s.R {
			s.R[i] = g.Uint32() >> (g.Intn(4) * 8)
		}
		s.R[api.EAX] = n
		s.Fl = api.Flags{CF: g.Intn(2) == 0, PF: g.Intn(2) == 0, AF: g.Intn(2) == 0, ZF: g.Intn(2) == 0, SF: g.Intn(2) == 0, OF: g.Intn(2) == 0}
		got, ends := c.Do(m, s)
		e := c.Events()[0]
		s.R[api.EAX] = e.Result
		if got != s || ends != (n == 1) {
			t.Fatalf("%d: %+v, want %+v; %v", n, got, s, ends)
		}
	}
}

// Replies

func TestRepliesP14_1(t *testing.T) {
	replies := []uint32{7, 0, last, 1 << 31, 0x12345678, 7, minus38}
	c, m := New(replies, "input"), holed(t)
	left(t, c, 7, 5)
	for i, v := range replies {
		does(t, c, m, asking(others[3*i], uint32(i), 0, 4), want{result: v, replies: 1})
		left(t, c, 6-i, 5)
	}
	for _, n := range others {
		does(t, c, m, asking(n, 1, 2, 3), want{result: minus38})
		left(t, c, 0, 5)
	}
}

// All numbers that aren't named are given a reply, and no other one is.
func TestNumbersP14_1(t *testing.T) {
	is := map[uint32]bool{}
	for _, n := range named {
		is[n] = true
	}
	numbers := slices.Clone(others)
	for n := range uint32(1025) {
		numbers = append(numbers, n, last-n)
	}
	for _, n := range named {
		for k := range 32 {
			numbers = append(numbers, n^1<<k, n+1<<k, n-1<<k)
		}
	}
	m := page.New()
	for _, n := range numbers {
		for k := range 3 {
			c := New([]uint32{77, 78}[:k], "")
			s, ends := c.Do(m, asking(n, 0, 0, 0))
			after, _ := c.Left()
			switch {
			case is[n]:
				if after != k || ends != (n == 1) || s.R[api.EAX] == 77 || s.R[api.EAX] == minus38 {
					t.Fatalf("%d: %d of %d replies left, %v, %#x", n, after, k, ends, s.R[api.EAX])
				}
			case k == 0 && s.R[api.EAX] == minus38 && after == 0 && !ends:
			case k != 0 && s.R[api.EAX] == 77 && after == k-1 && !ends:
			default:
				t.Fatalf("%d: %#x, %d of %d replies left, %v", n, s.R[api.EAX], after, k, ends)
			}
		}
	}
}

// What isn't named does nothing with its arguments.
func TestOthersArgumentsP14_1(t *testing.T) {
	m := holed(t)
	for _, n := range others {
		for i, v := range words {
			c := New([]uint32{5, 6}, "input")
			b := words[(i+1)%len(words)]
			does(t, c, m, asking(n, b, v, ^b), want{result: 5, replies: 1})
			does(t, c, m, asking(n, v, b, v), want{result: 6, replies: 1})
			does(t, c, m, asking(n, b, b, b), want{result: minus38})
		}
	}
}

// Reading

// Of all lengths of what is left, and all that is asked for: as many bytes as there are.
func TestReadingP14_1(t *testing.T) {
	for _, l := range []int{0, 1, 2, 5, 62, 63, 64, 65, 66, 127, 128, 129, 300} {
		for _, d := range append(words, 3, 5, 6, 61, 62, 66, 127, 128, 129, 1<<8, 1<<8+3, 1<<32-64) {
			n := l
			if n > 64 {
				n = 64
			}
			if uint64(d) < uint64(n) {
				n = int(d)
			}
			c, m := New([]uint32{5}, text(l)), mapped(t, 1, rw, rwx)
			b := text(l)[:n]
			does(t, c, m, asking(3, 0x11223344, 300, d), want{result: uint32(n), bytes: b, input: n, m: given(t, m, 300, b)})
			left(t, c, 1, l-n)
		}
	}
}

// One call goes on where the other one ended, until nothing is left.
func TestReadingOnP14_1(t *testing.T) {
	for _, step := range []int{1, 2, 7, 63, 64, 65, 1000} {
		c, m := New(nil, text(200)), mapped(t, 0, rw)
		for from := 0; from < 200; {
			n := min(step, 64, 200-from)
			b := text(200)[from : from+n]
			does(t, c, m, asking(3, 0, 10, uint32(step)), want{result: uint32(n), bytes: b, input: n, m: given(t, m, 10, b)})
			from += n
		}
		for range 3 {
			does(t, c, m, asking(3, 0, 10, uint32(step)), want{})
		}
	}
}

// EBX counts for nothing in reading.
func TestReadingFirstArgumentP14_1(t *testing.T) {
	for _, b := range words {
		c, m := New(nil, "input"), mapped(t, 0, rw)
		does(t, c, m, asking(3, b, 10, 3), want{result: 3, bytes: "inp", input: 3, m: given(t, m, 10, "inp")})
	}
}

// Bytes of all kinds come through, noughts and those that are no text among them.
func TestReadingBytesP14_1(t *testing.T) {
	all := make([]byte, 256)
	for i := range all {
		all[i] = byte(i)
	}
	c, m := New(nil, string(all)), mapped(t, 0, rw)
	for from := 0; from < 256; from += 64 {
		b := string(all[from : from+64])
		does(t, c, m, asking(3, 0, 100, 64), want{result: 64, bytes: b, input: 64, m: given(t, m, 100, b)})
		does(t, c, m, asking(4, 0, 100, 64), want{result: 64, bytes: b})
	}
}

// Where nothing is asked for, or nothing is left, no byte is one that can't be written.
func TestReadingNothingP14_1(t *testing.T) {
	m := holed(t)
	for _, at := range append(words, 256*5, 256*6) {
		c := New(nil, "input")
		does(t, c, m, asking(3, 0, at, 0), want{})
		left(t, c, 0, 5)
		does(t, New(nil, ""), m, asking(3, 0, at, 64), want{})
		does(t, New(nil, ""), m, asking(3, 0, at, last), want{})
		does(t, New(nil, ""), m, asking(3, 0, at, 0), want{})
	}
}

// All rights of two pages beside one another, and each split of the bytes: of each it is asked
// for being written, whether it can be read or not.
func TestReadingRightsP14_1(t *testing.T) {
	for first := range 8 {
		for second := range 8 {
			for before := range 66 {
				c, m := New(nil, text(64)), mapped(t, 6, first, second)
				at := uint32(7*256 - before)
				is := want{result: 64, bytes: text(64), input: 64}
				if before > 0 && first&w == 0 || before < 64 && second&w == 0 {
					is = want{result: minus14}
				} else {
					is.m = given(t, m, at, text(64))
				}
				does(t, c, m, asking(3, 0, at, 64), is)
			}
		}
	}
}

// The one byte that can't be written is at any place among them, ahead of it and behind it others
// that can be: none is written and none is taken.
func TestReadingRefusedP14_1(t *testing.T) {
	for _, rights := range []int{0, r, x, r | x} {
		for n := 1; n <= 64; n++ {
			c, m := New([]uint32{5}, text(n)), mapped(t, 2, w, rights, w)
			// The last byte alone, then the first one alone.
			does(t, c, m, asking(3, 0, uint32(3*256-n+1), uint32(n)), want{result: minus14})
			does(t, c, m, asking(3, 0, 4*256-1, uint32(n)), want{result: minus14})
			left(t, c, 1, n)
			// One byte less, and one further on, can be.
			is := want{result: uint32(n), bytes: text(n), input: n, m: given(t, m, 4*256, text(n))}
			does(t, c, m, asking(3, 0, 4*256, uint32(n)), is)
			c = New(nil, text(n))
			is.m = given(t, m, uint32(3*256-n), text(n))
			does(t, c, m, asking(3, 0, uint32(3*256-n), uint32(n)), is)
		}
	}
}

// No more is asked to be there than is written: what is left of the input, and MaxWrite.
func TestReadingNoMoreThanThereIsP14_1(t *testing.T) {
	for _, behind := range []int{0, r, x, r | x} {
		for l := 1; l <= 64; l++ {
			m := mapped(t, 2, w, behind)
			at := uint32(3*256 - l)
			for _, d := range []uint32{uint32(l) + 1, 64, 65, 1000, last} {
				c, o := New(nil, text(l)), m.Copy()
				does(t, c, o, asking(3, 0, at, d), want{result: uint32(l), bytes: text(l), input: l, m: given(t, m, at, text(l))})
			}
		}
		m := mapped(t, 2, w, behind)
		for _, d := range []uint32{64, 65, 1000, last} {
			c, o := New(nil, text(300)), m.Copy()
			does(t, c, o, asking(3, 0, 3*256-64, d), want{result: 64, bytes: text(64), input: 64, m: given(t, m, 3*256-64, text(64))})
		}
	}
}

// The end of the pages, of the places, and the first place behind it.
func TestReadingAtTheEndsP14_1(t *testing.T) {
	m := mapped(t, 0, slices.Repeat([]int{rwx}, 64)...)
	for _, n := range []int{1, 2, 63, 64} {
		is := want{result: uint32(n), bytes: text(n), input: n}
		for _, at := range []uint32{0, 1, 255, 256, uint32(api.GuestSize - n), uint32(api.GuestSize-n) - 1} {
			c, o := New(nil, text(n)), m.Copy()
			is.m = given(t, m, at, text(n))
			does(t, c, o, asking(3, 0, at, uint32(n)), is)
		}
		for _, at := range []uint32{uint32(api.GuestSize-n) + 1, api.GuestSize - 1, api.GuestSize, api.GuestSize + 1, 1 << 16, 1 << 31, 1<<31 + 256, uint32(1<<32 - n), last - 1, last} {
			if n == 1 && at < api.GuestSize {
				continue
			}
			c := New(nil, text(n))
			does(t, c, m, asking(3, 0, at, uint32(n)), want{result: minus14})
			left(t, c, 0, n)
		}
		// Round the end of the places the pages from 0 on are there, but what is ahead isn't.
		for k := 1; k <= n; k++ {
			does(t, New(nil, text(n)), m, asking(3, 0, uint32(1<<32-k), uint32(n)), want{result: minus14})
		}
	}
}

// Writing

func TestWritingP14_1(t *testing.T) {
	m := mapped(t, 1, r, r|x)
	for _, d := range append(words, 3, 5, 6, 61, 62, 66, 127, 128, 129, 1<<8, 1<<8+3, 1<<32-64) {
		n := 64
		if d < 64 {
			n = int(d)
		}
		c := New([]uint32{5}, "input")
		does(t, c, m, asking(4, 0x11223344, 500, d), want{result: uint32(n), bytes: string(m.Peek(500, n))})
	}
	for _, b := range words {
		does(t, New(nil, "input"), m, asking(4, b, 500, 3), want{result: 3, bytes: string(m.Peek(500, 3))})
	}
}

func TestWritingNothingP14_1(t *testing.T) {
	m := holed(t)
	for _, at := range append(words, 256*5, 256*6) {
		does(t, New(nil, "input"), m, asking(4, 0, at, 0), want{})
	}
}

// All rights of two pages beside one another, and each split of the bytes: of each it is asked
// for being read, whether it can be written or not.
func TestWritingRightsP14_1(t *testing.T) {
	for first := range 8 {
		for second := range 8 {
			m := mapped(t, 6, first, second)
			for before := range 66 {
				at := uint32(7*256 - before)
				is := want{result: minus14}
				if (before == 0 || first&r != 0) && (before >= 64 || second&r != 0) {
					is = want{result: 64, bytes: string(m.Peek(at, 64))}
				}
				does(t, New(nil, "input"), m, asking(4, 0, at, 64), is)
			}
		}
	}
}

// The one byte that can't be read is at any place among them: no bytes are told.
func TestWritingRefusedP14_1(t *testing.T) {
	for _, rights := range []int{0, w, x, w | x} {
		m := mapped(t, 2, r, rights, r)
		for n := 1; n <= 64; n++ {
			c := New([]uint32{5}, "input")
			does(t, c, m, asking(4, 0, uint32(3*256-n+1), uint32(n)), want{result: minus14})
			does(t, c, m, asking(4, 0, 4*256-1, uint32(n)), want{result: minus14})
			does(t, c, m, asking(4, 0, uint32(3*256-n), uint32(n)), want{result: uint32(n), bytes: string(m.Peek(uint32(3*256-n), n))})
			does(t, c, m, asking(4, 0, 4*256, uint32(n)), want{result: uint32(n), bytes: string(m.Peek(4*256, n))})
		}
		// Above MaxWrite no more than these are asked for.
		for _, d := range []uint32{64, 65, 1000, last} {
			does(t, New(nil, ""), m, asking(4, 0, 3*256-64, d), want{result: 64, bytes: string(m.Peek(3*256-64, 64))})
			does(t, New(nil, ""), m, asking(4, 0, 3*256-63, d), want{result: minus14})
		}
	}
}

func TestWritingAtTheEndsP14_1(t *testing.T) {
	m := mapped(t, 0, slices.Repeat([]int{rwx}, 64)...)
	for _, n := range []int{1, 2, 63, 64} {
		for _, at := range []uint32{0, 1, 255, 256, uint32(api.GuestSize-n) - 1, uint32(api.GuestSize - n)} {
			does(t, New(nil, ""), m, asking(4, 0, at, uint32(n)), want{result: uint32(n), bytes: string(m.Peek(at, n))})
		}
		for _, at := range []uint32{uint32(api.GuestSize-n) + 1, api.GuestSize, api.GuestSize + 1, 1 << 16, 1 << 31, 1<<31 + 256, last - 1, last} {
			does(t, New(nil, ""), m, asking(4, 0, at, uint32(n)), want{result: minus14})
		}
		for k := 1; k <= n; k++ {
			does(t, New(nil, ""), m, asking(4, 0, uint32(1<<32-k), uint32(n)), want{result: minus14})
		}
	}
}

// What was written is read: through the input into the memory and out of it again.
func TestThereAndBackP14_1(t *testing.T) {
	c, m := New(nil, text(1000)), mapped(t, 3, rw, rw, rw, rw)
	told := ""
	for at := uint32(3 * 256); ; at += 60 {
		s, _ := c.Do(m, asking(3, 0, at, 60))
		if s.R[api.EAX] == 0 {
			break
		}
		does(t, c, m, asking(4, 1, at, s.R[api.EAX]), want{result: s.R[api.EAX], bytes: c.Events()[len(c.Events())-1].Bytes})
		told += c.Events()[len(c.Events())-1].Bytes
	}
	if told != text(1000) || string(m.Peek(3*256, 1000)) != told {
		t.Error("what was read isn't what was written")
	}
}

// Pages

// like tells m with something done to it that must go well.
func like(t *testing.T, m *page.Memory, do func(m *page.Memory) api.Errno) *page.Memory {
	t.Helper()
	o := m.Copy()
	ok(t, do(o))
	return o
}

func TestMapP14_1(t *testing.T) {
	for rights := 1; rights < 8; rights++ {
		for _, c := range []struct{ first, count int }{{0, 1}, {0, 64}, {1, 63}, {63, 1}, {62, 2}, {5, 3}, {31, 2}, {0, 63}} {
			m := page.New()
			o := like(t, m, func(m *page.Memory) api.Errno { return m.Map(c.first, c.count, rights) })
			does(t, New([]uint32{5}, "input"), m, asking(192, uint32(256*c.first), uint32(c.count), uint32(rights)), want{m: o})
		}
	}
	// Beside others, which stay as they are.
	m := mapped(t, 3, rw, 0, 0, x)
	does(t, New(nil, ""), m, asking(192, 4*256, 2, r), want{m: like(t, m, func(m *page.Memory) api.Errno { return m.Map(4, 2, r) })})
}

func TestUnmapP14_1(t *testing.T) {
	full := mapped(t, 0, slices.Repeat([]int{r, w, x, rw, rwx, r | x, w | x}, 10)[:64]...)
	for _, c := range []struct{ first, count int }{{0, 1}, {0, 64}, {1, 63}, {63, 1}, {62, 2}, {5, 3}, {31, 2}, {0, 63}} {
		// Whatever rights are named: there are none to be given.
		for _, d := range append(words, 3, 5, 9, 15, 0x87654321) {
			m := full.Copy()
			o := like(t, m, func(m *page.Memory) api.Errno { return m.Unmap(c.first, c.count) })
			does(t, New([]uint32{5}, "input"), m, asking(91, uint32(256*c.first), uint32(c.count), d), want{m: o})
		}
	}
}

func TestProtectP14_1(t *testing.T) {
	full := mapped(t, 0, slices.Repeat([]int{r, w, x, rw, rwx, r | x, w | x}, 10)[:64]...)
	for rights := 1; rights < 8; rights++ {
		for _, c := range []struct{ first, count int }{{0, 1}, {0, 64}, {1, 63}, {63, 1}, {62, 2}, {5, 3}, {31, 2}, {0, 63}} {
			m := full.Copy()
			o := like(t, m, func(m *page.Memory) api.Errno { return m.Protect(c.first, c.count, rights) })
			does(t, New([]uint32{5}, "input"), m, asking(125, uint32(256*c.first), uint32(c.count), uint32(rights)), want{m: o})
		}
	}
}

// pageCalls: the numbers of the calls about pages.
var pageCalls = []uint32{91, 125, 192}

// ready tells a memory of whose pages from 8 to 11 the call n may be asked, and the others not:
// mapped alone, or alone unmapped.
func ready(t *testing.T, n uint32) *page.Memory {
	t.Helper()
	var l [64]int
	for p := range l {
		if (p >= 8 && p < 12) == (n != 192) {
			l[p] = rw
		}
	}
	return mapped(t, 0, l[:]...)
}

// What can't be: each reason by itself, the rest being as it should.
func TestPagesRefusedP14_1(t *testing.T) {
	for _, n := range pageCalls {
		m := ready(t, n)
		refused := func(b, c, d uint32) {
			t.Helper()
			does(t, New([]uint32{5}, "input"), m, asking(n, b, c, d), want{result: minus22})
		}
		// No multiple of PageSize.
		for odd := uint32(1); odd < 256; odd++ {
			refused(8*256+odd, 1, r)
			refused(8*256-odd, 2, r)
			refused(odd<<24|8*256|odd, 1, r)
		}
		// Too many pages, none, and more than are there.
		for _, c := range []uint32{0, 5, 6, 57, 63, 64, 65, 66, 256, 257, 1<<8 + 1, 1<<16 + 1, 1<<31 + 1, 1<<31 - 1, last, last - 3} {
			refused(8*256, c, r)
		}
		// Pages that aren't there, and such as are no good.
		for _, p := range []uint32{0, 7, 12, 63, 64, 65, 72, 256, 264, 1<<16 + 8, 1<<23 + 8, 1<<24 - 1, 1<<24 - 2} {
			for _, c := range []uint32{1, 2, 64} {
				refused(256*p, c, r)
			}
		}
		for p := uint32(4); p < 13; p++ {
			for c := uint32(1); c < 9; c++ {
				if p < 8 || p+c > 12 {
					refused(256*p, c, r)
				}
			}
		}
		// Rights that are none.
		if n != 91 {
			for _, d := range []uint32{0, 8, 9, 15, 16, 0x101, 1<<16 + 1, 1 << 31, 1<<31 + 1, 1<<31 - 1, last, last - 1, 1 << 3, 1<<8 + 3} {
				refused(8*256, 1, d)
				refused(8*256, 4, d)
			}
		}
	}
}

// The same memories, and what can be: so no reason above is met by chance.
func TestPagesTakenP14_1(t *testing.T) {
	for _, n := range pageCalls {
		for p := 8; p < 12; p++ {
			for c := 1; p+c <= 12; c++ {
				for d := 1; d < 8; d++ {
					m := ready(t, n)
					o := like(t, m, func(m *page.Memory) api.Errno {
						switch n {
						case 91:
							return m.Unmap(p, c)
						case 125:
							return m.Protect(p, c, d)
						}
						return m.Map(p, c, d)
					})
					does(t, New(nil, ""), m, asking(n, uint32(256*p), uint32(c), uint32(d)), want{m: o})
				}
			}
		}
	}
}

// All pages there are: of one page, of all, of one more.
func TestPagesAtTheirEndsP14_1(t *testing.T) {
	c, m := New(nil, ""), page.New()
	full := like(t, m, func(m *page.Memory) api.Errno { return m.Map(0, 64, rw) })
	ran := like(t, full, func(m *page.Memory) api.Errno { return m.Protect(0, 64, x) })
	does(t, c, m, asking(192, 0, 65, rw), want{result: minus22})
	does(t, c, m, asking(192, 256, 64, rw), want{result: minus22})
	does(t, c, m, asking(192, 0, 64, rw), want{m: full})
	does(t, c, m, asking(192, 0, 1, rw), want{result: minus22})
	does(t, c, m, asking(125, 0, 65, x), want{result: minus22})
	does(t, c, m, asking(125, 0, 64, x), want{m: ran})
	does(t, c, m, asking(91, 0, 65, 0), want{result: minus22})
	does(t, c, m, asking(91, 256, 64, 0), want{result: minus22})
	does(t, c, m, asking(91, 0, 64, 0), want{m: page.New()})
	does(t, c, m, asking(91, 0, 64, 0), want{result: minus22})
}

// What was given back is forgotten; what has other rights isn't.
func TestPagesForgottenP14_1(t *testing.T) {
	c, m := New(nil, "input"), page.New()
	does(t, c, m, asking(192, 512, 1, rw), want{m: like(t, m, func(m *page.Memory) api.Errno { return m.Map(2, 1, rw) })})
	does(t, c, m, asking(3, 0, 512, 5), want{result: 5, bytes: "input", input: 5, m: given(t, m, 512, "input")})
	does(t, c, m, asking(125, 512, 1, w), want{m: like(t, m, func(m *page.Memory) api.Errno { return m.Protect(2, 1, w) })})
	does(t, c, m, asking(4, 0, 512, 5), want{result: minus14})
	does(t, c, m, asking(125, 512, 1, r), want{m: like(t, m, func(m *page.Memory) api.Errno { return m.Protect(2, 1, r) })})
	does(t, c, m, asking(4, 0, 512, 5), want{result: 5, bytes: "input"})
	does(t, c, m, asking(91, 512, 1, 0), want{m: page.New()})
	does(t, c, m, asking(4, 0, 512, 5), want{result: minus14})
	does(t, c, m, asking(192, 512, 1, r), want{m: like(t, m, func(m *page.Memory) api.Errno { return m.Map(2, 1, r) })})
	does(t, c, m, asking(4, 0, 512, 5), want{result: 5, bytes: "\x00\x00\x00\x00\x00"})
}

// Events

func TestEventsP14_2(t *testing.T) {
	c, m := New([]uint32{7, 8}, "some input"), mapped(t, 1, rw)
	for _, s := range []api.State{
		asking(20, 1, 2, 3),
		asking(192, 512, 1, 3),
		asking(192, 513, 1, 3),
		asking(3, 0, 510, 5),
		asking(3, 0, 9000, 5),
		asking(4, 1, 511, 3),
		asking(4, 1, 9000, last),
		asking(125, 512, 1, 4),
		asking(last, 4, 5, 6),
		asking(91, 256, 2, 99),
		asking(0, 0, 0, 0),
		asking(1, 42, 43, 44),
	} {
		c.Do(m, s)
	}
	tells(t, c, []api.Event{
		{N: 20, B: 1, C: 2, D: 3, Result: 7},
		{N: 192, B: 512, C: 1, D: 3},
		{N: 192, B: 513, C: 1, D: 3, Result: minus22},
		{N: 3, C: 510, D: 5, Result: 5, Bytes: "some "},
		{N: 3, C: 9000, D: 5, Result: minus14},
		{N: 4, B: 1, C: 511, D: 3, Result: 3, Bytes: "ome"},
		{N: 4, B: 1, C: 9000, D: last, Result: minus14},
		{N: 125, B: 512, C: 1, D: 4},
		{N: last, B: 4, C: 5, D: 6, Result: 8},
		{N: 91, B: 256, C: 2, D: 99},
		{Result: minus38},
		{N: 1, B: 42, C: 43, D: 44, Result: 42},
	})
}

// Of more than MaxEvents the latest are told: none, fewer, as many, one more, many more.
func TestLatestEventsP14_2(t *testing.T) {
	c, m := New(nil, ""), page.New()
	var all []api.Event
	for i := range uint32(1001) {
		latest := all
		if len(latest) > 200 {
			latest = latest[len(latest)-200:]
		}
		tells(t, c, latest)
		c.Do(m, asking(1000+i, i, 2*i, 3*i))
		all = append(all, api.Event{N: 1000 + i, B: i, C: 2 * i, D: 3 * i, Result: minus38})
	}
	tells(t, c, all[801:])
}

// Events of all kinds of calls, those that end, refuse or tell bytes, go likewise.
func TestLatestEventsOfAllKindsP14_2(t *testing.T) {
	c, m := New([]uint32{5, 6, 7}, text(2000)), mapped(t, 0, rw, 0, x)
	var all []api.Event
	for i := range 700 {
		n := append(named, 20)[i%7]
		s := asking(n, uint32(i), uint32(i%300), uint32(i%9))
		after, _ := c.Do(m, s)
		told := c.Events()
		e := told[len(told)-1]
		if e.N != n || e.B != s.R[api.EBX] || e.C != s.R[api.ECX] || e.D != s.R[api.EDX] || e.Result != after.R[api.EAX] {
			t.Fatalf("%+v of %+v, %+v", e, s, after)
		}
		all = append(all, e)
		tells(t, c, all[max(0, len(all)-200):])
	}
}

// What was told isn't changed by later calls, nor are later answers by what is done with it.
func TestToldEventsStayP14_2(t *testing.T) {
	for _, n := range []int{0, 1, 3, 199, 200, 201, 450} {
		c, m := New(nil, text(5000)), mapped(t, 0, rw)
		for i := range n {
			c.Do(m, asking(3, uint32(i), 9, 7))
		}
		told := c.Events()
		was := slices.Clone(told)
		for i := range 250 {
			c.Do(m, asking(4, uint32(i), 9, 8))
		}
		for i := range was {
			if told[i] != was[i] {
				t.Fatalf("%d events: the one at %d became %+v", n, i, told[i])
			}
		}
		now, other := c.Events(), c.Events()
		was = slices.Clone(now)
		clear(now[:cap(now)])
		tells(t, c, was)
		for i := range was {
			if other[i] != was[i] {
				t.Fatal("two answers share memory")
			}
		}
	}
}

// The spare room of an answer is its own, too.
func TestSpareRoomP14_2(t *testing.T) {
	c, m := New(nil, ""), page.New()
	for i := range uint32(300) {
		a, b := c.Events(), c.Events()
		a = append(a, api.Event{N: 98})
		b = append(b, api.Event{N: 99})
		if a[len(a)-1].N != 98 {
			t.Fatal("two answers share their spare room")
		}
		c.Do(m, asking(i+1000, 0, 0, 0))
		if e := c.Events(); e[len(e)-1].N != i+1000 || a[len(a)-1].N != 98 || b[len(b)-1].N != 99 {
			t.Fatal("an answer shares its spare room with the calls")
		}
	}
}

// Arguments

func TestRepliesAreNotKeptP14_1(t *testing.T) {
	l := []uint32{1, 2, 3, 4, 5, 6}
	c, m := New(l[1:4], ""), page.New()
	o := c.Copy()
	clear(l)
	for _, c := range []*Calls{c, o} {
		for want := uint32(2); want < 5; want++ {
			if s, _ := c.Do(m, asking(20, 0, 0, 0)); s.R[api.EAX] != want {
				t.Errorf("reply %#x, want %d", s.R[api.EAX], want)
			}
		}
		if s, _ := c.Do(m, asking(20, 0, 0, 0)); s.R[api.EAX] != minus38 {
			t.Errorf("reply %#x of none", s.R[api.EAX])
		}
	}
}

func TestRepliesAreNotChangedP14_1(t *testing.T) {
	l := []uint32{1, 2, 3, 4, 5, 6}
	c, m := New(l[1:4], "input"), mapped(t, 0, rw)
	for i := range uint32(300) {
		c.Do(m, asking(i, 0, i, i))
		c.Copy().Do(m, asking(i, 0, i, i))
	}
	if !slices.Equal(l, []uint32{1, 2, 3, 4, 5, 6}) {
		t.Errorf("%v", l)
	}
}

// What is in the memory at the one call counts for nothing at the other one.
func TestMemoryIsNotKeptP14_1(t *testing.T) {
	c := New(nil, "input")
	m, o := mapped(t, 0, rw), mapped(t, 0, 0, rw)
	b := string(m.Peek(10, 4))
	does(t, c, m, asking(4, 0, 10, 4), want{result: 4, bytes: b})
	was := m.Copy()
	does(t, c, o, asking(4, 0, 10, 4), want{result: minus14})
	does(t, c, o, asking(3, 0, 256, 4), want{result: 4, bytes: "inpu", input: 4, m: given(t, o, 256, "inpu")})
	if !m.Same(was) {
		t.Error("a memory is changed that isn't asked about")
	}
	ok(t, m.Poke(10, []byte("else")))
	if e := c.Events()[0]; e.Bytes != b {
		t.Errorf("an event's bytes became %q", e.Bytes)
	}
}

// Copies

func TestCopyP14_1(t *testing.T) {
	for _, n := range []int{0, 1, 5, 199, 200, 230} {
		c, m := New([]uint32{1, 2, 3, 4}, text(3000)), mapped(t, 0, rw)
		for i := range n {
			c.Do(m, asking([]uint32{4, 3, 91, 20}[i%4], 77, uint32(i%256), 5))
		}
		o := c.Copy()
		replies, input := c.Left()
		was := c.Events()
		tells(t, o, was)
		left(t, o, replies, input)
		// The one goes on: the other one is as it was.
		for i := range uint32(220) {
			does(t, o, m, asking(4, i, i%100, 3), want{result: 3, bytes: string(m.Peek(i%100, 3))})
		}
		o.Do(m, asking(20, 0, 0, 0))
		o.Do(m, asking(3, 0, 0, 9))
		tells(t, c, was)
		left(t, c, replies, input)
		// And the other way round.
		was = o.Events()
		replies, input = o.Left()
		for i := range uint32(220) {
			c.Do(m, asking([]uint32{4, 3, 91, 20}[i%4], 78, i, 5))
		}
		tells(t, o, was)
		left(t, o, replies, input)
	}
}

// A copy is given the same as what it is a copy of.
func TestCopyGoesOnP14_1(t *testing.T) {
	c := New([]uint32{1, 2, 3, 4}, text(100))
	m := mapped(t, 0, rw, 0, x)
	c.Do(m, asking(20, 0, 0, 0))
	c.Do(m, asking(3, 0, 0, 9))
	p, n := c.Copy().Copy(), m.Copy()
	for i := range 300 {
		s := asking(append(named, 20)[i%7], uint32(i%4*256), uint32(i%5), uint32(i%11))
		a, ends := c.Do(m, s)
		b, ended := p.Do(n, s)
		if a != b || ends != ended || !m.Same(n) {
			t.Fatalf("%+v, %v and %+v, %v", a, ends, b, ended)
		}
	}
	tells(t, p, c.Events())
	replies, input := c.Left()
	left(t, p, replies, input)
}

// What a call of the one object answers hangs on no other one.
func TestManyAtOnceP14_1(t *testing.T) {
	run := func() (string, uint32) {
		c, m := New([]uint32{1, 2, 3}, text(500)), page.New()
		m.Map(0, 2, rw)
		told, sum := strings.Builder{}, uint32(0)
		for i := range uint32(400) {
			s, _ := c.Do(m, asking([]uint32{3, 4, 20, 125}[i%4], 256, i, i%70))
			sum = sum*31 + s.R[api.EAX]
		}
		for _, e := range c.Events() {
			told.WriteString(e.Bytes)
		}
		return told.String(), sum
	}
	told, sum := run()
	var all sync.WaitGroup
	for range 8 {
		all.Go(func() {
			if a, b := run(); a != told || b != sum {
				t.Error("two runs of the same differ")
			}
		})
	}
	all.Wait()
}

// Calls at random

// model: calls reckoned in another way: a byte and a right for each place, numbers with signs
// and without bounds, all events.
type model struct {
	replies []uint32
	used    int
	input   []byte
	taken   int
	events  []api.Event
	rights  [api.GuestSize]int
	bytes   [api.GuestSize]byte
}

// modelOf tells the model of such calls of a guest with m.
func modelOf(m *page.Memory, replies []uint32, input string) *model {
	o := &model{replies: replies, input: []byte(input)}
	for at := range o.rights {
		o.rights[at] = m.Rights(at >> 8)
		if o.rights[at] != 0 {
			o.bytes[at] = m.Peek(uint32(at), 1)[0]
		}
	}
	return o
}

// lacks tells whether one of n bytes from a place on lacks a right.
func (o *model) lacks(at, n int64, right int) bool {
	for i := at; i < at+n; i++ {
		place := i % (1 << 32)
		if place >= api.GuestSize || o.rights[place]&right == 0 {
			return true
		}
	}
	return false
}

// read does call 3.
func (o *model) read(at, most int64) (int64, string) {
	n := int64(len(o.input) - o.taken)
	for n > most || n > 64 {
		n--
	}
	if o.lacks(at, n, w) {
		return -14, ""
	}
	told := ""
	for i := range n {
		b := o.input[o.taken]
		o.bytes[at+i] = b
		o.taken++
		told += string([]byte{b})
	}
	return n, told
}

// write does call 4.
func (o *model) write(at, n int64) (int64, string) {
	if n > 64 {
		n = 64
	}
	if o.lacks(at, n, r) {
		return -14, ""
	}
	if n == 0 {
		return 0, ""
	}
	return n, string(o.bytes[at : at+n])
}

// pages does a call about pages.
func (o *model) pages(call uint32, at, count, rights int64) int64 {
	if at&255 != 0 || count > 64 || count == 0 || at+256*count > api.GuestSize {
		return -22
	}
	if call != 91 && (rights == 0 || rights > 7) {
		return -22
	}
	for i := at; i < at+256*count; i++ {
		if (o.rights[i] == 0) != (call == 192) {
			return -22
		}
	}
	for i := at; i < at+256*count; i++ {
		switch call {
		case 91:
			o.rights[i], o.bytes[i] = 0, 0
		case 125, 192:
			o.rights[i] = int(rights)
		}
	}
	return 0
}

// do does a call, tells its result and whether the guest ends.
func (o *model) do(s api.State) (uint32, bool) {
	n, b, c, d := s.R[0], s.R[3], s.R[1], s.R[2]
	result, told, ends := int64(-38), "", false
	switch {
	case n == 1:
		result, ends = int64(b), true
	case n == 3:
		result, told = o.read(int64(c), int64(d))
	case n == 4:
		result, told = o.write(int64(c), int64(d))
	case n == 91 || n == 125 || n == 192:
		result = o.pages(n, int64(b), int64(c), int64(d))
	case o.used < len(o.replies):
		result = int64(o.replies[o.used])
		o.used++
	}
	if result < 0 {
		result += 1 << 32
	}
	o.events = append(o.events, api.Event{N: n, B: b, C: c, D: d, Result: uint32(result), Bytes: told})
	return uint32(result), ends
}

// is fails, if m isn't as o has it.
func (o *model) is(t *testing.T, m *page.Memory) {
	t.Helper()
	for p := range api.Pages {
		at := p * 256
		if m.Rights(p) != o.rights[at] {
			t.Fatalf("page %d has rights %d, want %d", p, m.Rights(p), o.rights[at])
		}
		if o.rights[at] != 0 && string(m.Peek(uint32(at), 256)) != string(o.bytes[at:at+256]) {
			t.Fatalf("page %d has other bytes", p)
		}
	}
}

// drawn tells a call at random, most of them at the edges of what can be.
func drawn(g *rand.Rand) api.State {
	one := func(l []uint32) uint32 { return l[g.Intn(len(l))] }
	n := one(named[1:])
	place := uint32(g.Intn(api.GuestSize + 300))
	size := uint32(g.Intn(70))
	b, c, d := place, place, size
	switch g.Intn(12) {
	case 0:
		n = one([]uint32{1, 20, one(others), one(others), g.Uint32()})
	case 1:
		b, c, d = one(words), one(words), one(words)
	case 2:
		b, c, d = g.Uint32(), g.Uint32(), g.Uint32()
	case 3:
		c, d = uint32(256*(1+g.Intn(64))-g.Intn(65)), one(words)
	}
	if n > 4 && g.Intn(9) != 0 {
		b, c, d = uint32(256*g.Intn(65)), uint32(g.Intn(4)), uint32(g.Intn(9))
		if g.Intn(9) == 0 {
			c = uint32(g.Intn(67))
		}
	}
	return asking(n, b, c, d)
}

func TestRandomP14_1(t *testing.T) {
	g := rand.New(rand.NewSource(1401))
	came := map[[2]uint32]int{} // how often a call came with a result; all from 0 on as one
	for range 60 {
		m := holed(t)
		var replies []uint32
		for range g.Intn(20) {
			replies = append(replies, g.Uint32())
		}
		input := text(g.Intn(5000))
		c, o := New(replies, input), modelOf(m, replies, input)
		for range 300 + g.Intn(300) {
			s := drawn(g)
			got, ends := c.Do(m, s)
			want := s
			var ended bool
			want.R[0], ended = o.do(s)
			if got != want || ends != ended {
				t.Fatalf("%d of %#x: %+v, %v, want %+v, %v", s.R[0], s.R[1:4], got, ends, want, ended)
			}
			left(t, c, len(replies)-o.used, len(input)-o.taken)
			o.is(t, m)
			tells(t, c, o.events[max(0, len(o.events)-200):])
			kind := got.R[0]
			if kind < 1<<31 {
				kind = 0
			}
			came[[2]uint32{s.R[0], kind}]++
		}
	}
	for _, k := range [][2]uint32{{1, 0}, {3, 0}, {3, minus14}, {4, 0}, {4, minus14}, {91, 0}, {91, minus22}, {125, 0}, {125, minus22}, {192, 0}, {192, minus22}, {20, minus38}} {
		if came[k] < 100 {
			t.Errorf("%d with %#x came %d times: the calls aren't drawn from all that there are", k[0], k[1], came[k])
		}
	}
}
