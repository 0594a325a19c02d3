package page

import (
	"bytes"
	"math"
	"math/rand"
	"strings"
	"sync"
	"testing"

	"ferryman/api"
)

const (
	r   = api.CanRead
	w   = api.CanWrite
	x   = api.CanRun
	rw  = r | w
	rwx = r | w | x
)

// model: a memory reckoned in another way: a byte a place, a right a name.
type model struct {
	rights map[int]int
	bytes  map[uint32]byte // of the mapped pages alone
}

func newModel() *model { return &model{map[int]int{}, map[uint32]byte{}} }

// all tells whether all of these pages are there, and are so; the sum is reckoned without
// bounds.
func (o *model) all(page, count int, is func(page int) bool) bool {
	if count < 1 || page < 0 || page > 63 || float64(page)+float64(count) > 64 {
		return false
	}
	for p := page; p < page+count; p++ {
		if !is(p) {
			return false
		}
	}
	return true
}

func (o *model) isMapped(p int) bool   { return o.rights[p] != 0 }
func (o *model) isUnmapped(p int) bool { return o.rights[p] == 0 }

func (o *model) Map(page, count, rights int) api.Errno {
	if rights < 1 || rights > 7 || !o.all(page, count, o.isUnmapped) {
		return api.ErrMap
	}
	for p := page; p < page+count; p++ {
		o.rights[p] = rights
		for i := range 256 {
			o.bytes[uint32(256*p+i)] = 0
		}
	}
	return api.OK
}

func (o *model) Unmap(page, count int) api.Errno {
	if !o.all(page, count, o.isMapped) {
		return api.ErrMap
	}
	for p := page; p < page+count; p++ {
		delete(o.rights, p)
		for i := range 256 {
			delete(o.bytes, uint32(256*p+i))
		}
	}
	return api.OK
}

func (o *model) Protect(page, count, rights int) api.Errno {
	if rights < 1 || rights > 7 || !o.all(page, count, o.isMapped) {
		return api.ErrMap
	}
	for p := page; p < page+count; p++ {
		o.rights[p] = rights
	}
	return api.OK
}

// fault tells the fault of the first byte that isn't in a page with the right.
func (o *model) fault(at uint32, bytes, right int) (api.Fault, bool) {
	for k := range uint32(bytes) {
		if o.rights[int(at+k)>>8]&right == 0 {
			return api.Fault{Kind: api.FPage, Addr: at + k, Want: right}, false
		}
	}
	return api.Fault{}, true
}

func (o *model) Read(at uint32, bytes, right int) (uint32, api.Fault, bool) {
	if bytes != 1 && bytes != 2 {
		bytes = 4
	}
	if right != w && right != x {
		right = r
	}
	f, ok := o.fault(at, bytes, right)
	v := uint32(0)
	for k := bytes - 1; ok && k >= 0; k-- {
		v = v*256 + uint32(o.bytes[at+uint32(k)])
	}
	return v, f, ok
}

func (o *model) Write(at uint32, bytes int, v uint32) (api.Fault, bool) {
	if bytes != 1 && bytes != 2 {
		bytes = 4
	}
	f, ok := o.fault(at, bytes, w)
	for k := 0; ok && k < bytes; k++ {
		o.bytes[at+uint32(k)] = byte(v)
		v /= 256
	}
	return f, ok
}

func (o *model) Poke(at uint32, b []byte) api.Errno {
	for k := range b {
		if _, is := o.bytes[at+uint32(k)]; !is {
			return api.ErrMap
		}
	}
	for k, v := range b {
		o.bytes[at+uint32(k)] = v
	}
	return api.OK
}

func (o *model) Peek(at uint32, n int) []byte {
	var l []byte
	for len(l) < n {
		v, is := o.bytes[at+uint32(len(l))]
		if !is {
			break
		}
		l = append(l, v)
	}
	return l
}

func (o *model) Load(spans []api.Span) api.Errno {
	l := newModel()
	for _, s := range spans {
		if l.Map(s.Page, s.Count, s.Rights) != api.OK || len(s.Bytes) > 256*s.Count {
			return api.ErrImage
		}
		l.Poke(256*uint32(s.Page), []byte(s.Bytes))
	}
	*o = *l
	return api.OK
}

// shot: all that can be told of a memory; noughts stand for the bytes of unmapped pages.
type shot struct {
	rights [api.Pages]int
	bytes  [api.GuestSize]byte
}

// shotOf tells all that can be told of m.
func shotOf(m *Memory) shot {
	var s shot
	for p := range s.rights {
		s.rights[p] = m.Rights(p)
		l := m.Peek(uint32(256*p), 256)
		if s.rights[p] == 0 && len(l) != 0 || s.rights[p] != 0 && len(l) != 256 {
			panic("a page's bytes can't be told")
		}
		copy(s.bytes[256*p:], l)
	}
	return s
}

// shot tells all that there is of o.
func (o *model) shot() shot {
	var s shot
	for p, rights := range o.rights {
		s.rights[p] = rights
	}
	for at, v := range o.bytes {
		s.bytes[at] = v
	}
	return s
}

// is fails, if m isn't as s has it.
func is(t *testing.T, m *Memory, s shot, about ...any) {
	t.Helper()
	got := shotOf(m)
	if got == s {
		return
	}
	for p := range s.rights {
		if got.rights[p] != s.rights[p] {
			t.Errorf("%v: page %d has rights %d, want %d", about, p, got.rights[p], s.rights[p])
		}
	}
	for at := range s.bytes {
		if got.bytes[at] != s.bytes[at] {
			t.Errorf("%v: byte %#x is %#x, want %#x", about, at, got.bytes[at], s.bytes[at])
		}
	}
	t.FailNow()
}

// do fails, if e isn't OK.
func do(t *testing.T, e api.Errno) {
	t.Helper()
	if e != api.OK {
		t.Fatalf("%v, want none", e)
	}
}

// filled tells a memory of spans with its bytes all unlike noughts.
func filled(t *testing.T, spans ...api.Span) *Memory {
	t.Helper()
	m := New()
	do(t, m.Load(spans))
	for p := range api.Pages {
		if m.Rights(p) != 0 {
			do(t, m.Poke(uint32(256*p), many(p)))
		}
	}
	return m
}

// many tells a page's worth of bytes, none of them nought.
func many(seed int) []byte {
	b := make([]byte, 256)
	for i := range b {
		b[i] = byte(1 + (7*i+31*seed)%255)
	}
	return b
}

// span tells a span without bytes.
func span(page, count, rights int) api.Span {
	return api.Span{Page: page, Count: count, Rights: rights}
}

func TestNewP6_1(t *testing.T) {
	is(t, New(), shot{}, "New")
	if m, o := New(), New(); m.Map(0, 64, rwx) != api.OK || o.Rights(0) != 0 || New().Rights(63) != 0 {
		t.Error("two new memories are one")
	}
}

func TestMapP6_1(t *testing.T) {
	for _, c := range []struct{ page, count, rights int }{
		{0, 1, 1}, {0, 1, 7}, {63, 1, 2}, {0, 64, 3}, {1, 63, 4}, {0, 63, 5}, {62, 2, 6}, {10, 5, 7}, {31, 2, 1},
	} {
		m, want := New(), shot{}
		do(t, m.Map(c.page, c.count, c.rights))
		for p := c.page; p < c.page+c.count; p++ {
			want.rights[p] = c.rights
		}
		is(t, m, want, c)
	}
}

func TestMapBesideP6_1(t *testing.T) {
	m := filled(t, span(4, 2, x))
	want := shotOf(m)
	do(t, m.Map(6, 1, r))
	do(t, m.Map(2, 2, w))
	want.rights[6], want.rights[2], want.rights[3] = r, w, w
	is(t, m, want, "beside pages that are mapped")
}

// wrong: pages that aren't all there.
var wrong = []struct{ page, count int }{
	{-1, 1}, {-1, 2}, {64, 1}, {65, 1}, {63, 2}, {0, 65}, {1, 64}, {62, 3}, {-64, 64}, {-1, 65}, {256, 1}, {-256, 257},
	{0, 0}, {0, -1}, {5, 0}, {63, 0}, {64, 0}, {64, -1}, {10, -5}, {-1, 0}, {-3, -3}, {20, -20},
	{math.MaxInt, 1}, {1, math.MaxInt}, {0, math.MaxInt}, {63, math.MaxInt}, {math.MaxInt, math.MaxInt},
	{math.MinInt, 1}, {math.MinInt, math.MaxInt}, {math.MinInt, math.MinInt}, {1, math.MinInt}, {63, math.MinInt},
	{math.MaxInt, math.MinInt}, {math.MaxInt - 62, 63}, {1 << 32, 1}, {0, 1<<32 + 1}, {1<<32 + 5, 1}, {-1 << 32, 1},
}

// notRights: what no mapped page can have.
var notRights = []int{0, -1, 8, 9, 15, 16, -7, -8, 256, 257, 1<<32 + 1, math.MaxInt, math.MinInt, math.MinInt + 1}

func TestMapOfNoPagesP6_1(t *testing.T) {
	for _, full := range []bool{false, true} {
		m := New()
		if full {
			m = filled(t, span(0, 64, rwx))
		}
		before := shotOf(m)
		for _, c := range wrong {
			if e := m.Map(c.page, c.count, r); e != api.ErrMap {
				t.Errorf("Map(%d, %d): %v", c.page, c.count, e)
			}
			if e := m.Unmap(c.page, c.count); e != api.ErrMap {
				t.Errorf("Unmap(%d, %d): %v", c.page, c.count, e)
			}
			if e := m.Protect(c.page, c.count, r); e != api.ErrMap {
				t.Errorf("Protect(%d, %d): %v", c.page, c.count, e)
			}
		}
		is(t, m, before, "all of them refused")
	}
}

func TestMapOfNoRightsP6_1(t *testing.T) {
	m := filled(t, span(8, 8, rw))
	before := shotOf(m)
	for _, rights := range notRights {
		if e := m.Map(2, 2, rights); e != api.ErrMap {
			t.Errorf("Map with rights %d: %v", rights, e)
		}
		if e := m.Protect(8, 2, rights); e != api.ErrMap {
			t.Errorf("Protect with rights %d: %v", rights, e)
		}
	}
	is(t, m, before, "all of them refused")
}

// Of pages 8 to 15 all but one are as they must be, or all.
func TestOneOfManyP6_1(t *testing.T) {
	for odd := 6; odd < 18; odd++ {
		in := odd >= 8 && odd < 16
		m := filled(t, span(odd, 1, rw))
		before := shotOf(m)
		if e := m.Map(8, 8, x); (e == api.ErrMap) != in {
			t.Errorf("Map of 8 to 15 with %d mapped: %v", odd, e)
		}
		if in {
			is(t, m, before, "Map", odd)
		}
		m = filled(t, span(4, 16, rw))
		do(t, m.Unmap(odd, 1))
		before = shotOf(m)
		if e := m.Protect(8, 8, x); (e == api.ErrMap) != in {
			t.Errorf("Protect of 8 to 15 with %d unmapped: %v", odd, e)
		}
		if in {
			is(t, m, before, "Protect", odd)
		}
		if e := m.Unmap(8, 8); (e == api.ErrMap) != in {
			t.Errorf("Unmap of 8 to 15 with %d unmapped: %v", odd, e)
		}
		if in {
			is(t, m, before, "Unmap", odd)
		}
	}
}

func TestUnmapP6_1(t *testing.T) {
	for _, c := range []struct{ page, count int }{{0, 1}, {63, 1}, {0, 64}, {10, 3}, {1, 63}, {0, 63}} {
		m := filled(t, span(0, 64, rwx))
		want := shotOf(m)
		do(t, m.Unmap(c.page, c.count))
		for p := c.page; p < c.page+c.count; p++ {
			want.rights[p] = 0
			clear(want.bytes[256*p : 256*p+256])
		}
		is(t, m, want, "Unmap", c)
		if e := m.Unmap(c.page, c.count); e != api.ErrMap {
			t.Errorf("Unmap(%v) twice: %v", c, e)
		}
		do(t, m.Map(c.page, c.count, x)) // with noughts: what was there is forgotten
		for p := c.page; p < c.page+c.count; p++ {
			want.rights[p] = x
		}
		is(t, m, want, "Map again", c)
	}
}

func TestProtectP6_1(t *testing.T) {
	for from := 1; from <= 7; from++ {
		for to := 1; to <= 7; to++ {
			m := filled(t, span(0, 64, from))
			want := shotOf(m)
			for _, c := range []struct{ page, count int }{{0, 1}, {63, 1}, {20, 5}} {
				do(t, m.Protect(c.page, c.count, to))
				for p := c.page; p < c.page+c.count; p++ {
					want.rights[p] = to
				}
			}
			is(t, m, want, from, to)
		}
	}
	m := New()
	do(t, m.Map(0, 64, r))
	do(t, m.Protect(0, 64, w)) // all of them
	if m.Rights(0) != w || m.Rights(63) != w {
		t.Error("Protect of all pages")
	}
}

func TestRightsOfNoPageP6_1(t *testing.T) {
	m := filled(t, span(0, 64, rwx))
	for _, p := range []int{-1, 64, 65, -64, 256, 1 << 24, 1 << 32, -1 << 32, math.MaxInt, math.MinInt} {
		if got := m.Rights(p); got != 0 {
			t.Errorf("Rights(%d): %d", p, got)
		}
	}
}

func TestReadP6_2(t *testing.T) {
	m := New()
	do(t, m.Map(0, 2, rwx))
	do(t, m.Poke(253, []byte{0x11, 0x22, 0x83, 0x44, 0xf5, 0x66}))
	for _, c := range []struct {
		at    uint32
		bytes int
		want  uint32
	}{
		{253, 1, 0x11}, {255, 1, 0x83}, {257, 1, 0xf5}, {253, 2, 0x2211}, {255, 2, 0x4483}, {256, 2, 0xf544},
		{253, 4, 0x44832211}, {254, 4, 0xf5448322}, {255, 4, 0x66f54483}, {0, 4, 0}, {508, 4, 0}, {257, 4, 0x66f5},
		{253, 0, 0x44832211}, {253, 3, 0x44832211}, {253, 5, 0x44832211}, {253, 8, 0x44832211}, {253, -1, 0x44832211},
		{253, math.MaxInt, 0x44832211}, {253, math.MinInt, 0x44832211}, {253, 1<<32 + 1, 0x44832211}, {253, 257, 0x44832211},
	} {
		for _, right := range []int{r, w, x} {
			v, f, ok := m.Read(c.at, c.bytes, right)
			if v != c.want || f != (api.Fault{}) || !ok {
				t.Errorf("Read(%d, %d, %d): %#x, %v, %v, want %#x", c.at, c.bytes, right, v, f, ok, c.want)
			}
		}
	}
}

func TestWriteP6_2(t *testing.T) {
	for _, c := range []struct {
		at    uint32
		bytes int
		want  []byte
	}{
		{253, 1, []byte{0xd4}}, {255, 1, []byte{0xd4}}, {255, 2, []byte{0xd4, 0xc3}}, {253, 4, []byte{0xd4, 0xc3, 0xb2, 0xa1}},
		{254, 4, []byte{0xd4, 0xc3, 0xb2, 0xa1}}, {508, 4, []byte{0xd4, 0xc3, 0xb2, 0xa1}}, {510, 2, []byte{0xd4, 0xc3}},
		{511, 1, []byte{0xd4}}, {0, 4, []byte{0xd4, 0xc3, 0xb2, 0xa1}}, {100, 0, []byte{0xd4, 0xc3, 0xb2, 0xa1}},
		{100, 3, []byte{0xd4, 0xc3, 0xb2, 0xa1}}, {100, -2, []byte{0xd4, 0xc3, 0xb2, 0xa1}},
		{100, 8, []byte{0xd4, 0xc3, 0xb2, 0xa1}}, {100, math.MaxInt, []byte{0xd4, 0xc3, 0xb2, 0xa1}},
	} {
		m := filled(t, span(0, 2, rw))
		want := shotOf(m)
		if f, ok := m.Write(c.at, c.bytes, 0xa1b2c3d4); f != (api.Fault{}) || !ok {
			t.Errorf("Write(%d, %d): %v, %v", c.at, c.bytes, f, ok)
		}
		copy(want.bytes[c.at:], c.want)
		is(t, m, want, "Write", c.at, c.bytes)
	}
}

func TestExampleP6_2(t *testing.T) {
	m := New()
	do(t, m.Map(0, 1, 3))
	f, ok := m.Write(254, 4, 0x12345678)
	if want := (api.Fault{Kind: api.FPage, Addr: 256, Want: api.CanWrite}); f != want || ok {
		t.Errorf("%v, %v, want %v", f, ok, want)
	}
	is(t, m, shot{rights: [api.Pages]int{3}}, "a fault")
}

// Two pages beside one another, of all pairs of rights (0: unmapped), and what lies across.
func TestAcrossPagesP6_2(t *testing.T) {
	for first := 0; first <= 7; first++ {
		for second := 0; second <= 7; second++ {
			m, o := New(), newModel()
			for p, rights := range []int{first, second} {
				if rights != 0 {
					do(t, m.Map(5+p, 1, rights))
					do(t, m.Poke(uint32(256*(5+p)), many(p)))
					o.Map(5+p, 1, rights)
					o.Poke(uint32(256*(5+p)), many(p))
				}
			}
			for at := uint32(6*256 - 6); at < 6*256+6; at++ {
				for bytes := 0; bytes <= 5; bytes++ {
					accessed(t, m, o, at, bytes)
				}
			}
		}
	}
}

// accessed reads and writes at a place and holds what is told, and all the memory, to o.
func accessed(t *testing.T, m *Memory, o *model, at uint32, bytes int) {
	t.Helper()
	for right := -1; right <= 8; right++ {
		v, f, ok := m.Read(at, bytes, right)
		wantV, wantF, wantOK := o.Read(at, bytes, right)
		if v != wantV || f != wantF || ok != wantOK {
			t.Fatalf("Read(%#x, %d, %d): %#x, %v, %v, want %#x, %v, %v", at, bytes, right, v, f, ok, wantV, wantF, wantOK)
		}
	}
	v := uint32(0x9badc0de) ^ at*0x01010101
	f, ok := m.Write(at, bytes, v)
	wantF, wantOK := o.Write(at, bytes, v)
	if f != wantF || ok != wantOK {
		t.Fatalf("Write(%#x, %d): %v, %v, want %v, %v", at, bytes, f, ok, wantF, wantOK)
	}
	is(t, m, o.shot(), "Write", at, bytes)
}

func TestOtherRightsP6_2(t *testing.T) {
	m := filled(t, span(0, 1, x), span(1, 1, r), span(2, 1, w))
	for _, right := range []int{0, 3, 5, 6, 7, 8, -1, -2, -4, 1<<32 + 2, 1<<32 + 4, math.MaxInt, math.MinInt} {
		if _, f, ok := m.Read(256, 4, right); f != (api.Fault{}) || !ok {
			t.Errorf("Read with right %d: %v, %v", right, f, ok)
		}
		for _, at := range []uint32{0, 512, 768} {
			v, f, ok := m.Read(at, 4, right)
			if want := (api.Fault{Kind: api.FPage, Addr: at, Want: api.CanRead}); v != 0 || f != want || ok {
				t.Errorf("Read(%d) with right %d: %#x, %v, %v, want %v", at, right, v, f, ok, want)
			}
		}
	}
}

// Both ends of the guest's memory and of the 32 bits, where all pages can do all; and places
// that would be in pages, if some of their bits didn't count.
func TestEndsP6_2(t *testing.T) {
	m, o := New(), newModel()
	for p := range api.Pages {
		do(t, m.Map(p, 1, rwx))
		do(t, m.Poke(uint32(256*p), many(p)))
		o.Map(p, 1, rwx)
		o.Poke(uint32(256*p), many(p))
	}
	ends := []uint32{0, api.GuestSize, 1 << 15, 1 << 16, 1 << 20, 1 << 24, 1 << 30, 1 << 31, 3 << 30, 0xffffff00, 0xff000000, 0xffffc000}
	for _, end := range ends {
		for off := -5; off <= 5; off++ {
			for _, bytes := range []int{1, 2, 4, 3} {
				accessed(t, m, o, end+uint32(off), bytes)
			}
		}
	}
	for _, c := range []struct {
		at    uint32
		bytes int
		first uint32
	}{
		{0xffffffff, 1, 0xffffffff}, {0xffffffff, 4, 0xffffffff}, {0xfffffffd, 4, 0xfffffffd},
		{16383, 2, 16384}, {16381, 4, 16384}, {16383, 4, 16384}, {16384, 1, 16384}, {16386, 4, 16386},
	} {
		for _, right := range []int{r, w, x} {
			v, f, ok := m.Read(c.at, c.bytes, right)
			if want := (api.Fault{Kind: api.FPage, Addr: c.first, Want: right}); v != 0 || f != want || ok {
				t.Errorf("Read(%#x, %d, %d): %#x, %v, %v, want %v", c.at, c.bytes, right, v, f, ok, want)
			}
		}
	}
}

func TestPokeP6_3(t *testing.T) {
	for rights := 1; rights <= 7; rights++ {
		m := filled(t, span(0, 64, rights))
		for _, c := range []struct {
			at uint32
			n  int
		}{{0, 1}, {0, 256}, {255, 2}, {200, 700}, {16383, 1}, {16128, 256}, {0, 16384}, {1, 16383}} {
			want := shotOf(m)
			b := bytes.Repeat([]byte{byte(c.n), 0xa5}, c.n)[:c.n]
			do(t, m.Poke(c.at, b))
			copy(want.bytes[c.at:], b)
			is(t, m, want, "Poke", c)
		}
	}
}

func TestPokeBeyondP6_3(t *testing.T) {
	m := filled(t, span(0, 3, r), span(4, 1, w), span(60, 4, x))
	before := shotOf(m)
	for _, c := range []struct {
		at uint32
		n  int
	}{
		{767, 2}, {768, 1}, {700, 400}, {1023, 2}, {1279, 2}, {0, 769}, {0, 16384}, {0, 100000}, {16383, 2}, {16384, 1},
		{15360, 1025}, {15359, 1}, {15359, 2}, {0xffffffff, 1}, {0xffffffff, 2}, {0xfffffff0, 32}, {65536, 1}, {1 << 31, 4},
	} {
		if e := m.Poke(c.at, bytes.Repeat([]byte{0xee}, c.n)); e != api.ErrMap {
			t.Errorf("Poke(%#x, %d bytes): %v", c.at, c.n, e)
		}
		is(t, m, before, "Poke", c)
	}
	for _, at := range []uint32{0, 767, 768, 16383, 16384, 0xffffffff} {
		for _, none := range [][]byte{nil, {}} {
			if e := m.Poke(at, none); e != api.OK {
				t.Errorf("Poke(%#x) of nothing: %v", at, e)
			}
		}
	}
	do(t, New().Poke(7, nil))
	is(t, m, before, "Poke of nothing")
}

func TestPeekP6_3(t *testing.T) {
	m := filled(t, span(0, 3, x), span(3, 1, w), span(5, 1, r), span(62, 2, rw))
	all := shotOf(m)
	for _, c := range []struct {
		at   uint32
		n    int
		want int
	}{
		{0, 0, 0}, {0, 1, 1}, {0, 1024, 1024}, {0, 1025, 1024}, {0, math.MaxInt, 1024}, {255, 2, 2}, {767, 2, 2}, {700, 900, 324},
		{1023, 1, 1}, {1023, 2, 1}, {1024, 1, 0}, {1279, 4, 0}, {1280, 4, 4}, {1280, 999, 256}, {1535, 4, 1}, {1536, 4, 0},
		{15872, 513, 512}, {16383, 1, 1}, {16383, 2, 1}, {16384, 1, 0}, {0xffffffff, 4, 0}, {65536, 4, 0}, {1 << 31, 4, 0},
		{0, -1, 0}, {0, math.MinInt, 0}, {5, -5, 0}, {0xffffffff, math.MaxInt, 0},
	} {
		l := m.Peek(c.at, c.n)
		if len(l) != c.want || c.want > 0 && !bytes.Equal(l, all.bytes[c.at:c.at+uint32(c.want)]) {
			t.Errorf("Peek(%#x, %d): % x, want %d bytes", c.at, c.n, l, c.want)
		}
	}
	is(t, m, all, "Peek")
	m = filled(t, span(0, 64, w))
	for _, n := range []int{api.GuestSize - 1, api.GuestSize, api.GuestSize + 1, math.MaxInt} {
		if l := m.Peek(0, n); len(l) != min(n, api.GuestSize) {
			t.Errorf("Peek(0, %d) of all pages: %d bytes", n, len(l))
		}
	}
}

func TestPeekIsNewP6_3(t *testing.T) {
	m := filled(t, span(0, 64, rw))
	before := shotOf(m)
	one, two := m.Peek(100, 300), m.Peek(100, 300)
	clear(one[:cap(one)])
	is(t, m, before, "an answer is changed")
	if !bytes.Equal(two, before.bytes[100:400]) {
		t.Error("an answer is changed by another one")
	}
	if f, ok := m.Write(100, 4, 0); !ok || two[0] != before.bytes[100] {
		t.Error("an answer is changed by the memory", f)
	}
}

func TestPokeKeepsNothingP6_3(t *testing.T) {
	m := filled(t, span(0, 2, rw))
	room := bytes.Repeat([]byte{0x5a}, 40)
	b := room[10:20:30]
	do(t, m.Poke(250, b))
	if !bytes.Equal(room, bytes.Repeat([]byte{0x5a}, 40)) {
		t.Error("Poke changed what it was handed")
	}
	before := shotOf(m)
	clear(room)
	is(t, m, before, "what was handed in is changed later")
	if f, ok := m.Write(250, 4, 0x01020304); !ok || !bytes.Equal(room, make([]byte, 40)) {
		t.Error("the memory is what was handed in", f)
	}
}

func TestLoadP6_3(t *testing.T) {
	abc := strings.Repeat("abc", 200)[:512]
	for _, c := range []struct {
		name  string
		spans []api.Span
	}{
		{"nil", nil}, {"none", []api.Span{}},
		{"a page", []api.Span{{Page: 3, Count: 1, Rights: r, Bytes: "hello"}}},
		{"as many Bytes as there are", []api.Span{{Page: 62, Count: 2, Rights: x, Bytes: abc}}},
		{"no Bytes", []api.Span{span(0, 64, rwx)}},
		{"beside one another, from the last one on", []api.Span{{Page: 9, Count: 1, Rights: w, Bytes: abc[:256]},
			{Page: 7, Count: 2, Rights: rwx, Bytes: abc[:257]}, {Page: 0, Count: 1, Rights: x, Bytes: "\x00\xff\x80é"}}},
	} {
		m, o := filled(t, span(2, 30, rw)), newModel()
		do(t, m.Load(c.spans))
		do(t, o.Load(c.spans))
		is(t, m, o.shot(), c.name)
		n := New()
		do(t, n.Load(c.spans))
		if !m.Same(n) || !n.Same(m) {
			t.Errorf("%s: what was there ahead of Load is to be seen", c.name)
		}
	}
}

func TestLoadOfNoImageP6_3(t *testing.T) {
	abc := strings.Repeat("abc", 200)[:513]
	good := api.Span{Page: 0, Count: 1, Rights: rwx, Bytes: "good"}
	bad := []api.Span{
		{Page: 5, Count: 1, Rights: r, Bytes: abc[:257]}, {Page: 5, Count: 2, Rights: r, Bytes: abc},
		{Page: 63, Count: 1, Rights: r, Bytes: abc[:257]}, {Page: 5, Count: 0, Rights: r}, {Page: 5, Count: 0, Rights: r, Bytes: "x"},
		{}, {Page: 5, Count: -1, Rights: r}, {Page: 64, Count: 1, Rights: r}, {Page: 63, Count: 2, Rights: r},
		{Page: -1, Count: 1, Rights: r}, {Page: -1, Count: 2, Rights: r}, {Page: 5, Count: math.MaxInt, Rights: r},
		{Page: 1, Count: math.MaxInt/256 + 2, Rights: r, Bytes: "x"}, {Page: math.MinInt, Count: 1, Rights: r},
		{Page: 5, Count: 1}, {Page: 5, Count: 1, Rights: 8}, {Page: 5, Count: 1, Rights: -1},
		{Page: 0, Count: 1, Rights: rwx, Bytes: "good"}, {Page: 0, Count: 2, Rights: r}, {Page: 0, Count: 64, Rights: r},
	}
	for _, b := range bad {
		lists := [][]api.Span{{good, b}, {span(9, 3, r), good, b, span(20, 1, w)}, {span(63, 1, x), b, span(63, 1, x)}}
		if b.Page != 0 || b.Count < 1 {
			lists = append(lists, []api.Span{b}, []api.Span{b, good}) // bad by itself
		} else {
			lists = append(lists, []api.Span{b, good}) // bad beside good, on which it lies
		}
		for _, l := range lists {
			m := filled(t, span(2, 30, rw))
			before := shotOf(m)
			if e := m.Load(l); e != api.ErrImage {
				t.Errorf("Load(%v): %v", l, e)
			}
			is(t, m, before, l)
		}
	}
}

// What is mapped ahead of Load is no reason to refuse.
func TestLoadOverMappedP6_3(t *testing.T) {
	m := filled(t, span(0, 64, r))
	do(t, m.Load([]api.Span{{Page: 5, Count: 1, Rights: w, Bytes: "new"}}))
	want := shot{}
	want.rights[5] = w
	copy(want.bytes[5*256:], "new")
	is(t, m, want, "Load over mapped pages")
}

func TestLoadKeepsNothingP6_3(t *testing.T) {
	room := []api.Span{span(1, 1, r), {Page: 2, Count: 1, Rights: rw, Bytes: "kept"}, span(3, 1, r), span(4, 1, r)}
	was := append([]api.Span(nil), room...)
	m := New()
	do(t, m.Load(room[1:2]))
	before := shotOf(m)
	for i := range room {
		if room[i] != was[i] {
			t.Errorf("Load changed what it was handed: %v", room[i])
		}
		room[i] = api.Span{Page: 9, Count: 1, Rights: x, Bytes: "later"}
	}
	is(t, m, before, "what was handed in is changed later")
}

func TestSameP6_3(t *testing.T) {
	fresh := func() *Memory { return filled(t, span(0, 3, rw), span(63, 1, x)) }
	m := fresh()
	if !m.Same(m) || !m.Same(fresh()) || !New().Same(New()) || m.Same(New()) || New().Same(m) {
		t.Error("Same of what is so and what isn't")
	}
	for _, change := range []func(o *Memory) api.Errno{
		func(o *Memory) api.Errno { return o.Poke(0, []byte{0}) },
		func(o *Memory) api.Errno { return o.Poke(767, []byte{0}) },
		func(o *Memory) api.Errno { return o.Poke(16383, []byte{0}) },
		func(o *Memory) api.Errno { return o.Protect(1, 1, r) },
		func(o *Memory) api.Errno { return o.Protect(63, 1, w) },
		func(o *Memory) api.Errno { return o.Unmap(63, 1) },
		func(o *Memory) api.Errno { return o.Map(3, 1, r) },
		func(o *Memory) api.Errno { return o.Load(nil) },
	} {
		o := fresh()
		do(t, change(o))
		if m.Same(o) || o.Same(m) {
			t.Error("Same of two that differ: ", o.rights)
		}
	}
	// The bytes of pages that went don't count, nor by which way it came.
	do(t, m.Unmap(0, 3))
	do(t, m.Unmap(63, 1))
	if !m.Same(New()) || !New().Same(m) {
		t.Error("what was in unmapped pages counts")
	}
	o := New()
	do(t, o.Map(7, 1, x))
	do(t, o.Protect(7, 1, w))
	do(t, m.Map(7, 1, w))
	if !m.Same(o) {
		t.Error("the same rights by two ways")
	}
}

func TestCopyP6_3(t *testing.T) {
	m := filled(t, span(0, 3, rw), span(63, 1, x))
	before := shotOf(m)
	changed := func(o *Memory) {
		t.Helper()
		if f, ok := o.Write(254, 4, 0); !ok {
			t.Fatal(f)
		}
		do(t, o.Poke(16383, []byte{0}))
		do(t, o.Protect(0, 1, x))
		do(t, o.Unmap(2, 1))
		do(t, o.Map(10, 2, r))
	}
	c := m.Copy()
	is(t, c, before, "a copy")
	if !c.Same(m) || !m.Same(c) {
		t.Error("a copy isn't the same")
	}
	changed(c)
	is(t, m, before, "its copy is changed")
	if c.Same(m) {
		t.Error("a copy that was changed is the same")
	}
	d := m.Copy()
	changed(m)
	is(t, d, before, "a copy, changed by itself")
	if !m.Same(c) || m.Same(d) {
		t.Error("both changed alike, one not")
	}
	do(t, m.Load(nil))
	is(t, d, before, "what it is of is loaded anew")
	is(t, New().Copy(), shot{}, "a copy of a new one")
}

// Faults and refusals, wherever they are, change nothing of a memory with holes and rights of
// all kinds.
func TestFaultsChangeNothingP6_4(t *testing.T) {
	var spans []api.Span
	for p := 0; p < api.Pages; p++ {
		if p%9 != 8 {
			spans = append(spans, span(p, 1, 1+p%7))
		}
	}
	m := filled(t, spans...)
	before, faults := shotOf(m), 0
	for at := uint32(0); at < api.GuestSize+300; at++ {
		for _, bytes := range []int{1, 2, 4, 7} {
			c := m.Copy()
			f, ok := c.Write(at, bytes, ^uint32(0)^at)
			if !ok {
				faults++
				if !c.Same(m) || f.Kind != api.FPage || f.PC != 0 || f.Want != api.CanWrite || f.Addr-at > 3 {
					t.Fatalf("Write(%#x, %d): %v, and something is changed", at, bytes, f)
				}
			}
			for _, right := range []int{r, w, x, 0} {
				m.Read(at, bytes, right)
			}
		}
	}
	if faults == 0 {
		t.Error("no faults")
	}
	is(t, m, before, "Read at all places")
}

// pair: a memory and a model that are told the same.
type pair struct {
	t *testing.T
	m *Memory
	o *model
}

// act does one thing to both and holds the answers to each other.
func (c pair) act(g *rand.Rand) {
	page, count, rights := g.Intn(68)-2, g.Intn(6)-1, g.Intn(10)-1
	at := uint32(256*g.Intn(66) + g.Intn(12) - 6)
	n, v := g.Intn(9)-2, g.Uint32()
	var got, want any
	switch g.Intn(12) {
	case 0, 1, 2:
		got, want = c.m.Map(page, count, rights), c.o.Map(page, count, rights)
	case 3:
		got, want = c.m.Unmap(page, count), c.o.Unmap(page, count)
	case 4, 5:
		got, want = c.m.Protect(page, count, rights), c.o.Protect(page, count, rights)
	case 6, 7:
		f, ok := c.m.Write(at, n, v)
		wantF, wantOK := c.o.Write(at, n, v)
		got, want = [2]any{f, ok}, [2]any{wantF, wantOK}
	case 8:
		u, f, ok := c.m.Read(at, n, rights)
		wantU, wantF, wantOK := c.o.Read(at, n, rights)
		got, want = [3]any{u, f, ok}, [3]any{wantU, wantF, wantOK}
	case 9:
		b := make([]byte, g.Intn(600))
		g.Read(b)
		got, want = c.m.Poke(at, b), c.o.Poke(at, b)
	case 10:
		n = g.Intn(1200)
		got, want = string(c.m.Peek(at, n)), string(c.o.Peek(at, n))
	case 11:
		if g.Intn(20) > 0 {
			return
		}
		spans := []api.Span{{Page: page, Count: count, Rights: rights, Bytes: strings.Repeat("load", g.Intn(100))}, span(30, 2, rw)}
		got, want = c.m.Load(spans), c.o.Load(spans)
	}
	if got != want {
		c.t.Errorf("%v, want %v", got, want)
	}
}

func TestModelP6_4(t *testing.T) {
	for seed := range int64(20) {
		g := rand.New(rand.NewSource(seed))
		c := pair{t, New(), newModel()}
		for range 400 {
			c.act(g)
			is(t, c.m, c.o.shot(), "seed", seed)
		}
	}
}

// Each memory is by itself, whatever is done with others at the same time.
func TestManyMemoriesP6_4(t *testing.T) {
	var all sync.WaitGroup
	for seed := range int64(8) {
		all.Go(func() {
			g := rand.New(rand.NewSource(100 + seed))
			c := pair{t, New(), newModel()}
			for range 300 {
				c.act(g)
			}
			if shotOf(c.m) != c.o.shot() {
				t.Error("memories aren't by themselves: seed", seed)
			}
		})
	}
	all.Wait()
}
