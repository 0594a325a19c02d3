package oracle

import (
	"math/rand"
	"testing"

	"ferryman/api"
	"ferryman/call"
	"ferryman/encode"
	"ferryman/insn"
	"ferryman/step"
)

// hand: a guest's run by hand: fetched and done by layer 13, asked by layer 14.
type hand struct {
	seen
	c *call.Calls
}

// byHand tells the run of a guest by hand.
func byHand(t *testing.T, d drawn) *hand {
	t.Helper()
	return &hand{fresh(t, d.i), call.New(d.replies, d.input)}
}

// step does an instruction and tells whether the guest goes on.
func (h *hand) step() bool {
	if h.outcome.Kind != api.SteppedOut {
		return false
	}
	i, f, ok := step.Fetch(h.m, h.s.PC)
	s := h.s
	if ok {
		s, f, ok = step.Do(h.m, h.s, i)
	}
	if !ok {
		h.outcome.Kind, h.outcome.Fault = api.Faulted, f
		return false
	}
	h.s = s
	h.steps++
	if i.Op != api.OInt {
		return true
	}
	h.s, _ = h.c.Do(h.m, s)
	h.events = h.c.Events()
	if s.R[api.EAX] == 1 {
		h.outcome.Kind, h.outcome.Code = api.Exited, s.R[api.EBX]
		return false
	}
	return true
}

// drawn: a guest at random, with what it is given.
type drawn struct {
	i       api.Image
	replies []uint32
	input   string
}

// drawnOperand tells an operand at random.
func drawnOperand(g *rand.Rand) api.Operand {
	switch g.Intn(4) {
	case 0:
		return api.Operand{}
	case 1:
		return api.Operand{Kind: api.KReg, Reg: g.Intn(8)}
	case 2:
		return api.Operand{Kind: api.KImm, Imm: []uint32{uint32(g.Intn(64)) - 24, uint32(g.Intn(256)), g.Uint32(), 128}[g.Intn(4)]}
	}
	// Mostly a place by itself: registers soon hold none.
	o := api.Operand{Kind: api.KMem, Base: -1, Index: -1, Scale: 1, Imm: drawnPlace(g)}
	if g.Intn(3) == 0 {
		o.Base, o.Imm = g.Intn(8), uint32(g.Intn(32))
	}
	if g.Intn(12) == 0 {
		o.Index, o.Scale = g.Intn(4), 1<<g.Intn(4)
	}
	return o
}

// drawnInsn tells the bytes of an instruction at random, each operation as likely as another.
func drawnInsn(g *rand.Rand) string {
	op := api.OMov + g.Intn(api.OFcom)
	for {
		i := api.Insn{Op: op, A: drawnOperand(g), B: drawnOperand(g), Rep: g.Intn(2) == 0, Cond: g.Intn(2) * g.Intn(16)}
		if !insn.Is(i) {
			continue
		}
		if b, e := encode.Encode(i); e == api.OK {
			return string(b)
		}
	}
}

// pool tells the bytes of many instructions at random, from which code is drawn.
func pool(g *rand.Rand) []string {
	var l []string
	for range 4000 {
		l = append(l, drawnInsn(g))
	}
	return l
}

// drawnCall tells the bytes of a call of the guest at random.
func drawnCall(g *rand.Rand) string {
	n := []uint32{1, 3, 3, 4, 4, 20, 91, 125, 192, g.Uint32()}[g.Intn(10)]
	b, c, d := g.Uint32()>>(8*g.Intn(4)), uint32(g.Intn(10*256)), uint32(g.Intn(70))
	if n > 4 {
		b, c, d = uint32(256*(4+g.Intn(8))), uint32(g.Intn(4)), uint32(g.Intn(9))
	}
	return calling(n, b, c, d)
}

// drawnCode tells n bytes of code at random.
func drawnCode(g *rand.Rand, l []string, n int) string {
	b := ""
	for len(b) < n {
		switch g.Intn(12) {
		case 0:
			b += drawnCall(g)
		case 1:
			b += mov(g.Intn(8), drawnPlace(g))
		default:
			b += l[g.Intn(len(l))]
		}
		switch g.Intn(200) {
		case 0:
			b += "\x0f\x0b"
		case 1:
			b += string([]byte{byte(g.Intn(256))})
		}
	}
	return b[:n]
}

// drawnPlace tells a place at random where a guest has what it works upon.
func drawnPlace(g *rand.Rand) uint32 { return uint32(4*256 + g.Intn(6*256)) }

// drawnGuest tells a guest at random: code in pages 0 to 3, and what it works upon behind them,
// in an order of their own.
func drawnGuest(g *rand.Rand, l []string) drawn {
	var d drawn
	bytes := drawnCode(g, l, 4*256) + many(g.Intn(9)) + many(g.Intn(9)) + drawnCode(g, l, 4*256)
	for _, p := range g.Perm(10) {
		rights := rw
		if p < 4 {
			rights = rwx
		}
		if g.Intn(5) == 0 {
			rights = g.Intn(8)
		}
		if rights != 0 {
			d.i.Spans = append(d.i.Spans, api.Span{Page: p, Count: 1, Rights: rights, Bytes: bytes[256*p : 256*p+256-g.Intn(2)*g.Intn(9)]})
		}
	}
	d.i.S = drawnState(g)
	for n := range d.i.S.R {
		if g.Intn(4) > 0 {
			d.i.S.R[n] = drawnPlace(g)
		}
	}
	if d.i.S.PC = 0; g.Intn(4) == 0 {
		d.i.S.PC = uint32(g.Intn(4 * 256))
	}
	for range g.Intn(4) {
		d.replies = append(d.replies, g.Uint32())
	}
	d.input = drawnCode(g, l, g.Intn(200))
	return d
}

// Behind each step of guests at random all is as by hand.
func TestAgainstHandP15_2(t *testing.T) {
	g := rand.New(rand.NewSource(1501))
	l := pool(g)
	came := map[api.Outcome]int{} // how often: each outcome without its places, its code
	calls, steps := map[uint32]int{}, 0
	for range 4000 {
		d := drawnGuest(g, l)
		o, h := started(t, d.i, d.replies, d.input), byHand(t, d)
		h.is(t, o)
		for n, behind := 0, 0; n < 80 && behind < 3; n++ {
			was := len(h.events)
			goes := h.step()
			if !goes {
				behind++
			}
			if o.Step() != goes {
				t.Fatalf("%+v: %v, want %v", h.s, !goes, goes)
			}
			h.is(t, o)
			if len(h.events) > was {
				calls[h.events[was].N]++
			}
		}
		steps += h.steps
		end := h.outcome
		came[api.Outcome{Kind: end.Kind, Fault: api.Fault{Kind: end.Fault.Kind, Want: end.Fault.Want}}]++
	}
	if steps < 20000 {
		t.Errorf("%d steps", steps)
	}
	for _, k := range []api.Outcome{
		{}, {Kind: api.Exited}, faulted(api.FDivide, 0, 0, 0), faulted(api.FInsn, 0, 0, 0), faulted(api.FOther, 0, 0, 0),
		faulted(api.FPage, 0, 0, r), faulted(api.FPage, 0, 0, w), faulted(api.FPage, 0, 0, x),
	} {
		if came[k] < 5 {
			t.Errorf("%+v came %d times: the guests aren't drawn from all that there are", k, came[k])
		}
	}
	for _, n := range []uint32{1, 3, 4, 20, 91, 125, 192} {
		if calls[n] < 20 {
			t.Errorf("call %d came %d times", n, calls[n])
		}
	}
}

// Behind each Run of guests at random all is as behind as many steps.
func TestRunsAreStepsP15_2(t *testing.T) {
	g := rand.New(rand.NewSource(1502))
	l := pool(g)
	for range 600 {
		d := drawnGuest(g, l)
		o, h := started(t, d.i, d.replies, d.input), byHand(t, d)
		for range 12 {
			n := g.Intn(20) - 2
			v := o.Run(n)
			for range n {
				h.step()
			}
			if v != h.outcome {
				t.Fatalf("Run(%d): %+v, want %+v", n, v, h.outcome)
			}
			h.is(t, o)
		}
	}
}

// Guests at random that go on beside one another, in turns of their own.
func TestTurnsP15_2(t *testing.T) {
	g := rand.New(rand.NewSource(1503))
	l := pool(g)
	var os []*Oracle
	var hs []*hand
	for range 30 {
		d := drawnGuest(g, l)
		for range 2 {
			os, hs = append(os, started(t, d.i, d.replies, d.input)), append(hs, byHand(t, d))
		}
	}
	for range 3000 {
		n := g.Intn(len(os))
		os[n].Step()
		hs[n].step()
		n = g.Intn(len(os))
		hs[n].is(t, os[n])
	}
	for n, o := range os {
		hs[n].is(t, o)
	}
}

// All bytes as code, from each place on, in pages of each right.
func TestBytesAtRandomP15_2(t *testing.T) {
	g := rand.New(rand.NewSource(1504))
	for range 40 {
		b := make([]byte, api.GuestSize)
		g.Read(b)
		var d drawn
		for p := range api.Pages {
			if rights := g.Intn(8); rights != 0 {
				d.i.Spans = append(d.i.Spans, api.Span{Page: p, Count: 1, Rights: rights | g.Intn(8), Bytes: string(b[256*p : 256*p+256])})
			}
		}
		for range 60 {
			d.i.S = drawnState(g)
			d.i.S.PC = uint32(g.Intn(api.GuestSize + 20))
			o, h := started(t, d.i, nil, ""), byHand(t, d)
			v := o.Run(50)
			for range 50 {
				h.step()
			}
			if v != h.outcome {
				t.Fatalf("%+v, want %+v", v, h.outcome)
			}
			h.is(t, o)
		}
	}
}
