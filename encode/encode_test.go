package encode

import (
	"encoding/binary"
	"encoding/hex"
	"math"
	"math/rand"
	"slices"
	"strings"
	"testing"

	"ferryman/api"
	"ferryman/decode"
	"ferryman/insn"
)

func reg(r int) api.Operand    { return api.Operand{Kind: api.KReg, Reg: r} }
func imm(n uint32) api.Operand { return api.Operand{Kind: api.KImm, Imm: n} }
func mem(base, index int, scale, far uint32) api.Operand {
	return api.Operand{Kind: api.KMem, Base: base, Index: index, Scale: scale, Imm: far}
}

// hexed tells the bytes of a text of hexadecimal digits.
func hexed(t *testing.T, text string) []byte {
	t.Helper()
	b, err := hex.DecodeString(strings.ReplaceAll(text, " ", ""))
	if err != nil {
		t.Fatal(err)
	}
	return b
}

// check fails, if i isn't written as these bytes, or isn't read from them.
func check(t *testing.T, i api.Insn, want []byte) {
	t.Helper()
	b, err := Encode(i)
	if err != api.OK || !slices.Equal(b, want) {
		t.Fatalf("Encode(%+v): % x, %v, want % x", i, b, err, want)
	}
	if n := Len(i); n != len(want) {
		t.Fatalf("Len(%+v): %d, want %d", i, n, len(want))
	}
	read, n, err := decode.Decode(b)
	if err != api.OK || n != len(b) || !insn.Same(read, i) {
		t.Fatalf("% x of %+v is read as %+v, %d, %v", b, i, read, n, err)
	}
}

// checkNone fails, if there are bytes of i, which is no instruction.
func checkNone(t *testing.T, i api.Insn) {
	t.Helper()
	if b, err := Encode(i); len(b) != 0 || err != api.ErrInsn {
		t.Errorf("Encode(%+v): % x, %v", i, b, err)
	}
	if n := Len(i); n != 0 {
		t.Errorf("Len(%+v): %d", i, n)
	}
	for _, l := range [][]api.Insn{{i}, {i, {Op: api.ORet}}, {{Op: api.ORet}, i}} {
		if b, err := All(l); len(b) != 0 || err != api.ErrInsn {
			t.Errorf("All(%+v): % x, %v", l, b, err)
		}
	}
}

// TestExampleP11_1: the document's own.
func TestExampleP11_1(t *testing.T) {
	check(t, api.Insn{Op: api.OMov, A: reg(api.EAX), B: imm(1)}, []byte{0xb8, 1, 0, 0, 0})
}

// byHand: instructions of each row of decode's table, with registers and with memory where it
// has r/m, and their least bytes.
var byHand = map[string]api.Insn{
	"01 d8":                            {Op: api.OAdd, A: reg(0), B: reg(3)},
	"01 18":                            {Op: api.OAdd, A: mem(0, -1, 1, 0), B: reg(3)},
	"03 43 04":                         {Op: api.OAdd, A: reg(0), B: mem(3, -1, 1, 4)},
	"05 78 56 34 12":                   {Op: api.OAdd, A: reg(0), B: imm(0x12345678)},
	"83 c0 05":                         {Op: api.OAdd, A: reg(0), B: imm(5)},
	"81 c1 78 56 34 12":                {Op: api.OAdd, A: reg(1), B: imm(0x12345678)},
	"83 02 05":                         {Op: api.OAdd, A: mem(2, -1, 1, 0), B: imm(5)},
	"81 00 00 01 00 00":                {Op: api.OAdd, A: mem(0, -1, 1, 0), B: imm(256)},
	"09 f9":                            {Op: api.OOr, A: reg(1), B: reg(7)},
	"0b 0f":                            {Op: api.OOr, A: reg(1), B: mem(7, -1, 1, 0)},
	"0d 01 02 03 84":                   {Op: api.OOr, A: reg(0), B: imm(0x84030201)},
	"81 c9 01 02 03 84":                {Op: api.OOr, A: reg(1), B: imm(0x84030201)},
	"11 0d 00 01 00 00":                {Op: api.OAdc, A: mem(-1, -1, 1, 256), B: reg(1)},
	"13 03":                            {Op: api.OAdc, A: reg(0), B: mem(3, -1, 1, 0)},
	"15 00 00 00 80":                   {Op: api.OAdc, A: reg(0), B: imm(0x80000000)},
	"83 d2 00":                         {Op: api.OAdc, A: reg(2), B: imm(0)},
	"19 d1":                            {Op: api.OSbb, A: reg(1), B: reg(2)},
	"1b 4c 24 04":                      {Op: api.OSbb, A: reg(1), B: mem(4, -1, 1, 4)},
	"1d 80 00 00 00":                   {Op: api.OSbb, A: reg(0), B: imm(128)},
	"83 d8 80":                         {Op: api.OSbb, A: reg(0), B: imm(0xffffff80)},
	"21 c0":                            {Op: api.OAnd, A: reg(0), B: reg(0)},
	"23 05 00 00 00 00":                {Op: api.OAnd, A: reg(0), B: mem(-1, -1, 1, 0)},
	"25 ff 00 00 00":                   {Op: api.OAnd, A: reg(0), B: imm(255)},
	"81 64 24 08 ff 00 00 00":          {Op: api.OAnd, A: mem(4, -1, 1, 8), B: imm(255)},
	"29 4c b3 10":                      {Op: api.OSub, A: mem(3, 6, 4, 16), B: reg(1)},
	"2b 0c 98":                         {Op: api.OSub, A: reg(1), B: mem(0, 3, 4, 0)},
	"2d 7f ff ff ff":                   {Op: api.OSub, A: reg(0), B: imm(0xffffff7f)},
	"83 ec 7f":                         {Op: api.OSub, A: reg(4), B: imm(127)},
	"31 c0":                            {Op: api.OXor, A: reg(0), B: reg(0)},
	"33 55 00":                         {Op: api.OXor, A: reg(2), B: mem(5, -1, 1, 0)},
	"35 80 00 00 00":                   {Op: api.OXor, A: reg(0), B: imm(128)},
	"83 f6 ff":                         {Op: api.OXor, A: reg(6), B: imm(0xffffffff)},
	"39 fc":                            {Op: api.OCmp, A: reg(4), B: reg(7)},
	"3b 38":                            {Op: api.OCmp, A: reg(7), B: mem(0, -1, 1, 0)},
	"3d 80 ff 00 00":                   {Op: api.OCmp, A: reg(0), B: imm(0xff80)},
	"83 7d fc 7f":                      {Op: api.OCmp, A: mem(5, -1, 1, 0xfffffffc), B: imm(127)},
	"85 d9":                            {Op: api.OTest, A: reg(1), B: reg(3)},
	"85 0c 24":                         {Op: api.OTest, A: mem(4, -1, 1, 0), B: reg(1)},
	"a9 05 00 00 00":                   {Op: api.OTest, A: reg(0), B: imm(5)},
	"f7 c1 05 00 00 00":                {Op: api.OTest, A: reg(1), B: imm(5)},
	"f7 06 01 00 00 80":                {Op: api.OTest, A: mem(6, -1, 1, 0), B: imm(0x80000001)},
	"89 e5":                            {Op: api.OMov, A: reg(5), B: reg(4)},
	"89 04 24":                         {Op: api.OMov, A: mem(4, -1, 1, 0), B: reg(0)},
	"8b 04 8d 10 20 00 00":             {Op: api.OMov, A: reg(0), B: mem(-1, 1, 4, 0x2010)},
	"bf ff ff ff ff":                   {Op: api.OMov, A: reg(7), B: imm(0xffffffff)},
	"c7 00 01 00 00 00":                {Op: api.OMov, A: mem(0, -1, 1, 0), B: imm(1)},
	"c7 84 f5 04 03 02 01 88 77 66 55": {Op: api.OMov, A: mem(5, 6, 8, 0x01020304), B: imm(0x55667788)},
	"88 e0":                            {Op: api.OMov8, A: reg(0), B: reg(4)},
	"88 23":                            {Op: api.OMov8, A: mem(3, -1, 1, 0), B: reg(4)},
	"8a 1e":                            {Op: api.OMov8, A: reg(3), B: mem(6, -1, 1, 0)},
	"b4 ff":                            {Op: api.OMov8, A: reg(4), B: imm(255)},
	"b0 00":                            {Op: api.OMov8, A: reg(0), B: imm(0)},
	"c6 45 00 80":                      {Op: api.OMov8, A: mem(5, -1, 1, 0), B: imm(128)},
	"87 d9":                            {Op: api.OXchg, A: reg(1), B: reg(3)},
	"87 cb":                            {Op: api.OXchg, A: reg(3), B: reg(1)},
	"87 c0":                            {Op: api.OXchg, A: reg(0), B: reg(0)},
	"87 0b":                            {Op: api.OXchg, A: mem(3, -1, 1, 0), B: reg(1)},
	"90":                               {Op: api.ONop},
	"8d 64 24 e0":                      {Op: api.OLea, A: reg(4), B: mem(4, -1, 1, 0xffffffe0)},
	"8d 3d 01 00 00 00":                {Op: api.OLea, A: reg(7), B: mem(-1, -1, 1, 1)},
	"47":                               {Op: api.OInc, A: reg(7)},
	"ff 00":                            {Op: api.OInc, A: mem(0, -1, 1, 0)},
	"4c":                               {Op: api.ODec, A: reg(4)},
	"ff 4d 00":                         {Op: api.ODec, A: mem(5, -1, 1, 0)},
	"55":                               {Op: api.OPush, A: reg(5)},
	"68 80 00 00 00":                   {Op: api.OPush, A: imm(128)},
	"6a ff":                            {Op: api.OPush, A: imm(0xffffffff)},
	"ff 34 24":                         {Op: api.OPush, A: mem(4, -1, 1, 0)},
	"5c":                               {Op: api.OPop, A: reg(4)},
	"f7 d0":                            {Op: api.ONot, A: reg(0)},
	"f7 11":                            {Op: api.ONot, A: mem(1, -1, 1, 0)},
	"f7 d9":                            {Op: api.ONeg, A: reg(1)},
	"f7 1b":                            {Op: api.ONeg, A: mem(3, -1, 1, 0)},
	"f7 e1":                            {Op: api.OMul, A: reg(1)},
	"f7 27":                            {Op: api.OMul, A: mem(7, -1, 1, 0)},
	"f7 ea":                            {Op: api.OImul, A: reg(2)},
	"f7 6e 01":                         {Op: api.OImul, A: mem(6, -1, 1, 1)},
	"f7 f7":                            {Op: api.ODiv, A: reg(7)},
	"f7 35 00 02 00 00":                {Op: api.ODiv, A: mem(-1, -1, 1, 512)},
	"f7 fb":                            {Op: api.OIdiv, A: reg(3)},
	"f7 3c 24":                         {Op: api.OIdiv, A: mem(4, -1, 1, 0)},
	"c1 c0 1f":                         {Op: api.ORol, A: reg(0), B: imm(31)},
	"d1 00":                            {Op: api.ORol, A: mem(0, -1, 1, 0), B: imm(1)},
	"d3 c7":                            {Op: api.ORol, A: reg(7), B: reg(1)},
	"c1 08 ff":                         {Op: api.ORor, A: mem(0, -1, 1, 0), B: imm(255)},
	"d1 c9":                            {Op: api.ORor, A: reg(1), B: imm(1)},
	"d3 4c 24 01":                      {Op: api.ORor, A: mem(4, -1, 1, 1), B: reg(1)},
	"c1 e2 02":                         {Op: api.OShl, A: reg(2), B: imm(2)},
	"d1 e2":                            {Op: api.OShl, A: reg(2), B: imm(1)},
	"d3 23":                            {Op: api.OShl, A: mem(3, -1, 1, 0), B: reg(1)},
	"c1 6b 04 00":                      {Op: api.OShr, A: mem(3, -1, 1, 4), B: imm(0)},
	"d1 ef":                            {Op: api.OShr, A: reg(7), B: imm(1)},
	"d3 2a":                            {Op: api.OShr, A: mem(2, -1, 1, 0), B: reg(1)},
	"c1 fd 80":                         {Op: api.OSar, A: reg(5), B: imm(128)},
	"d1 3e":                            {Op: api.OSar, A: mem(6, -1, 1, 0), B: imm(1)},
	"d3 f9":                            {Op: api.OSar, A: reg(1), B: reg(1)},
	"0f af d1":                         {Op: api.OImul2, A: reg(2), B: reg(1)},
	"0f af 02":                         {Op: api.OImul2, A: reg(0), B: mem(2, -1, 1, 0)},
	"0f b6 c4":                         {Op: api.OMovzx, A: reg(0), B: reg(4)},
	"0f b6 4c 11 ff":                   {Op: api.OMovzx, A: reg(1), B: mem(1, 2, 1, 0xffffffff)},
	"0f be e7":                         {Op: api.OMovsx, A: reg(4), B: reg(7)},
	"0f be 00":                         {Op: api.OMovsx, A: reg(0), B: mem(0, -1, 1, 0)},
	"0f 94 c2":                         {Op: api.OSet, Cond: 4, A: reg(2)},
	"0f 9f 05 00 10 00 00":             {Op: api.OSet, Cond: 15, A: mem(-1, -1, 1, 4096)},
	"0f 40 c1":                         {Op: api.OCmov, A: reg(0), B: reg(1)},
	"0f 4c 53 7f":                      {Op: api.OCmov, Cond: 12, A: reg(2), B: mem(3, -1, 1, 127)},
	"70 00":                            {Op: api.OJcc, A: imm(0)},
	"7e fe":                            {Op: api.OJcc, Cond: 14, A: imm(0xfffffffe)},
	"0f 85 7f ff ff ff":                {Op: api.OJcc, Cond: 5, A: imm(0xffffff7f)},
	"e8 00 00 00 00":                   {Op: api.OCall, A: imm(0)},
	"e8 fb ff ff ff":                   {Op: api.OCall, A: imm(0xfffffffb)},
	"ff d3":                            {Op: api.OCall, A: reg(3)},
	"ff 54 24 fc":                      {Op: api.OCall, A: mem(4, -1, 1, 0xfffffffc)},
	"e9 80 00 00 00":                   {Op: api.OJmp, A: imm(128)},
	"eb 80":                            {Op: api.OJmp, A: imm(0xffffff80)},
	"ff e0":                            {Op: api.OJmp, A: reg(0)},
	"ff 24 b5 00 00 00 00":             {Op: api.OJmp, A: mem(-1, 6, 4, 0)},
	"c3":                               {Op: api.ORet},
	"99":                               {Op: api.OCdq},
	"fc":                               {Op: api.OCld},
	"fd":                               {Op: api.OStd},
	"a5":                               {Op: api.OMovs},
	"ab":                               {Op: api.OStos},
	"f3 a5":                            {Op: api.OMovs, Rep: true},
	"f3 ab":                            {Op: api.OStos, Rep: true},
	"cd 80":                            {Op: api.OInt, A: imm(128)},
	"dd 45 f8":                         {Op: api.OFld, A: mem(5, -1, 1, 0xfffffff8)},
	"dd 1c 24":                         {Op: api.OFst, A: mem(4, -1, 1, 0)},
	"dc 00":                            {Op: api.OFadd, A: mem(0, -1, 1, 0)},
	"dc 0d 08 00 00 00":                {Op: api.OFmul, A: mem(-1, -1, 1, 8)},
	"dc 14 c6":                         {Op: api.OFcom, A: mem(6, 0, 8, 0)},
	"dc a3 00 01 00 00":                {Op: api.OFsub, A: mem(3, -1, 1, 256)},
	"dc 77 01":                         {Op: api.OFdiv, A: mem(7, -1, 1, 1)},
	"d9 e0":                            {Op: api.OFchs},
	"d9 e1":                            {Op: api.OFabs},
}

// TestByHandP11_1: each instruction of byHand; there is one of each operation.
func TestByHandP11_1(t *testing.T) {
	ops := map[int]bool{}
	for text, i := range byHand {
		check(t, i, hexed(t, text))
		ops[i.Op] = true
	}
	if len(ops) != api.OFcom {
		t.Errorf("%d operations", len(ops))
	}
}

// TestAnyLenP11_1: how many bytes an instruction is said to have makes no difference.
func TestAnyLenP11_1(t *testing.T) {
	for text, i := range byHand {
		for _, n := range []int{1, 2, 14, 15, 16, 17, 256, -1, -15, 1 << 32, math.MaxInt, math.MinInt} {
			i.Len = n
			check(t, i, hexed(t, text))
		}
	}
}

// fits tells whether a number is that of a byte with its sign.
func fits(n uint32) bool { return n < 0x80 || n >= 0xffffff80 }

// atPlace tells ModRM, with the number in its middle, SIB and distance of a place in memory, as
// IA-32's manual has them, in the fewest bytes.
func atPlace(o api.Operand, middle int) []byte {
	word := binary.LittleEndian.AppendUint32(nil, o.Imm)
	lowest, high := o.Base, 0x80
	switch {
	case o.Base == -1:
		lowest, high = 5, 0
	case o.Imm == 0 && o.Base != 5:
		word, high = nil, 0
	case fits(o.Imm):
		word, high = word[:1], 0x40
	}
	if o.Index == -1 && o.Base != 4 {
		return append([]byte{byte(high | middle<<3 | lowest)}, word...)
	}
	sib := map[uint32]int{1: 0, 2: 0x40, 4: 0x80, 8: 0xc0}[o.Scale] | 4<<3 | lowest
	if o.Index != -1 {
		sib += (o.Index - 4) << 3
	}
	return append([]byte{byte(high | middle<<3 | 4), byte(sib)}, word...)
}

// edges: numbers about the ends of what fits into a byte with its sign, and far from there.
var edges = []uint32{
	0, 1, 2, 4, 0x7e, 0x7f, 0x80, 0x81, 0xfe, 0xff, 0x100, 0x17f, 0x180, 0x7fff, 0x8000, 0xff80, 0xffff, 0x10000,
	0x00ffffff, 0x12345678, 0x7f000000, 0x7fffffff, 0x80000000, 0x80000001, 0x8000007f, 0x8000ff80, 0xff000000,
	0xfffeff80, 0xffff0000, 0xffffff00, 0xffffff7e, 0xffffff7f, 0xffffff80, 0xffffff81, 0xfffffffe, 0xffffffff,
}

// places tells all places in memory, with each distance at an edge.
func places() []api.Operand {
	var l []api.Operand
	for base := -1; base < 8; base++ {
		for _, far := range edges {
			l = append(l, mem(base, -1, 1, far))
			for _, index := range []int{0, 1, 2, 3, 5, 6, 7} {
				for _, scale := range []uint32{1, 2, 4, 8} {
					l = append(l, mem(base, index, scale, far))
				}
			}
		}
	}
	return l
}

// TestPlacesByHandP11_1: places of each sort, written out, as a MOV of EDX to there.
func TestPlacesByHandP11_1(t *testing.T) {
	for text, o := range map[string]api.Operand{
		"10":                mem(0, -1, 1, 0),
		"17":                mem(7, -1, 1, 0),
		"55 00":             mem(5, -1, 1, 0),
		"14 24":             mem(4, -1, 1, 0),
		"15 00 00 00 00":    mem(-1, -1, 1, 0),
		"15 ff ff ff ff":    mem(-1, -1, 1, 0xffffffff),
		"53 7f":             mem(3, -1, 1, 127),
		"93 80 00 00 00":    mem(3, -1, 1, 128),
		"53 80":             mem(3, -1, 1, 0xffffff80),
		"93 7f ff ff ff":    mem(3, -1, 1, 0xffffff7f),
		"54 24 04":          mem(4, -1, 1, 4),
		"94 24 00 00 00 80": mem(4, -1, 1, 0x80000000),
		"14 05 00 00 00 00": mem(-1, 0, 1, 0),
		"14 7d 08 00 00 00": mem(-1, 7, 2, 8),
		"14 ed ff ff ff ff": mem(-1, 5, 8, 0xffffffff),
		"14 08":             mem(0, 1, 1, 0),
		"14 01":             mem(1, 0, 1, 0),
		"14 2c":             mem(4, 5, 1, 0),
		"54 2d 00":          mem(5, 5, 1, 0),
		"54 8d 00":          mem(5, 1, 4, 0),
		"54 de ff":          mem(6, 3, 8, 0xffffffff),
		"94 5f 00 01 00 00": mem(7, 3, 2, 256),
	} {
		check(t, api.Insn{Op: api.OMov, A: o, B: reg(api.EDX)}, hexed(t, "89"+text))
	}
}

// TestPlacesP11_1: each base, index, scale and distance, as what is written to and what is read
// from, with each register, and with a number behind it.
func TestPlacesP11_1(t *testing.T) {
	all := places()
	if len(all) != 9*29*36 {
		t.Fatalf("%d places", len(all))
	}
	for k, o := range all {
		r := k % 8
		for code, i := range map[string]api.Insn{
			"\x89":     {Op: api.OMov, A: o, B: reg(r)},
			"\x8b":     {Op: api.OMov, A: reg(r), B: o},
			"\x0f\xaf": {Op: api.OImul2, A: reg(r), B: o},
			"\x8d":     {Op: api.OLea, A: reg(r), B: o},
		} {
			check(t, i, append([]byte(code), atPlace(o, r)...))
		}
		check(t, api.Insn{Op: api.OMov, A: o, B: imm(o.Imm)},
			binary.LittleEndian.AppendUint32(append([]byte("\xc7"), atPlace(o, 0)...), o.Imm))
		check(t, api.Insn{Op: api.OShr, A: o, B: imm(uint32(k)%200 + 2)},
			append(append([]byte("\xc1"), atPlace(o, 5)...), byte(k%200+2)))
	}
}

// eight: the operations whose codes are alike, in the order of these.
var eight = []int{api.OAdd, api.OOr, api.OAdc, api.OSbb, api.OAnd, api.OSub, api.OXor, api.OCmp}

// TestEightP11_1: each of the eight with each register, with memory, with each number: one that
// fits into a byte is one, and else EAX has a way of its own.
func TestEightP11_1(t *testing.T) {
	far := mem(5, 0, 1, 0x1000)
	for n, op := range eight {
		for r := range 8 {
			for q := range 8 {
				check(t, api.Insn{Op: op, A: reg(r), B: reg(q)}, []byte{byte(8*n + 1), byte(0xc0 | q<<3 | r)})
			}
			check(t, api.Insn{Op: op, A: far, B: reg(r)}, append([]byte{byte(8*n + 1)}, atPlace(far, r)...))
			check(t, api.Insn{Op: op, A: reg(r), B: far}, append([]byte{byte(8*n + 3)}, atPlace(far, r)...))
			for _, x := range edges {
				check(t, api.Insn{Op: op, A: reg(r), B: imm(x)}, eightOf(n, r, []byte{byte(0xc0 | n<<3 | r)}, x))
			}
		}
		for _, x := range edges {
			check(t, api.Insn{Op: op, A: far, B: imm(x)}, eightOf(n, -1, atPlace(far, n), x))
		}
	}
}

// eightOf tells what the n-th of the eight is with a number: of a register, or of none (-1).
func eightOf(n, r int, place []byte, x uint32) []byte {
	word := binary.LittleEndian.AppendUint32(nil, x)
	switch {
	case fits(x):
		return append(append([]byte{0x83}, place...), byte(x))
	case r == api.EAX:
		return append([]byte{byte(8*n + 5)}, word...)
	}
	return append(append([]byte{0x81}, place...), word...)
}

// TestNumbersP11_1: of other operations too those that may be bytes with a sign are, from the
// least to the greatest that fits, and no others.
func TestNumbersP11_1(t *testing.T) {
	for _, x := range edges {
		word := binary.LittleEndian.AppendUint32(nil, x)
		for _, c := range []struct {
			op          int
			short, long string
		}{{api.OPush, "\x6a", "\x68"}, {api.OJmp, "\xeb", "\xe9"}, {api.OJcc, "\x70", "\x0f\x80"}, {api.OCall, "", "\xe8"}} {
			want := append([]byte(c.long), word...)
			if fits(x) && c.short != "" {
				want = append([]byte(c.short), byte(x))
			}
			check(t, api.Insn{Op: c.op, A: imm(x)}, want)
		}
		for r := range 8 {
			check(t, api.Insn{Op: api.OMov, A: reg(r), B: imm(x)}, append([]byte{byte(0xb8 + r)}, word...))
			want := append([]byte{0xf7, byte(0xc0 + r)}, word...)
			if r == api.EAX {
				want = append([]byte{0xa9}, word...)
			}
			check(t, api.Insn{Op: api.OTest, A: reg(r), B: imm(x)}, want)
		}
	}
}

// TestBytesP11_1: each number of a byte, as one that is moved and one that is shifted by: by 1
// there is a way of its own.
func TestBytesP11_1(t *testing.T) {
	m := mem(6, -1, 1, 0xffffffff)
	shifts := map[int]int{api.ORol: 0, api.ORor: 1, api.OShl: 4, api.OShr: 5, api.OSar: 7}
	for x := range 256 {
		n := imm(uint32(x))
		for r := range 8 {
			check(t, api.Insn{Op: api.OMov8, A: reg(r), B: n}, []byte{byte(0xb0 + r), byte(x)})
		}
		check(t, api.Insn{Op: api.OMov8, A: m, B: n}, []byte{0xc6, 0x46, 0xff, byte(x)})
		for op, digit := range shifts {
			want := [][]byte{{0xc1, byte(0xc0 + 8*digit + x%8), byte(x)}, {0xc1, byte(0x46 + 8*digit), 0xff, byte(x)}}
			if x == 1 {
				want = [][]byte{{0xd1, byte(0xc1 + 8*digit)}, {0xd1, byte(0x46 + 8*digit), 0xff}}
			}
			check(t, api.Insn{Op: op, A: reg(x % 8), B: n}, want[0])
			check(t, api.Insn{Op: op, A: m, B: n}, want[1])
		}
	}
}

// TestRegistersP11_1: each register in the code, and in r/m where there is no shorter way.
func TestRegistersP11_1(t *testing.T) {
	for r := range 8 {
		for code, op := range map[int]int{0x40: api.OInc, 0x48: api.ODec, 0x50: api.OPush, 0x58: api.OPop} {
			check(t, api.Insn{Op: op, A: reg(r)}, []byte{byte(code + r)})
		}
		for code, op := range map[int]int{
			0xf7d0: api.ONot, 0xf7d8: api.ONeg, 0xf7e0: api.OMul, 0xf7e8: api.OImul, 0xf7f0: api.ODiv, 0xf7f8: api.OIdiv,
			0xffd0: api.OCall, 0xffe0: api.OJmp,
		} {
			check(t, api.Insn{Op: op, A: reg(r)}, []byte{byte(code >> 8), byte(code + r)})
		}
		for q := range 8 {
			for code, op := range map[int]int{0x85: api.OTest, 0x87: api.OXchg, 0x88: api.OMov8, 0x89: api.OMov} {
				check(t, api.Insn{Op: op, A: reg(r), B: reg(q)}, []byte{byte(code), byte(0xc0 | q<<3 | r)})
			}
			for code, op := range map[int]int{0xaf: api.OImul2, 0xb6: api.OMovzx, 0xbe: api.OMovsx} {
				check(t, api.Insn{Op: op, A: reg(r), B: reg(q)}, []byte{0x0f, byte(code), byte(0xc0 | r<<3 | q)})
			}
		}
	}
}

// TestConditionsP11_1: each condition.
func TestConditionsP11_1(t *testing.T) {
	m := mem(-1, -1, 1, 0x80)
	for c := range 16 {
		x := byte(c)
		check(t, api.Insn{Op: api.OJcc, Cond: c, A: imm(0x7f)}, []byte{0x70 + x, 0x7f})
		check(t, api.Insn{Op: api.OJcc, Cond: c, A: imm(0x80)}, []byte{0x0f, 0x80 + x, 0x80, 0, 0, 0})
		check(t, api.Insn{Op: api.OSet, Cond: c, A: m}, []byte{0x0f, 0x90 + x, 0x05, 0x80, 0, 0, 0})
		check(t, api.Insn{Op: api.OCmov, Cond: c, A: reg(3), B: m}, []byte{0x0f, 0x40 + x, 0x1d, 0x80, 0, 0, 0})
		for r := range 8 {
			check(t, api.Insn{Op: api.OSet, Cond: c, A: reg(r)}, []byte{0x0f, 0x90 + x, byte(0xc0 + r)})
			check(t, api.Insn{Op: api.OCmov, Cond: c, A: reg(r), B: reg(7)}, []byte{0x0f, 0x40 + x, byte(0xc7 | r<<3)})
		}
	}
}

// longer: bytes that decode's table has, with the least ones of the same instruction.
var longer = map[string]string{
	"03 c3":                            "01 d8",
	"81 c0 05 00 00 00":                "83 c0 05",
	"05 05 00 00 00":                   "83 c0 05",
	"05 80 ff ff ff":                   "83 c0 80",
	"81 c0 80 00 00 00":                "05 80 00 00 00",
	"81 3c 24 ff ff ff ff":             "83 3c 24 ff",
	"f7 c0 05 00 00 00":                "a9 05 00 00 00",
	"8b ec":                            "89 e5",
	"c7 c0 01 00 00 00":                "b8 01 00 00 00",
	"8a c4":                            "88 e0",
	"c6 c1 00":                         "b1 00",
	"ff c1":                            "41",
	"ff cf":                            "4f",
	"ff f4":                            "54",
	"68 7f 00 00 00":                   "6a 7f",
	"68 80 ff ff ff":                   "6a 80",
	"c1 e0 01":                         "d1 e0",
	"c1 bc 24 00 00 00 00 01":          "d1 3c 24",
	"0f 84 fe ff ff ff":                "74 fe",
	"e9 00 00 00 00":                   "eb 00",
	"89 40 00":                         "89 00",
	"89 80 7f 00 00 00":                "89 40 7f",
	"89 85 00 00 00 00":                "89 45 00",
	"89 04 20":                         "89 00",
	"89 04 e3":                         "89 03",
	"89 04 64":                         "89 04 24",
	"89 44 e4 00":                      "89 04 24",
	"89 84 a5 80 ff ff ff":             "89 45 80",
	"89 04 25 01 00 00 00":             "89 05 01 00 00 00",
	"89 04 e5 ff ff ff ff":             "89 05 ff ff ff ff",
	"89 44 08 00":                      "89 04 08",
	"89 84 0d 00 00 00 00":             "89 44 0d 00",
	"8b 84 8b 08 00 00 00":             "8b 44 8b 08",
	"81 84 e4 7f 00 00 00 01 00 00 00": "83 44 24 7f 01",
	"81 83 7f ff ff ff 7f 00 00 00":    "83 83 7f ff ff ff 7f",
	"81 43 80 80 00 00 00":             "81 43 80 80 00 00 00",
	"c7 84 63 80 ff ff ff 01 02 03 04": "c7 43 80 01 02 03 04",
	"dd 84 20 01 00 00 00":             "dd 40 01",
	"0f b6 84 24 10 00 00 00":          "0f b6 44 24 10",
	"0f 94 44 20 00":                   "0f 94 00",
	"ff 94 25 00 00 00 00":             "ff 55 00",
	"8d 84 05 ff ff ff ff":             "8d 44 05 ff",
}

// TestLongerP11_1: what is read of longer is written in its least bytes.
func TestLongerP11_1(t *testing.T) {
	for text, least := range longer {
		b := hexed(t, text)
		i, n, err := decode.Decode(b)
		if err != api.OK || n != len(b) {
			t.Fatalf("Decode(% x): %+v, %v", b, i, err)
		}
		check(t, i, hexed(t, least))
	}
}

// checkLeast fails, if there is an instruction at the beginning of b, and it isn't written in as
// few bytes or, in as few, comes behind them.
func checkLeast(t *testing.T, b []byte) {
	t.Helper()
	i, n, err := decode.Decode(b)
	if err != api.OK {
		return
	}
	least, err := Encode(i)
	if err != api.OK || len(least) > n || len(least) == n && slices.Compare(least, b[:n]) > 0 {
		t.Fatalf("Encode(%+v): % x, %v, but there is % x", i, least, err, b[:n])
	}
	read, m, err := decode.Decode(least)
	if err != api.OK || m != len(least) || !insn.Same(read, i) {
		t.Fatalf("Encode(%+v): % x, which is %+v", i, least, read)
	}
}

// isShort tells whether b ends too early to be read.
func isShort(b []byte) bool {
	_, _, err := decode.Decode(b)
	return err == api.ErrShort
}

// numbers: bytes and words at the edges of what fits, as they are written.
var numbers = []string{
	"\x00", "\x01", "\x7f", "\x80", "\xff",
	"\x00\x00\x00\x00", "\x01\x00\x00\x00", "\x7f\x00\x00\x00", "\x80\xff\xff\xff", "\xff\xff\xff\xff",
	"\x80\x00\x00\x00", "\xff\x00\x00\x00", "\x7f\xff\xff\xff", "\x00\x00\x00\x80", "\x78\x56\x34\x12",
}

// TestAheadP11_1: what is shorter is ahead, and of what is as short what has the lesser byte first.
func TestAheadP11_1(t *testing.T) {
	order := []string{"", "\x00", "\x7f", "\x80", "\xff", "\x00\x00", "\x00\x80", "\x01\x00", "\x7f\xff", "\x80\x00", "\x00\x00\x00"}
	for k, x := range order {
		for m, y := range order {
			if got := ahead([]byte(x), []byte(y)); got != (k < m) {
				t.Errorf("ahead(% x, % x): %v", x, y, got)
			}
		}
	}
}

// eachFirst runs a test for each first byte of an instruction, several at once.
func eachFirst(t *testing.T, test func(t *testing.T, first int)) {
	for first := range 256 {
		t.Run(hex.EncodeToString([]byte{byte(first)}), func(t *testing.T) {
			t.Parallel()
			test(t, first)
		})
	}
}

// TestLeastP11_1: all first two bytes, with each of the numbers, each two of them and none behind:
// no bytes that are read are ahead of those that are written.
func TestLeastP11_1(t *testing.T) {
	eachFirst(t, func(t *testing.T, first int) {
		for second := range 256 {
			b := []byte{byte(first), byte(second)}
			checkLeast(t, b)
			if !isShort(b) {
				continue
			}
			for k, x := range numbers {
				checkLeast(t, append(b[:2:2], x...))
				for m := (k + second) % 3; m < len(numbers); m += 3 {
					checkLeast(t, append(b[:2:2], x+numbers[m]...))
				}
			}
		}
	})
}

// TestLeastOfThreeP11_1: likewise all first three bytes of which the last one is ModRM or SIB, with
// two of the numbers behind.
func TestLeastOfThreeP11_1(t *testing.T) {
	eachFirst(t, func(t *testing.T, first int) {
		for head := range 1 << 16 {
			second := head >> 8
			b := []byte{byte(first), byte(second), byte(head)}
			if isShort(b[:2]) && (first == 0x0f || second%8 == 4 && second < 0xc0) {
				k := head*7 + first
				checkLeast(t, append(b, numbers[k%len(numbers)]+numbers[k/31%len(numbers)]...))
			}
		}
	})
}

// wrong: what is none, of each kind of reasons, and what may not be written one way though there
// are bytes for it the other way round.
var wrong = []api.Insn{
	{},
	{Op: -1}, {Op: api.OFcom + 1}, {Op: 1 << 32}, {Op: 1<<32 + api.ORet}, {Op: math.MaxInt}, {Op: math.MinInt},
	{Op: api.OMov},
	{Op: api.OMov, A: reg(0)},
	{Op: api.OMov, A: imm(0), B: reg(0)},
	{Op: api.OMov, A: reg(8), B: reg(0)},
	{Op: api.OMov, A: reg(0), B: reg(-1)},
	{Op: api.OMov, A: reg(256), B: imm(1)},
	{Op: api.OMov, A: mem(0, -1, 1, 0), B: mem(0, -1, 1, 0)},
	{Op: api.OMov, A: mem(8, -1, 1, 0), B: reg(0)},
	{Op: api.OMov, A: mem(-2, -1, 1, 0), B: reg(0)},
	{Op: api.OMov, A: mem(0, 4, 1, 0), B: reg(0)},
	{Op: api.OMov, A: mem(0, 8, 1, 0), B: reg(0)},
	{Op: api.OMov, A: mem(0, -2, 1, 0), B: reg(0)},
	{Op: api.OMov, A: mem(0, 1, 0, 0), B: reg(0)},
	{Op: api.OMov, A: mem(0, 1, 3, 0), B: reg(0)},
	{Op: api.OMov, A: mem(0, 1, 16, 0), B: reg(0)},
	{Op: api.OMov, A: mem(0, 1, 1<<31+1, 0), B: reg(0)},
	{Op: api.OMov, A: mem(0, 1, math.MaxUint32, 0), B: reg(0)},
	{Op: api.OMov, A: mem(0, -1, 2, 0), B: reg(0)},
	{Op: api.OMov, A: mem(0, -1, 0, 0), B: reg(0)},
	{Op: api.OMov, A: mem(0, 0, 0, 0), B: reg(0)},
	{Op: api.OMov, A: api.Operand{Kind: api.KMem}, B: reg(0)},
	{Op: api.OMov, A: api.Operand{Kind: 4}, B: reg(0)},
	{Op: api.OMov, A: api.Operand{Kind: -1}, B: reg(0)},
	{Op: api.OMov, A: api.Operand{Kind: api.KReg, Imm: 1}, B: reg(0)},
	{Op: api.OMov, A: api.Operand{Kind: api.KReg, Scale: 1}, B: reg(0)},
	{Op: api.OMov, A: api.Operand{Kind: api.KReg, Base: -1, Index: -1, Scale: 1}, B: reg(0)},
	{Op: api.OMov, A: reg(0), B: api.Operand{Kind: api.KImm, Reg: 1}},
	{Op: api.OMov, A: reg(0), B: api.Operand{Kind: api.KImm, Base: 1}},
	{Op: api.OMov, A: api.Operand{Kind: api.KMem, Reg: 1, Index: -1, Scale: 1}, B: reg(0)},
	{Op: api.OMov, A: reg(0), B: reg(0), Cond: 1},
	{Op: api.OMov, A: reg(0), B: reg(0), Rep: true},
	{Op: api.OMov8, A: reg(0), B: imm(256)},
	{Op: api.OMov8, A: reg(0), B: imm(0xffffffff)},
	{Op: api.OMov8, A: mem(0, -1, 1, 0), B: imm(0xffffff80)},
	{Op: api.OTest, A: reg(0), B: mem(0, -1, 1, 0)},
	{Op: api.OXchg, A: reg(0), B: mem(0, -1, 1, 0)},
	{Op: api.OXchg, A: reg(0), B: imm(0)},
	{Op: api.OLea, A: reg(0), B: reg(0)},
	{Op: api.OLea, A: mem(0, -1, 1, 0), B: reg(0)},
	{Op: api.OInc, A: imm(0)},
	{Op: api.ONot, A: reg(0), B: reg(0)},
	{Op: api.OMul, A: imm(3)},
	{Op: api.OImul2, A: mem(0, -1, 1, 0), B: reg(0)},
	{Op: api.OImul2, A: reg(0), B: imm(3)},
	{Op: api.OMovzx, A: mem(0, -1, 1, 0), B: reg(0)},
	{Op: api.OMovsx, A: reg(0), B: imm(0)},
	{Op: api.OShl, A: reg(0), B: reg(0)},
	{Op: api.OShl, A: reg(0), B: reg(2)},
	{Op: api.ORol, A: reg(0), B: imm(256)},
	{Op: api.OSar, A: reg(0), B: imm(0xffffffff)},
	{Op: api.OShr, A: reg(0), B: mem(0, -1, 1, 0)},
	{Op: api.OShr, A: reg(0)},
	{Op: api.OPush},
	{Op: api.OPop, A: mem(0, -1, 1, 0)},
	{Op: api.OPop, A: imm(0)},
	{Op: api.OSet, Cond: 4, A: imm(0)},
	{Op: api.OSet, Cond: 16, A: reg(0)},
	{Op: api.OSet, Cond: -1, A: reg(0)},
	{Op: api.OSet, Cond: 256, A: reg(0)},
	{Op: api.OCmov, Cond: 4, A: mem(0, -1, 1, 0), B: reg(0)},
	{Op: api.OCmov, Cond: 16, A: reg(0), B: reg(0)},
	{Op: api.OJcc, Cond: 16, A: imm(0)},
	{Op: api.OJcc, Cond: 4, A: reg(0)},
	{Op: api.OJcc, Cond: 4, A: mem(0, -1, 1, 0)},
	{Op: api.OJcc, Rep: true, A: imm(0)},
	{Op: api.OJmp, Cond: 4, A: imm(0)},
	{Op: api.OCall},
	{Op: api.ORet, A: imm(4)},
	{Op: api.ORet, Rep: true},
	{Op: api.OMovs, A: mem(7, -1, 1, 0), B: mem(6, -1, 1, 0)},
	{Op: api.OStos, B: reg(0), Rep: true},
	{Op: api.ONop, Rep: true},
	{Op: api.OInt},
	{Op: api.OInt, A: imm(3)},
	{Op: api.OInt, A: imm(129)},
	{Op: api.OInt, A: imm(0xffffff80)},
	{Op: api.OFld, A: reg(0)},
	{Op: api.OFst, A: imm(0)},
	{Op: api.OFadd, A: reg(1)},
	{Op: api.OFcom},
	{Op: api.OFdiv, A: mem(0, -1, 1, 0), B: reg(0)},
	{Op: api.OFchs, A: mem(0, -1, 1, 0)},
	{Op: api.OFabs, A: reg(0)},
}

// TestNoneP11_1: what is no instruction, whatever it is said to have of bytes, has none.
func TestNoneP11_1(t *testing.T) {
	for _, i := range wrong {
		for _, n := range []int{0, 2, 15, 16, -1} {
			i.Len = n
			checkNone(t, i)
		}
	}
}

// TestEachOpP11_1: each number of an operation with each pair of operands: what layer 9 has as an
// instruction is written, and nothing else is.
func TestEachOpP11_1(t *testing.T) {
	operands := []api.Operand{
		{}, reg(0), reg(1), reg(7), reg(8), imm(0), imm(1), imm(128), imm(255), imm(256), imm(0xffffff80),
		mem(0, -1, 1, 0), mem(5, 5, 8, 1), mem(-1, -1, 1, 128), mem(1, 4, 1, 0),
	}
	for op := -1; op <= api.OFcom+2; op++ {
		for _, a := range operands {
			for _, b := range operands {
				for _, i := range []api.Insn{{Op: op, A: a, B: b}, {Op: op, A: a, B: b, Cond: 9}, {Op: op, A: a, B: b, Rep: true}} {
					if bytes, err := Encode(i); (err == api.OK) != insn.Is(i) || (len(bytes) != 0) != insn.Is(i) {
						t.Fatalf("Encode(%+v): % x, %v", i, bytes, err)
					}
				}
			}
		}
	}
}

// written tells instructions of byHand with their bytes, in the order of these.
func written(t *testing.T) ([]api.Insn, [][]byte) {
	t.Helper()
	var texts []string
	for text := range byHand {
		texts = append(texts, text)
	}
	slices.Sort(texts)
	var l []api.Insn
	var bytes [][]byte
	for _, text := range texts {
		l = append(l, byHand[text])
		bytes = append(bytes, hexed(t, text))
	}
	return l, bytes
}

// TestAllP11_1: of none, of one, of each two behind each other, of many.
func TestAllP11_1(t *testing.T) {
	for _, l := range [][]api.Insn{nil, {}, make([]api.Insn, 0, 4)} {
		if b, err := All(l); len(b) != 0 || err != api.OK {
			t.Errorf("All(%v): % x, %v", l, b, err)
		}
	}
	l, bytes := written(t)
	for k := range l {
		checkAll(t, l[k:k+1], bytes[k])
		for m := range l {
			checkAll(t, []api.Insn{l[k], l[m]}, slices.Concat(bytes[k], bytes[m]))
		}
	}
	checkAll(t, l, slices.Concat(bytes...))
	var many []api.Insn
	for range 200 {
		many = append(many, l...)
	}
	checkAll(t, many, slices.Concat(slices.Repeat(bytes, 200)...))
}

// checkAll fails, if instructions aren't written as these bytes, or were changed.
func checkAll(t *testing.T, l []api.Insn, want []byte) {
	t.Helper()
	was := slices.Clone(l)
	b, err := All(l)
	if err != api.OK || !slices.Equal(b, want) {
		t.Fatalf("All(%+v): % x, %v, want % x", l, b, err, want)
	}
	if !slices.Equal(l, was) {
		t.Fatalf("All changed %+v to %+v", was, l)
	}
}

// TestAllWithNoneP11_1: one that is none, at each place among others, and all that are none.
func TestAllWithNoneP11_1(t *testing.T) {
	l, _ := written(t)
	for k := range len(l) + 1 {
		with := slices.Insert(slices.Clone(l), k, wrong[k%len(wrong)])
		if b, err := All(with); len(b) != 0 || err != api.ErrInsn {
			t.Errorf("All with none at %d: % x, %v", k, b, err)
		}
	}
	if b, err := All(wrong); len(b) != 0 || err != api.ErrInsn {
		t.Errorf("All of what is none: % x, %v", b, err)
	}
}

// TestOwnMemoryP11_1: what is answered isn't touched by what is done with another answer, nor with
// its spare room.
func TestOwnMemoryP11_1(t *testing.T) {
	l, bytes := written(t)
	var each [][]byte
	for range 2 {
		for k := range l {
			b, _ := Encode(l[k])
			one, _ := All(l[k : k+1])
			each = append(each, b, one)
		}
	}
	for k, b := range each {
		if !slices.Equal(b, bytes[k/2%len(l)]) {
			t.Fatalf("Encode(%+v): % x, behind others", l[k/2%len(l)], b)
		}
		clear(b[:cap(b)])
	}
	for k := range l {
		check(t, l[k], bytes[k])
	}
}

// anyPlace tells a place in memory at random, many with a short distance.
func anyPlace(r *rand.Rand) api.Operand {
	index := []int{-1, 0, 1, 2, 3, 5, 6, 7}[r.Intn(8)]
	scale := uint32(1)
	if index != -1 {
		scale = 1 << r.Intn(4)
	}
	return mem(r.Intn(9)-1, index, scale, anyNumber(r))
}

// anyNumber tells a number at random, many about those that fit into a byte.
func anyNumber(r *rand.Rand) uint32 {
	switch r.Intn(4) {
	case 0:
		return uint32(r.Intn(512) - 256)
	case 1:
		return edges[r.Intn(len(edges))]
	case 2:
		return uint32(r.Intn(256))
	}
	return r.Uint32()
}

// anyOperand tells an operand at random.
func anyOperand(r *rand.Rand) api.Operand {
	switch r.Intn(4) {
	case 0:
		return reg(r.Intn(8))
	case 1:
		return imm(anyNumber(r))
	case 2:
		return anyPlace(r)
	}
	return api.Operand{}
}

// anyInsn tells an instruction at random.
func anyInsn(r *rand.Rand) api.Insn {
	for {
		i := api.Insn{Op: 1 + r.Intn(api.OFcom), A: anyOperand(r), B: anyOperand(r), Rep: r.Intn(4) == 0, Len: r.Intn(16)}
		if r.Intn(2) == 0 {
			i.Cond = r.Intn(16)
		}
		if insn.Is(i) {
			return i
		}
	}
}

// TestReadAsTheSameP11_2: instructions at random are read as they were, whatever stands behind,
// with as many bytes as Len tells.
func TestReadAsTheSameP11_2(t *testing.T) {
	r := rand.New(rand.NewSource(11))
	for range 100000 {
		i := anyInsn(r)
		b, err := Encode(i)
		if err != api.OK || len(b) == 0 || len(b) > api.MaxLen || Len(i) != len(b) {
			t.Fatalf("Encode(%+v): % x, %v; Len %d", i, b, err, Len(i))
		}
		more := make([]byte, r.Intn(16))
		r.Read(more)
		read, n, err := decode.Decode(append(slices.Clone(b), more...))
		if err != api.OK || n != len(b) || read.Len != n || !insn.Same(read, i) {
			t.Fatalf("% x of %+v is read as %+v, %d, %v", b, i, read, n, err)
		}
	}
}

// TestRowIsReadP11_2: rows at random are read one behind the other as they were, up to their end.
func TestRowIsReadP11_2(t *testing.T) {
	r := rand.New(rand.NewSource(112))
	for range 200 {
		l := make([]api.Insn, r.Intn(200))
		sum := 0
		for k := range l {
			l[k] = anyInsn(r)
			sum += Len(l[k])
		}
		b, err := All(l)
		if err != api.OK || len(b) != sum {
			t.Fatalf("All(%+v): %d bytes, %v, want %d", l, len(b), err, sum)
		}
		for k, i := range l {
			read, n, err := decode.Decode(b)
			if err != api.OK || !insn.Same(read, i) {
				t.Fatalf("%d of %+v is read as %+v, %v", k, l, read, err)
			}
			b = b[n:]
		}
	}
}

// TestAnyBytesP11_2: what is read of bytes at random is written in no more, and read as the same.
func TestAnyBytesP11_2(t *testing.T) {
	r := rand.New(rand.NewSource(113))
	for range 200000 {
		b := make([]byte, 15)
		r.Read(b)
		if r.Intn(2) == 0 { // numbers that may be shorter
			copy(b[3+r.Intn(4):], "\xff\xff\xff\xff\xff\xff\xff\xff"[:3+r.Intn(6)])
		}
		checkLeast(t, b)
	}
}
