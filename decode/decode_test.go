package decode

import (
	"encoding/binary"
	"encoding/hex"
	"math/rand"
	"slices"
	"strconv"
	"strings"
	"testing"

	"ferryman/api"
	"ferryman/insn"
)

func reg(r int) api.Operand    { return api.Operand{Kind: api.KReg, Reg: r} }
func imm(n uint32) api.Operand { return api.Operand{Kind: api.KImm, Imm: n} }
func mem(base, index int, scale, far uint32) api.Operand {
	return api.Operand{Kind: api.KMem, Base: base, Index: index, Scale: scale, Imm: far}
}

// hexed tells the bytes of a text of hexadecimal digits.
func hexed(t *testing.T, text string) []byte {
	t.Helper()
	b, err := hex.DecodeString(strings.ReplaceAll(text, " ", ""))
	if err != nil {
		t.Fatal(err)
	}
	return b
}

// line: what the document's table has of a code: bytes as IA-32's manual writes them (+r, +c
// a register, a condition in the code, /r ModRM, /0 to /7 ModRM with that number, ib, id
// a byte, four of a number), the operation, its operands (rm r/m, m the same in memory alone,
// r ModRM's register, +r the code's, ib, sb, id numbers: a byte, a byte with its sign, four).
type line struct {
	bytes string
	op    int
	a, b  string
}

// eight: the operations whose codes are alike, in the order of these.
var eight = []int{api.OAdd, api.OOr, api.OAdc, api.OSbb, api.OAnd, api.OSub, api.OXor, api.OCmp}

// written: the document's table, but for the lines of the eight and of shifts.
var written = []line{
	{"85 /r", api.OTest, "rm", "r"},
	{"a9 id", api.OTest, "eax", "id"},
	{"f7 /0 id", api.OTest, "rm", "id"},
	{"89 /r", api.OMov, "rm", "r"},
	{"8b /r", api.OMov, "r", "rm"},
	{"b8+r id", api.OMov, "+r", "id"},
	{"c7 /0 id", api.OMov, "rm", "id"},
	{"88 /r", api.OMov8, "rm", "r"},
	{"8a /r", api.OMov8, "r", "rm"},
	{"b0+r ib", api.OMov8, "+r", "ib"},
	{"c6 /0 ib", api.OMov8, "rm", "ib"},
	{"87 /r", api.OXchg, "rm", "r"},
	{"90", api.ONop, "", ""},
	{"8d /r", api.OLea, "r", "m"},
	{"40+r", api.OInc, "+r", ""},
	{"ff /0", api.OInc, "rm", ""},
	{"48+r", api.ODec, "+r", ""},
	{"ff /1", api.ODec, "rm", ""},
	{"50+r", api.OPush, "+r", ""},
	{"68 id", api.OPush, "id", ""},
	{"6a ib", api.OPush, "sb", ""},
	{"ff /6", api.OPush, "rm", ""},
	{"58+r", api.OPop, "+r", ""},
	{"f7 /2", api.ONot, "rm", ""},
	{"f7 /3", api.ONeg, "rm", ""},
	{"f7 /4", api.OMul, "rm", ""},
	{"f7 /5", api.OImul, "rm", ""},
	{"f7 /6", api.ODiv, "rm", ""},
	{"f7 /7", api.OIdiv, "rm", ""},
	{"0f af /r", api.OImul2, "r", "rm"},
	{"0f b6 /r", api.OMovzx, "r", "rm"},
	{"0f be /r", api.OMovsx, "r", "rm"},
	{"0f 90+c /0", api.OSet, "rm", ""},
	{"0f 40+c /r", api.OCmov, "r", "rm"},
	{"0f 80+c id", api.OJcc, "id", ""},
	{"70+c ib", api.OJcc, "sb", ""},
	{"e8 id", api.OCall, "id", ""},
	{"e9 id", api.OJmp, "id", ""},
	{"eb ib", api.OJmp, "sb", ""},
	{"ff /2", api.OCall, "rm", ""},
	{"ff /4", api.OJmp, "rm", ""},
	{"c3", api.ORet, "", ""},
	{"99", api.OCdq, "", ""},
	{"fc", api.OCld, "", ""},
	{"fd", api.OStd, "", ""},
	{"a5", api.OMovs, "", ""},
	{"ab", api.OStos, "", ""},
	{"f3 a5", api.OMovs, "", ""},
	{"f3 ab", api.OStos, "", ""},
	{"cd 80", api.OInt, "128", ""},
	{"dd /0", api.OFld, "m", ""},
	{"dd /3", api.OFst, "m", ""},
	{"dc /0", api.OFadd, "m", ""},
	{"dc /1", api.OFmul, "m", ""},
	{"dc /2", api.OFcom, "m", ""},
	{"dc /4", api.OFsub, "m", ""},
	{"dc /6", api.OFdiv, "m", ""},
	{"d9 e0", api.OFchs, "", ""},
	{"d9 e1", api.OFabs, "", ""},
}

// lines tells the document's table.
func lines() []line {
	l := slices.Clone(written)
	two := func(x int) string { return strconv.FormatInt(int64(x)+0x100, 16)[1:] }
	for k, op := range eight {
		n := strconv.Itoa(k)
		l = append(l,
			line{two(8*k+1) + " /r", op, "rm", "r"},
			line{two(8*k+3) + " /r", op, "r", "rm"},
			line{two(8*k+5) + " id", op, "eax", "id"},
			line{"81 /" + n + " id", op, "rm", "id"},
			line{"83 /" + n + " ib", op, "rm", "sb"})
	}
	for n, op := range map[string]int{"0": api.ORol, "1": api.ORor, "4": api.OShl, "5": api.OShr, "7": api.OSar} {
		l = append(l,
			line{"c1 /" + n + " ib", op, "rm", "ib"},
			line{"d1 /" + n, op, "rm", "1"},
			line{"d3 /" + n, op, "rm", "ecx"})
	}
	slices.SortFunc(l, func(x, y line) int { return strings.Compare(x.bytes, y.bytes) })
	return l
}

// has tells whether the line's bytes have a field, or begin a field with that.
func (l line) has(text string) bool { return strings.Contains(l.bytes, text) }

// hasPlace tells whether the line has r/m.
func (l line) hasPlace() bool { return l.has("/") }

// form: r/m: the bits of ModRM beside the register's, the bytes behind it, what it stands for.
type form struct {
	modRM  byte
	behind []byte
	o      api.Operand
}

// distances: of one byte and of four, as they are written, with what they are worth.
var (
	bytesFar = map[string]uint32{"00": 0, "01": 1, "7f": 127, "80": 0xffffff80, "ff": 0xffffffff}
	wordsFar = map[string]uint32{
		"00000000": 0, "01000000": 1, "78563412": 0x12345678, "80000000": 0x80, "ff000000": 0xff,
		"ffffff7f": 0x7fffffff, "00000080": 0x80000000, "80ffffff": 0xffffff80, "ffffffff": 0xffffffff,
	}
)

// forms tells all that r/m can be, with each of the distances: the manual's tables of ModRM
// and SIB, column by column.
func forms(t *testing.T) []form {
	t.Helper()
	var l []form
	add := func(mod, rm int, sib []byte, base, index int, scale uint32) {
		far := map[int]map[string]uint32{0: {"": 0}, 1: bytesFar, 2: wordsFar}[mod]
		if mod == 0 && base == 5 {
			far, base = wordsFar, -1
		}
		for text, n := range far {
			behind := append(slices.Clone(sib), hexed(t, text)...)
			l = append(l, form{byte(mod<<6 | rm), behind, mem(base, index, scale, n)})
		}
	}
	for mod := range 3 {
		for rm := range 8 {
			if rm != 4 {
				add(mod, rm, nil, rm, -1, 1)
				continue
			}
			for sib := range 256 {
				scale, index, base := 1<<(sib/64), sib/8%8, sib%8
				if index == 4 {
					scale, index = 1, -1
				}
				add(mod, rm, []byte{byte(sib)}, base, index, uint32(scale))
			}
		}
	}
	for rm := range 8 {
		l = append(l, form{byte(0xc0 | rm), nil, reg(rm)})
	}
	slices.SortFunc(l, func(x, y form) int {
		return strings.Compare(string(x.modRM)+string(x.behind), string(y.modRM)+string(y.behind))
	})
	return l
}

// few tells one in so many of a list, the last one among them.
func few[T any](l []T, step int) []T {
	var some []T
	for k := len(l) - 1; k >= 0; k -= step {
		some = append(some, l[k])
	}
	return some
}

// choice: what a line leaves open: registers of the code and of ModRM, a condition, r/m,
// a number.
type choice struct {
	low, reg, cond int
	place          form
	n              uint32
}

// built tells a line's bytes and instruction by a choice.
func (l line) built(t *testing.T, c choice) ([]byte, api.Insn) {
	t.Helper()
	i := api.Insn{Op: l.op, A: l.operand(l.a, c), B: l.operand(l.b, c), Rep: strings.HasPrefix(l.bytes, "f3")}
	var b []byte
	for _, f := range strings.Fields(l.bytes) {
		code, more, _ := strings.Cut(f, "+")
		switch {
		case f == "/r":
			b = append(append(b, c.place.modRM|byte(c.reg<<3)), c.place.behind...)
		case f[0] == '/':
			b = append(append(b, c.place.modRM|(f[1]-'0')<<3), c.place.behind...)
		case f == "ib":
			b = append(b, byte(c.n))
		case f == "id":
			b = binary.LittleEndian.AppendUint32(b, c.n)
		default:
			b = append(b, hexed(t, code)...)
		}
		switch more {
		case "r":
			b[len(b)-1] += byte(c.low)
		case "c":
			b[len(b)-1] += byte(c.cond)
			i.Cond = c.cond
		}
	}
	i.Len = len(b)
	return b, i
}

// operand tells an operand by its text and a choice.
func (l line) operand(text string, c choice) api.Operand {
	switch text {
	case "":
		return api.Operand{}
	case "rm", "m":
		return c.place.o
	case "r":
		return reg(c.reg)
	case "+r":
		return reg(c.low)
	case "eax":
		return reg(0)
	case "ecx":
		return reg(1)
	case "ib":
		return imm(c.n % 256)
	case "sb":
		return imm(uint32(int32(int8(c.n))))
	case "id":
		return imm(c.n)
	}
	n, _ := strconv.Atoi(text)
	return imm(uint32(n))
}

// takes tells whether a line can have that r/m.
func (l line) takes(f form) bool {
	return f.o.Kind == api.KMem || l.a != "m" && l.b != "m"
}

// check fails, if b isn't read as it should be, or Kind isn't that of what is read.
func check(t *testing.T, b []byte, want api.Insn, wantErr api.Errno) {
	t.Helper()
	i, n, err := Decode(b)
	if i != want || n != want.Len || err != wantErr {
		t.Fatalf("Decode(% x): %+v, %d, %v, want %+v, %v", b, i, n, err, want, wantErr)
	}
	kind := 0
	switch wantErr {
	case api.ErrInsn:
		kind = api.FInsn
	case api.ErrForm:
		kind = api.FOther
	}
	if k := Kind(b); k != kind {
		t.Fatalf("Kind(% x): %d, want %d", b, k, kind)
	}
}

// checkWhole fails, if b isn't read as that instruction, with whatever behind it, and isn't
// too short, cut off behind each of its bytes: with the others in its spare room and without.
func checkWhole(t *testing.T, b []byte, want api.Insn) {
	t.Helper()
	if want.Len != len(b) || !insn.Is(want) {
		t.Fatalf("% x: the test's own %+v is no such instruction", b, want)
	}
	check(t, b, want, api.OK)
	for _, more := range []string{"\x00", "\xff", "\x80\x04\x25\x90\x90", "\x0f\x0b", strings.Repeat("\x0f", 40)} {
		check(t, append(slices.Clip(b), more...), want, api.OK)
	}
	for k := range b {
		check(t, b[:k], api.Insn{}, api.ErrShort)
		check(t, slices.Clone(b[:k:k]), api.Insn{}, api.ErrShort)
	}
}

// TestExampleP10_1: the document's own.
func TestExampleP10_1(t *testing.T) {
	checkWhole(t, []byte{0x01, 0xd8}, api.Insn{Op: api.OAdd, A: reg(api.EAX), B: reg(api.EBX), Len: 2})
}

// TestTableP10_1: the table's lines name each operation, and bytes of no two are alike.
func TestTableP10_1(t *testing.T) {
	ops, bytes := map[int]bool{}, map[string]bool{}
	for _, l := range lines() {
		if bytes[l.bytes] {
			t.Errorf("%s twice", l.bytes)
		}
		ops[l.op], bytes[l.bytes] = true, true
	}
	if len(ops) != 53 || len(bytes) != 114 {
		t.Errorf("%d operations, %d lines", len(ops), len(bytes))
	}
}

// TestPlacesP10_1: each line, with each r/m and each register.
func TestPlacesP10_1(t *testing.T) {
	all := forms(t)
	if len(all) != 4217 {
		t.Fatalf("%d forms of r/m", len(all))
	}
	for _, l := range lines() {
		if !l.hasPlace() {
			continue
		}
		for k, f := range all {
			if !l.takes(f) {
				continue
			}
			c := choice{reg: k % 8, cond: k / 8 % 16, place: f, n: 0x9abcdef0 + uint32(k)}
			b, i := l.built(t, c)
			check(t, b, i, api.OK)
		}
		for _, f := range few(all, 97) {
			for r := range 8 {
				if l.takes(f) {
					b, i := l.built(t, choice{reg: r, place: f, n: 0x80})
					check(t, b, i, api.OK)
				}
			}
		}
	}
}

// TestRegistersAndConditionsP10_1: each line, with each register and each condition in its
// code.
func TestRegistersAndConditionsP10_1(t *testing.T) {
	some := few(forms(t), 997)
	for _, l := range lines() {
		for k := range 16 {
			for _, f := range some {
				if l.takes(f) {
					b, i := l.built(t, choice{low: k % 8, reg: (k + 3) % 8, cond: k, place: f, n: 0xff})
					check(t, b, i, api.OK)
				}
			}
		}
	}
}

// TestNumbersP10_1: each line with a number, with each byte, each bit, each edge.
func TestNumbersP10_1(t *testing.T) {
	numbers := []uint32{0x12345678, 0x7fffffff, 0x80000000, 0xffffffff, 0xfffffffe, 0xffffff80, 0xffffff7f, 0xffff8000}
	for k := range 256 {
		numbers = append(numbers, uint32(k), uint32(k)<<8, uint32(k)<<16, uint32(k)<<24)
	}
	for _, l := range lines() {
		if !l.has("ib") && !l.has("id") {
			continue
		}
		for _, n := range numbers {
			for _, f := range []form{{0xc3, nil, reg(3)}, {0x44, []byte{0x8d, 0x80}, mem(5, 1, 4, 0xffffff80)}} {
				b, i := l.built(t, choice{low: 6, cond: 5, place: f, n: n})
				check(t, b, i, api.OK)
			}
		}
	}
}

// TestShortP10_1: each line, cut off behind each of its bytes.
func TestShortP10_1(t *testing.T) {
	some := few(forms(t), 41)
	for _, l := range lines() {
		for k, f := range some {
			if l.takes(f) {
				b, i := l.built(t, choice{low: k % 8, reg: k / 8 % 8, cond: k % 16, place: f, n: 0x0b0f0b0f << (k % 3)})
				checkWhole(t, b, i)
			}
		}
	}
}

// byHand: instructions of each row of the table, written out; Len is how many bytes there are.
var byHand = map[string]api.Insn{
	"03 43 04":                         {Op: api.OAdd, A: reg(0), B: mem(3, -1, 1, 4)},
	"0d 01 02 03 84":                   {Op: api.OOr, A: reg(0), B: imm(0x84030201)},
	"11 0d 00 01 00 00":                {Op: api.OAdc, A: mem(-1, -1, 1, 256), B: reg(1)},
	"83 d8 80":                         {Op: api.OSbb, A: reg(0), B: imm(0xffffff80)},
	"81 64 24 08 ff 00 00 00":          {Op: api.OAnd, A: mem(4, -1, 1, 8), B: imm(255)},
	"2b 0c 98":                         {Op: api.OSub, A: reg(1), B: mem(0, 3, 4, 0)},
	"31 c0":                            {Op: api.OXor, A: reg(0), B: reg(0)},
	"83 7d fc 7f":                      {Op: api.OCmp, A: mem(5, -1, 1, 0xfffffffc), B: imm(127)},
	"85 c9":                            {Op: api.OTest, A: reg(1), B: reg(1)},
	"f7 06 01 00 00 80":                {Op: api.OTest, A: mem(6, -1, 1, 0), B: imm(0x80000001)},
	"89 e5":                            {Op: api.OMov, A: reg(5), B: reg(4)},
	"8b 04 8d 10 20 00 00":             {Op: api.OMov, A: reg(0), B: mem(-1, 1, 4, 0x2010)},
	"bf 78 56 34 12":                   {Op: api.OMov, A: reg(7), B: imm(0x12345678)},
	"c7 84 f5 04 03 02 01 88 77 66 55": {Op: api.OMov, A: mem(5, 6, 8, 0x01020304), B: imm(0x55667788)},
	"88 23":                            {Op: api.OMov8, A: mem(3, -1, 1, 0), B: reg(4)},
	"8a f8":                            {Op: api.OMov8, A: reg(7), B: reg(0)},
	"b4 ff":                            {Op: api.OMov8, A: reg(4), B: imm(255)},
	"c6 45 00 80":                      {Op: api.OMov8, A: mem(5, -1, 1, 0), B: imm(128)},
	"87 d9":                            {Op: api.OXchg, A: reg(1), B: reg(3)},
	"90":                               {Op: api.ONop},
	"8d 64 24 e0":                      {Op: api.OLea, A: reg(4), B: mem(4, -1, 1, 0xffffffe0)},
	"47":                               {Op: api.OInc, A: reg(7)},
	"ff 00":                            {Op: api.OInc, A: mem(0, -1, 1, 0)},
	"4c":                               {Op: api.ODec, A: reg(4)},
	"ff c9":                            {Op: api.ODec, A: reg(1)},
	"55":                               {Op: api.OPush, A: reg(5)},
	"68 ff 00 00 00":                   {Op: api.OPush, A: imm(255)},
	"6a ff":                            {Op: api.OPush, A: imm(0xffffffff)},
	"ff 75 08":                         {Op: api.OPush, A: mem(5, -1, 1, 8)},
	"5c":                               {Op: api.OPop, A: reg(4)},
	"f7 d0":                            {Op: api.ONot, A: reg(0)},
	"f7 1b":                            {Op: api.ONeg, A: mem(3, -1, 1, 0)},
	"f7 e1":                            {Op: api.OMul, A: reg(1)},
	"f7 6e 01":                         {Op: api.OImul, A: mem(6, -1, 1, 1)},
	"f7 f7":                            {Op: api.ODiv, A: reg(7)},
	"f7 3c 24":                         {Op: api.OIdiv, A: mem(4, -1, 1, 0)},
	"c1 c0 1f":                         {Op: api.ORol, A: reg(0), B: imm(31)},
	"c1 08 ff":                         {Op: api.ORor, A: mem(0, -1, 1, 0), B: imm(255)},
	"d1 e2":                            {Op: api.OShl, A: reg(2), B: imm(1)},
	"d3 2a":                            {Op: api.OShr, A: mem(2, -1, 1, 0), B: reg(1)},
	"d3 f9":                            {Op: api.OSar, A: reg(1), B: reg(1)},
	"0f af d1":                         {Op: api.OImul2, A: reg(2), B: reg(1)},
	"0f b6 4c 11 ff":                   {Op: api.OMovzx, A: reg(1), B: mem(1, 2, 1, 0xffffffff)},
	"0f be c4":                         {Op: api.OMovsx, A: reg(0), B: reg(4)},
	"0f 94 c2":                         {Op: api.OSet, Cond: 4, A: reg(2)},
	"0f 9f 05 00 10 00 00":             {Op: api.OSet, Cond: 15, A: mem(-1, -1, 1, 4096)},
	"0f 40 c1":                         {Op: api.OCmov, A: reg(0), B: reg(1)},
	"0f 4c 53 7f":                      {Op: api.OCmov, Cond: 12, A: reg(2), B: mem(3, -1, 1, 127)},
	"0f 85 fa ff ff ff":                {Op: api.OJcc, Cond: 5, A: imm(0xfffffffa)},
	"70 00":                            {Op: api.OJcc, A: imm(0)},
	"7e fe":                            {Op: api.OJcc, Cond: 14, A: imm(0xfffffffe)},
	"e8 fb ff ff ff":                   {Op: api.OCall, A: imm(0xfffffffb)},
	"e9 80 00 00 00":                   {Op: api.OJmp, A: imm(128)},
	"eb 80":                            {Op: api.OJmp, A: imm(0xffffff80)},
	"ff d3":                            {Op: api.OCall, A: reg(3)},
	"ff 24 b5 00 00 00 00":             {Op: api.OJmp, A: mem(-1, 6, 4, 0)},
	"c3":                               {Op: api.ORet},
	"99":                               {Op: api.OCdq},
	"fc":                               {Op: api.OCld},
	"fd":                               {Op: api.OStd},
	"a5":                               {Op: api.OMovs},
	"ab":                               {Op: api.OStos},
	"f3 a5":                            {Op: api.OMovs, Rep: true},
	"f3 ab":                            {Op: api.OStos, Rep: true},
	"cd 80":                            {Op: api.OInt, A: imm(128)},
	"dd 45 f8":                         {Op: api.OFld, A: mem(5, -1, 1, 0xfffffff8)},
	"dd 1c 24":                         {Op: api.OFst, A: mem(4, -1, 1, 0)},
	"dc 00":                            {Op: api.OFadd, A: mem(0, -1, 1, 0)},
	"dc 0d 08 00 00 00":                {Op: api.OFmul, A: mem(-1, -1, 1, 8)},
	"dc 14 c6":                         {Op: api.OFcom, A: mem(6, 0, 8, 0)},
	"dc a3 00 01 00 00":                {Op: api.OFsub, A: mem(3, -1, 1, 256)},
	"dc 77 01":                         {Op: api.OFdiv, A: mem(7, -1, 1, 1)},
	"d9 e0":                            {Op: api.OFchs},
	"d9 e1":                            {Op: api.OFabs},
}

// TestByHandP10_1: each instruction of byHand, whole and cut off.
func TestByHandP10_1(t *testing.T) {
	for text, i := range byHand {
		b := hexed(t, text)
		i.Len = len(b)
		checkWhole(t, b, i)
	}
}

// TestPlacesByHandP10_1: r/m of each sort, written out, as a MOV of EDX.
func TestPlacesByHandP10_1(t *testing.T) {
	for text, o := range map[string]api.Operand{
		"d0":                reg(0),
		"d4":                reg(4),
		"d7":                reg(7),
		"10":                mem(0, -1, 1, 0),
		"17":                mem(7, -1, 1, 0),
		"15 40 00 00 80":    mem(-1, -1, 1, 0x80000040),
		"50 00":             mem(0, -1, 1, 0),
		"55 80":             mem(5, -1, 1, 0xffffff80),
		"57 7f":             mem(7, -1, 1, 127),
		"95 00 00 00 00":    mem(5, -1, 1, 0),
		"91 ff ff ff ff":    mem(1, -1, 1, 0xffffffff),
		"14 24":             mem(4, -1, 1, 0),
		"14 64":             mem(4, -1, 1, 0),
		"14 e3":             mem(3, -1, 1, 0),
		"14 25 01 00 00 00": mem(-1, -1, 1, 1),
		"14 e5 01 00 00 00": mem(-1, -1, 1, 1),
		"14 05 00 00 00 80": mem(-1, 0, 1, 0x80000000),
		"14 ed ff ff ff ff": mem(-1, 5, 8, 0xffffffff),
		"14 28":             mem(0, 5, 1, 0),
		"14 44":             mem(4, 0, 2, 0),
		"14 bf":             mem(7, 7, 4, 0),
		"14 c0":             mem(0, 0, 8, 0),
		"54 25 ff":          mem(5, -1, 1, 0xffffffff),
		"54 2d 7f":          mem(5, 5, 1, 127),
		"54 64 80":          mem(4, -1, 1, 0xffffff80),
		"94 a5 00 00 01 00": mem(5, -1, 1, 0x10000),
		"94 b5 78 56 34 12": mem(5, 6, 4, 0x12345678),
		"94 24 00 00 00 80": mem(4, -1, 1, 0x80000000),
	} {
		b := hexed(t, "89"+text)
		checkWhole(t, b, api.Insn{Op: api.OMov, A: o, B: reg(api.EDX), Len: len(b)})
	}
}

// begins tells whether the first byte of an instruction of a line can be this.
func (l line) begins(first int) bool { return isCode(strings.Fields(l.bytes)[0], first) }

// opens tells whether the second one can be this then.
func (l line) opens(second int) bool {
	f := append(strings.Fields(l.bytes), "")[1]
	switch {
	case f == "" || f[0] == 'i': // it is behind the instruction, or of a number
		return true
	case f[0] == '/':
		return (f == "/r" || int(f[1]-'0') == second/8%8) && (second < 0xc0 || l.a != "m" && l.b != "m")
	}
	return isCode(f, second)
}

// isCode tells whether a byte is that of a field.
func isCode(field string, b int) bool {
	code, more, _ := strings.Cut(field, "+")
	least, err := strconv.ParseUint(code, 16, 8)
	count := map[string]int{"": 1, "r": 8, "c": 16}[more]
	return err == nil && b >= int(least) && b < int(least)+count
}

// wrong tells whether the chapter names bytes that begin so as no instruction.
func wrong(first, second int) bool {
	digit := second / 8 % 8
	switch first {
	case 0x0f:
		return second == 0x0b
	case 0x8d:
		return second >= 0xc0
	case 0xc6, 0xc7:
		return digit != 0
	case 0xff:
		return digit == 7
	}
	return false
}

// TestOpeningsP10_1: all first two bytes: what they begin, by the document's table, and how
// many of them there are, counted by hand.
func TestOpeningsP10_1(t *testing.T) {
	count := map[api.Errno]int{}
	for first := range 256 {
		of := slices.DeleteFunc(lines(), func(l line) bool { return !l.begins(first) })
		for second := range 256 {
			want, fit := api.ErrForm, 0
			for _, l := range of {
				if l.opens(second) {
					want = api.OK
					fit++
				}
			}
			if fit > 1 {
				t.Fatalf("%02x %02x begin %d lines", first, second, fit)
			}
			if wrong(first, second) {
				want = api.ErrInsn
			}
			checkOpening(t, byte(first), byte(second), want)
			count[want]++
		}
	}
	if count[api.OK] != 29248 || count[api.ErrInsn] != 545 || count[api.ErrForm] != 35743 {
		t.Errorf("%v", count)
	}
}

// checkOpening fails, if what begins with these bytes comes to another thing; behind them
// there is enough of each operand, with ModRM's /0.
func checkOpening(t *testing.T, first, second byte, want api.Errno) {
	t.Helper()
	for _, more := range []string{"\x00", "\x84"} {
		b := append([]byte{first, second}, strings.Repeat(more, 13)...)
		i, n, err := Decode(b)
		if err != want || i.Len != n || (n == 0) != (want != api.OK) || (i == api.Insn{}) != (want != api.OK) {
			t.Fatalf("Decode(% x): %+v, %d, %v, want %v", b, i, n, err, want)
		}
	}
}

// TestSettingP10_1: conditions' bytes have a third one that tells /n.
func TestSettingP10_1(t *testing.T) {
	for c := range 16 {
		for x := range 256 {
			b := []byte{0x0f, byte(0x90 + c), byte(x), 0, 0, 0, 0, 0, 0}
			want := api.OK
			if x/8%8 != 0 {
				want = api.ErrForm
				check(t, b[:3], api.Insn{}, want)
			}
			if i, _, err := Decode(b); err != want || err == api.OK && (i.Op != api.OSet || i.Cond != c) {
				t.Fatalf("Decode(% x): %+v, %v, want %v", b, i, err, want)
			}
		}
	}
}

// errors: bytes with the errors of what they are; behind each but its last byte they'd be
// too short.
var errors = map[string]api.Errno{
	"0f 0b": api.ErrInsn,
	"8d c0": api.ErrInsn, "8d ff": api.ErrInsn,
	"c6 08": api.ErrInsn, "c6 4c": api.ErrInsn, "c6 bd": api.ErrInsn, "c6 f8": api.ErrInsn,
	"c7 08": api.ErrInsn, "c7 14": api.ErrInsn, "c7 7d": api.ErrInsn, "c7 f8": api.ErrInsn,
	"ff 38": api.ErrInsn, "ff 3c": api.ErrInsn, "ff 7c": api.ErrInsn, "ff bd": api.ErrInsn, "ff ff": api.ErrInsn,
	"00": api.ErrForm, "02": api.ErrForm, "04": api.ErrForm, "06": api.ErrForm, "07": api.ErrForm,
	"3f": api.ErrForm, "26": api.ErrForm, "2e": api.ErrForm, "60": api.ErrForm, "66": api.ErrForm,
	"67": api.ErrForm, "69": api.ErrForm, "6b": api.ErrForm, "80": api.ErrForm, "82": api.ErrForm,
	"84": api.ErrForm, "86": api.ErrForm, "8c": api.ErrForm, "8f": api.ErrForm, "91": api.ErrForm,
	"97": api.ErrForm, "98": api.ErrForm, "a4": api.ErrForm, "a8": api.ErrForm, "aa": api.ErrForm,
	"c0": api.ErrForm, "c2": api.ErrForm, "cc": api.ErrForm, "d0": api.ErrForm, "d2": api.ErrForm,
	"d8": api.ErrForm, "db": api.ErrForm, "e0": api.ErrForm, "ea": api.ErrForm, "f0": api.ErrForm,
	"f2": api.ErrForm, "f4": api.ErrForm, "f6": api.ErrForm, "fe": api.ErrForm,
	"0f 05": api.ErrForm, "0f 0f": api.ErrForm, "0f 3f": api.ErrForm, "0f 50": api.ErrForm,
	"0f a5": api.ErrForm, "0f ab": api.ErrForm, "0f ae": api.ErrForm, "0f b7": api.ErrForm, "0f bf": api.ErrForm,
	"0f 90 08": api.ErrForm, "0f 9f 3c": api.ErrForm, "0f 94 d0": api.ErrForm,
	"f3 90": api.ErrForm, "f3 a4": api.ErrForm, "f3 f3": api.ErrForm, "f3 0f": api.ErrForm, "f3 01": api.ErrForm,
	"cd 03": api.ErrForm, "cd 00": api.ErrForm, "cd 7f": api.ErrForm, "cd 81": api.ErrForm,
	"d9 00": api.ErrForm, "d9 c0": api.ErrForm, "d9 df": api.ErrForm, "d9 e2": api.ErrForm, "d9 a5": api.ErrForm,
	"c1 14": api.ErrForm, "c1 d0": api.ErrForm, "c1 d8": api.ErrForm, "c1 74": api.ErrForm,
	"d1 d0": api.ErrForm, "d1 1c": api.ErrForm, "d3 b5": api.ErrForm, "d3 f0": api.ErrForm,
	"f7 0c": api.ErrForm, "f7 c8": api.ErrForm,
	"ff 1c": api.ErrForm, "ff d8": api.ErrForm, "ff 6c": api.ErrForm, "ff e8": api.ErrForm,
	"dc c0": api.ErrForm, "dc ca": api.ErrForm, "dc d1": api.ErrForm, "dc e3": api.ErrForm, "dc f7": api.ErrForm,
	"dc 1c": api.ErrForm, "dc 6c": api.ErrForm, "dc bd": api.ErrForm, "dc d8": api.ErrForm,
	"dd c0": api.ErrForm, "dd d8": api.ErrForm, "dd 0c": api.ErrForm, "dd 14": api.ErrForm, "dd bd": api.ErrForm,
}

// TestToldP10_1: errors are told by the bytes by which they are known, whatever is behind.
func TestToldP10_1(t *testing.T) {
	for text, want := range errors {
		b := hexed(t, text)
		for k := range b {
			check(t, b[:k], api.Insn{}, api.ErrShort)
		}
		check(t, b, api.Insn{}, want)
		for _, more := range []string{"\x00", "\x0b", "\x80", "\xa5", "\xe0", "\xff"} {
			for n := range 16 {
				check(t, append(slices.Clip(b), strings.Repeat(more, n)...), api.Insn{}, want)
			}
		}
	}
}

// TestNothingP10_1: no bytes are too few.
func TestNothingP10_1(t *testing.T) {
	for _, b := range [][]byte{nil, {}, make([]byte, 0, 20), []byte("\x90\x90")[:0]} {
		check(t, b, api.Insn{}, api.ErrShort)
	}
}

// TestManyP10_1: what is behind an instruction is as much as it likes.
func TestManyP10_1(t *testing.T) {
	b := make([]byte, 1<<20)
	check(t, b, api.Insn{}, api.ErrForm)
	b[0] = 0x0d
	check(t, b, api.Insn{Op: api.OOr, A: reg(0), B: imm(0), Len: 5}, api.OK)
}

// TestKindP10_2: faults of what is none or isn't in here, none of what is or is cut off.
func TestKindP10_2(t *testing.T) {
	for text, want := range map[string]int{
		"": 0, "01 d8": 0, "90": 0, "90 0f 0b": 0, "0f": 0, "f3": 0, "01": 0, "c7": 0, "dc 04": 0, "81 c0 00 00 00": 0,
		"0f 0b": 3, "0f 0b 90": 3, "8d c0": 3, "c7 c8": 3, "c6 38": 3, "ff f8": 3,
		"00": 4, "f4": 4, "66 90": 4, "0f 05": 4, "dc c0": 4, "ff 18": 4, "cd 03": 4, "f3 90": 4,
	} {
		if got := Kind(hexed(t, text)); got != want {
			t.Errorf("Kind(%s): %d, want %d", text, got, want)
		}
	}
	if Kind(nil) != 0 {
		t.Error("Kind of no bytes")
	}
}

// likely tells bytes at random, many of them such as begin instructions.
func likely(r *rand.Rand) []byte {
	b := make([]byte, r.Intn(20))
	r.Read(b)
	starts := "\x01\x0f\x0f\x0f\x81\x83\x89\x8b\x8d\xc1\xc6\xc7\xcd\xd1\xd3\xd9\xdc\xdd\xf3\xf7\xff"
	if len(b) > 2 && r.Intn(4) != 0 {
		b[0] = starts[r.Intn(len(starts))]
		if r.Intn(3) == 0 {
			b[1] = "\x04\x0b\x80\x84\xa5\xab\xaf\xb6\xbe\xe0\xe1\x94"[r.Intn(12)]
		}
	}
	return b
}

// TestOneOrNoneP10_3: bytes at random are one instruction of layer 9 or none, and as soon as
// that is told, more bytes don't change it.
func TestOneOrNoneP10_3(t *testing.T) {
	r := rand.New(rand.NewSource(10))
	for range 200000 {
		b := likely(r)
		was := slices.Clone(b)
		i, n, err := Decode(b)
		if !slices.Equal(b, was) {
			t.Fatalf("% x was changed", was)
		}
		switch err {
		case api.OK:
			if !insn.Is(i) || n != i.Len || n < 1 || n > min(len(b), api.MaxLen) {
				t.Fatalf("Decode(% x): %+v, %d", b, i, n)
			}
		case api.ErrInsn, api.ErrForm, api.ErrShort:
			if n != 0 || i != (api.Insn{}) {
				t.Fatalf("Decode(% x): %+v, %d, %v", b, i, n, err)
			}
		default:
			t.Fatalf("Decode(% x): %v", b, err)
		}
		told := false
		for k := range len(b) + 1 {
			part, _, early := Decode(slices.Clone(b[:k]))
			told = told || early != api.ErrShort
			if told && (part != i || early != err) || !told && early != api.ErrShort || told && err == api.OK && k < n {
				t.Fatalf("Decode(% x): %+v, %v, of its first %d %+v, %v", b, i, err, k, part, early)
			}
		}
	}
}
