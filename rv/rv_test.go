package rv

import (
	"math"
	"math/rand"
	"strconv"
	"strings"
	"testing"

	"ferryman/api"
)

// listed: a kind as the specification lists it, from the bit 31 down: digits, and fields
// with the bits that lie there; and the kind's immediates as the chapter has them.
type listed struct {
	op                    int
	name, bits            string
	least, greatest, step int64
}

// listing: the specification's listings of RV32I and M.
var listing = []listed{
	{api.VLui, "lui", "imm[31:12] rd 0110111", -1 << 31, 1<<31 - 4096, 4096},
	{api.VAuipc, "auipc", "imm[31:12] rd 0010111", -1 << 31, 1<<31 - 4096, 4096},
	{api.VJal, "jal", "imm[20|10:1|11|19:12] rd 1101111", -1048576, 1048574, 2},
	{api.VJalr, "jalr", "imm[11:0] rs1 000 rd 1100111", -2048, 2047, 1},
	{api.VBeq, "beq", "imm[12|10:5] rs2 rs1 000 imm[4:1|11] 1100011", -4096, 4094, 2},
	{api.VBne, "bne", "imm[12|10:5] rs2 rs1 001 imm[4:1|11] 1100011", -4096, 4094, 2},
	{api.VBlt, "blt", "imm[12|10:5] rs2 rs1 100 imm[4:1|11] 1100011", -4096, 4094, 2},
	{api.VBge, "bge", "imm[12|10:5] rs2 rs1 101 imm[4:1|11] 1100011", -4096, 4094, 2},
	{api.VBltu, "bltu", "imm[12|10:5] rs2 rs1 110 imm[4:1|11] 1100011", -4096, 4094, 2},
	{api.VBgeu, "bgeu", "imm[12|10:5] rs2 rs1 111 imm[4:1|11] 1100011", -4096, 4094, 2},
	{api.VLb, "lb", "imm[11:0] rs1 000 rd 0000011", -2048, 2047, 1},
	{api.VLh, "lh", "imm[11:0] rs1 001 rd 0000011", -2048, 2047, 1},
	{api.VLw, "lw", "imm[11:0] rs1 010 rd 0000011", -2048, 2047, 1},
	{api.VLbu, "lbu", "imm[11:0] rs1 100 rd 0000011", -2048, 2047, 1},
	{api.VLhu, "lhu", "imm[11:0] rs1 101 rd 0000011", -2048, 2047, 1},
	{api.VSb, "sb", "imm[11:5] rs2 rs1 000 imm[4:0] 0100011", -2048, 2047, 1},
	{api.VSh, "sh", "imm[11:5] rs2 rs1 001 imm[4:0] 0100011", -2048, 2047, 1},
	{api.VSw, "sw", "imm[11:5] rs2 rs1 010 imm[4:0] 0100011", -2048, 2047, 1},
	{api.VAddi, "addi", "imm[11:0] rs1 000 rd 0010011", -2048, 2047, 1},
	{api.VSlti, "slti", "imm[11:0] rs1 010 rd 0010011", -2048, 2047, 1},
	{api.VSltiu, "sltiu", "imm[11:0] rs1 011 rd 0010011", -2048, 2047, 1},
	{api.VXori, "xori", "imm[11:0] rs1 100 rd 0010011", -2048, 2047, 1},
	{api.VOri, "ori", "imm[11:0] rs1 110 rd 0010011", -2048, 2047, 1},
	{api.VAndi, "andi", "imm[11:0] rs1 111 rd 0010011", -2048, 2047, 1},
	{api.VSlli, "slli", "0000000 imm[4:0] rs1 001 rd 0010011", 0, 31, 1},
	{api.VSrli, "srli", "0000000 imm[4:0] rs1 101 rd 0010011", 0, 31, 1},
	{api.VSrai, "srai", "0100000 imm[4:0] rs1 101 rd 0010011", 0, 31, 1},
	{api.VAdd, "add", "0000000 rs2 rs1 000 rd 0110011", 0, 0, 1},
	{api.VSub, "sub", "0100000 rs2 rs1 000 rd 0110011", 0, 0, 1},
	{api.VSll, "sll", "0000000 rs2 rs1 001 rd 0110011", 0, 0, 1},
	{api.VSlt, "slt", "0000000 rs2 rs1 010 rd 0110011", 0, 0, 1},
	{api.VSltu, "sltu", "0000000 rs2 rs1 011 rd 0110011", 0, 0, 1},
	{api.VXor, "xor", "0000000 rs2 rs1 100 rd 0110011", 0, 0, 1},
	{api.VSrl, "srl", "0000000 rs2 rs1 101 rd 0110011", 0, 0, 1},
	{api.VSra, "sra", "0100000 rs2 rs1 101 rd 0110011", 0, 0, 1},
	{api.VOr, "or", "0000000 rs2 rs1 110 rd 0110011", 0, 0, 1},
	{api.VAnd, "and", "0000000 rs2 rs1 111 rd 0110011", 0, 0, 1},
	{api.VMul, "mul", "0000001 rs2 rs1 000 rd 0110011", 0, 0, 1},
	{api.VMulh, "mulh", "0000001 rs2 rs1 001 rd 0110011", 0, 0, 1},
	{api.VMulhsu, "mulhsu", "0000001 rs2 rs1 010 rd 0110011", 0, 0, 1},
	{api.VMulhu, "mulhu", "0000001 rs2 rs1 011 rd 0110011", 0, 0, 1},
	{api.VDiv, "div", "0000001 rs2 rs1 100 rd 0110011", 0, 0, 1},
	{api.VDivu, "divu", "0000001 rs2 rs1 101 rd 0110011", 0, 0, 1},
	{api.VRem, "rem", "0000001 rs2 rs1 110 rd 0110011", 0, 0, 1},
	{api.VRemu, "remu", "0000001 rs2 rs1 111 rd 0110011", 0, 0, 1},
	{api.VEcall, "ecall", "000000000000 00000 000 00000 1110011", 0, 0, 1},
	{api.VEbreak, "ebreak", "000000000001 00000 000 00000 1110011", 0, 0, 1},
}

// has tells whether the kind has a field.
func (l listed) has(field string) bool { return strings.Contains(l.bits, field) }

// signed tells whether the kind's immediates have a sign.
func (l listed) signed() bool { return l.least < 0 }

// layout: what the specification lists for a kind, bit by bit.
type layout struct {
	l      listed
	places [32]place // by the word's bits
}

// place: a digit, or a field's bit.
type place struct {
	field string
	bit   int
}

// layouts tells the layouts of all kinds.
func layouts(t *testing.T) []layout {
	var all []layout
	for _, l := range listing {
		at := 32
		a := layout{l: l}
		for _, part := range strings.Fields(l.bits) {
			for _, p := range placesOf(part) {
				at--
				a.places[at] = p
			}
		}
		if at != 0 {
			t.Fatalf("%s: %d bits are not listed", l.name, at)
		}
		all = append(all, a)
	}
	return all
}

// placesOf tells a part's bits, the highest first.
func placesOf(part string) []place {
	var ps []place
	switch {
	case part == "rd" || part == "rs1" || part == "rs2":
		for k := 4; k >= 0; k-- {
			ps = append(ps, place{part, k})
		}
	case strings.HasPrefix(part, "imm["):
		for _, piece := range strings.Split(part[4:len(part)-1], "|") {
			from, to, ranged := strings.Cut(piece, ":")
			if !ranged {
				to = from
			}
			high, _ := strconv.Atoi(from)
			low, _ := strconv.Atoi(to)
			for k := high; k >= low; k-- {
				ps = append(ps, place{"imm", k})
			}
		}
	default:
		for _, digit := range part {
			ps = append(ps, place{string(digit), 0})
		}
	}
	return ps
}

// wantBits tells the 32 bits of what is a word of the kind.
func (a layout) wantBits(w api.Word) uint32 {
	value := map[string]uint32{"1": 1, "rd": uint32(w.Rd), "rs1": uint32(w.Rs1), "rs2": uint32(w.Rs2), "imm": uint32(w.Imm)}
	var x uint32
	for at, p := range a.places {
		x |= value[p.field] >> p.bit & 1 << at
	}
	return x
}

// wantWord tells the word of the kind that x is; false, if it is none of the kind.
func (a layout) wantWord(x uint32) (api.Word, bool) {
	value, top := map[string]uint32{}, 0
	for at, p := range a.places {
		bit := x >> at & 1
		switch {
		case p.field == "0" && bit != 0 || p.field == "1" && bit == 0:
			return api.Word{}, false
		case p.field == "imm":
			top = max(top, p.bit)
		}
		value[p.field] |= bit << p.bit
	}
	imm := int64(value["imm"])
	if a.l.signed() && imm>>top&1 == 1 {
		imm -= 1 << (top + 1)
	}
	return api.Word{Op: a.l.op, Rd: int(value["rd"]), Rs1: int(value["rs1"]), Rs2: int(value["rs2"]), Imm: int32(imm)}, true
}

// wantAny tells the word that x is, of whatever kind; false, if it is none.
func wantAny(t *testing.T, all []layout, x uint32) (api.Word, bool) {
	t.Helper()
	var w api.Word
	found := 0
	for _, a := range all {
		if v, ok := a.wantWord(x); ok {
			w = v
			found++
		}
	}
	if found > 1 {
		t.Fatalf("%#x is of %d kinds", x, found)
	}
	return w, found == 1
}

// registers: numbers at which a register's field ends.
func registers(there bool) []int {
	if there {
		return []int{0, 1, 2, 15, 16, 30, 31}
	}
	return []int{0}
}

// immediates tells immediates of the kind, at its edges and at each single bit.
func (l listed) immediates() []int32 {
	seen := map[int64]bool{}
	var is []int32
	add := func(i int64) {
		if i >= l.least && i <= l.greatest && i%l.step == 0 && !seen[i] {
			seen[i] = true
			is = append(is, int32(i))
		}
	}
	for _, i := range []int64{l.least, l.least + l.step, 0, l.step, -l.step, l.greatest - l.step, l.greatest} {
		add(i)
	}
	for k := range 32 {
		add(1 << k)
		add(-1 << k)
		add(l.greatest &^ (1 << k))
		add(0x55555554 & (1<<k - 1) / l.step * l.step)
	}
	return is
}

// words tells words of the kind: registers and immediates at their edges.
func (l listed) words() []api.Word {
	var ws []api.Word
	for _, imm := range l.immediates() {
		for _, rd := range registers(l.has("rd")) {
			for _, rs1 := range registers(l.has("rs1")) {
				for _, rs2 := range registers(l.has("rs2")) {
					ws = append(ws, api.Word{Op: l.op, Rd: rd, Rs1: rs1, Rs2: rs2, Imm: imm})
				}
			}
		}
	}
	return ws
}

// none tells what is no word of the kind, by one field each.
func (l listed) none() []api.Word {
	var ws []api.Word
	base := api.Word{Op: l.op}
	add := func(change func(w *api.Word)) {
		w := base
		change(&w)
		ws = append(ws, w)
	}
	wrong := func(there bool) []int {
		odd := []int{-1, 32, 33, 64, -32, 1 << 20, 1 << 32, math.MinInt, math.MaxInt, math.MinInt32, math.MaxInt32}
		if !there {
			odd = append(odd, 1, 2, 16, 31)
		}
		return odd
	}
	for _, i := range wrong(l.has("rd")) {
		add(func(w *api.Word) { w.Rd = i })
	}
	for _, i := range wrong(l.has("rs1")) {
		add(func(w *api.Word) { w.Rs1 = i })
	}
	for _, i := range wrong(l.has("rs2")) {
		add(func(w *api.Word) { w.Rs2 = i })
	}
	for _, i := range l.wrongImmediates() {
		add(func(w *api.Word) { w.Imm = i })
	}
	return ws
}

// wrongImmediates tells immediates that the kind doesn't have.
func (l listed) wrongImmediates() []int32 {
	var is []int32
	add := func(i int64) {
		if i == int64(int32(i)) && (i < l.least || i > l.greatest || i%l.step != 0) {
			is = append(is, int32(i))
		}
	}
	for _, i := range []int64{l.least, 0, l.greatest} {
		for _, by := range []int64{1, 2, l.step / 2, l.step - 1, l.step, l.step + 1} {
			add(i - by)
			add(i + by)
		}
	}
	for k := range 32 {
		add(1 << k)
		add(-1 << k)
	}
	add(math.MinInt32)
	add(math.MaxInt32)
	return is
}

// oddOps: numbers of no kind.
var oddOps = []int{0, -1, api.VEbreak + 1, api.VEbreak + 2, 64, 256, -api.VAdd, 1<<32 + api.VAdd, math.MinInt, math.MaxInt}

// examples: as an assembler of another make has them.
var examples = []struct {
	w    api.Word
	x    uint32
	text string
}{
	{api.Word{Op: api.VLui, Rd: 5, Imm: 0x12345000}, 0x123452b7, "lui x5,305418240"},
	{api.Word{Op: api.VLui, Rd: 31, Imm: -4096}, 0xffffffb7, "lui x31,-4096"},
	{api.Word{Op: api.VLui, Rd: 1, Imm: 4096}, 0x000010b7, "lui x1,4096"},
	{api.Word{Op: api.VAuipc, Rd: 5, Imm: -1 << 31}, 0x80000297, "auipc x5,-2147483648"},
	{api.Word{Op: api.VJal, Rd: 1, Imm: 8}, 0x008000ef, "jal x1,8"},
	{api.Word{Op: api.VJal, Rd: 1, Imm: -8}, 0xff9ff0ef, "jal x1,-8"},
	{api.Word{Op: api.VJal, Rd: 31, Imm: 1048574}, 0x7fffffef, "jal x31,1048574"},
	{api.Word{Op: api.VJal, Imm: -1048576}, 0x8000006f, "jal x0,-1048576"},
	{api.Word{Op: api.VJal, Rd: 21, Imm: 0x5aaaa}, 0x2ab5aaef, "jal x21,371370"},
	{api.Word{Op: api.VJalr, Rd: 1, Rs1: 2, Imm: 4}, 0x004100e7, "jalr x1,x2,4"},
	{api.Word{Op: api.VJalr, Rd: 21, Rs1: 11, Imm: -1366}, 0xaaa58ae7, "jalr x21,x11,-1366"},
	{api.Word{Op: api.VBeq, Rs1: 1, Rs2: 2, Imm: -8}, 0xfe208ce3, "beq x1,x2,-8"},
	{api.Word{Op: api.VBeq, Rs1: 11, Rs2: 19, Imm: -1366}, 0xab3585e3, "beq x11,x19,-1366"},
	{api.Word{Op: api.VBne, Rs1: 11, Rs2: 19, Imm: 1366}, 0x55359b63, "bne x11,x19,1366"},
	{api.Word{Op: api.VBlt, Rs1: 11, Rs2: 19, Imm: 4094}, 0x7f35cfe3, "blt x11,x19,4094"},
	{api.Word{Op: api.VBge, Rs1: 11, Rs2: 19, Imm: -4096}, 0x8135d063, "bge x11,x19,-4096"},
	{api.Word{Op: api.VBltu, Rs1: 31, Rs2: 31, Imm: 2}, 0x01ffe163, "bltu x31,x31,2"},
	{api.Word{Op: api.VBgeu, Imm: -2}, 0xfe007fe3, "bgeu x0,x0,-2"},
	{api.Word{Op: api.VLb, Rd: 21, Rs1: 11, Imm: -1366}, 0xaaa58a83, "lb x21,-1366(x11)"},
	{api.Word{Op: api.VLh, Rd: 21, Rs1: 11, Imm: -1366}, 0xaaa59a83, "lh x21,-1366(x11)"},
	{api.Word{Op: api.VLw, Rd: 21, Rs1: 11, Imm: -1366}, 0xaaa5aa83, "lw x21,-1366(x11)"},
	{api.Word{Op: api.VLw, Rd: 1, Rs1: 2, Imm: 4}, 0x00412083, "lw x1,4(x2)"},
	{api.Word{Op: api.VLbu, Rd: 21, Rs1: 11, Imm: -1366}, 0xaaa5ca83, "lbu x21,-1366(x11)"},
	{api.Word{Op: api.VLhu, Rd: 21, Rs1: 11, Imm: -1366}, 0xaaa5da83, "lhu x21,-1366(x11)"},
	{api.Word{Op: api.VSw, Rs1: 2, Rs2: 1, Imm: 4}, 0x00112223, "sw x1,4(x2)"},
	{api.Word{Op: api.VSb, Rs1: 11, Rs2: 19, Imm: -1366}, 0xab358523, "sb x19,-1366(x11)"},
	{api.Word{Op: api.VSh, Rs1: 11, Rs2: 19, Imm: 1365}, 0x55359aa3, "sh x19,1365(x11)"},
	{api.Word{Op: api.VSw, Rs1: 31, Rs2: 31, Imm: 2047}, 0x7fffafa3, "sw x31,2047(x31)"},
	{api.Word{Op: api.VSw, Imm: -2048}, 0x80002023, "sw x0,-2048(x0)"},
	{api.Word{Op: api.VAddi}, 0x00000013, "addi x0,x0,0"},
	{api.Word{Op: api.VAddi, Rd: 1, Rs1: 2, Imm: 3}, 0x00310093, "addi x1,x2,3"},
	{api.Word{Op: api.VAddi, Rd: 21, Rs1: 11, Imm: -1366}, 0xaaa58a93, "addi x21,x11,-1366"},
	{api.Word{Op: api.VSlti, Rd: 21, Rs1: 11, Imm: -1366}, 0xaaa5aa93, "slti x21,x11,-1366"},
	{api.Word{Op: api.VSltiu, Rd: 21, Rs1: 11, Imm: -1366}, 0xaaa5ba93, "sltiu x21,x11,-1366"},
	{api.Word{Op: api.VXori, Rd: 21, Rs1: 11, Imm: -1366}, 0xaaa5ca93, "xori x21,x11,-1366"},
	{api.Word{Op: api.VOri, Rd: 21, Rs1: 11, Imm: -1366}, 0xaaa5ea93, "ori x21,x11,-1366"},
	{api.Word{Op: api.VAndi, Rd: 21, Rs1: 11, Imm: -1366}, 0xaaa5fa93, "andi x21,x11,-1366"},
	{api.Word{Op: api.VSlli, Rd: 21, Rs1: 11, Imm: 21}, 0x01559a93, "slli x21,x11,21"},
	{api.Word{Op: api.VSrli, Rd: 21, Rs1: 11, Imm: 21}, 0x0155da93, "srli x21,x11,21"},
	{api.Word{Op: api.VSrai, Rd: 21, Rs1: 11, Imm: 21}, 0x4155da93, "srai x21,x11,21"},
	{api.Word{Op: api.VSrai, Rd: 31, Rs1: 31, Imm: 31}, 0x41ffdf93, "srai x31,x31,31"},
	{api.Word{Op: api.VAdd, Rd: 1, Rs1: 2, Rs2: 3}, 0x003100b3, "add x1,x2,x3"},
	{api.Word{Op: api.VSub, Rd: 21, Rs1: 11, Rs2: 19}, 0x41358ab3, "sub x21,x11,x19"},
	{api.Word{Op: api.VSll, Rd: 21, Rs1: 11, Rs2: 19}, 0x01359ab3, "sll x21,x11,x19"},
	{api.Word{Op: api.VSlt, Rd: 21, Rs1: 11, Rs2: 19}, 0x0135aab3, "slt x21,x11,x19"},
	{api.Word{Op: api.VSltu, Rd: 21, Rs1: 11, Rs2: 19}, 0x0135bab3, "sltu x21,x11,x19"},
	{api.Word{Op: api.VXor, Rd: 21, Rs1: 11, Rs2: 19}, 0x0135cab3, "xor x21,x11,x19"},
	{api.Word{Op: api.VSrl, Rd: 21, Rs1: 11, Rs2: 19}, 0x0135dab3, "srl x21,x11,x19"},
	{api.Word{Op: api.VSra, Rd: 21, Rs1: 11, Rs2: 19}, 0x4135dab3, "sra x21,x11,x19"},
	{api.Word{Op: api.VOr, Rd: 21, Rs1: 11, Rs2: 19}, 0x0135eab3, "or x21,x11,x19"},
	{api.Word{Op: api.VAnd, Rd: 21, Rs1: 11, Rs2: 19}, 0x0135fab3, "and x21,x11,x19"},
	{api.Word{Op: api.VMul, Rd: 21, Rs1: 11, Rs2: 19}, 0x03358ab3, "mul x21,x11,x19"},
	{api.Word{Op: api.VMulh, Rd: 21, Rs1: 11, Rs2: 19}, 0x03359ab3, "mulh x21,x11,x19"},
	{api.Word{Op: api.VMulhsu, Rd: 21, Rs1: 11, Rs2: 19}, 0x0335aab3, "mulhsu x21,x11,x19"},
	{api.Word{Op: api.VMulhu, Rd: 21, Rs1: 11, Rs2: 19}, 0x0335bab3, "mulhu x21,x11,x19"},
	{api.Word{Op: api.VDiv, Rd: 21, Rs1: 11, Rs2: 19}, 0x0335cab3, "div x21,x11,x19"},
	{api.Word{Op: api.VDivu, Rd: 21, Rs1: 11, Rs2: 19}, 0x0335dab3, "divu x21,x11,x19"},
	{api.Word{Op: api.VRem, Rd: 21, Rs1: 11, Rs2: 19}, 0x0335eab3, "rem x21,x11,x19"},
	{api.Word{Op: api.VRemu, Rd: 21, Rs1: 11, Rs2: 19}, 0x0335fab3, "remu x21,x11,x19"},
	{api.Word{Op: api.VEcall}, 0x00000073, "ecall"},
	{api.Word{Op: api.VEbreak}, 0x00100073, "ebreak"},
}

// nones: 32 bits that are no word of the host's, though the specification has some of them.
var nones = []uint32{
	0x00000000, 0xffffffff, // none, as the specification says
	0x0ff0000f, 0x0000100f, 0x8330000f, 0x0100000f, // fence, fence.i, fence.tso, pause
	0x30200073, 0x10500073, 0x300110f3, 0x00002073, // mret, wfi, csrrw, csrrs
	0x00200073, 0x000000f3, 0x00008073, 0x001000f3, 0x00108073, 0x80000073, // nearly ecall, ebreak
	0x00001067, 0x00007067, // nearly jalr
	0x00002063, 0x00003063, // nearly branches
	0x00003003, 0x00006003, 0x00007003, // ld, lwu, nearly a load
	0x00003023, 0x00004023, 0x00007023, // sd, nearly stores
	0x02001013, 0x02005013, 0x42005013, 0x40001013, 0x80005013, 0xc0005013, // shifts by 32 and more, of no kind
	0x40001033, 0x40007033, 0x04000033, 0x80000033, 0x42000033, 0x20005033, // nearly operations
	0x0000001b, 0x0000003b, 0x0000002f, 0x00000007, 0x00000027, 0x00000053, // of other parts of the specification
	0x00000012, 0x00000010, 0x00000011, 0x00000001, 0x00008082, // of 16 bits
}

func TestExamplesP3_1(t *testing.T) {
	for _, e := range examples {
		if !Is(e.w) {
			t.Errorf("Is(%v): false", e.w)
		}
		if x, err := Encode(e.w); x != e.x || err != api.OK {
			t.Errorf("Encode(%v): %#x, %v, want %#x", e.w, x, err, e.x)
		}
		if w, ok := Decode(e.x); w != e.w || !ok {
			t.Errorf("Decode(%#x): %v, %v, want %v", e.x, w, ok, e.w)
		}
	}
}

func TestListingIsWholeP3_1(t *testing.T) {
	for i, l := range listing {
		if l.op != api.VLui+i {
			t.Fatalf("%s stands at %d, is %d", l.name, api.VLui+i, l.op)
		}
	}
	if len(listing) != api.VEbreak {
		t.Fatalf("%d kinds are listed", len(listing))
	}
}

func TestIsP3_1(t *testing.T) {
	for _, l := range listing {
		for _, w := range l.words() {
			if !Is(w) {
				t.Errorf("Is(%v), a %s: false", w, l.name)
			}
		}
		for _, w := range l.none() {
			if Is(w) {
				t.Errorf("Is(%v), no %s: true", w, l.name)
			}
		}
	}
}

// TestIsRangesP3_1: immediates one by one around the ends of each range.
func TestIsRangesP3_1(t *testing.T) {
	for _, l := range listing {
		for _, around := range []int64{l.least, 0, l.greatest} {
			for i := around - 8200; i <= around+8200; i++ {
				if i != int64(int32(i)) {
					continue
				}
				w := api.Word{Op: l.op, Imm: int32(i)}
				want := i >= l.least && i <= l.greatest && i%l.step == 0
				if got := Is(w); got != want {
					t.Fatalf("Is(%v), %s: %v", w, l.name, got)
				}
			}
		}
	}
}

func TestIsOfNoKindP3_1(t *testing.T) {
	for _, op := range oddOps {
		for _, w := range []api.Word{{Op: op}, {Op: op, Rd: 1, Rs1: 2, Rs2: 3}, {Op: op, Rd: 1, Imm: 4096}} {
			if Is(w) {
				t.Errorf("Is(%v): true", w)
			}
			if x, err := Encode(w); x != 0 || err != api.ErrForm {
				t.Errorf("Encode(%v): %#x, %v", w, x, err)
			}
			if s := Text(w); s != "" {
				t.Errorf("Text(%v): %q", w, s)
			}
		}
	}
}

func TestEncodeP3_1(t *testing.T) {
	for _, a := range layouts(t) {
		for _, w := range a.l.words() {
			x, err := Encode(w)
			if want := a.wantBits(w); x != want || err != api.OK {
				t.Errorf("Encode(%v), a %s: %#x, %v, want %#x", w, a.l.name, x, err, want)
			}
			if back, ok := Decode(x); back != w || !ok {
				t.Errorf("Decode(%#x), a %s: %v, %v, want %v", x, a.l.name, back, ok, w)
			}
		}
		for _, w := range a.l.none() {
			if x, err := Encode(w); x != 0 || err != api.ErrForm {
				t.Errorf("Encode(%v), no %s: %#x, %v", w, a.l.name, x, err)
			}
		}
	}
}

func TestDecodeP3_1(t *testing.T) {
	all := layouts(t)
	check := func(x uint32) {
		t.Helper()
		want, is := wantAny(t, all, x)
		if w, ok := Decode(x); w != want || ok != is {
			t.Fatalf("Decode(%#x): %v, %v, want %v, %v", x, w, ok, want, is)
		}
	}
	const own = 0xfe00707f // the bits by which kinds differ, but those without operands
	r := rand.New(rand.NewSource(31))
	for n := range uint32(1 << 17) {
		x := n&0x7f | n>>7&7<<12 | n>>10<<25
		for _, fill := range []uint32{0, 0x00100000, r.Uint32()} {
			check(x | fill&^own)
		}
	}
	for _, e := range examples {
		for k := range 32 { // each word's neighbours
			check(e.x ^ 1<<k)
		}
	}
	for range 20000 {
		check(r.Uint32())
	}
}

func TestDecodeOfNoneP3_1(t *testing.T) {
	for _, x := range nones {
		if w, ok := Decode(x); w != (api.Word{}) || ok {
			t.Errorf("Decode(%#x): %v, %v", x, w, ok)
		}
	}
}

func TestTextP3_2(t *testing.T) {
	for _, e := range examples {
		if got := Text(e.w); got != e.text {
			t.Errorf("Text(%v): %q, want %q", e.w, got, e.text)
		}
	}
	for _, l := range listing {
		for _, w := range l.words() {
			if got, want := Text(w), l.wantText(w); got != want {
				t.Fatalf("Text(%v): %q, want %q", w, got, want)
			}
		}
		for _, w := range l.none() {
			if got := Text(w); got != "" {
				t.Errorf("Text(%v), no %s: %q", w, l.name, got)
			}
		}
	}
}

// wantText tells the text of a word of the kind.
func (l listed) wantText(w api.Word) string {
	rd, rs1, rs2, imm := "x"+strconv.Itoa(w.Rd), "x"+strconv.Itoa(w.Rs1), "x"+strconv.Itoa(w.Rs2), strconv.Itoa(int(w.Imm))
	switch {
	case l.op >= api.VLb && l.op <= api.VLhu:
		return l.name + " " + rd + "," + imm + "(" + rs1 + ")"
	case l.op >= api.VSb && l.op <= api.VSw:
		return l.name + " " + rs2 + "," + imm + "(" + rs1 + ")"
	}
	var parts []string
	for _, p := range []struct {
		field, text string
	}{{"rd", rd}, {"rs1", rs1}, {"rs2", rs2}, {"imm", imm}} {
		if l.has(p.field) {
			parts = append(parts, p.text)
		}
	}
	return strings.TrimSpace(l.name + " " + strings.Join(parts, ","))
}

// TestOneOrNoneP3_3: what is decoded is a word, and encoded what it was; what isn't is
// nothing; no two words have the same 32 bits or the same text.
func TestOneOrNoneP3_3(t *testing.T) {
	r := rand.New(rand.NewSource(33))
	for range 300000 {
		x := r.Uint32()
		if r.Intn(2) == 0 { // more of those that may be words
			x = examples[r.Intn(len(examples))].x ^ x&0x01ff8f80
		}
		w, ok := Decode(x)
		if ok != Is(w) {
			t.Fatalf("Decode(%#x): %v, %v, and Is tells %v", x, w, ok, Is(w))
		}
		if !ok && w != (api.Word{}) {
			t.Fatalf("Decode(%#x): %v beside false", x, w)
		}
		if back, err := Encode(w); ok && (back != x || err != api.OK) {
			t.Fatalf("Encode(Decode(%#x)): %#x, %v", x, back, err)
		}
	}
	byBits, byText := map[uint32]api.Word{}, map[string]api.Word{}
	for _, l := range listing {
		for _, w := range l.words() {
			x, _ := Encode(w)
			if v, ok := byBits[x]; ok {
				t.Fatalf("%v and %v are both %#x", v, w, x)
			}
			if v, ok := byText[Text(w)]; ok {
				t.Fatalf("%v and %v are both %q", v, w, Text(w))
			}
			byBits[x], byText[Text(w)] = w, w
		}
	}
}
