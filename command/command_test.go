package command

import (
	"encoding/binary"
	"math"
	"math/rand"
	"reflect"
	"slices"
	"strings"
	"sync"
	"testing"

	"foreman/api"
	"foreman/asm"
	"foreman/instr"
	"foreman/lay"
	"foreman/proof"
)

// numbersOf is how many numbers an instruction's kind has, in chapter 5's words.
func numbersOf(op int) int {
	switch op {
	case api.OpGet, api.OpPut:
		return 2
	case api.OpPush, api.OpLoad, api.OpKeep, api.OpArg, api.OpSkip, api.OpGo:
		return 1
	}
	return 0
}

// printedByRule is Print in the chapters' words.
func printedByRule(c api.Command) string {
	var b []byte
	for _, l := range [][]int{c.Reads, c.Writes, c.Args} {
		b = append(b, byte(len(l)))
		for _, n := range l {
			b = binary.BigEndian.AppendUint64(b, uint64(n))
		}
	}
	b = append(b, byte(c.Fuel), byte(len(c.Code)))
	for _, x := range c.Code {
		b = append(b, byte(x.Op))
		for _, n := range []int{x.A, x.B}[:numbersOf(x.Op)] {
			b = binary.BigEndian.AppendUint64(b, uint64(n))
		}
	}
	return string(b)
}

// readByRule is the command with whose bytes a text begins, and how many they
// are, in the chapters' words; false, if it begins with none.
func readByRule(s string) (api.Command, int, bool) {
	at, well := 0, true
	bytesOf := func(n int) []byte {
		if well = well && n <= len(s)-at; !well {
			return make([]byte, n)
		}
		at += n
		return []byte(s[at-n : at])
	}
	number := func() int { return int(binary.BigEndian.Uint64(bytesOf(8))) }
	list := func() []int {
		n := int(bytesOf(1)[0])
		if n > 8 {
			well, n = false, 0
		}
		var l []int
		for range n {
			l = append(l, number())
		}
		return l
	}
	c := api.Command{Reads: list(), Writes: list(), Args: list(), Fuel: int(bytesOf(1)[0])}
	n := int(bytesOf(1)[0])
	well = well && n <= 64
	for i := 0; well && i < n; i++ {
		x := api.Instr{Op: int(bytesOf(1)[0])}
		well = well && x.Op >= 1 && x.Op <= 17
		if well && numbersOf(x.Op) > 0 {
			x.A = number()
		}
		if well && numbersOf(x.Op) > 1 {
			x.B = number()
		}
		c.Code = append(c.Code, x)
	}
	if !well {
		return api.Command{}, 0, false
	}
	return c, at, true
}

// same tells whether two commands are alike; lists that hold nothing are.
func same(a, b api.Command) bool {
	return slices.Equal(a.Reads, b.Reads) && slices.Equal(a.Writes, b.Writes) && slices.Equal(a.Args, b.Args) &&
		a.Fuel == b.Fuel && slices.Equal(a.Code, b.Code)
}

func copyOf(c api.Command) api.Command {
	return api.Command{Reads: slices.Clone(c.Reads), Writes: slices.Clone(c.Writes), Args: slices.Clone(c.Args), Fuel: c.Fuel, Code: slices.Clone(c.Code)}
}

func nothing(c api.Command) bool {
	return same(c, api.Command{})
}

func short(s string) string { return s[:min(len(s), 80)] }

func code(t *testing.T, text string) []api.Instr {
	t.Helper()
	l, e := asm.Build(text)
	if e != api.OK {
		t.Fatalf("%q: %d", text, e)
	}
	return l
}

// plain is a command that may be, with a part of each kind.
func plain(t *testing.T) api.Command {
	return api.Command{Reads: []int{4, 9}, Writes: []int{2, 300}, Args: []int{-5, 1 << 50}, Fuel: 77,
		Code: code(t, "get 1 0 arg 0 add keep 3 load 3 skip out push -12 emit out: arg 1 put 2 7 end")}
}

// full is a command that may be, with as much of each as there may be.
func full() api.Command {
	c := api.Command{Reads: []int{0, 1, 2, 3, 4, 5, 6, 7}, Args: slices.Repeat([]int{math.MinInt}, 8), Fuel: 200}
	for range 16 {
		c.Code = append(c.Code, api.Instr{Op: api.OpGet, A: 7, B: 7}, api.Instr{Op: api.OpArg, A: 7}, api.Instr{Op: api.OpMul}, api.Instr{Op: api.OpKeep, A: 3})
	}
	c.Code[63] = api.Instr{Op: api.OpEnd}
	return c
}

// rising is a few blocks that rise, some of them far apart.
func rising(r *rand.Rand, many int) []int {
	var l []int
	last := -1
	for range many {
		last += 1 + r.Intn(3)
		if r.Intn(8) == 0 {
			last += r.Intn(1 << 40)
		}
		l = append(l, last)
	}
	return l
}

func anyNumber(r *rand.Rand) int {
	edges := []int{0, 1, -1, 127, 128, 255, 256, -256, 1 << 32, 0x0102030405060708, math.MaxInt, math.MinInt}
	if r.Intn(2) == 0 {
		return edges[r.Intn(len(edges))]
	}
	return int(r.Uint64())
}

// anyPiece is instructions of a program behind which its stack is empty again.
func anyPiece(r *rand.Rand, c api.Command) []api.Instr {
	put := api.Instr{Op: api.OpPush, A: anyNumber(r)}
	if len(c.Args) > 0 && r.Intn(2) == 0 {
		put = api.Instr{Op: api.OpArg, A: r.Intn(len(c.Args))}
	}
	blocks := len(c.Reads) + len(c.Writes)
	if blocks > 0 && r.Intn(2) == 0 {
		put = api.Instr{Op: api.OpGet, A: r.Intn(blocks), B: r.Intn(8)}
	}
	take := api.Instr{Op: api.OpKeep, A: r.Intn(4)}
	if len(c.Writes) > 0 && r.Intn(2) == 0 {
		take = api.Instr{Op: api.OpPut, A: len(c.Reads) + r.Intn(len(c.Writes)), B: r.Intn(8)}
	}
	switch r.Intn(4) {
	case 0:
		return []api.Instr{put, put, {Op: api.OpAdd + r.Intn(6)}, take}
	case 1:
		return []api.Instr{put, {Op: api.OpSkip, A: 1}, {Op: api.OpGo}, {Op: api.OpLoad, A: r.Intn(4)}, take}
	}
	return []api.Instr{put, take}
}

// anyCommand is a command that may be.
func anyCommand(r *rand.Rand) api.Command {
	c := api.Command{Fuel: 1 + r.Intn(200)}
	for _, n := range rising(r, r.Intn(9)) {
		if r.Intn(2) == 0 {
			c.Reads = append(c.Reads, n)
		} else {
			c.Writes = append(c.Writes, n)
		}
	}
	for range r.Intn(9) {
		c.Args = append(c.Args, anyNumber(r))
	}
	for range r.Intn(8) {
		c.Code = append(c.Code, anyPiece(r, c)...)
	}
	for range r.Intn(9) {
		c.Code = append(c.Code, api.Instr{Op: api.OpPush, A: anyNumber(r)}, api.Instr{Op: api.OpEmit})
	}
	c.Code = append(c.Code, api.Instr{Op: api.OpStop + r.Intn(2)})
	return c
}

func wantPrinted(t *testing.T, c api.Command, want string) {
	t.Helper()
	if got := Print(c); got != want {
		t.Errorf("%v: %x, want %x", c, short(got), short(want))
	}
}

// wantRead reads from at on, and wants that command, and that the reader is left
// behind it.
func wantRead(t *testing.T, s string, at, end int, want api.Command) {
	t.Helper()
	f := &lay.From{S: s, At: at}
	got, e := Read(f)
	if e != api.OK || !same(got, want) {
		t.Errorf("%x from %d: %v, %d, want %v", short(s), at, got, e, want)
	}
	if *f != (lay.From{S: s, At: end}) {
		t.Errorf("%x from %d: left at %d, bad %v, want %d", short(s), at, f.At, f.Bad, end)
	}
}

// wantRefused wants that error, no command, and Bad; and of a reader that is Bad
// ErrForm ever after.
func wantRefused(t *testing.T, f *lay.From, want api.Errno) {
	t.Helper()
	was := *f
	for range 2 {
		c, e := Read(f)
		if e != want || !nothing(c) || !f.Bad || f.S != was.S || f.Done() {
			t.Errorf("%x from %d, bad %v: %v, %d, want %d; bad %v", short(was.S), was.At, was.Bad, c, e, want, f.Bad)
		}
		want = api.ErrForm
	}
}

// wantParsed wants all of s to be that command.
func wantParsed(t *testing.T, s string, want api.Command) {
	t.Helper()
	if got, e := Parse(s); e != api.OK || !same(got, want) {
		t.Errorf("%x: %v, %d, want %v", short(s), got, e, want)
	}
}

func wantNotParsed(t *testing.T, s string, want api.Errno) {
	t.Helper()
	if got, e := Parse(s); e != want || !nothing(got) {
		t.Errorf("%x: %v, %d, want %d", short(s), got, e, want)
	}
}

// wantByRule holds what Read and Parse answer of a text against the chapter's
// words.
func wantByRule(t *testing.T, s string) api.Errno {
	t.Helper()
	c, end, is := readByRule(s)
	e := api.ErrForm
	if is {
		e = proof.Check(c)
	}
	if e != api.OK {
		wantRefused(t, &lay.From{S: s}, e)
		wantNotParsed(t, s, e)
		return e
	}
	wantRead(t, s, 0, end, c)
	if end < len(s) {
		wantNotParsed(t, s, api.ErrForm)
	} else {
		wantParsed(t, s, c)
	}
	return e
}

// noughts are an eight-byte number's first seven bytes.
const noughts = "\x00\x00\x00\x00\x00\x00\x00"

// P8.1: Print.

func TestPrintKnown(t *testing.T) {
	end := []api.Instr{{Op: api.OpEnd}}
	wantPrinted(t, api.Command{Fuel: 1, Code: end}, "\x00\x00\x00\x01\x01\x11")
	wantPrinted(t, api.Command{Fuel: 200, Code: end}, "\x00\x00\x00\xc8\x01\x11")
	wantPrinted(t, api.Command{Reads: []int{}, Writes: []int{}, Args: []int{}, Fuel: 2, Code: []api.Instr{{Op: api.OpGo}, {Op: api.OpStop}}},
		"\x00\x00\x00\x02\x02\x0e"+noughts+"\x00\x10")
	wantPrinted(t, api.Command{Reads: []int{3}, Fuel: 1, Code: end}, "\x01"+noughts+"\x03\x00\x00\x01\x01\x11")
	wantPrinted(t, api.Command{Writes: []int{3}, Fuel: 1, Code: end}, "\x00\x01"+noughts+"\x03\x00\x01\x01\x11")
	wantPrinted(t, api.Command{Args: []int{3}, Fuel: 1, Code: end}, "\x00\x00\x01"+noughts+"\x03\x01\x01\x11")
	wantPrinted(t, api.Command{Reads: []int{0, 258}, Writes: []int{1}, Args: []int{-2, 0x0102030405060708, 9}, Fuel: 0x55,
		Code: []api.Instr{{Op: api.OpArg, A: 2}, {Op: api.OpPut, A: 2, B: 7}, {Op: api.OpEnd}}},
		"\x02"+noughts+"\x00"+noughts[1:]+"\x01\x02"+
			"\x01"+noughts+"\x01"+
			"\x03\xff\xff\xff\xff\xff\xff\xff\xfe\x01\x02\x03\x04\x05\x06\x07\x08"+noughts+"\x09"+
			"\x55\x03\x06"+noughts+"\x02\x05"+noughts+"\x02"+noughts+"\x07\x11")
}

func TestPrintLimits(t *testing.T) {
	for _, c := range []api.Command{plain(t), full()} {
		if e := proof.Check(c); e != api.OK {
			t.Fatalf("%v: %d", c, e)
		}
		wantPrinted(t, c, printedByRule(c))
	}
	c := full()
	if got, want := len(Print(c)), 1+64+1+1+64+1+1+16*17+16*9+16*1+15*9+1; got != want {
		t.Errorf("%d bytes, want %d", got, want)
	}
	c.Reads, c.Writes = nil, c.Reads
	wantPrinted(t, c, printedByRule(c))
}

func TestPrintAny(t *testing.T) {
	r := rand.New(rand.NewSource(1))
	for range 3000 {
		c := anyCommand(r)
		if e := proof.Check(c); e != api.OK {
			t.Fatalf("%v: %d", c, e)
		}
		wantPrinted(t, c, printedByRule(c))
	}
}

// Its parts are those of layers 3 and 6.
func TestPrintByLayers(t *testing.T) {
	c := plain(t)
	wantPrinted(t, c, lay.Nums(c.Reads)+lay.Nums(c.Writes)+lay.Nums(c.Args)+"\x4d\x0b"+instr.Print(c.Code))
}

// One that may not be has bytes, if a byte holds each count and the fuel, and
// instructions are right: Read tells why it may not be.
func TestPrintMayNotBe(t *testing.T) {
	for _, x := range mayNotBe(t) {
		wantPrinted(t, x.c, printedByRule(x.c))
	}
}

// P1, and the remark at Print: one that has no bytes of its own has none.
func TestPrintNoBytes(t *testing.T) {
	for _, fuel := range []int{-1, -255, -256, 256, 257, 256 + 77, 1<<32 + 77, math.MaxInt, math.MinInt, math.MinInt + 77} {
		c := plain(t)
		c.Fuel = fuel
		wantPrinted(t, c, "")
	}
	for _, many := range []int{256, 257, 256 + 64, 1000, 65536 + 3} {
		end := slices.Repeat([]api.Instr{{Op: api.OpEnd}}, many)
		wantPrinted(t, api.Command{Fuel: 1, Code: end}, "")
		blocks := rising(rand.New(rand.NewSource(2)), many)
		wantPrinted(t, api.Command{Reads: blocks, Fuel: 1, Code: end[:1]}, "")
		wantPrinted(t, api.Command{Writes: blocks, Fuel: 1, Code: end[:1]}, "")
		wantPrinted(t, api.Command{Args: blocks, Fuel: 1, Code: end[:1]}, "")
	}
	for _, x := range []api.Instr{{}, {Op: 18}, {Op: -1}, {Op: 256 + api.OpEnd}, {Op: api.OpEnd, A: 1}, {Op: api.OpPush, B: 1}, {Op: math.MinInt}, {Op: math.MaxInt}} {
		for at := range 11 {
			c := plain(t)
			c.Code[at] = x
			wantPrinted(t, c, "")
		}
	}
	wantNotParsed(t, "", api.ErrForm)
}

// The most that a byte holds is no fault of Print.
func TestPrintMostOfAByte(t *testing.T) {
	blocks := rising(rand.New(rand.NewSource(3)), 255)
	end := slices.Repeat([]api.Instr{{Op: api.OpEnd}}, 255)
	for _, c := range []api.Command{
		{Reads: blocks, Fuel: 255, Code: end}, {Writes: blocks, Code: end[:200]},
		{Args: blocks, Fuel: 128, Code: end[:128]}, {}, {Reads: blocks, Writes: blocks, Args: blocks, Fuel: 1}} {
		wantPrinted(t, c, printedByRule(c))
	}
}

// P8.1: Fits.

func TestFits(t *testing.T) {
	c := plain(t)
	for _, x := range []struct {
		reads, writes []int
		blocks        int
		want          bool
	}{
		{nil, nil, 0, true}, {nil, nil, -1, true}, {nil, nil, math.MinInt, true}, {[]int{}, []int{}, 1, true},
		{[]int{0}, nil, 0, false}, {[]int{0}, nil, 1, true}, {nil, []int{0}, 0, false}, {nil, []int{0}, 1, true},
		{[]int{3}, nil, 3, false}, {[]int{3}, nil, 4, true}, {nil, []int{3}, 3, false}, {nil, []int{3}, 4, true},
		{[]int{1, 63}, []int{2}, 64, true}, {[]int{1, 63}, []int{2}, 63, false}, {[]int{1}, []int{2, 63}, 64, true}, {[]int{1}, []int{2, 63}, 63, false},
		{[]int{1, 64}, []int{2}, 64, false}, {[]int{1}, []int{2, 64}, 64, false}, {[]int{1, 64}, []int{2, 64}, 64, false},
		{[]int{0}, []int{1}, -1, false}, {[]int{0}, []int{1}, math.MinInt, false}, {[]int{0}, []int{1}, math.MaxInt, true},
		{[]int{math.MaxInt}, nil, math.MaxInt, false}, {nil, []int{math.MaxInt - 1}, math.MaxInt, true},
		{[]int{9, 1}, nil, 9, false}, {nil, []int{9, 1}, 9, false}, {[]int{1, 9, 1}, []int{2, 9, 2}, 10, true},
		{[]int{-1}, []int{math.MinInt}, 0, true}, {[]int{-1}, []int{math.MinInt}, -1, false}, {[]int{math.MinInt}, nil, math.MinInt, false},
	} {
		c.Reads, c.Writes = x.reads, x.writes
		if got := Fits(c, x.blocks); got != x.want {
			t.Errorf("%v, %v below %d: %v", x.reads, x.writes, x.blocks, got)
		}
	}
}

// Only its blocks count.
func TestFitsWhateverElse(t *testing.T) {
	c := api.Command{Args: []int{1 << 40}, Fuel: 1 << 40, Code: []api.Instr{{Op: 1 << 40, A: 1 << 40, B: 1 << 40}}}
	if !Fits(c, 0) || !Fits(api.Command{}, 0) {
		t.Error("one without blocks doesn't fit")
	}
}

func TestFitsAny(t *testing.T) {
	r := rand.New(rand.NewSource(4))
	for range 2000 {
		c := anyCommand(r)
		most := slices.Max(append(append([]int{-1}, c.Reads...), c.Writes...))
		for n := range 3 {
			if got := Fits(c, most+n); got != (most < 0 || n > 0) {
				t.Fatalf("%v, %v below %d: %v", c.Reads, c.Writes, most+n, got)
			}
		}
	}
}

// P8.2: Read and Parse.

func TestReadKnown(t *testing.T) {
	end := []api.Instr{{Op: api.OpEnd}}
	for _, x := range []struct {
		s string
		c api.Command
	}{
		{"\x00\x00\x00\x01\x01\x11", api.Command{Fuel: 1, Code: end}},
		{"\x00\x00\x00\xc8\x01\x10", api.Command{Fuel: 200, Code: []api.Instr{{Op: api.OpStop}}}},
		{"\x01" + noughts + "\x03\x00\x00\x01\x01\x11", api.Command{Reads: []int{3}, Fuel: 1, Code: end}},
		{"\x00\x01" + noughts + "\x03\x00\x01\x01\x11", api.Command{Writes: []int{3}, Fuel: 1, Code: end}},
		{"\x00\x00\x01" + noughts + "\x03\x01\x01\x11", api.Command{Args: []int{3}, Fuel: 1, Code: end}},
		{"\x01" + noughts + "\x07\x01" + noughts + "\x06\x01\xff\xff\xff\xff\xff\xff\xff\xfe\x09\x03\x06" + noughts + "\x00\x05" + noughts + "\x01" + noughts + "\x02\x11",
			api.Command{Reads: []int{7}, Writes: []int{6}, Args: []int{-2}, Fuel: 9, Code: []api.Instr{{Op: api.OpArg}, {Op: api.OpPut, A: 1, B: 2}, {Op: api.OpEnd}}}},
	} {
		wantRead(t, x.s, 0, len(x.s), x.c)
		wantParsed(t, x.s, x.c)
	}
}

func TestReadLimits(t *testing.T) {
	c := full()
	s := printedByRule(c)
	wantRead(t, s, 0, len(s), c)
	wantParsed(t, s, c)
	c.Reads, c.Writes = nil, c.Reads
	s = printedByRule(c)
	wantRead(t, s, 0, len(s), c)
	wantParsed(t, s, c)
	c.Reads, c.Writes = c.Writes[:4], c.Writes[4:]
	wantParsed(t, printedByRule(c), c)
}

// More than 8 of a list, or 64 instructions, though all their bytes are there.
func TestReadTooMany(t *testing.T) {
	for n := 9; n <= 255; n++ {
		for list := range 3 {
			many := make([]int, n)
			for i := range many {
				many[i] = i
			}
			c := plain(t)
			switch list {
			case 0:
				c.Reads, c.Writes = many, nil
			case 1:
				c.Reads, c.Writes = nil, many
			default:
				c.Args = many
			}
			wantRefused(t, &lay.From{S: printedByRule(c)}, api.ErrForm)
			wantNotParsed(t, printedByRule(c), api.ErrForm)
		}
	}
	for n := 65; n <= 255; n++ {
		c := plain(t)
		c.Code = slices.Repeat([]api.Instr{{Op: api.OpEnd}}, n)
		wantRefused(t, &lay.From{S: printedByRule(c)}, api.ErrForm)
		wantNotParsed(t, printedByRule(c), api.ErrForm)
	}
}

// A count that is told, and bytes that are of as many as there may be.
func TestReadCountsAlone(t *testing.T) {
	end := "\x00\x00\x00\x01\x01\x11"
	for n := 9; n <= 255; n++ {
		b := string([]byte{byte(n)})
		for _, s := range []string{b, b + end, b + end[1:], "\x00" + b + end[2:], "\x00\x00" + b + end[3:]} {
			wantRefused(t, &lay.From{S: s}, api.ErrForm)
		}
		for _, behind := range []string{"", "\x11", strings.Repeat("\x11", 64)} {
			if n > 64 {
				wantRefused(t, &lay.From{S: "\x00\x00\x00\x01" + b + behind}, api.ErrForm)
			}
		}
	}
}

func TestReadMissingBytes(t *testing.T) {
	for _, c := range []api.Command{plain(t), full(), {Fuel: 1, Code: []api.Instr{{Op: api.OpEnd}}}} {
		s := printedByRule(c)
		for n := range len(s) {
			wantRefused(t, &lay.From{S: s[:n]}, api.ErrForm)
			wantRefused(t, &lay.From{S: "ahead" + s[:n], At: 5}, api.ErrForm)
			wantNotParsed(t, s[:n], api.ErrForm)
		}
	}
}

// The chapter's example, and more bytes than that.
func TestParseBytesLeft(t *testing.T) {
	for _, c := range []api.Command{plain(t), full(), {Fuel: 1, Code: []api.Instr{{Op: api.OpEnd}}}} {
		s := printedByRule(c)
		for _, left := range []string{"\x00", "\x11", "x", "more", s} {
			wantNotParsed(t, s+left, api.ErrForm)
			wantRead(t, s+left, 0, len(s), c)
		}
	}
}

func TestReadInstructionsNotRight(t *testing.T) {
	for op := range 256 {
		s := "\x00\x00\x00\x05\x03\x0e" + noughts + "\x01" + string([]byte{byte(op)}) + "\x11"
		if op == 0 || op > 17 {
			wantRefused(t, &lay.From{S: s}, api.ErrForm)
			wantRefused(t, &lay.From{S: s + strings.Repeat("\x00", 40)}, api.ErrForm)
			wantNotParsed(t, s, api.ErrForm)
		} else if numbersOf(op) == 0 {
			// No way leads to it, so it may be whatever it takes.
			want := api.Command{Fuel: 5, Code: []api.Instr{{Op: api.OpGo, A: 1}, {Op: op}, {Op: api.OpEnd}}}
			wantRead(t, s, 0, len(s), want)
			wantParsed(t, s, want)
		}
	}
}

// mayNot is a command that may not be, and why.
type mayNot struct {
	c api.Command
	e api.Errno
}

// mayNotBe is commands whose bytes are well, with each error that layer 7 has.
func mayNotBe(t *testing.T) []mayNot {
	var l []mayNot
	add := func(e api.Errno, change func(c *api.Command)) {
		c := copyOf(plain(t))
		change(&c)
		l = append(l, mayNot{c, e})
	}
	for _, fuel := range []int{0, 201, 202, 254, 255} {
		add(api.ErrLimit, func(c *api.Command) { c.Fuel = fuel })
	}
	add(api.ErrLimit, func(c *api.Command) { c.Code = nil })
	for n := 1; n <= 8; n++ {
		add(api.ErrLimit, func(c *api.Command) { c.Reads, c.Writes = full().Reads, slices.Clone(full().Reads[:n]) })
		add(api.ErrLimit, func(c *api.Command) { c.Reads, c.Writes = slices.Clone(full().Reads[:n]), full().Reads })
	}
	add(api.ErrSet, func(c *api.Command) { c.Reads = []int{9, 4} })
	add(api.ErrSet, func(c *api.Command) { c.Reads = []int{4, 4} })
	add(api.ErrSet, func(c *api.Command) { c.Reads = []int{-1, 4} })
	add(api.ErrSet, func(c *api.Command) { c.Reads[1] = math.MinInt })
	add(api.ErrSet, func(c *api.Command) { c.Writes = []int{300, 2} })
	add(api.ErrSet, func(c *api.Command) { c.Writes = []int{-2, 2} })
	add(api.ErrSet, func(c *api.Command) { c.Writes = []int{2, 9} })
	for at, x := range []api.Instr{{Op: api.OpGet, A: 4}, {Op: api.OpArg, A: 2}, {Op: api.OpPut, A: 1}, {Op: api.OpKeep, A: 4}, {Op: api.OpLoad, A: -1}, {Op: api.OpGet, B: 8}, {Op: api.OpPut, A: 2, B: -1}} {
		add(api.ErrOp, func(c *api.Command) { c.Code[at] = x })
	}
	add(api.ErrLimit, func(c *api.Command) { c.Code = slices.Repeat([]api.Instr{{Op: api.OpEmit}}, 9) })
	add(api.ErrJump, func(c *api.Command) { c.Code = c.Code[:10] })
	add(api.ErrJump, func(c *api.Command) { c.Code[5].A = 6 })
	add(api.ErrJump, func(c *api.Command) { c.Code[5].A = -1 })
	add(api.ErrStack, func(c *api.Command) { c.Code[0] = api.Instr{Op: api.OpAdd} })
	add(api.ErrStack, func(c *api.Command) { c.Code[5].A = 1 })
	add(api.ErrStack, func(c *api.Command) { c.Code = slices.Repeat([]api.Instr{{Op: api.OpPush}}, 9) })
	return l
}

// Then layer 7's Check's error, and f is Bad though its bytes are well.
func TestReadMayNotBe(t *testing.T) {
	good := printedByRule(plain(t))
	for _, x := range mayNotBe(t) {
		s := printedByRule(x.c)
		wantRefused(t, &lay.From{S: s}, x.e)
		wantRefused(t, &lay.From{S: s + good}, x.e)
		wantRefused(t, &lay.From{S: good + s, At: len(good)}, x.e)
		wantNotParsed(t, s, x.e)
		if got := proof.Check(x.c); got != x.e {
			t.Errorf("%v: layer 7 says %d, want %d", x.c, got, x.e)
		}
	}
}

// Of two errors: bytes that are none's ahead of Check's, Check's ahead of bytes
// that are left.
func TestReadFirstError(t *testing.T) {
	for _, x := range mayNotBe(t) {
		s := printedByRule(x.c)
		for n := range len(s) {
			wantNotParsed(t, s[:n], api.ErrForm)
			wantRefused(t, &lay.From{S: s[:n]}, api.ErrForm)
		}
		wantNotParsed(t, s+"\x00", x.e)
		wantNotParsed(t, s+s, x.e)
	}
	wantNotParsed(t, "\x00\x00\x00\x00\x01\x12", api.ErrForm)
	wantNotParsed(t, "\x00\x00\x00\x00\x41"+strings.Repeat("\x11", 65), api.ErrForm)
	wantNotParsed(t, "\x01\xff\xff\xff\xff\xff\xff\xff\xff\x00\x00\x01\x02\x11\x00", api.ErrForm)
	wantNotParsed(t, "\x01\xff\xff\xff\xff\xff\xff\xff\xff\x00\x00\x01\x02\x11\x11\x00", api.ErrSet)
}

// It reads from where the reader is, and leaves what comes behind, a command's
// or not.
func TestReadAmongOthers(t *testing.T) {
	for _, c := range []api.Command{plain(t), full()} {
		s := printedByRule(c)
		for _, ahead := range []string{"", "\x00", "\xff", "ahead of it", s} {
			for _, behind := range []string{"", "\x00", "\xff", "behind it", s} {
				wantRead(t, ahead+s+behind, len(ahead), len(ahead)+len(s), c)
			}
		}
	}
}

// The reader is handed on: from command to command, and to layer 3 in between.
func TestReadOneBehindAnother(t *testing.T) {
	r := rand.New(rand.NewSource(5))
	for range 200 {
		var l []api.Command
		var s string
		for i := range r.Intn(8) {
			l = append(l, anyCommand(r))
			s += lay.Num(i) + Print(l[i])
		}
		f := &lay.From{S: s}
		for i, want := range l {
			n := f.Num()
			if c, e := Read(f); n != i || e != api.OK || !same(c, want) {
				t.Fatalf("the one at %d: %d, %v, %d, want %v", i, n, c, e, want)
			}
		}
		if !f.Done() {
			t.Fatalf("%x: left at %d, bad %v", short(s), f.At, f.Bad)
		}
		wantRefused(t, f, api.ErrForm)
	}
}

// Behind one that is refused, all that comes is refused, in layer 3 too.
func TestReadBehindRefused(t *testing.T) {
	good := printedByRule(plain(t))
	for _, x := range mayNotBe(t) {
		f := &lay.From{S: printedByRule(x.c) + good}
		Read(f)
		if n := f.Num(); n != 0 || !f.Bad || f.Done() {
			t.Errorf("%v: %d, bad %v", x.c, n, f.Bad)
		}
		if c, e := Read(f); e != api.ErrForm || !nothing(c) {
			t.Errorf("%v: %v, %d", x.c, c, e)
		}
	}
}

func TestReadWrongReaders(t *testing.T) {
	s := printedByRule(plain(t))
	for _, at := range []int{-1, -len(s), math.MinInt, len(s), len(s) + 1, math.MaxInt, math.MaxInt - 7} {
		wantRefused(t, &lay.From{S: s, At: at}, api.ErrForm)
	}
	for _, at := range []int{0, 1, len(s), -1, math.MinInt, math.MaxInt} {
		f := &lay.From{S: s, At: at, Bad: true}
		wantRefused(t, f, api.ErrForm)
		if f.At != at {
			t.Errorf("a bad one went from %d to %d", at, f.At)
		}
	}
	wantRefused(t, &lay.From{}, api.ErrForm)
	wantRefused(t, &lay.From{Bad: true}, api.ErrForm)
}

// P1: a reader that isn't there has no bytes.
func TestReadNoReader(t *testing.T) {
	if c, e := Read(nil); e != api.ErrForm || !nothing(c) {
		t.Errorf("%v, %d", c, e)
	}
}

// Each byte of a command changed to each other one.
func TestReadEachByteChanged(t *testing.T) {
	counts := map[api.Errno]int{}
	for _, c := range []api.Command{plain(t), {Fuel: 1, Code: []api.Instr{{Op: api.OpEnd}}}} {
		s := []byte(printedByRule(c))
		for i := range s {
			was := s[i]
			for b := range 256 {
				s[i] = byte(b)
				counts[wantByRule(t, string(s))]++
			}
			s[i] = was
		}
	}
	for _, e := range []api.Errno{api.OK, api.ErrForm, api.ErrLimit, api.ErrSet, api.ErrOp, api.ErrJump, api.ErrStack} {
		if counts[e] == 0 {
			t.Errorf("error %d is never told", e)
		}
	}
}

// All short texts of bytes that matter.
func TestReadAllShortBytes(t *testing.T) {
	texts := []string{""}
	for range 7 {
		var next []string
		for _, s := range texts {
			for _, c := range []byte{0, 1, 2, 16, 17, 201} {
				next = append(next, s+string([]byte{c}))
			}
		}
		for _, s := range next {
			// Where a list of some begins there is no room left for it.
			if strings.HasPrefix(s, "\x00\x00\x00") || len(s) < 5 {
				wantByRule(t, s)
			}
		}
		texts = next
	}
	wantNotParsed(t, "", api.ErrForm)
	for b := range 256 {
		wantNotParsed(t, string([]byte{byte(b)}), api.ErrForm)
	}
}

// anyBytes is a command's bytes, of which some are changed, missing, or more.
func anyBytes(r *rand.Rand) string {
	b := []byte(printedByRule(anyCommand(r)))
	for range r.Intn(3) {
		b[r.Intn(len(b))] = byte(r.Intn(256))
	}
	switch r.Intn(6) {
	case 0:
		b = b[:r.Intn(len(b))]
	case 1:
		b = append(b, byte(r.Intn(256)))
	case 2:
		at := r.Intn(len(b))
		b = slices.Delete(b, at, at+1)
	}
	return string(b)
}

// P1, P8.2: any bytes.
func TestReadAnyBytes(t *testing.T) {
	r := rand.New(rand.NewSource(6))
	well := 0
	for range 20000 {
		if wantByRule(t, anyBytes(r)) == api.OK {
			well++
		}
	}
	if well < 4000 || well > 16000 {
		t.Errorf("%d of 20000 are read: too few, or too many, to be of use", well)
	}
	for range 20000 {
		b := make([]byte, r.Intn(200))
		for i := range b {
			b[i] = byte(r.Intn(18))
		}
		wantByRule(t, string(b))
	}
}

// P4, as far as this layer goes: whatever is read may be.
func TestReadMayBe(t *testing.T) {
	r := rand.New(rand.NewSource(7))
	for range 20000 {
		s := anyBytes(r)
		if c, e := Parse(s); e == api.OK && proof.Check(c) != api.OK {
			t.Fatalf("%x: %v may not be", s, c)
		}
	}
}

// P8.3: there and back.

func TestThereAndBack(t *testing.T) {
	r := rand.New(rand.NewSource(8))
	for range 5000 {
		c := anyCommand(r)
		s := Print(c)
		wantParsed(t, s, c)
		wantRead(t, s, 0, len(s), c)
		wantRead(t, "ahead"+s+"behind", 5, 5+len(s), c)
	}
	for _, c := range []api.Command{plain(t), full()} {
		wantParsed(t, Print(c), c)
	}
}

func TestEachFuelThereAndBack(t *testing.T) {
	for fuel := 1; fuel <= 200; fuel++ {
		c := plain(t)
		c.Fuel = fuel
		wantParsed(t, Print(c), c)
	}
}

func TestEachCountThereAndBack(t *testing.T) {
	for n := 1; n <= 64; n++ {
		c := api.Command{Fuel: 1, Code: slices.Repeat([]api.Instr{{Op: api.OpEnd}}, n)}
		wantParsed(t, Print(c), c)
	}
	for n := range 9 {
		for reads := range n + 1 {
			blocks := rising(rand.New(rand.NewSource(9)), n)
			c := api.Command{Reads: blocks[:reads], Writes: blocks[reads:], Args: slices.Repeat([]int{-7}, n), Fuel: 1, Code: []api.Instr{{Op: api.OpEnd}}}
			wantParsed(t, Print(c), c)
		}
	}
}

func TestBytesThereAndBack(t *testing.T) {
	r := rand.New(rand.NewSource(10))
	for range 20000 {
		s := anyBytes(r)
		if c, e := Parse(s); e == api.OK {
			wantPrinted(t, c, s)
		}
	}
}

// Rule 3: what is handed in is as it was, its spare room too.
func TestGivenStays(t *testing.T) {
	reads, writes, args := []int{3, 1, 99, 98}, []int{2, 97, 96}, []int{5, 95, 94}
	room := []api.Instr{{Op: api.OpPush, A: 1}, {Op: api.OpEmit}, {Op: api.OpEnd}, {Op: 99, A: 9, B: 9}}
	given := api.Command{Reads: reads, Writes: writes, Args: args, Fuel: 5, Code: room}
	was := copyOf(given)
	c := api.Command{Reads: reads[:1], Writes: writes[:1], Args: args[:1], Fuel: 5, Code: room[:3]}
	wantPrinted(t, c, printedByRule(c))
	Fits(c, 3)
	Print(given)
	Fits(given, 3)
	if !reflect.DeepEqual(given, was) {
		t.Errorf("%v, and it was %v", given, was)
	}
}

// Rules 3 and 7: answers are new memory, each list its own.
func TestAnswersAreTheirOwn(t *testing.T) {
	want := plain(t)
	s := Print(want)
	one, _ := Parse(s)
	two, _ := Parse(s)
	three, _ := Read(&lay.From{S: s})
	clear(one.Reads)
	clear(one.Writes)
	clear(one.Args)
	clear(one.Code)
	_ = append(two.Reads, 1, 2, 3, 4, 5, 6, 7, 8)
	_ = append(two.Writes, 1, 2, 3, 4, 5, 6, 7, 8)
	_ = append(two.Args, 1, 2, 3, 4, 5, 6, 7, 8)
	_ = append(two.Code, one.Code...)
	if !same(two, want) || !same(three, want) {
		t.Errorf("other answers: %v, %v", two, three)
	}
	wantParsed(t, s, want)
}

// Rules 4 and 6: a call hangs on its arguments alone, whoever calls beside it.
func TestManyCallAtOnce(t *testing.T) {
	shared := plain(t)
	bytes := printedByRule(shared)
	var wg sync.WaitGroup
	for i := range 8 {
		wg.Go(func() {
			r := rand.New(rand.NewSource(int64(i)))
			for range 300 {
				c := anyCommand(r)
				wantParsed(t, Print(c), c)
				wantPrinted(t, shared, bytes)
				wantParsed(t, bytes, shared)
				wantRefused(t, &lay.From{S: bytes[:r.Intn(len(bytes))]}, api.ErrForm)
				if !Fits(shared, 301) || Fits(shared, 300) {
					t.Error("fits otherwise")
				}
			}
		})
	}
	wg.Wait()
}
