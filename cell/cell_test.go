package cell

import (
	"encoding/binary"
	"math"
	"math/rand"
	"strings"
	"sync"
	"testing"

	"foreman/api"
	"foreman/lay"
)

// printedByRule is Print in the chapters' words.
func printedByRule(b api.Block) string {
	var s []byte
	for i := range 8 {
		s = binary.BigEndian.AppendUint64(s, uint64(b[i]))
	}
	return string(s)
}

// readByRule is what eight Nums are of a text, and where the reader stands
// then: a number of which bytes are missing is 0, and so are those behind it.
func readByRule(s string, at int) (api.Block, lay.From) {
	var b api.Block
	if at < 0 || at > len(s) {
		return b, lay.From{S: s, At: at, Bad: true}
	}
	for i := range 8 {
		if len(s)-at < 8 {
			return b, lay.From{S: s, At: len(s), Bad: true}
		}
		b[i] = int(binary.BigEndian.Uint64([]byte(s[at : at+8])))
		at += 8
	}
	return b, lay.From{S: s, At: at}
}

// edges are numbers at the ends, and such as the bytes of one are told by.
func edges() []int {
	return []int{0, 1, -1, 255, 256, 258, -256, math.MaxInt, math.MinInt, math.MaxInt - 1, math.MinInt + 1,
		math.MaxInt32, math.MinInt32, 1 << 32, 0x0102030405060708, -0x0102030405060708}
}

func anyNumber(r *rand.Rand) int {
	ends := edges()
	if r.Intn(3) == 0 {
		return ends[r.Intn(len(ends))]
	}
	return int(r.Uint64())
}

func anyBlock(r *rand.Rand) api.Block {
	var b api.Block
	for i := range b {
		b[i] = anyNumber(r)
	}
	return b
}

// counted is a block of which no two cells are alike, and none is nought.
func counted() api.Block { return api.Block{11, -12, 13, -14, 15, -16, 17, -18} }

// blocks are some by hand, and some of a source.
func blocks(r *rand.Rand, many int) []api.Block {
	l := []api.Block{{}, counted(), {7: math.MinInt}, {0: -1}}
	for _, n := range edges() {
		l = append(l, api.Block{n, n, n, n, n, n, n, n})
	}
	for range many {
		l = append(l, anyBlock(r))
	}
	return l
}

// noPlaces are places of no cell.
func noPlaces() []int {
	l := []int{-1, -2, -7, -8, -9, 8, 9, 15, 16, 63, 64, 255, 256, math.MaxInt, math.MaxInt - 1, math.MinInt, math.MinInt + 1}
	for i := range 8 {
		// Some that would be one, if a part of the number alone were held.
		l = append(l, 1<<8+i, 1<<16+i, 1<<32+i, 1<<62+i, math.MinInt+i, i-1<<32, i-1<<8, i-8)
	}
	return l
}

func wantPrinted(t *testing.T, b api.Block, want string) {
	t.Helper()
	if got := Print(b); got != want {
		t.Errorf("%v: %x, want %x", b, got, want)
	}
}

// wantRead reads from at, and asks for the block, and how the reader is left.
func wantRead(t *testing.T, s string, at int, want api.Block, left lay.From) {
	t.Helper()
	f := &lay.From{S: s, At: at}
	if got := Read(f); got != want {
		t.Errorf("%x from %d: %v, want %v", s, at, got, want)
	}
	if *f != left {
		t.Errorf("%x from %d: left at %d, bad %v, want %d, %v", s, at, f.At, f.Bad, left.At, left.Bad)
	}
}

// P9.1: Print.

func TestPrintKnown(t *testing.T) {
	noughts := strings.Repeat("\x00", 8)
	wantPrinted(t, api.Block{}, strings.Repeat(noughts, 8))
	wantPrinted(t, api.Block{258, 1, 2, 3, 4, -1, -2, math.MinInt},
		"\x00\x00\x00\x00\x00\x00\x01\x02"+
			"\x00\x00\x00\x00\x00\x00\x00\x01"+
			"\x00\x00\x00\x00\x00\x00\x00\x02"+
			"\x00\x00\x00\x00\x00\x00\x00\x03"+
			"\x00\x00\x00\x00\x00\x00\x00\x04"+
			"\xff\xff\xff\xff\xff\xff\xff\xff"+
			"\xff\xff\xff\xff\xff\xff\xff\xfe"+
			"\x80\x00\x00\x00\x00\x00\x00\x00")
}

// Each cell has its own bytes, and no other's are touched by it.
func TestPrintEachCell(t *testing.T) {
	for i := range 8 {
		for _, n := range edges() {
			var b api.Block
			b[i] = n
			wantPrinted(t, b, strings.Repeat("\x00", 8*i)+lay.Num(n)+strings.Repeat("\x00", 8*(7-i)))
		}
	}
}

func TestPrintByRule(t *testing.T) {
	for _, b := range blocks(rand.New(rand.NewSource(1)), 2000) {
		wantPrinted(t, b, printedByRule(b))
	}
}

// The chapter's example.
func TestPrintLength(t *testing.T) {
	for _, b := range blocks(rand.New(rand.NewSource(2)), 100) {
		if n := len(Print(b)); n != 64 {
			t.Errorf("%v: %d bytes", b, n)
		}
	}
}

// P9.1: Read.

func TestReadKnown(t *testing.T) {
	s := "\x00\x00\x00\x00\x00\x00\x01\x02" +
		"\xff\xff\xff\xff\xff\xff\xff\xff" +
		"\x80\x00\x00\x00\x00\x00\x00\x00" +
		"\x7f\xff\xff\xff\xff\xff\xff\xff" +
		"\x01\x02\x03\x04\x05\x06\x07\x08" +
		"\x00\x00\x00\x00\x00\x00\x00\x00" +
		"\xff\xff\xff\xff\xff\xff\xff\x00" +
		"\x00\x00\x00\x00\x00\x00\x00\x09"
	want := api.Block{258, -1, math.MinInt, math.MaxInt, 0x0102030405060708, 0, -256, 9}
	wantRead(t, s, 0, want, lay.From{S: s, At: 64})
}

// It reads from where the reader is, and leaves what comes behind.
func TestReadAmongOthers(t *testing.T) {
	s := printedByRule(counted())
	for _, ahead := range []string{"", "\x00", "\xff", "ahead", s} {
		for _, behind := range []string{"", "\x00", "\xff", "behind", s} {
			all := ahead + s + behind
			wantRead(t, all, len(ahead), counted(), lay.From{S: all, At: len(ahead) + 64})
		}
	}
}

// The reader is handed on: to layer 3 in between, and from block to block.
func TestReadOneBehindAnother(t *testing.T) {
	l := blocks(rand.New(rand.NewSource(3)), 50)
	var s string
	for i, b := range l {
		s += lay.Num(i) + printedByRule(b)
	}
	f := &lay.From{S: s}
	for i, want := range l {
		if n, got := f.Num(), Read(f); n != i || got != want {
			t.Fatalf("the one at %d: %d, %v, want %v", i, n, got, want)
		}
	}
	if !f.Done() {
		t.Errorf("left at %d, bad %v", f.At, f.Bad)
	}
	if b := Read(f); b != (api.Block{}) || !f.Bad {
		t.Errorf("behind all of them: %v, bad %v", b, f.Bad)
	}
}

// Of bytes that are missing: the numbers that are whole are Nums as ever, those
// behind them are noughts, and the reader is Bad.
func TestReadMissingBytes(t *testing.T) {
	s := printedByRule(counted())
	for n := range 64 {
		var want api.Block
		whole := counted()
		copy(want[:n/8], whole[:])
		wantRead(t, s[:n], 0, want, lay.From{S: s[:n], At: n, Bad: true})
		wantRead(t, "ahead"+s[:n], 5, want, lay.From{S: "ahead" + s[:n], At: 5 + n, Bad: true})
	}
}

func TestReadFromAnywhere(t *testing.T) {
	s := printedByRule(counted()) + printedByRule(api.Block{5: 3})
	for at := -3; at <= len(s)+3; at++ {
		want, left := readByRule(s, at)
		wantRead(t, s, at, want, left)
	}
	for _, at := range []int{math.MinInt, math.MinInt + 1, -len(s), math.MaxInt, math.MaxInt - 7, math.MaxInt - 63} {
		wantRead(t, s, at, api.Block{}, lay.From{S: s, At: at, Bad: true})
	}
}

// One that was Bad stays so, and answers noughts, whatever bytes it has.
func TestReadOfBadOnes(t *testing.T) {
	s := printedByRule(counted())
	for _, at := range []int{0, 1, 64, -1, math.MinInt, math.MaxInt} {
		f := &lay.From{S: s, At: at, Bad: true}
		if b := Read(f); b != (api.Block{}) || *f != (lay.From{S: s, At: at, Bad: true}) {
			t.Errorf("at %d: %v, left at %d, bad %v", at, b, f.At, f.Bad)
		}
	}
	f := &lay.From{}
	if b := Read(f); b != (api.Block{}) || *f != (lay.From{Bad: true}) {
		t.Errorf("of nothing: %v, left at %d, bad %v", b, f.At, f.Bad)
	}
}

// P1: a reader that isn't there has no bytes.
func TestReadNoReader(t *testing.T) {
	if b := Read(nil); b != (api.Block{}) {
		t.Errorf("%v", b)
	}
}

// P1: any bytes.
func TestReadAnyBytes(t *testing.T) {
	r := rand.New(rand.NewSource(4))
	for range 5000 {
		s := make([]byte, r.Intn(140))
		r.Read(s)
		at := r.Intn(len(s) + 1)
		want, left := readByRule(string(s), at)
		wantRead(t, string(s), at, want, left)
	}
}

// P9.1: Get.

func TestGetEachCell(t *testing.T) {
	for _, b := range blocks(rand.New(rand.NewSource(5)), 200) {
		for i, want := range b {
			if got := Get(b, i); got != want {
				t.Errorf("%v at %d: %d", b, i, got)
			}
		}
	}
}

func TestGetNoCell(t *testing.T) {
	full := api.Block{-1, -1, -1, -1, -1, -1, -1, -1}
	for _, i := range noPlaces() {
		for _, b := range []api.Block{{}, counted(), full} {
			if got := Get(b, i); got != 0 {
				t.Errorf("%v at %d: %d", b, i, got)
			}
		}
	}
}

// P9.1: Put.

func TestPutEachCell(t *testing.T) {
	for _, b := range blocks(rand.New(rand.NewSource(6)), 20) {
		for i := range 8 {
			for _, n := range edges() {
				want := b
				want[i] = n
				if got := Put(b, i, n); got != want {
					t.Errorf("%v, %d put at %d: %v", b, n, i, got)
				}
			}
		}
	}
}

func TestPutNoCell(t *testing.T) {
	for _, i := range noPlaces() {
		for _, b := range []api.Block{{}, counted()} {
			for _, n := range edges() {
				if got := Put(b, i, n); got != b {
					t.Errorf("%v, %d put at %d: %v", b, n, i, got)
				}
			}
		}
	}
}

// Rule 3: the block that is handed in is as it was, and one that was answered
// is as it was when the next one is made of it.
func TestPutLeavesGiven(t *testing.T) {
	given := counted()
	one := Put(given, 3, 5)
	two := Put(one, 3, 6)
	if given != counted() || one[3] != 5 || two[3] != 6 {
		t.Errorf("%v, %v, %v", given, one, two)
	}
}

// P9.2: what is put is got.

func TestPutIsGot(t *testing.T) {
	r := rand.New(rand.NewSource(7))
	for range 2000 {
		b, i, n := anyBlock(r), r.Intn(8), anyNumber(r)
		c := Put(b, i, n)
		if got := Get(c, i); got != n {
			t.Errorf("%v, %d put at %d: %d is got", b, n, i, got)
		}
		for j := range 8 {
			if j != i && Get(c, j) != Get(b, j) {
				t.Errorf("%v, %d put at %d: at %d there is %d", b, n, i, j, Get(c, j))
			}
		}
	}
}

// Where there is no cell, nothing is put, and nothing got.
func TestPutNowhereIsNotGot(t *testing.T) {
	for _, i := range noPlaces() {
		c := Put(counted(), i, 99)
		if Get(c, i) != 0 {
			t.Errorf("at %d: %d is got", i, Get(c, i))
		}
		for j := range 8 {
			if Get(c, j) == 99 {
				t.Errorf("put at %d, got at %d", i, j)
			}
		}
	}
}

// Many puts, one behind another, held against a map.
func TestManyPutsAreGot(t *testing.T) {
	r := rand.New(rand.NewSource(8))
	var b api.Block
	want := map[int]int{}
	for range 5000 {
		i, n := r.Intn(14)-3, anyNumber(r)
		b = Put(b, i, n)
		if i >= 0 && i < 8 {
			want[i] = n
		}
		for j := -3; j < 11; j++ {
			if Get(b, j) != want[j] {
				t.Fatalf("at %d: %d, want %d", j, Get(b, j), want[j])
			}
		}
	}
}

// What is put is there behind bytes, too.
func TestThereAndBack(t *testing.T) {
	for _, b := range blocks(rand.New(rand.NewSource(9)), 2000) {
		s := Print(b)
		wantRead(t, s, 0, b, lay.From{S: s, At: 64})
		wantPrinted(t, Read(&lay.From{S: s}), s)
	}
	b := Put(Put(api.Block{}, 0, math.MinInt), 7, -1)
	f := &lay.From{S: Print(b)}
	if c := Read(f); Get(c, 0) != math.MinInt || Get(c, 7) != -1 || !f.Done() {
		t.Errorf("%v, left at %d, bad %v", c, f.At, f.Bad)
	}
}

func TestBytesThereAndBack(t *testing.T) {
	r := rand.New(rand.NewSource(10))
	for range 2000 {
		s := make([]byte, 64)
		r.Read(s)
		wantPrinted(t, Read(&lay.From{S: string(s)}), string(s))
	}
}

// Rules 4 and 6: a call hangs on its arguments alone, whoever calls beside it.
func TestManyCallAtOnce(t *testing.T) {
	shared := counted()
	bytes := printedByRule(shared)
	var wg sync.WaitGroup
	for i := range 8 {
		wg.Go(func() {
			r := rand.New(rand.NewSource(int64(i)))
			for range 500 {
				b := anyBlock(r)
				wantRead(t, Print(b), 0, b, lay.From{S: printedByRule(b), At: 64})
				wantPrinted(t, shared, bytes)
				if Get(Put(shared, i, 99), i) != 99 || shared != counted() {
					t.Error("another block")
				}
			}
		})
	}
	wg.Wait()
}
