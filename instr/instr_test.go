package instr

import (
	"encoding/binary"
	"math"
	"math/rand"
	"slices"
	"strings"
	"sync"
	"testing"

	"foreman/api"
	"foreman/asm"
	"foreman/lay"
)

// kinds is how many kinds there are: 1 to 17.
const kinds = 17

// numbersOf is how many numbers a kind has, in chapter 5's words.
func numbersOf(op int) int {
	switch op {
	case api.OpGet, api.OpPut:
		return 2
	case api.OpPush, api.OpLoad, api.OpKeep, api.OpArg, api.OpSkip, api.OpGo:
		return 1
	}
	return 0
}

// printedByRule is Print in the chapter's words.
func printedByRule(l []api.Instr) string {
	var b []byte
	for _, x := range l {
		b = append(b, byte(x.Op))
		if numbersOf(x.Op) >= 1 {
			b = binary.BigEndian.AppendUint64(b, uint64(x.A))
		}
		if numbersOf(x.Op) == 2 {
			b = binary.BigEndian.AppendUint64(b, uint64(x.B))
		}
	}
	return string(b)
}

// readByRule is Read in the chapter's words, of a text's beginning: the
// instructions, how many bytes they have, and whether all of them came.
func readByRule(s string, n int) ([]api.Instr, int, bool) {
	var l []api.Instr
	at := 0
	for len(l) < n {
		if at == len(s) || s[at] < 1 || s[at] > kinds {
			return nil, 0, false
		}
		x := api.Instr{Op: int(s[at])}
		end := at + 1 + 8*numbersOf(x.Op)
		if end > len(s) {
			return nil, 0, false
		}
		if end > at+1 {
			x.A = int(binary.BigEndian.Uint64([]byte(s[at+1:])))
		}
		if end > at+9 {
			x.B = int(binary.BigEndian.Uint64([]byte(s[at+9:])))
		}
		l = append(l, x)
		at = end
	}
	return l, at, true
}

// edges are numbers that are not 0: near it, at bytes' ends, and at the ends.
func edges() []int {
	return []int{1, -1, 2, -2, 17, 127, 128, 255, 256, 258, -256, 1 << 31, -1 << 31, 1 << 32, 1 << 40, -1<<40 - 1,
		0x0102030405060708, -0x0102030405060708, math.MaxInt, math.MaxInt - 1, math.MinInt, math.MinInt + 1}
}

func anyNumber(r *rand.Rand) int {
	switch r.Intn(3) {
	case 0:
		return edges()[r.Intn(len(edges()))]
	case 1:
		return r.Intn(9)
	}
	return int(r.Uint64())
}

// anyRight is an instruction that is right.
func anyRight(r *rand.Rand) api.Instr {
	x := api.Instr{Op: 1 + r.Intn(kinds)}
	if numbersOf(x.Op) >= 1 {
		x.A = anyNumber(r)
	}
	if numbersOf(x.Op) == 2 {
		x.B = anyNumber(r)
	}
	return x
}

func anyList(r *rand.Rand, many int) []api.Instr {
	l := make([]api.Instr, many)
	for i := range l {
		l[i] = anyRight(r)
	}
	return l
}

// eachRight is right instructions of each kind, with noughts and edges where
// they have numbers.
func eachRight() []api.Instr {
	var l []api.Instr
	numbers := append(edges(), 0)
	for op := 1; op <= kinds; op++ {
		switch numbersOf(op) {
		case 2:
			for i, a := range numbers {
				l = append(l, api.Instr{Op: op, A: a}, api.Instr{Op: op, B: a}, api.Instr{Op: op, A: a, B: numbers[len(numbers)-1-i]})
			}
		case 1:
			for _, a := range numbers {
				l = append(l, api.Instr{Op: op, A: a})
			}
		default:
			l = append(l, api.Instr{Op: op})
		}
	}
	return l
}

// eachWrong is instructions of each way of not being right.
func eachWrong() []api.Instr {
	var l []api.Instr
	for _, op := range []int{math.MinInt, math.MinInt + 4, -1<<32 + 7, -256, -255, -249, -17, -7, -4, -1, 0, 18, 19, 20, 31, 32, 127, 128, 255, 256, 257, 256 + 4, 256 + 7, 1<<32 + 1, 1<<32 + 7, math.MaxInt} {
		l = append(l, api.Instr{Op: op}, api.Instr{Op: op, A: 1}, api.Instr{Op: op, B: 1}, api.Instr{Op: op, A: 1, B: 2})
	}
	for op := 1; op <= kinds; op++ {
		for _, n := range edges() {
			if numbersOf(op) < 2 {
				l = append(l, api.Instr{Op: op, B: n})
			}
			if numbersOf(op) == 1 {
				l = append(l, api.Instr{Op: op, A: n, B: n})
			}
			if numbersOf(op) < 1 {
				l = append(l, api.Instr{Op: op, A: n}, api.Instr{Op: op, A: n, B: n}, api.Instr{Op: op, A: n, B: -n})
			}
		}
	}
	return l
}

func wantPrinted(t *testing.T, want string, l ...api.Instr) {
	t.Helper()
	if got := Print(l); got != want {
		t.Errorf("%v: %x, want %x", l[:min(len(l), 4)], short(got), short(want))
	}
}

func short(s string) string { return s[:min(len(s), 60)] }

// wantRead reads from at on, and wants those instructions, and that the reader
// is left behind them.
func wantRead(t *testing.T, s string, at, end int, want ...api.Instr) {
	t.Helper()
	f := &lay.From{S: s, At: at}
	got, ok := Read(f, len(want))
	if !ok || !slices.Equal(got, want) {
		t.Errorf("%x from %d: %v, %v, want %v", short(s), at, got, ok, want)
	}
	if *f != (lay.From{S: s, At: end}) {
		t.Errorf("%x from %d: left at %d, bad %v, want %d", short(s), at, f.At, f.Bad, end)
	}
}

// wantRefused wants no instruction, false, and Bad; and the same once more.
func wantRefused(t *testing.T, f *lay.From, n int) {
	t.Helper()
	was := *f
	for range 2 {
		l, ok := Read(f, n)
		if ok || len(l) != 0 || !f.Bad || f.S != was.S {
			t.Errorf("%x from %d, bad %v: %d of %d, %v, bad %v", short(was.S), was.At, was.Bad, len(l), n, ok, f.Bad)
		}
	}
	if f.Done() {
		t.Errorf("%x from %d: done", short(was.S), was.At)
	}
}

// P6.1: Right.

func TestRight(t *testing.T) {
	for _, x := range eachRight() {
		if !Right(x) {
			t.Errorf("%v: not right", x)
		}
	}
}

func TestNotRight(t *testing.T) {
	for _, x := range eachWrong() {
		if Right(x) {
			t.Errorf("%v: right", x)
		}
	}
}

func TestRightByKindAlone(t *testing.T) {
	for op := -300; op <= 600; op++ {
		if got := Right(api.Instr{Op: op}); got != (op >= 1 && op <= 17) {
			t.Errorf("kind %d: %v", op, got)
		}
	}
}

// What is right for a list is so whatever is right for a text: numbers may be
// further than 2^40, and jumps lead anywhere.
func TestRightIsNoMoreThanThat(t *testing.T) {
	for _, x := range []api.Instr{{Op: api.OpPush, A: math.MinInt}, {Op: api.OpGo, A: -1}, {Op: api.OpSkip, A: math.MaxInt}, {Op: api.OpLoad, A: 4}, {Op: api.OpGet, A: -1, B: 8}, {Op: api.OpArg, A: 1 << 50}} {
		if !Right(x) {
			t.Errorf("%v: not right", x)
		}
	}
}

// Each kind's numbers are those that layer 5 tells.
func TestRightByLayerFive(t *testing.T) {
	for op := -20; op <= 40; op++ {
		known := asm.Word(op) != ""
		for takes, x := range []api.Instr{{Op: op}, {Op: op, A: 5}, {Op: op, B: 5}} {
			if got := Right(x); got != (known && takes <= asm.Takes(op)) {
				t.Errorf("%v: %v", x, got)
			}
		}
	}
}

// P6.1: Print.

func TestPrintKnown(t *testing.T) {
	wantPrinted(t, "")
	wantPrinted(t, "\x07", api.Instr{Op: api.OpAdd})
	wantPrinted(t, "\x11", api.Instr{Op: api.OpEnd})
	wantPrinted(t, "\x01\x00\x00\x00\x00\x00\x00\x01\x02", api.Instr{Op: api.OpPush, A: 258})
	wantPrinted(t, "\x01\xff\xff\xff\xff\xff\xff\xff\xfe", api.Instr{Op: api.OpPush, A: -2})
	wantPrinted(t, "\x04\x00\x00\x00\x00\x00\x00\x00\x01\x00\x00\x00\x00\x00\x00\x00\x02", api.Instr{Op: api.OpGet, A: 1, B: 2})
	wantPrinted(t, "\x05\x01\x02\x03\x04\x05\x06\x07\x08\x80\x00\x00\x00\x00\x00\x00\x00\x0d\x00\x00\x00\x00\x00\x00\x00\x00\x0f",
		api.Instr{Op: api.OpPut, A: 0x0102030405060708, B: math.MinInt}, api.Instr{Op: api.OpSkip}, api.Instr{Op: api.OpEmit})
	if got := Print([]api.Instr{}); got != "" {
		t.Errorf("an empty list: %x", got)
	}
}

func TestPrintEach(t *testing.T) {
	for _, x := range eachRight() {
		wantPrinted(t, printedByRule([]api.Instr{x}), x)
	}
	all := eachRight()
	wantPrinted(t, printedByRule(all), all...)
}

func TestPrintLengths(t *testing.T) {
	noughts := strings.Repeat("\x00", 16)
	for op := 1; op <= kinds; op++ {
		wantPrinted(t, string([]byte{byte(op)})+noughts[:8*numbersOf(op)], api.Instr{Op: op})
	}
}

// There may be any number of them: the limit is layer 7's.
func TestPrintMany(t *testing.T) {
	r := rand.New(rand.NewSource(1))
	for _, n := range []int{2, 63, 64, 65, 255, 256, 257, 1000, 70000} {
		l := anyList(r, n)
		wantPrinted(t, printedByRule(l), l...)
	}
}

// P1, and the remark at Print: a list with one that isn't right has no bytes.
func TestPrintNotRight(t *testing.T) {
	end := api.Instr{Op: api.OpEnd}
	for _, x := range eachWrong() {
		wantPrinted(t, "", x)
		wantPrinted(t, "", x, end)
		wantPrinted(t, "", end, x)
		wantPrinted(t, "", end, x, end)
	}
}

// P6.2: Read.

func TestReadKnown(t *testing.T) {
	wantRead(t, "\x07", 0, 1, api.Instr{Op: api.OpAdd})
	wantRead(t, "\x01\x00\x00\x00\x00\x00\x00\x01\x02", 0, 9, api.Instr{Op: api.OpPush, A: 258})
	wantRead(t, "\x0e\xff\xff\xff\xff\xff\xff\xff\xfe", 0, 9, api.Instr{Op: api.OpGo, A: -2})
	wantRead(t, "\x05\x01\x02\x03\x04\x05\x06\x07\x08\x80\x00\x00\x00\x00\x00\x00\x00", 0, 17,
		api.Instr{Op: api.OpPut, A: 0x0102030405060708, B: math.MinInt})
	wantRead(t, "\x07\x06\x00\x00\x00\x00\x00\x00\x00\x03\x11", 0, 11,
		api.Instr{Op: api.OpAdd}, api.Instr{Op: api.OpArg, A: 3}, api.Instr{Op: api.OpEnd})
}

// It reads from where the reader is, and leaves what comes behind, right or not.
func TestReadAmongOthers(t *testing.T) {
	for _, x := range eachRight() {
		s := printedByRule([]api.Instr{x})
		for _, ahead := range []string{"", "\x00", "\x07", "ahead of it"} {
			for _, behind := range []string{"", "\x00", "\x07", "\x04\x00", "behind it"} {
				wantRead(t, ahead+s+behind, len(ahead), len(ahead)+len(s), x)
			}
		}
	}
}

func TestReadMany(t *testing.T) {
	r := rand.New(rand.NewSource(2))
	for _, n := range []int{2, 3, 63, 64, 65, 255, 256, 257, 5000} {
		l := anyList(r, n)
		s := printedByRule(l)
		wantRead(t, s, 0, len(s), l...)
		wantRead(t, s, 0, len(printedByRule(l[:n-1])), l[:n-1]...)
	}
}

// One after the other is as all at once: the reader is handed on.
func TestReadInParts(t *testing.T) {
	r := rand.New(rand.NewSource(3))
	for range 200 {
		l := anyList(r, r.Intn(30))
		f := &lay.From{S: printedByRule(l)}
		var got []api.Instr
		for len(got) < len(l) {
			part, ok := Read(f, min(r.Intn(4), len(l)-len(got)))
			if !ok {
				t.Fatalf("%v: refused at %d", l, f.At)
			}
			got = append(got, part...)
		}
		if !slices.Equal(got, l) || !f.Done() {
			t.Fatalf("%v, want %v; done %v", got, l, f.Done())
		}
	}
}

// What layer 3 reads from the same reader goes on behind them.
func TestReadBesideLayerThree(t *testing.T) {
	l := []api.Instr{{Op: api.OpGet, A: 1, B: 2}, {Op: api.OpAdd}}
	f := &lay.From{S: lay.Num(258) + printedByRule(l) + lay.Num(-3)}
	first := f.Num()
	got, ok := Read(f, 2)
	last := f.Num()
	if first != 258 || !ok || !slices.Equal(got, l) || last != -3 || !f.Done() {
		t.Errorf("%d, %v, %v, %d, done %v", first, got, ok, last, f.Done())
	}
}

// An n below 1: nothing is read, so nothing is missing, whatever the reader.
func TestReadNone(t *testing.T) {
	for _, n := range []int{0, -1, -2, -64, math.MinInt + 1, math.MinInt} {
		for _, f := range []lay.From{{}, {S: "\x07"}, {S: "\x07", At: 1}, {S: "\x00"}, {S: "\x12"}, {S: "\x04\x00"}, {At: -1}, {S: "\x07", At: 9}, {Bad: true}, {S: "\x07", Bad: true}} {
			was := f
			if l, ok := Read(&f, n); !ok || len(l) != 0 || f != was {
				t.Errorf("%d of %v: %v, %v, left %v", n, was, l, ok, f)
			}
		}
	}
}

func TestReadMissingBytes(t *testing.T) {
	for _, x := range eachRight() {
		s := printedByRule([]api.Instr{x})
		for n := range len(s) {
			wantRefused(t, &lay.From{S: s[:n]}, 1)
			wantRefused(t, &lay.From{S: "\x07" + s[:n]}, 2)
			wantRefused(t, &lay.From{S: s + s[:n]}, 2)
			wantRefused(t, &lay.From{S: "ahead" + s[:n], At: 5}, 1)
		}
	}
}

// More are asked than come, however many more.
func TestReadTooMany(t *testing.T) {
	r := rand.New(rand.NewSource(4))
	for _, many := range []int{0, 1, 2, 64, 300} {
		s := printedByRule(anyList(r, many))
		for _, n := range []int{many + 1, many + 2, 256*(many+1) + many, 1<<32 + many, 1 << 40, math.MaxInt - 1, math.MaxInt} {
			wantRefused(t, &lay.From{S: s}, n)
		}
	}
}

func TestReadEachKindsByte(t *testing.T) {
	noughts := strings.Repeat("\x00", 40)
	for op := range 256 {
		s := string([]byte{byte(op)}) + noughts
		if op >= 1 && op <= 17 {
			wantRead(t, s, 0, 1+8*numbersOf(op), api.Instr{Op: op})
			continue
		}
		wantRefused(t, &lay.From{S: s}, 1)
		wantRefused(t, &lay.From{S: s[:1]}, 1)
		wantRefused(t, &lay.From{S: "\x07" + s}, 2)
		wantRefused(t, &lay.From{S: "\x07" + s + "\x07"}, 3)
		wantRead(t, "\x07"+s, 0, 1, api.Instr{Op: api.OpAdd})
	}
}

func TestReadWrongReaders(t *testing.T) {
	s := printedByRule([]api.Instr{{Op: api.OpAdd}, {Op: api.OpGet, A: 1, B: 2}, {Op: api.OpPush}})
	for _, n := range []int{1, 2, 64, math.MaxInt} {
		for _, at := range []int{-1, -len(s), math.MinInt, len(s), len(s) + 1, math.MaxInt, math.MaxInt - 7} {
			wantRefused(t, &lay.From{S: s, At: at}, n)
		}
		for _, at := range []int{0, 1, len(s), -1} {
			f := &lay.From{S: s, At: at, Bad: true}
			wantRefused(t, f, n)
			if f.At != at {
				t.Errorf("a bad one went from %d to %d", at, f.At)
			}
		}
		wantRefused(t, &lay.From{}, n)
	}
}

// P1: a reader that isn't there has no bytes.
func TestReadNoReader(t *testing.T) {
	for _, n := range []int{1, 2, math.MaxInt, 0, -1, math.MinInt} {
		l, ok := Read(nil, n)
		if len(l) != 0 || ok != (n < 1) {
			t.Errorf("%d of no reader: %v, %v", n, l, ok)
		}
	}
}

// anyBytes is bytes that often begin like instructions.
func anyBytes(r *rand.Rand) string {
	var b []byte
	for range r.Intn(6) {
		b = append(b, printedByRule(anyList(r, 1))...)
	}
	if len(b) > 0 && r.Intn(2) == 0 {
		b[r.Intn(len(b))] = byte(r.Intn(256))
	}
	if r.Intn(4) == 0 {
		b = b[:r.Intn(len(b)+1)]
	}
	return string(b)
}

// P1, P6.2: any bytes, any number of them.
func TestReadAnyBytes(t *testing.T) {
	r := rand.New(rand.NewSource(5))
	well := 0
	for range 20000 {
		s, n := anyBytes(r), r.Intn(7)
		want, end, is := readByRule(s, n)
		if !is {
			wantRefused(t, &lay.From{S: s}, n)
			continue
		}
		well++
		wantRead(t, s, 0, end, want...)
	}
	if well < 4000 || well > 16000 {
		t.Errorf("%d of 20000 are read: too few, or too many, to be of use", well)
	}
}

// All short texts of bytes that matter.
func TestReadAllShortBytes(t *testing.T) {
	texts := []string{""}
	for range 4 {
		var next []string
		for _, s := range texts {
			for _, c := range []byte{0, 1, 4, 7, 17, 18, 255} {
				next = append(next, s+string([]byte{c}))
			}
		}
		for _, s := range next {
			for n := range 6 {
				if want, end, is := readByRule(s, n); is {
					wantRead(t, s, 0, end, want...)
				} else {
					wantRefused(t, &lay.From{S: s}, n)
				}
			}
		}
		texts = next
	}
}

// P6.3: there and back.

func TestThereAndBack(t *testing.T) {
	r := rand.New(rand.NewSource(6))
	for n := range 65 * 20 {
		l := anyList(r, n%65)
		s := Print(l)
		wantRead(t, s, 0, len(s), l...)
	}
	for _, x := range eachRight() {
		s := Print([]api.Instr{x})
		wantRead(t, s, 0, len(s), x)
	}
}

func TestBytesThereAndBack(t *testing.T) {
	r := rand.New(rand.NewSource(7))
	for range 20000 {
		s, n := anyBytes(r), r.Intn(7)
		f := &lay.From{S: s}
		l, ok := Read(f, n)
		if !ok {
			continue
		}
		for _, x := range l {
			if !Right(x) {
				t.Fatalf("%x: %v was read", s, x)
			}
		}
		if len(l) != n {
			t.Fatalf("%x: %d instructions, want %d", s, len(l), n)
		}
		wantPrinted(t, s[:f.At], l...)
	}
}

// What is built of a text is right, and comes back.
func TestBuiltThereAndBack(t *testing.T) {
	l, e := asm.Build("arg 0 skip over push -1099511627776 get 3 7 add emit over: load 2 keep 1 go out put 0 1 stop out: end")
	if e != api.OK {
		t.Fatal(e)
	}
	s := Print(l)
	wantPrinted(t, printedByRule(l), l...)
	wantRead(t, s, 0, len(s), l...)
}

// Rule 3: what is handed in is as it was, its spare room too.
func TestGivenStays(t *testing.T) {
	room := []api.Instr{{Op: api.OpGo, A: 1}, {Op: api.OpEnd}, {Op: api.OpGet, A: 1, B: 2}, {Op: 99, A: 9, B: 9}}
	was := slices.Clone(room)
	Print(room[:2])
	Print(room)
	if !slices.Equal(room, was) {
		t.Errorf("%v, and it was %v", room, was)
	}
}

// Rules 3 and 7: answers are new memory.
func TestAnswersAreTheirOwn(t *testing.T) {
	want := []api.Instr{{Op: api.OpPush, A: 3}, {Op: api.OpEmit}, {Op: api.OpEnd}}
	s := Print(want)
	one, _ := Read(&lay.From{S: s}, 3)
	two, _ := Read(&lay.From{S: s}, 3)
	clear(one)
	if !slices.Equal(two, want) {
		t.Errorf("another answer: %v", two)
	}
	wantRead(t, s, 0, len(s), want...)
}

// Rules 4 and 6: a call hangs on its arguments alone, whoever calls beside it.
func TestManyCallAtOnce(t *testing.T) {
	shared := anyList(rand.New(rand.NewSource(8)), 64)
	bytes := printedByRule(shared)
	var wg sync.WaitGroup
	for i := range 8 {
		wg.Go(func() {
			r := rand.New(rand.NewSource(int64(i)))
			for range 300 {
				l := anyList(r, r.Intn(10))
				s := printedByRule(l)
				wantPrinted(t, s, l...)
				wantRead(t, s, 0, len(s), l...)
				wantPrinted(t, bytes, shared...)
				wantRead(t, bytes, 0, len(bytes), shared...)
				wantRefused(t, &lay.From{S: s}, len(l)+1)
			}
		})
	}
	wg.Wait()
}
