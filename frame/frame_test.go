package frame

import (
	"encoding/binary"
	"hash/crc32"
	"math"
	"math/rand"
	"strings"
	"sync"
	"testing"

	"foreman/api"
)

// rightByRule is Right in the chapter's words.
func rightByRule(x api.Frame) bool {
	if x.Epoch < 0 || x.Batch < 0 {
		return false
	}
	if x.Parts < 1 || x.Parts > 255 {
		return false
	}
	return 0 <= x.Part && x.Part < x.Parts && len(x.Data) <= 100
}

// sealed is the bytes, noughts up to 120, and the number of their sum. What is
// above 120 bytes is left out.
func sealed(head string) string {
	b := make([]byte, 120)
	copy(b, head)
	return string(binary.BigEndian.AppendUint64(b, uint64(crc32.ChecksumIEEE(b))))
}

// headed is what stands ahead of the noughts, of any numbers at all.
func headed(epoch, batch uint64, part, parts, length byte, data string) string {
	b := binary.BigEndian.AppendUint64(nil, epoch)
	b = binary.BigEndian.AppendUint64(b, batch)
	return string(append(b, part, parts, length)) + data
}

// printedByRule is Print in the chapter's words, of a frame that may be written.
func printedByRule(x api.Frame) string {
	return sealed(headed(uint64(x.Epoch), uint64(x.Batch), byte(x.Part), byte(x.Parts), byte(len(x.Data)), x.Data))
}

// parsedByRule is Parse in the chapter's words: part by part, and each asked
// for on its own.
func parsedByRule(s string) (api.Frame, bool) {
	b := []byte(s)
	if len(b) != 128 {
		return api.Frame{}, false
	}
	if binary.BigEndian.Uint64(b[120:]) != uint64(crc32.ChecksumIEEE(b[:120])) {
		return api.Frame{}, false
	}
	x := api.Frame{
		Epoch: int(binary.BigEndian.Uint64(b)),
		Batch: int(binary.BigEndian.Uint64(b[8:])),
		Part:  int(b[16]),
		Parts: int(b[17]),
	}
	n := int(b[18])
	if n > 100 {
		return api.Frame{}, false
	}
	x.Data = string(b[19 : 19+n])
	for _, nought := range b[19+n : 120] {
		if nought != 0 {
			return api.Frame{}, false
		}
	}
	if !rightByRule(x) {
		return api.Frame{}, false
	}
	return x, true
}

func bytesOf(r *rand.Rand, n int) string {
	b := make([]byte, n)
	r.Read(b)
	return string(b)
}

// edges are numbers from 0 on, and such as the bytes of one are told by.
func edges() []int {
	return []int{0, 1, 2, 127, 128, 255, 256, 257, 258, math.MaxInt32, math.MaxUint32, 1 << 32, 0x0102030405060708, math.MaxInt - 1, math.MaxInt}
}

// below are numbers below 0.
func below() []int {
	return []int{-1, -2, -128, -255, -256, -257, math.MinInt32, math.MinInt32 - 1, -1 << 32, math.MinInt + 1, math.MinInt}
}

// anyNumber is one from 0 on.
func anyNumber(r *rand.Rand) int {
	ends := edges()
	if r.Intn(3) == 0 {
		return ends[r.Intn(len(ends))]
	}
	return r.Int()
}

// anyFrame is one that may be written.
func anyFrame(r *rand.Rand) api.Frame {
	parts := 1 + r.Intn(255)
	return api.Frame{Epoch: anyNumber(r), Batch: anyNumber(r), Part: r.Intn(parts), Parts: parts, Data: bytesOf(r, r.Intn(101))}
}

// datas are some by hand: with noughts at their ends, runes, and what is none.
func datas() []string {
	return []string{"", "\x00", "\x00\x00", "a", "abc", "abc\x00", "\x00abc", "é", "世界", "\xff\xfe", "\xc3",
		strings.Repeat("\x00", 99), strings.Repeat("\x00", 100), strings.Repeat("\xff", 99), strings.Repeat("\xff", 100),
		strings.Repeat("x", 99) + "\x00", "\x00" + strings.Repeat("x", 99)}
}

// frames are some by hand, at all of the ends, and some of a source; all may
// be written.
func frames(r *rand.Rand, many int) []api.Frame {
	var l []api.Frame
	for _, n := range edges() {
		l = append(l, api.Frame{Epoch: n, Parts: 1}, api.Frame{Batch: n, Parts: 1}, api.Frame{Epoch: n, Batch: n, Parts: 1, Data: "abc"})
	}
	for _, parts := range []int{1, 2, 3, 127, 128, 129, 254, 255} {
		for _, part := range []int{0, parts / 2, parts - 1} {
			l = append(l, api.Frame{Epoch: 1, Batch: 2, Part: part, Parts: parts, Data: "abc"})
		}
	}
	for _, s := range datas() {
		l = append(l, api.Frame{Epoch: 1, Batch: 2, Parts: 1, Data: s})
	}
	for n := range 101 {
		l = append(l, api.Frame{Epoch: 3, Batch: 4, Part: 5, Parts: 6, Data: bytesOf(r, n)})
	}
	for range many {
		l = append(l, anyFrame(r))
	}
	return l
}

// wrongFrames each have one fault alone, or all of them.
func wrongFrames() []api.Frame {
	var l []api.Frame
	for _, n := range below() {
		l = append(l,
			api.Frame{Epoch: n, Batch: 2, Parts: 3, Data: "abc"},
			api.Frame{Epoch: 1, Batch: n, Parts: 3, Data: "abc"},
			api.Frame{Epoch: 1, Batch: 2, Part: n, Parts: 3, Data: "abc"},
			api.Frame{Epoch: 1, Batch: 2, Parts: n, Data: "abc"},
			api.Frame{Epoch: 1, Batch: 2, Part: n - 1, Parts: n, Data: "abc"},
			api.Frame{Epoch: n, Batch: n, Part: n, Parts: n, Data: strings.Repeat("x", 101)})
	}
	// Some that would be right, if a part of the number alone were held.
	for _, n := range []int{256, 257, 511, 512, 513, 1<<16 + 1, 1<<32 + 1, 1<<62 + 1, math.MaxInt} {
		l = append(l,
			api.Frame{Epoch: 1, Batch: 2, Parts: n, Data: "abc"},
			api.Frame{Epoch: 1, Batch: 2, Part: n - 1, Parts: n, Data: "abc"},
			api.Frame{Epoch: 1, Batch: 2, Part: n, Parts: 255, Data: "abc"})
	}
	for parts := range 256 {
		l = append(l,
			api.Frame{Epoch: 1, Batch: 2, Part: parts, Parts: parts, Data: "abc"},
			api.Frame{Epoch: 1, Batch: 2, Part: parts + 1, Parts: parts, Data: "abc"})
	}
	for _, n := range []int{101, 102, 109, 110, 128, 255, 256, 257, 300, 356, 357, 1 << 16, 1<<16 + 3} {
		l = append(l, api.Frame{Epoch: 1, Batch: 2, Parts: 3, Data: strings.Repeat("x", n)}, api.Frame{Epoch: 1, Batch: 2, Parts: 3, Data: strings.Repeat("\x00", n)})
	}
	return append(l, api.Frame{}, api.Frame{Data: "abc"}, api.Frame{Epoch: 1, Batch: 2, Data: "abc"})
}

func wantPrinted(t *testing.T, x api.Frame, want string) {
	t.Helper()
	if got := Print(x); got != want {
		t.Errorf("%+v:\n%x, want\n%x", x, got, want)
	}
}

func wantParsed(t *testing.T, what, s string, want api.Frame) {
	t.Helper()
	if got, ok := Parse(s); !ok || got != want {
		t.Errorf("%s: %x: %+v, %v, want %+v", what, s, got, ok, want)
	}
}

func wantNone(t *testing.T, what, s string) {
	t.Helper()
	if got, ok := Parse(s); ok || got != (api.Frame{}) {
		t.Errorf("%s: %x: %+v, %v, want none", what, s, got, ok)
	}
}

func wantByRule(t *testing.T, what, s string) {
	t.Helper()
	if want, ok := parsedByRule(s); ok {
		wantParsed(t, what, s, want)
	} else {
		wantNone(t, what, s)
	}
}

// P18.1: Most.

func TestMost(t *testing.T) {
	if got := Most(); got != 100 {
		t.Errorf("%d", got)
	}
}

// P18.1: Right.

func TestRight(t *testing.T) {
	for _, x := range frames(rand.New(rand.NewSource(1)), 1000) {
		if !Right(x) {
			t.Errorf("%+v: not right", x)
		}
	}
}

func TestNotRight(t *testing.T) {
	for _, x := range wrongFrames() {
		if Right(x) {
			t.Errorf("%+v: right", x)
		}
	}
}

func TestRightOfEachPart(t *testing.T) {
	for parts := -3; parts < 300; parts++ {
		for part := -3; part < 300; part++ {
			x := api.Frame{Part: part, Parts: parts}
			if got := Right(x); got != rightByRule(x) {
				t.Errorf("%d of %d: %v", part, parts, got)
			}
		}
	}
}

func TestRightOfEachLength(t *testing.T) {
	for n := range 600 {
		x := api.Frame{Parts: 1, Data: strings.Repeat("\x00", n)}
		if got := Right(x); got != (n <= 100) {
			t.Errorf("of %d bytes: %v", n, got)
		}
	}
}

// Bytes are counted, not runes.
func TestRightCountsBytes(t *testing.T) {
	if !Right(api.Frame{Parts: 1, Data: strings.Repeat("é", 50)}) {
		t.Error("of 100 bytes: not right")
	}
	if Right(api.Frame{Parts: 1, Data: strings.Repeat("é", 50) + "a"}) || Right(api.Frame{Parts: 1, Data: strings.Repeat("é", 100)}) {
		t.Error("of more than 100 bytes: right")
	}
}

// What one field may be doesn't hang on the others, but Part on Parts.
func TestRightOfAllTogether(t *testing.T) {
	r := rand.New(rand.NewSource(2))
	numbers := append(edges(), below()...)
	for range 20000 {
		x := anyFrame(r)
		switch r.Intn(8) {
		case 0:
			x.Epoch = numbers[r.Intn(len(numbers))]
		case 1:
			x.Batch = numbers[r.Intn(len(numbers))]
		case 2:
			x.Part = numbers[r.Intn(len(numbers))]
		case 3:
			x.Parts = numbers[r.Intn(len(numbers))]
		case 4:
			x.Data = bytesOf(r, r.Intn(300))
		case 5:
			x.Part, x.Parts = r.Intn(300), r.Intn(300)
		}
		if got := Right(x); got != rightByRule(x) {
			t.Errorf("%+v: %v", x, got)
		}
	}
}

// P18.1: Print.

func TestPrintKnown(t *testing.T) {
	noughts := func(n int) string { return strings.Repeat("\x00", n) }
	wantPrinted(t, api.Frame{Parts: 1},
		noughts(17)+"\x01"+noughts(102)+"\x00\x00\x00\x00\x31\x86\xaf\xec")
	wantPrinted(t, api.Frame{Epoch: 1, Batch: 2, Part: 0, Parts: 3, Data: "abc"},
		"\x00\x00\x00\x00\x00\x00\x00\x01"+
			"\x00\x00\x00\x00\x00\x00\x00\x02"+
			"\x00\x03\x03abc"+noughts(98)+
			"\x00\x00\x00\x00\x76\xd3\x7c\x6b")
	// A sum with its highest bit is above 0 as a number, all the same.
	wantPrinted(t, api.Frame{Epoch: math.MaxInt, Batch: 258, Part: 254, Parts: 255, Data: strings.Repeat("\xff", 100)},
		"\x7f\xff\xff\xff\xff\xff\xff\xff"+
			"\x00\x00\x00\x00\x00\x00\x01\x02"+
			"\xfe\xff\x64"+strings.Repeat("\xff", 100)+"\x00"+
			"\x00\x00\x00\x00\xf7\xe7\x02\x93")
}

func TestPrintByRule(t *testing.T) {
	for _, x := range frames(rand.New(rand.NewSource(3)), 5000) {
		wantPrinted(t, x, printedByRule(x))
	}
}

func TestPrintOfEachPart(t *testing.T) {
	for parts := 1; parts < 256; parts++ {
		for part := range parts {
			x := api.Frame{Epoch: 7, Batch: 8, Part: part, Parts: parts, Data: "abc"}
			wantPrinted(t, x, printedByRule(x))
		}
	}
}

func TestPrintLength(t *testing.T) {
	for _, x := range frames(rand.New(rand.NewSource(4)), 500) {
		if n := len(Print(x)); n != api.Sector {
			t.Errorf("%+v: %d bytes", x, n)
		}
	}
}

// P1, and rule 1: one that may not be written has no sector.
func TestPrintOfWrongFrames(t *testing.T) {
	for _, x := range wrongFrames() {
		wantPrinted(t, x, "")
	}
}

// P18.2: Parse.

func TestParseKnown(t *testing.T) {
	noughts := strings.Repeat("\x00", 98)
	s := "\x00\x00\x00\x00\x00\x00\x00\x01" +
		"\x00\x00\x00\x00\x00\x00\x00\x02" +
		"\x00\x03\x03abc" + noughts +
		"\x00\x00\x00\x00\x76\xd3\x7c\x6b"
	wantParsed(t, "known", s, api.Frame{Epoch: 1, Batch: 2, Part: 0, Parts: 3, Data: "abc"})
}

// The chapter's example.
func TestParseNoughts(t *testing.T) {
	for n := range 300 {
		wantNone(t, "noughts", strings.Repeat("\x00", n))
	}
	wantNone(t, "noughts with their sum", sealed(""))
}

func TestParseSameBytes(t *testing.T) {
	for b := range 256 {
		wantNone(t, "all the same", strings.Repeat(string([]byte{byte(b)}), 128))
		wantByRule(t, "all the same with their sum", sealed(strings.Repeat(string([]byte{byte(b)}), 120)))
	}
}

func TestParseThereAndBack(t *testing.T) {
	for _, x := range frames(rand.New(rand.NewSource(5)), 5000) {
		wantParsed(t, "there and back", Print(x), x)
		wantParsed(t, "back by rule", printedByRule(x), x)
	}
}

func TestParseEachLength(t *testing.T) {
	for _, x := range []api.Frame{{Parts: 1}, {Epoch: 1, Batch: 2, Parts: 3, Data: "abc"}, {Epoch: 1, Batch: 2, Parts: 3, Data: strings.Repeat("x", 100)}} {
		s := printedByRule(x)
		for n := range len(s) {
			wantNone(t, "the first ones", s[:n])
			wantNone(t, "the last ones", s[n+1:])
		}
		for _, more := range []string{"\x00", "a", "\x00\x00\x00\x00\x00\x00\x00\x00", s} {
			wantNone(t, "more behind", s+more)
			wantNone(t, "more ahead", more+s)
		}
	}
}

// Shorter and longer ones, with the right sum of what they have.
func TestParseOtherLengthsWithSums(t *testing.T) {
	for n := range 260 {
		if n == 120 {
			continue
		}
		b := make([]byte, max(n, 21))
		copy(b, headed(1, 2, 0, 3, 2, "ab"))
		b = b[:n]
		wantNone(t, "of another length", string(binary.BigEndian.AppendUint64(b, uint64(crc32.ChecksumIEEE(b)))))
	}
}

func TestParseSignedNumbers(t *testing.T) {
	for _, n := range append(edges(), below()...) {
		s := sealed(headed(uint64(n), 2, 0, 3, 3, "abc"))
		if n < 0 {
			wantNone(t, "an epoch below 0", s)
		} else {
			wantParsed(t, "an epoch", s, api.Frame{Epoch: n, Batch: 2, Parts: 3, Data: "abc"})
		}
		s = sealed(headed(1, uint64(n), 0, 3, 3, "abc"))
		if n < 0 {
			wantNone(t, "a batch below 0", s)
		} else {
			wantParsed(t, "a batch", s, api.Frame{Epoch: 1, Batch: n, Parts: 3, Data: "abc"})
		}
	}
}

func TestParseEachPart(t *testing.T) {
	for part := range 256 {
		for parts := range 256 {
			s := sealed(headed(1, 2, byte(part), byte(parts), 3, "abc"))
			if part < parts {
				wantParsed(t, "a part", s, api.Frame{Epoch: 1, Batch: 2, Part: part, Parts: parts, Data: "abc"})
			} else {
				wantNone(t, "no part", s)
			}
		}
	}
}

// The count alone says how many bytes there are, but others behind them are
// none of a frame's.
func TestParseEachCount(t *testing.T) {
	for n := range 256 {
		s := sealed(headed(1, 2, 0, 3, byte(n), strings.Repeat("\x00", 101)))
		if n <= 100 {
			wantParsed(t, "noughts", s, api.Frame{Epoch: 1, Batch: 2, Parts: 3, Data: strings.Repeat("\x00", n)})
		} else {
			wantNone(t, "more than 100 noughts", s)
		}
		s = sealed(headed(1, 2, 0, 3, byte(n), strings.Repeat("x", 100)))
		if n == 100 {
			wantParsed(t, "100 bytes", s, api.Frame{Epoch: 1, Batch: 2, Parts: 3, Data: strings.Repeat("x", 100)})
		} else {
			wantNone(t, "another count than 100", s)
		}
		s = sealed(headed(1, 2, 0, 3, byte(n), "abc"))
		switch {
		case n < 3 || n > 100:
			wantNone(t, "another count than 3", s)
		default:
			wantParsed(t, "three bytes, and noughts", s, api.Frame{Epoch: 1, Batch: 2, Parts: 3, Data: "abc" + strings.Repeat("\x00", n-3)})
		}
	}
	wantNone(t, "101 bytes", sealed(headed(1, 2, 0, 3, 101, strings.Repeat("x", 101))))
}

func TestParseAsksForNoughts(t *testing.T) {
	for n := range 101 {
		good := headed(1, 2, 0, 3, byte(n), strings.Repeat("x", n))
		wantParsed(t, "noughts behind", sealed(good), api.Frame{Epoch: 1, Batch: 2, Parts: 3, Data: strings.Repeat("x", n)})
		for at := 19 + n; at < 120; at++ {
			for _, b := range []string{"\x01", "\x80", "\xff", "x"} {
				wantNone(t, "no nought", sealed(good+strings.Repeat("\x00", at-len(good))+b))
			}
		}
	}
}

// All eight bytes of the sum's number count, in their order.
func TestParseAsksForTheSum(t *testing.T) {
	for _, x := range frames(rand.New(rand.NewSource(6)), 50) {
		s := printedByRule(x)
		body, sum := s[:120], crc32.ChecksumIEEE([]byte(s[:120]))
		others := []uint64{0, 1, math.MaxUint64, uint64(^sum), uint64(sum) << 32, uint64(sum)<<32 | uint64(sum),
			uint64(sum) | 0xffffffff00000000, uint64(sum) + 1, uint64(sum) - 1, -uint64(sum), uint64(crc32.ChecksumIEEE([]byte(s)))}
		for bit := range 64 {
			others = append(others, uint64(sum)^1<<bit)
		}
		for _, n := range others {
			wantNone(t, "another sum", string(binary.BigEndian.AppendUint64([]byte(body), n)))
		}
		wantNone(t, "the sum's bytes turned round", string(binary.LittleEndian.AppendUint64([]byte(body), uint64(sum))))
		wantNone(t, "the sum at once behind", string(binary.BigEndian.AppendUint32([]byte(body), sum))+"\x00\x00\x00\x00")
		wantNone(t, "the sum of others", body+printedByRule(api.Frame{Epoch: 9, Batch: 9, Parts: 9, Data: "999"})[120:])
	}
}

// A sum that has its highest bit, as if it were a number below 0.
func TestParseSumBelowNought(t *testing.T) {
	r := rand.New(rand.NewSource(7))
	high := 0
	for range 200 {
		x := anyFrame(r)
		s := printedByRule(x)
		if s[124] < 0x80 {
			continue
		}
		high++
		wantParsed(t, "a high sum", s, x)
		wantNone(t, "a high sum below 0", s[:120]+"\xff\xff\xff\xff"+s[124:])
	}
	if high == 0 {
		t.Error("no high sums")
	}
}

// P1: any bytes, some with the right sum, some nearly a frame's.
func TestParseAnyBytes(t *testing.T) {
	r := rand.New(rand.NewSource(8))
	found := 0
	for range 50000 {
		s := bytesOf(r, r.Intn(200))
		switch r.Intn(4) {
		case 0:
			s = sealed(s)
		case 1:
			s = sealed(headed(r.Uint64()>>r.Intn(2), r.Uint64()>>r.Intn(2), byte(r.Intn(4)), byte(r.Intn(4)), byte(r.Intn(110)), bytesOf(r, r.Intn(8))))
		case 2:
			b := []byte(printedByRule(anyFrame(r)))
			b[r.Intn(len(b))] = byte(r.Intn(256))
			s = string(b)
		}
		wantByRule(t, "any bytes", s)
		if x, ok := Parse(s); ok {
			found++
			wantPrinted(t, x, s)
		}
	}
	if found < 100 {
		t.Errorf("only %d frames", found)
	}
}

// Two frames never have one sector.
func TestSectorsDiffer(t *testing.T) {
	of := map[string]api.Frame{}
	for _, x := range frames(rand.New(rand.NewSource(9)), 5000) {
		s := Print(x)
		if y, ok := of[s]; ok && y != x {
			t.Errorf("%+v and %+v: %x", x, y, s)
		}
		of[s] = x
	}
}

// P18.3: up to four other bytes side by side are told.

// changed is s with the bytes of d xored in from at on.
func changed(s string, at int, d []byte) string {
	b := []byte(s)
	for i := range d {
		b[at+i] ^= d[i]
	}
	return string(b)
}

// told are frames to change: short, long, of noughts, of a high sum.
func told() []api.Frame {
	return []api.Frame{
		{Parts: 1},
		{Epoch: 1, Batch: 2, Part: 0, Parts: 3, Data: "abc"},
		{Epoch: math.MaxInt, Batch: 258, Part: 254, Parts: 255, Data: strings.Repeat("\xff", 100)},
		{Epoch: 5, Batch: 6, Part: 7, Parts: 8, Data: strings.Repeat("\x00", 50)},
	}
}

func TestTellsEachOtherByte(t *testing.T) {
	for _, x := range told() {
		s := Print(x)
		for at := range len(s) {
			for d := 1; d < 256; d++ {
				wantNone(t, "a byte", changed(s, at, []byte{byte(d)}))
			}
		}
	}
}

// Where parts meet, all of what two bytes may be.
func TestTellsEachTwoOtherBytes(t *testing.T) {
	s := Print(api.Frame{Epoch: 1, Batch: 2, Part: 0, Parts: 3, Data: "abc"})
	for _, at := range []int{7, 15, 16, 17, 18, 21, 118, 119, 120, 123, 124, 126} {
		for d := 1; d < 1<<16; d++ {
			wantNone(t, "two bytes", changed(s, at, []byte{byte(d), byte(d >> 8)}))
		}
	}
}

func TestTellsUpToFourOtherBytes(t *testing.T) {
	r := rand.New(rand.NewSource(10))
	for _, x := range append(told(), anyFrame(r), anyFrame(r)) {
		s := Print(x)
		for many := 1; many <= 4; many++ {
			for at := range len(s) - many + 1 {
				for range 60 {
					d := make([]byte, many)
					r.Read(d)
					d[r.Intn(many)] |= 1 << r.Intn(8)
					wantNone(t, "side by side", changed(s, at, d))
				}
			}
		}
	}
}

// What stands there may be replaced, too: by noughts, by the bytes beside it,
// by those of another frame.
func TestTellsBytesOfOthers(t *testing.T) {
	r := rand.New(rand.NewSource(11))
	for range 40 {
		s, other := Print(anyFrame(r)), Print(anyFrame(r))
		for many := 1; many <= 4; many++ {
			for at := range len(s) - many + 1 {
				from := r.Intn(len(s) - many + 1)
				for _, part := range []string{strings.Repeat("\x00", many), strings.Repeat("\xff", many), other[at : at+many], s[from : from+many]} {
					if part != s[at:at+many] {
						wantNone(t, "replaced", s[:at]+part+s[at+many:])
					}
				}
			}
		}
	}
}

// Rule 3: what is handed in is as it was, and so is what was answered.
func TestAnswersAreTheirOwn(t *testing.T) {
	data := []byte("abc")
	x := api.Frame{Epoch: 1, Batch: 2, Parts: 3, Data: string(data)}
	s := Print(x)
	y, _ := Parse(s)
	data[0] = 'z'
	Print(api.Frame{Epoch: 9, Batch: 9, Parts: 9, Data: "zzz"})
	Parse(sealed(headed(9, 9, 0, 9, 3, "zzz")))
	if x.Data != "abc" || y != x || s != printedByRule(x) {
		t.Errorf("%+v, %+v, %x", x, y, s)
	}
}

// Rules 4 and 6: a call hangs on its arguments alone, whoever calls beside it.
func TestManyCallAtOnce(t *testing.T) {
	shared := api.Frame{Epoch: 1, Batch: 2, Parts: 3, Data: "abc"}
	s := printedByRule(shared)
	var wg sync.WaitGroup
	for i := range 8 {
		wg.Go(func() {
			r := rand.New(rand.NewSource(int64(i)))
			for range 500 {
				x := anyFrame(r)
				wantPrinted(t, x, printedByRule(x))
				wantParsed(t, "at once", Print(x), x)
				wantPrinted(t, shared, s)
				wantParsed(t, "at once", s, shared)
				wantNone(t, "at once", s[:127]+"z")
				if !Right(x) || Right(api.Frame{}) || Most() != 100 {
					t.Error("Right and Most, at once")
				}
			}
		})
	}
	wg.Wait()
}
