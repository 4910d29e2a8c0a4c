package lay

import (
	"encoding/binary"
	"fmt"
	"math"
	"math/big"
	"math/rand"
	"slices"
	"strings"
	"sync"
	"testing"
)

// byRule is Num in the chapter's words: n, or n and 2^64, as a number of base
// 256, by reckoning without ends.
func byRule(n int) string {
	v := big.NewInt(int64(n))
	if n < 0 {
		v.Add(v, new(big.Int).Lsh(big.NewInt(1), 64))
	}
	return string(v.FillBytes(make([]byte, 8)))
}

// numsByRule is Nums in the chapter's words.
func numsByRule(l []int) string {
	s := string([]byte{byte(min(len(l), 255))})
	for i, n := range l {
		if i < 255 {
			s += byRule(n)
		}
	}
	return s
}

// edges are numbers at the ends, and one off each power of two, either way.
func edges() []int {
	all := []int{0, 258, math.MaxInt, math.MinInt, math.MaxInt - 1, math.MinInt + 1, 0x0102030405060708, -0x0102030405060708}
	for i := range 64 {
		p := 1 << i
		all = append(all, p, p-1, p+1, -p, -p-1, -p+1)
	}
	return all
}

// anyNums is n numbers of a source, some of them edges.
func anyNums(r *rand.Rand, n int) []int {
	ends := edges()
	l := make([]int, n)
	for i := range l {
		l[i] = int(r.Uint64())
		if r.Intn(3) == 0 {
			l[i] = ends[r.Intn(len(ends))]
		}
	}
	return l
}

func bytesOf(r *rand.Rand, n int) string {
	b := make([]byte, n)
	r.Read(b)
	return string(b)
}

func wantBytes(t *testing.T, what, got, want string) {
	t.Helper()
	if got != want {
		t.Errorf("%s: %x, want %x", what, got, want)
	}
}

func wantNum(t *testing.T, what string, got, want int) {
	t.Helper()
	if got != want {
		t.Errorf("%s: %d, want %d", what, got, want)
	}
}

// wantList takes nil and empty lists as one.
func wantList(t *testing.T, what string, got, want []int) {
	t.Helper()
	if !slices.Equal(got, want) {
		t.Errorf("%s: %v, want %v", what, got, want)
	}
}

func told(f From) string { return fmt.Sprintf("%x at %d, bad %v", f.S, f.At, f.Bad) }

func wantFrom(t *testing.T, what string, got *From, want From) {
	t.Helper()
	if *got != want {
		t.Errorf("%s: left %s, want %s", what, told(*got), told(want))
	}
}

// P3.1: Num.

func TestNumKnown(t *testing.T) {
	cases := []struct {
		n    int
		want string
	}{
		{0, "\x00\x00\x00\x00\x00\x00\x00\x00"},
		{1, "\x00\x00\x00\x00\x00\x00\x00\x01"},
		{255, "\x00\x00\x00\x00\x00\x00\x00\xff"},
		{256, "\x00\x00\x00\x00\x00\x00\x01\x00"},
		{258, "\x00\x00\x00\x00\x00\x00\x01\x02"},
		{0x0102030405060708, "\x01\x02\x03\x04\x05\x06\x07\x08"},
		{-1, "\xff\xff\xff\xff\xff\xff\xff\xff"},
		{-2, "\xff\xff\xff\xff\xff\xff\xff\xfe"},
		{-256, "\xff\xff\xff\xff\xff\xff\xff\x00"},
		{math.MaxInt, "\x7f\xff\xff\xff\xff\xff\xff\xff"},
		{math.MinInt, "\x80\x00\x00\x00\x00\x00\x00\x00"},
	}
	for _, c := range cases {
		wantBytes(t, "Num", Num(c.n), c.want)
	}
}

func TestNumByRule(t *testing.T) {
	for _, n := range append(edges(), anyNums(rand.New(rand.NewSource(1)), 2000)...) {
		wantBytes(t, "Num", Num(n), byRule(n))
		wantBytes(t, "Num, by the library", Num(n), string(binary.BigEndian.AppendUint64(nil, uint64(n))))
	}
}

// P3.1: Nums.

func TestNumsKnown(t *testing.T) {
	wantBytes(t, "nil", Nums(nil), "\x00")
	wantBytes(t, "empty", Nums([]int{}), "\x00")
	wantBytes(t, "one", Nums([]int{258}), "\x01\x00\x00\x00\x00\x00\x00\x01\x02")
	wantBytes(t, "two", Nums([]int{1, -2}), "\x02\x00\x00\x00\x00\x00\x00\x00\x01\xff\xff\xff\xff\xff\xff\xff\xfe")
}

func TestNumsOfEachLength(t *testing.T) {
	r := rand.New(rand.NewSource(2))
	for n := range 300 {
		l := anyNums(r, n)
		wantBytes(t, "Nums", Nums(l), numsByRule(l))
	}
}

func TestNumsLeavesOutBehind255(t *testing.T) {
	l := anyNums(rand.New(rand.NewSource(3)), 70000)
	for _, n := range []int{255, 256, 257, 510, 511, 512, 65536, 70000} {
		got := Nums(l[:n])
		wantNum(t, "bytes of Nums", len(got), 1+8*255)
		wantBytes(t, "Nums", got, numsByRule(l[:255]))
	}
}

// P3.2: Byte.

func TestByteEach(t *testing.T) {
	var all []byte
	for b := range 256 {
		all = append(all, byte(b))
	}
	f := &From{S: string(all)}
	for b := range 256 {
		wantNum(t, "Byte", f.Byte(), b)
		wantFrom(t, "Byte", f, From{S: string(all), At: b + 1})
	}
	for range 2 {
		wantNum(t, "Byte behind the last", f.Byte(), 0)
		wantFrom(t, "Byte behind the last", f, From{S: string(all), At: 256, Bad: true})
	}
}

// Texts are read by their bytes, also where these are runes.
func TestByteOfRunes(t *testing.T) {
	f := &From{S: "aé"}
	wantNum(t, "first", f.Byte(), 'a')
	wantNum(t, "second", f.Byte(), 0xc3)
	wantNum(t, "third", f.Byte(), 0xa9)
}

func TestByteFromAnywhere(t *testing.T) {
	cases := []struct {
		what string
		f    From
		want int
		left From
	}{
		{"first", From{S: "abc"}, 'a', From{S: "abc", At: 1}},
		{"second", From{S: "abc", At: 1}, 'b', From{S: "abc", At: 2}},
		{"last", From{S: "abc", At: 2}, 'c', From{S: "abc", At: 3}},
		{"behind the last", From{S: "abc", At: 3}, 0, From{S: "abc", At: 3, Bad: true}},
		{"further behind", From{S: "abc", At: 4}, 0, From{S: "abc", At: 4, Bad: true}},
		{"greatest", From{S: "abc", At: math.MaxInt}, 0, From{S: "abc", At: math.MaxInt, Bad: true}},
		{"ahead", From{S: "abc", At: -1}, 0, From{S: "abc", At: -1, Bad: true}},
		{"ahead by its length", From{S: "abc", At: -3}, 0, From{S: "abc", At: -3, Bad: true}},
		{"least", From{S: "abc", At: math.MinInt}, 0, From{S: "abc", At: math.MinInt, Bad: true}},
		{"bad", From{S: "abc", At: 1, Bad: true}, 0, From{S: "abc", At: 1, Bad: true}},
		{"zero", From{}, 0, From{Bad: true}},
		{"a nought", From{S: "\x00"}, 0, From{S: "\x00", At: 1}},
	}
	for _, c := range cases {
		f := c.f
		wantNum(t, c.what, f.Byte(), c.want)
		wantFrom(t, c.what, &f, c.left)
	}
}

// P3.2: Num.

func TestReadNumKnown(t *testing.T) {
	cases := []struct {
		s    string
		want int
	}{
		{"\x00\x00\x00\x00\x00\x00\x01\x02", 258},
		{"\x01\x02\x03\x04\x05\x06\x07\x08", 0x0102030405060708},
		{"\x7f\xff\xff\xff\xff\xff\xff\xff", math.MaxInt},
		{"\x80\x00\x00\x00\x00\x00\x00\x00", math.MinInt},
		{"\xff\xff\xff\xff\xff\xff\xff\xff", -1},
		{"\xff\xff\xff\xff\xff\xff\xff\xfe", -2},
	}
	for _, c := range cases {
		for _, ahead := range []string{"", "q", "qrstuvwxyz"} {
			s := ahead + c.s + "more"
			f := &From{S: s, At: len(ahead)}
			wantNum(t, "Num", f.Num(), c.want)
			wantFrom(t, "Num", f, From{S: s, At: len(ahead) + 8})
		}
	}
}

// Bytes are taken one by one, as far as there are any.
func TestReadNumOfTooFewBytes(t *testing.T) {
	for n := range 8 {
		s := "xx" + strings.Repeat("\xff", n)
		f := &From{S: s, At: 2}
		wantNum(t, "Num of too few", f.Num(), 0)
		wantFrom(t, "Num of too few", f, From{S: s, At: len(s), Bad: true})
		wantNum(t, "Num again", f.Num(), 0)
		wantFrom(t, "Num again", f, From{S: s, At: len(s), Bad: true})
	}
}

func TestReadNumOfWrongReaders(t *testing.T) {
	s := byRule(-1) + byRule(258)
	for _, at := range []int{-1, -8, -16, math.MinInt, 16, 17, math.MaxInt, math.MaxInt - 7} {
		f := &From{S: s, At: at}
		wantNum(t, "Num from nowhere", f.Num(), 0)
		wantFrom(t, "Num from nowhere", f, From{S: s, At: at, Bad: true})
	}
	f := &From{S: s, At: 8, Bad: true}
	wantNum(t, "Num of a bad one", f.Num(), 0)
	wantFrom(t, "Num of a bad one", f, From{S: s, At: 8, Bad: true})
}

// P3.2: Nums.

func TestReadNumsUpToMost(t *testing.T) {
	r := rand.New(rand.NewSource(4))
	for _, n := range []int{0, 1, 2, 7, 8, 9, 127, 128, 254, 255} {
		l := anyNums(r, n)
		s := numsByRule(l) + "more"
		for _, most := range []int{n, n + 1, 255, 256, math.MaxInt} {
			f := &From{S: s}
			wantList(t, "Nums", f.Nums(most), l)
			wantFrom(t, "Nums", f, From{S: s, At: 1 + 8*n})
		}
		for _, most := range []int{n - 1, -1, math.MinInt} {
			f := &From{S: s}
			wantList(t, "Nums above most", f.Nums(most), nil)
			wantFrom(t, "Nums above most", f, From{S: s, At: 1, Bad: true})
		}
	}
}

func TestReadNumsOfTooFewBytes(t *testing.T) {
	whole := numsByRule([]int{1, -2, 3})
	for n := range len(whole) {
		f := &From{S: whole[:n]}
		wantList(t, "Nums of too few", f.Nums(3), nil)
		wantFrom(t, "Nums of too few", f, From{S: whole[:n], At: n, Bad: true})
	}
}

func TestReadNumsOfWrongReaders(t *testing.T) {
	s := numsByRule([]int{258})
	for _, most := range []int{0, 8, -1, math.MaxInt, math.MinInt} {
		for _, at := range []int{-1, math.MinInt, len(s), len(s) + 1, math.MaxInt} {
			f := &From{S: s, At: at}
			wantList(t, "Nums from nowhere", f.Nums(most), nil)
			wantFrom(t, "Nums from nowhere", f, From{S: s, At: at, Bad: true})
		}
		f := &From{S: s, Bad: true}
		wantList(t, "Nums of a bad one", f.Nums(most), nil)
		wantFrom(t, "Nums of a bad one", f, From{S: s, Bad: true})
	}
}

// P3.2: Done.

func TestDone(t *testing.T) {
	cases := []struct {
		what string
		f    From
		want bool
	}{
		{"zero", From{}, true},
		{"zero, bad", From{Bad: true}, false},
		{"at the end", From{S: "abc", At: 3}, true},
		{"at the end, bad", From{S: "abc", At: 3, Bad: true}, false},
		{"ahead of the end", From{S: "abc", At: 2}, false},
		{"at the beginning", From{S: "abc"}, false},
		{"behind the end", From{S: "abc", At: 4}, false},
		{"greatest", From{S: "abc", At: math.MaxInt}, false},
		{"ahead of the beginning", From{S: "abc", At: -1}, false},
		{"ahead by its length", From{S: "abc", At: -3}, false},
		{"ahead of nothing", From{At: -1}, false},
		{"least", From{S: "abc", At: math.MinInt}, false},
	}
	for _, c := range cases {
		f := c.f
		if got := f.Done(); got != c.want {
			t.Errorf("%s: %v", c.what, got)
		}
		wantFrom(t, c.what, &f, c.f)
	}
}

// P3.3: there and back.

func TestNumThereAndBack(t *testing.T) {
	for _, n := range append(edges(), anyNums(rand.New(rand.NewSource(5)), 2000)...) {
		f := &From{S: Num(n)}
		wantNum(t, "there and back", f.Num(), n)
		if !f.Done() {
			t.Errorf("%d: not done", n)
		}
	}
}

func TestNumsThereAndBack(t *testing.T) {
	r := rand.New(rand.NewSource(6))
	for n := range 260 {
		l := anyNums(r, n)
		f := &From{S: Nums(l)}
		wantList(t, "there and back", f.Nums(255), l[:min(n, 255)])
		if !f.Done() {
			t.Errorf("a list of %d: not done", n)
		}
	}
}

func TestBytesThereAndBack(t *testing.T) {
	r := rand.New(rand.NewSource(7))
	for range 2000 {
		s := bytesOf(r, 8)
		wantBytes(t, "eight bytes", Num((&From{S: s}).Num()), s)
		n := r.Intn(256)
		s = string([]byte{byte(n)}) + bytesOf(r, 8*n)
		wantBytes(t, "a list's bytes", Nums((&From{S: s}).Nums(255)), s)
	}
}

func TestManyPartsThereAndBack(t *testing.T) {
	r := rand.New(rand.NewSource(8))
	for range 300 {
		s := bytesOf(r, r.Intn(5))
		f := &From{At: len(s)}
		var ask []func()
		for range r.Intn(6) {
			n, l, b := anyNums(r, 1)[0], anyNums(r, r.Intn(9)), r.Intn(256)
			s += Num(n) + Nums(l) + string([]byte{byte(b)})
			ask = append(ask, func() {
				wantNum(t, "a number of many", f.Num(), n)
				wantList(t, "a list of many", f.Nums(8), l)
				wantNum(t, "a byte of many", f.Byte(), b)
			})
		}
		f.S = s
		for _, part := range ask {
			if f.Done() {
				t.Error("done with parts left")
			}
			part()
		}
		if !f.Done() {
			t.Error("not done behind the last part")
		}
	}
}

// P1: a reader that isn't there is as one that is Bad.
func TestNoReader(t *testing.T) {
	var f *From
	wantNum(t, "Byte", f.Byte(), 0)
	wantNum(t, "Num", f.Num(), 0)
	for _, most := range []int{-1, 0, 8, math.MinInt, math.MaxInt} {
		wantList(t, "Nums", f.Nums(most), nil)
	}
	if f.Done() {
		t.Error("done")
	}
}

// P1: any bytes, from anywhere; once it is Bad, nothing moves.
func TestAnyBytes(t *testing.T) {
	r := rand.New(rand.NewSource(9))
	for range 3000 {
		f := &From{S: bytesOf(r, r.Intn(40)), At: r.Intn(45) - 3, Bad: r.Intn(10) == 0}
		for range 8 {
			was := *f
			zero := true
			switch r.Intn(3) {
			case 0:
				zero = f.Byte() == 0
			case 1:
				zero = f.Num() == 0
			default:
				zero = len(f.Nums(r.Intn(6)-1)) == 0
			}
			if f.S != was.S || f.At < was.At || f.Bad && !zero || was.Bad && *f != was || !f.Bad && f.At > len(f.S) {
				t.Fatalf("%s became %s", told(was), told(*f))
			}
		}
	}
}

// Rules 3 and 7: lists that are handed in stay, and answers are new memory.
func TestListsAreTheirOwn(t *testing.T) {
	room := []int{1, 2, 3, 4}
	Nums(room[:2])
	wantList(t, "handed in", room, []int{1, 2, 3, 4})
	s := Nums([]int{5, 6})
	one, two := (&From{S: s}).Nums(2), (&From{S: s}).Nums(2)
	one[0], one[1] = 9, 9
	wantList(t, "another answer", two, []int{5, 6})
	wantList(t, "the same bytes again", (&From{S: s}).Nums(2), []int{5, 6})
}

// Rules 4 and 6: a call hangs on its arguments alone, whoever calls beside it.
func TestManyCallAtOnce(t *testing.T) {
	shared := anyNums(rand.New(rand.NewSource(10)), 20)
	s := numsByRule(shared)
	var wg sync.WaitGroup
	for i := range 8 {
		wg.Go(func() {
			r := rand.New(rand.NewSource(int64(i)))
			for range 300 {
				n := anyNums(r, 1)[0]
				wantBytes(t, "at once", Num(n), byRule(n))
				wantBytes(t, "at once", Nums(shared), s)
				wantList(t, "at once", (&From{S: s}).Nums(20), shared)
			}
		})
	}
	wg.Wait()
}
