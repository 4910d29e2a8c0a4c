package check

import (
	"hash/crc32"
	"math"
	"math/rand"
	"strings"
	"sync"
	"testing"
)

// step is one of the eight steps of a byte, in the chapter's words.
func step(n uint32) uint32 {
	if n%2 == 1 {
		return n/2 ^ 0xedb88320
	}
	return n / 2
}

// byRule is More in the chapter's words, without a table.
func byRule(n uint32, s string) uint32 {
	n = n ^ math.MaxUint32
	for _, b := range []byte(s) {
		n = n ^ uint32(b)
		for range 8 {
			n = step(n)
		}
	}
	return n ^ math.MaxUint32
}

// starts are sums to go on from: the ends, each bit alone, and others.
func starts() []uint32 {
	all := []uint32{0, 1, 2, math.MaxInt32, math.MaxUint32, math.MaxUint32 - 1, 0xedb88320, 0xcbf43926, 0x12345678}
	for i := range 32 {
		all = append(all, 1<<i, ^uint32(1<<i))
	}
	return all
}

// bytesOf is n bytes of a source.
func bytesOf(r *rand.Rand, n int) string {
	b := make([]byte, n)
	r.Read(b)
	return string(b)
}

func wantSum(t *testing.T, what string, got, want uint32) {
	t.Helper()
	if got != want {
		t.Errorf("%q: %08x, want %08x", what, got, want)
	}
}

// P2.1: the table.

func TestTableIsFourSteps(t *testing.T) {
	for i, got := range halves {
		wantSum(t, "halves", got, step(step(step(step(uint32(i))))))
	}
}

// P2.1: Of.

func TestOfKnown(t *testing.T) {
	cases := []struct {
		s    string
		want uint32
	}{
		{"", 0},
		{"123456789", 0xcbf43926},
		{"a", 0xe8b7be43},
		{"abc", 0x352441c2},
		{"\x00", 0xd202ef8d},
		{"\xff", 0xff000000},
		{"\x00\x00\x00\x00", 0x2144df1c},
		{"\xff\xff\xff\xff", 0xffffffff},
		{"The quick brown fox jumps over the lazy dog", 0x414fa339},
		{strings.Repeat("\x00", 32), 0x190a55ad},
		{strings.Repeat("\xff", 32), 0xff6cab0b},
	}
	for _, c := range cases {
		wantSum(t, c.s, Of(c.s), c.want)
	}
}

func TestOfEachByte(t *testing.T) {
	for b := range 256 {
		s := string([]byte{byte(b)})
		wantSum(t, s, Of(s), byRule(0, s))
	}
}

func TestOfEachLength(t *testing.T) {
	r := rand.New(rand.NewSource(1))
	for n := range 300 {
		s := bytesOf(r, n)
		wantSum(t, "Of", Of(s), byRule(0, s))
		wantSum(t, "Of, by the library", Of(s), crc32.ChecksumIEEE([]byte(s)))
		wantSum(t, "Of, as More of 0", Of(s), More(0, s))
	}
}

func TestOfMany(t *testing.T) {
	s := bytesOf(rand.New(rand.NewSource(2)), 1<<20)
	wantSum(t, "Of", Of(s), crc32.ChecksumIEEE([]byte(s)))
}

// Texts are taken by their bytes, also where these are no runes.
func TestOfTakesBytes(t *testing.T) {
	for _, s := range []string{"é", "世界", "\u2028", "\U0010ffff", "\xc3", "\xff\xfe", "a\x80b", "\xed\xa0\x80", "\x00\x00"} {
		wantSum(t, s, Of(s), byRule(0, s))
	}
}

// P2.1: More.

func TestMoreOfNothing(t *testing.T) {
	for _, n := range starts() {
		wantSum(t, "More of no bytes", More(n, ""), n)
	}
}

func TestMoreFromAnySum(t *testing.T) {
	r := rand.New(rand.NewSource(3))
	for _, n := range starts() {
		for b := range 256 {
			s := string([]byte{byte(b)})
			wantSum(t, "More of a byte", More(n, s), byRule(n, s))
		}
		for length := range 20 {
			s := bytesOf(r, length)
			wantSum(t, "More", More(n, s), byRule(n, s))
			wantSum(t, "More, by the library", More(n, s), crc32.Update(n, crc32.IEEETable, []byte(s)))
		}
	}
}

// P2.2: parts sum up.

func TestPartsSumUp(t *testing.T) {
	r := rand.New(rand.NewSource(4))
	for _, whole := range []string{"123456789", "世界", bytesOf(r, 128), bytesOf(r, 131)} {
		for i := range len(whole) + 1 {
			wantSum(t, "two parts of Of", More(Of(whole[:i]), whole[i:]), Of(whole))
			for _, n := range starts() {
				wantSum(t, "two parts", More(More(n, whole[:i]), whole[i:]), More(n, whole))
			}
		}
	}
}

func TestManyPartsSumUp(t *testing.T) {
	r := rand.New(rand.NewSource(5))
	for range 200 {
		n := r.Uint32()
		sum, whole := n, ""
		for range r.Intn(10) {
			part := bytesOf(r, r.Intn(12))
			sum, whole = More(sum, part), whole+part
		}
		wantSum(t, "many parts", sum, More(n, whole))
	}
}

// P2.2: up to four bytes side by side are told.

// changed is s with the bytes of d xored in from at on.
func changed(s string, at int, d []byte) string {
	b := []byte(s)
	for i := range d {
		b[at+i] ^= d[i]
	}
	return string(b)
}

func TestTellsEachChangeOfOneAndTwoBytes(t *testing.T) {
	s := bytesOf(rand.New(rand.NewSource(6)), 7)
	sum := Of(s)
	for at := range len(s) - 1 {
		for d := 1; d < 1<<16; d++ {
			if Of(changed(s, at, []byte{byte(d), byte(d >> 8)})) == sum {
				t.Fatalf("at %d, %04x isn't told", at, d)
			}
		}
	}
	for d := 1; d < 256; d++ {
		if Of(changed(s, len(s)-1, []byte{byte(d)})) == sum {
			t.Fatalf("in the last byte, %02x isn't told", d)
		}
	}
}

func TestTellsChangesOfUpToFourBytes(t *testing.T) {
	r := rand.New(rand.NewSource(7))
	for _, length := range []int{1, 2, 3, 4, 5, 9, 128, 300} {
		for range 2000 {
			s, n := bytesOf(r, length), r.Uint32()
			d := make([]byte, 1+r.Intn(min(4, length)))
			r.Read(d)
			d[r.Intn(len(d))] |= 1 << r.Intn(8)
			at := r.Intn(length - len(d) + 1)
			if More(n, changed(s, at, d)) == More(n, s) {
				t.Fatalf("in %d bytes, at %d, %x isn't told", length, at, d)
			}
		}
	}
}

// addsUp tells whether some of the words xored are nought.
func addsUp(words []uint32) bool {
	var top [33]uint32
	for _, w := range words {
		for i := 31; i >= 0 && w != 0; i-- {
			if w>>i&1 == 0 {
				continue
			}
			if top[i] == 0 {
				top[i] = w
				break
			}
			w ^= top[i]
		}
		if w == 0 {
			return true
		}
	}
	return false
}

// What a change does to a sum is the xor of what its bits do one by one; so
// all 2^32 changes of four bytes are told, if no choice of the 32 bits does
// nothing.
func TestTellsAllChangesOfFourBytes(t *testing.T) {
	r := rand.New(rand.NewSource(8))
	for _, length := range []int{4, 5, 8, 128, 259} {
		s, n := bytesOf(r, length), r.Uint32()
		sum := More(n, s)
		for at := range length - 3 {
			does := make([]uint32, 32)
			for bit := range does {
				d := make([]byte, 4)
				d[bit/8] = 1 << (bit % 8)
				does[bit] = More(n, changed(s, at, d)) ^ sum
			}
			if addsUp(does) {
				t.Fatalf("in %d bytes, at %d, a change isn't told", length, at)
			}
			d, want := make([]byte, 4), sum
			r.Read(d)
			for bit := range does {
				if d[bit/8]>>(bit%8)&1 == 1 {
					want ^= does[bit]
				}
			}
			wantSum(t, "bit by bit", More(n, changed(s, at, d)), want)
		}
	}
}

// Rules 4 and 6: a call hangs on its arguments alone, whoever calls beside it.
func TestManyCallAtOnce(t *testing.T) {
	var wg sync.WaitGroup
	for i := range 8 {
		wg.Go(func() {
			r := rand.New(rand.NewSource(int64(i)))
			for range 500 {
				n, s := r.Uint32(), bytesOf(r, r.Intn(50))
				want := byRule(n, s)
				wantSum(t, "at once", More(n, s), want)
				wantSum(t, "again", More(n, s), want)
			}
		})
	}
	wg.Wait()
}
