package locks

import (
	"math"
	"math/rand"
	"slices"
	"strings"
	"sync"
	"testing"

	"foreman/api"
	"foreman/queue"
)

// The chapter's words, written anew: block by block, not command by command.

// times tells how often a list has a number.
func times(l []int, n int) int {
	many := 0
	for _, have := range l {
		if have == n {
			many++
		}
	}
	return many
}

// asked is Ask in the chapter's words.
func asked(l [][]api.Want, c api.Command, seq int) [][]api.Want {
	more := make([][]api.Want, len(l))
	for i := range l {
		more[i] = slices.Clone(l[i])
		for range times(c.Reads, i) {
			more[i] = queue.Ask(more[i], seq, false)
		}
		for range times(c.Writes, i) {
			more[i] = queue.Ask(more[i], seq, true)
		}
	}
	return more
}

// given is Give in the chapter's words.
func given(l [][]api.Want, c api.Command, seq int) [][]api.Want {
	rest := make([][]api.Want, len(l))
	for i := range l {
		rest[i] = slices.Clone(l[i])
		if times(c.Reads, i)+times(c.Writes, i) > 0 {
			rest[i] = queue.Give(rest[i], seq)
		}
	}
	return rest
}

// ready is Ready in the chapter's words, of blocks that are there.
func ready(l [][]api.Want, c api.Command, seq int) bool {
	lacks := 0
	for i := range l {
		if times(c.Reads, i)+times(c.Writes, i) > 0 && !queue.Has(l[i], seq) {
			lacks++
		}
	}
	return lacks == 0
}

// same tells whether two lists of lists are alike (nil and empty are).
func same(a, b [][]api.Want) bool {
	return slices.EqualFunc(a, b, func(a, b []api.Want) bool { return slices.Equal(a, b) })
}

// copyOf is a copy that shares nothing.
func copyOf(l [][]api.Want) [][]api.Want {
	l = slices.Clone(l)
	for i := range l {
		l[i] = slices.Clone(l[i])
	}
	return l
}

// of is a command that reads and writes such blocks.
func of(reads, writes []int) api.Command {
	return api.Command{Reads: reads, Writes: writes, Fuel: 1, Code: []api.Instr{{Op: api.OpEnd}}}
}

// lists are such lists, a line between each two of them; in each, one behind
// the other, who waits: r to read, w to write (a capital letter's Has is set),
// and the number in a digit.
func lists(s string) [][]api.Want {
	var l [][]api.Want
	for part := range strings.SplitSeq(s, "|") {
		var some []api.Want
		for _, word := range strings.Fields(part) {
			kind := word[0]
			some = append(some, api.Want{
				Seq:  int(word[1] - '0'),
				Excl: kind == 'w' || kind == 'W',
				Has:  kind == 'R' || kind == 'W',
			})
		}
		l = append(l, some)
	}
	return l
}

// kinds are commands of two blocks: each of them isn't told, is read, or is
// written; and, as raw commands may, is told twice, in any of the ways.
func kinds() []api.Command {
	ways := []struct{ reads, writes int }{{0, 0}, {1, 0}, {0, 1}, {1, 1}, {2, 0}, {0, 2}}
	var all []api.Command
	for _, a := range ways {
		for _, b := range ways {
			reads := slices.Concat(slices.Repeat([]int{1}, b.reads), slices.Repeat([]int{0}, a.reads))
			writes := slices.Concat(slices.Repeat([]int{0}, a.writes), slices.Repeat([]int{1}, b.writes))
			all = append(all, of(reads, writes))
		}
	}
	return all
}

// each hands lists of two blocks and of three, for which nobody to two commands
// of all kinds have asked; and such as nobody asked for, whatever they tell.
func each(do func(l [][]api.Want)) {
	do(make([][]api.Want, 2))
	for _, a := range kinds() {
		one := asked(make([][]api.Want, 2), a, 1)
		do(copyOf(one))
		for _, b := range kinds() {
			do(asked(one, b, 2))
		}
	}
	r := rand.New(rand.NewSource(1))
	for range 300 {
		l := make([][]api.Want, 2+r.Intn(2))
		for i := range l {
			for range r.Intn(5) {
				l[i] = append(l[i], api.Want{Seq: 1 + r.Intn(3), Excl: r.Intn(3) == 0, Has: r.Intn(2) == 0})
			}
		}
		do(l)
	}
}

// The numbers to ask for: those of each's lists, and others.
var numbers = []int{1, 2, 3, 0, -1, 1<<32 + 1, math.MaxInt, math.MinInt}

// Blocks that aren't there, of two or three.
var nowhere = []int{-1, -2, 3, 4, 64, 256, -256, 1 << 32, -1 << 32, 1<<32 + 1, math.MaxInt32, math.MinInt32, math.MaxInt, math.MinInt}

// P15.1: New.

func TestNew(t *testing.T) {
	for _, n := range []int{1, 2, 3, 7, 8, 63, api.MaxBlocks, api.MaxBlocks + 1, 256, 1000, 1 << 16, 1<<20 + 1} {
		l := New(n)
		if len(l) != n {
			t.Fatalf("%d: %d lists", n, len(l))
		}
		for i, some := range l {
			if len(some) != 0 {
				t.Fatalf("%d: %v at %d", n, some, i)
			}
		}
	}
}

func TestNewOfNone(t *testing.T) {
	for _, n := range []int{0, -1, -2, -64, math.MinInt32, -1 << 32, -1<<32 + 1, math.MinInt + 1, math.MinInt} {
		if l := New(n); len(l) != 0 {
			t.Errorf("%d: %d lists", n, len(l))
		}
	}
}

// So many that an answer may not hold them: none, and no panic.
func TestNewOfTooMany(t *testing.T) {
	for _, n := range []int{mostLists + 1, math.MaxInt32, 1 << 32, 1 << 57, 1 << 60, math.MaxInt - 1, math.MaxInt} {
		if l := New(n); len(l) != 0 {
			t.Errorf("%d: %d lists", n, len(l))
		}
	}
	if most := math.MaxInt32 / 24; mostLists != most {
		t.Errorf("at most %d, want %d", mostLists, most)
	}
}

// Each list is its own, and each answer.
func TestNewLists(t *testing.T) {
	l, other := New(3), New(3)
	l[1] = append(l[1], api.Want{Seq: 5})
	if len(l[0]) != 0 || len(l[2]) != 0 || !same(other, make([][]api.Want, 3)) || !same(New(3), other) {
		t.Errorf("%v, %v", l, other)
	}
}

// P15.1: Ask.

func TestAskKnown(t *testing.T) {
	for _, x := range []struct {
		l             string
		reads, writes []int
		want          string
	}{
		{"", nil, nil, ""},
		{"", []int{0}, nil, "R9"},
		{"", nil, []int{0}, "W9"},
		{"||", nil, nil, "||"},
		{"||", []int{0}, nil, "R9||"},
		{"||", []int{2}, nil, "||R9"},
		{"||", nil, []int{1}, "|W9|"},
		{"||", []int{1}, []int{0, 2}, "W9|R9|W9"},
		{"||", []int{0, 2}, []int{1}, "R9|W9|R9"},
		{"R1|W1", []int{0, 1}, nil, "R1 R9|W1 r9"},
		{"R1|W1", nil, []int{0, 1}, "R1 w9|W1 w9"},
		{"R1|W1", []int{1}, []int{0}, "R1 w9|W1 r9"},
		{"R1 R2|W1 r2|R2 w3", []int{2}, []int{0}, "R1 R2 w9|W1 r2|R2 w3 r9"},
		{"R1 w2|R3", []int{0, 1}, nil, "R1 w2 r9|R3 R9"},
		// Has isn't as it must be: it is so where a list has changed, and there alone.
		{"r1|r1|R1 R1", []int{0}, nil, "R1 R9|r1|R1 R1"},
		{"W1 W2|W1 W2|w1", nil, []int{1}, "W1 W2|W1 w2 w9|w1"},
		// Raw commands: a block twice, and both read and written.
		{"|", []int{0, 0}, nil, "R9 R9|"},
		{"|", nil, []int{1, 1}, "|W9 w9"},
		{"|", []int{1}, []int{1}, "|R9 w9"},
		{"R1|R1", []int{1, 0}, []int{1, 0, 1}, "R1 R9 w9|R1 R9 w9 w9"},
	} {
		if got := Ask(lists(x.l), of(x.reads, x.writes), 9); !same(got, lists(x.want)) {
			t.Errorf("%q, %v, %v: %v, want %v", x.l, x.reads, x.writes, got, lists(x.want))
		}
	}
}

func TestAskByRule(t *testing.T) {
	each(func(l [][]api.Want) {
		for _, c := range kinds() {
			for _, seq := range numbers[:4] {
				want := asked(l, c, seq)
				if got := Ask(l, c, seq); !same(got, want) {
					t.Fatalf("%v, %v, %d: %v, want %v", l, c, seq, got, want)
				}
			}
		}
	})
}

// One that is there already is there once more.
func TestAskAgain(t *testing.T) {
	c := of([]int{0}, []int{1})
	l := Ask(Ask(New(2), c, 7), c, 7)
	if !same(l, lists("R7 R7|W7 w7")) || !Ready(l, c, 7) || !same(Give(l, c, 7), New(2)) {
		t.Errorf("%v", l)
	}
}

// In order of asking, not of numbers.
func TestAskInOrder(t *testing.T) {
	c, d := of([]int{0}, []int{1}), of([]int{1}, []int{0})
	l := Ask(Ask(Ask(Ask(New(2), c, 9), c, 3), d, 7), c, 1)
	if !same(l, lists("R9 R3 w7 r1|W9 w3 r7 w1")) {
		t.Errorf("%v", l)
	}
}

// P15.1: Give.

func TestGiveKnown(t *testing.T) {
	for _, x := range []struct {
		l             string
		reads, writes []int
		seq           int
		want          string
	}{
		{"", []int{0}, nil, 1, ""},
		{"R1", []int{0}, nil, 1, ""},
		{"W1", nil, []int{0}, 1, ""},
		{"R1|W1|R1", nil, nil, 1, "R1|W1|R1"},
		{"R1|W1|R1", []int{0}, nil, 1, "|W1|R1"},
		{"R1|W1|R1", []int{2}, nil, 1, "R1|W1|"},
		{"R1|W1|R1", nil, []int{1}, 1, "R1||R1"},
		{"R1|W1|R1", []int{0, 2}, []int{1}, 1, "||"},
		{"R1|W1|R1", []int{0, 2}, []int{1}, 2, "R1|W1|R1"},
		// Whoever is behind has it then.
		{"R1 w2|W1 r2 r3", []int{0}, []int{1}, 1, "W2|R2 R3"},
		{"R1 w2|W1 r2 r3", nil, []int{1}, 1, "R1 w2|R2 R3"},
		{"R1 w2|W1 r2 r3", []int{0}, nil, 1, "W2|W1 r2 r3"},
		{"R1 w2 r3|W1 w2 r3", nil, []int{0, 1}, 2, "R1 R3|W1 r3"},
		// Whether it is to write there doesn't count, nor in which list it is told.
		{"R1 w2|W1 r2", []int{1}, []int{0}, 1, "W2|R2"},
		// Has isn't as it must be: it is so of the command's blocks, and there alone.
		{"r1|r1|w1 R2", []int{0}, nil, 5, "R1|r1|w1 R2"},
		{"r1 R2|r1 r2|w1 R2", []int{0}, []int{2}, 1, "R2|r1 r2|R2"},
		// All of the number go; a block that is told twice is given once and for all.
		{"R1 w2 r1|W1 w1 R3", []int{0}, []int{1}, 1, "W2|R3"},
		{"R1 w2|W1 r2", []int{0, 0, 1}, []int{1, 0}, 1, "W2|R2"},
	} {
		if got := Give(lists(x.l), of(x.reads, x.writes), x.seq); !same(got, lists(x.want)) {
			t.Errorf("%q, %v, %v, %d: %v, want %v", x.l, x.reads, x.writes, x.seq, got, lists(x.want))
		}
	}
}

func TestGiveByRule(t *testing.T) {
	ways := [2]int{}
	each(func(l [][]api.Want) {
		for _, c := range kinds() {
			for _, seq := range numbers[:4] {
				want := given(l, c, seq)
				if got := Give(l, c, seq); !same(got, want) {
					t.Fatalf("%v, %v, %d: %v, want %v", l, c, seq, got, want)
				}
				if same(l, want) {
					ways[0]++
				} else {
					ways[1]++
				}
			}
		}
	})
	if slices.Min(ways[:]) < 1000 {
		t.Errorf("%v: too few to be of use", ways)
	}
}

// P15.1: Ready.

func TestReadyKnown(t *testing.T) {
	for _, x := range []struct {
		l             string
		reads, writes []int
		seq           int
		want          bool
	}{
		// A command without blocks lacks none.
		{"", nil, nil, 1, true},
		{"W1|W1", nil, nil, 2, true},
		{"", []int{0}, nil, 1, false},
		{"", nil, []int{0}, 1, false},
		{"R1", []int{0}, nil, 1, true},
		{"W1", nil, []int{0}, 1, true},
		{"R1", []int{0}, nil, 2, false},
		{"R1|W1|R1", []int{0, 2}, []int{1}, 1, true},
		{"R1|W1|R1", []int{0, 2}, []int{1}, 2, false},
		// One of them is lacking: the first, the middle one, the last; it waits there, or isn't there.
		{"W2 r1|W1|R1", []int{0, 2}, []int{1}, 1, false},
		{"R1|R2 w1|R1", []int{0, 2}, []int{1}, 1, false},
		{"R1|W1|W2 r1", []int{0, 2}, []int{1}, 1, false},
		{"|W1|R1", []int{0, 2}, []int{1}, 1, false},
		{"R1||R1", []int{0, 2}, []int{1}, 1, false},
		{"R1|W1|", []int{0, 2}, []int{1}, 1, false},
		{"R1|R1|", []int{0, 1, 2}, nil, 1, false},
		{"W1|W1|", nil, []int{0, 1, 2}, 1, false},
		// What it waits for beside its blocks doesn't count.
		{"W2 r1|W1|R1", []int{2}, []int{1}, 1, true},
		{"R1|R2 w1|R1", []int{0, 2}, nil, 1, true},
		// Many readers, and none behind a writer that waits.
		{"R1 R2 R3 w4 r5", []int{0}, nil, 3, true},
		{"R1 R2 R3 w4 r5", nil, []int{0}, 4, false},
		{"R1 R2 R3 w4 r5", []int{0}, nil, 5, false},
		// Whether it is to write there doesn't count.
		{"R1|W1", []int{1}, []int{0}, 1, true},
		// Who has it hangs on the order, whatever the lists tell.
		{"r1|w1", []int{0}, []int{1}, 1, true},
		{"W2 R1|W1", []int{0}, []int{1}, 1, false},
		// Raw commands: a block twice, and both read and written.
		{"R1 w1", []int{0}, []int{0}, 1, true},
		{"R2 R1 w1", []int{0}, []int{0}, 1, true},
		{"W2 r1 w1", []int{0}, []int{0}, 1, false},
		{"R1 R1|W2 w1", []int{0, 0}, []int{1, 1}, 1, false},
	} {
		if got := Ready(lists(x.l), of(x.reads, x.writes), x.seq); got != x.want {
			t.Errorf("%q, %v, %v, %d: %t", x.l, x.reads, x.writes, x.seq, got)
		}
	}
}

func TestReadyByRule(t *testing.T) {
	ways := [2]int{}
	each(func(l [][]api.Want) {
		for _, c := range kinds() {
			for _, seq := range numbers {
				want := ready(l, c, seq)
				if got := Ready(l, c, seq); got != want {
					t.Fatalf("%v, %v, %d: %t, want %t", l, c, seq, got, want)
				}
				if want {
					ways[0]++
				} else {
					ways[1]++
				}
			}
		}
	})
	if slices.Min(ways[:]) < 1000 {
		t.Errorf("%v: too few to be of use", ways)
	}
}

// Numbers may be any, the ends of their type too; no two of these are one.
func TestNumbers(t *testing.T) {
	ends := []int{0, 1, -1, 2, 1 << 31, 1 << 32, 1<<32 + 1, -1 << 32, math.MaxInt32, math.MinInt32, math.MaxUint32, math.MaxInt, math.MinInt, math.MaxInt - 1, math.MinInt + 1}
	c, d := of([]int{0}, []int{1}), of([]int{0, 1}, nil)
	for _, a := range ends {
		for _, b := range ends {
			l := Ask(Ask(New(2), c, a), d, b)
			if want := asked(asked(New(2), c, a), d, b); !same(l, want) {
				t.Fatalf("%d, %d: %v, want %v", a, b, l, want)
			}
			if !Ready(l, c, a) || Ready(l, d, b) != (a == b) {
				t.Fatalf("%d, %d: %v", a, b, l)
			}
			if l = Give(l, c, a); Ready(l, d, b) != (a != b) {
				t.Fatalf("%d, %d: %v", a, b, l)
			}
		}
	}
}

// Only its blocks count of a command, not what it does with them.
func TestBlocksAloneCount(t *testing.T) {
	c := api.Command{Reads: []int{0}, Writes: []int{1}, Args: []int{0, 1, math.MinInt}, Fuel: -7, Code: []api.Instr{{Op: api.OpPut, A: 5}, {Op: -1}}}
	plain := api.Command{Reads: []int{0}, Writes: []int{1}}
	l := Ask(New(2), c, 3)
	if !same(l, Ask(New(2), plain, 3)) || !Ready(l, c, 3) || !Ready(l, plain, 3) || !same(Give(l, c, 3), New(2)) {
		t.Errorf("%v", l)
	}
}

// As many blocks as a command may have, and as many as there may be.
func TestMostBlocks(t *testing.T) {
	all := make([]int, api.MaxBlocks)
	for i := range all {
		all[i] = i
	}
	l := New(api.MaxBlocks)
	for first := 0; first < api.MaxBlocks; first += 2 * api.MaxSet {
		c := of(all[first:first+api.MaxSet], all[first+api.MaxSet:first+2*api.MaxSet])
		want := asked(l, c, first+1)
		if l = Ask(l, c, first+1); !same(l, want) || !Ready(l, c, first+1) {
			t.Fatalf("%d: %v, want %v", first, l, want)
		}
	}
	if every := of(all, all); Ready(l, every, 1) {
		t.Errorf("%v", l)
	}
	l = Ask(l, of(nil, all), 99)
	for first := 0; first < api.MaxBlocks; first += 2 * api.MaxSet {
		if Ready(l, of(nil, all), 99) {
			t.Fatalf("%d: ahead of its turn: %v", first, l)
		}
		l = Give(l, of(all[first:first+api.MaxSet], all[first+api.MaxSet:first+2*api.MaxSet]), first+1)
	}
	if !Ready(l, of(nil, all), 99) {
		t.Errorf("%v", l)
	}
}

// P15.2.

// pick is a command of some of so many blocks, each read or written.
func pick(r *rand.Rand, blocks int) api.Command {
	var reads, writes []int
	for i := range blocks {
		switch r.Intn(4) {
		case 0:
			reads = append(reads, i)
		case 1:
			writes = append(writes, i)
		}
	}
	return of(reads, writes)
}

// waits is a command that has asked.
type waits struct {
	seq int
	c   api.Command
}

// The first one of those who asked, and didn't give, is ready, whoever else
// asks, and whoever of those who are ready gives.
func TestFirstIsReady(t *testing.T) {
	r := rand.New(rand.NewSource(2))
	for range 300 {
		blocks := 1 + r.Intn(6)
		l := New(blocks)
		var pending []waits
		for next := 1; next < 60; next++ {
			if len(pending) == 0 || r.Intn(2) == 0 {
				w := waits{seq: next, c: pick(r, blocks)}
				l = Ask(l, w.c, w.seq)
				pending = append(pending, w)
			} else {
				var i int
				for i = r.Intn(len(pending)); !Ready(l, pending[i].c, pending[i].seq); i-- {
				}
				l = Give(l, pending[i].c, pending[i].seq)
				pending = slices.Delete(pending, i, i+1)
			}
			if len(pending) > 0 && !Ready(l, pending[0].c, pending[0].seq) {
				t.Fatalf("%v isn't ready: %v", pending[0], l)
			}
		}
	}
}

// The first one is ready, whatever its blocks, and whatever others ask for: all
// kinds of three commands.
func TestFirstIsReadyOfAllKinds(t *testing.T) {
	for _, a := range kinds() {
		one := Ask(New(2), a, 3)
		for _, b := range kinds() {
			two := Ask(one, b, 2)
			for _, c := range kinds() {
				l := Ask(two, c, 1)
				if !Ready(one, a, 3) || !Ready(two, a, 3) || !Ready(l, a, 3) {
					t.Fatalf("%v, %v, %v: %v", a, b, c, l)
				}
				if l = Give(l, a, 3); !Ready(l, b, 2) {
					t.Fatalf("%v, %v, %v: %v", a, b, c, l)
				}
				if l = Give(l, b, 2); !Ready(l, c, 1) {
					t.Fatalf("%v, %v, %v: %v", a, b, c, l)
				}
				if l = Give(l, c, 1); !same(l, New(2)) {
					t.Fatalf("%v, %v, %v: %v", a, b, c, l)
				}
			}
		}
	}
}

// No two of those who are ready are on one block, of which one writes it; and
// who waits for no block of one ahead of it, of which one writes it, is ready.
func TestReadyTogether(t *testing.T) {
	meet := func(a, b api.Command) bool {
		for _, i := range a.Writes {
			if slices.Contains(b.Reads, i) || slices.Contains(b.Writes, i) {
				return true
			}
		}
		return slices.ContainsFunc(b.Writes, func(i int) bool { return slices.Contains(a.Reads, i) })
	}
	r := rand.New(rand.NewSource(3))
	ways := [2]int{}
	for range 400 {
		blocks := 2 + r.Intn(6)
		l := New(blocks)
		var pending []waits
		for seq := range 1 + r.Intn(8) {
			w := waits{seq: seq, c: pick(r, blocks)}
			l = Ask(l, w.c, w.seq)
			pending = append(pending, w)
		}
		for i, b := range pending {
			free := !slices.ContainsFunc(pending[:i], func(a waits) bool { return meet(a.c, b.c) })
			if got := Ready(l, b.c, b.seq); got && !free {
				t.Fatalf("%v is ready beside one ahead of it: %v", b, l)
			} else if !got && free {
				t.Fatalf("%v isn't ready: %v", b, l)
			}
			if free {
				ways[0]++
			} else {
				ways[1]++
			}
		}
	}
	if slices.Min(ways[:]) < 100 {
		t.Errorf("%v: too few to be of use", ways)
	}
}

// The chapter's example: block 0 read by both, block 1 written by the first.
func TestExample(t *testing.T) {
	a, b := of([]int{0}, []int{1}), of([]int{0, 1}, nil)
	l := Ask(Ask(New(2), a, 1), b, 2)
	if !same(l, lists("R1 R2|W1 r2")) || !Ready(l, a, 1) || Ready(l, b, 2) {
		t.Errorf("%v", l)
	}
	if l = Give(l, a, 1); !same(l, lists("R2|R2")) || !Ready(l, b, 2) {
		t.Errorf("%v", l)
	}
}

// The whole's tenth: two readers and a writer of one block.
func TestReadersAndWriter(t *testing.T) {
	read, write := of([]int{0}, nil), of(nil, []int{0})
	l := Ask(Ask(Ask(New(1), read, 1), read, 2), write, 3)
	if !Ready(l, read, 1) || !Ready(l, read, 2) || Ready(l, write, 3) {
		t.Errorf("%v", l)
	}
	if l = Give(l, read, 2); Ready(l, write, 3) {
		t.Errorf("%v", l)
	}
	if l = Give(l, read, 1); !Ready(l, write, 3) {
		t.Errorf("%v", l)
	}
}

// P1: the calls aren't asked of blocks that aren't there; they don't panic, and
// those that are there are as if they alone had been told.
func TestBlocksThatArentThere(t *testing.T) {
	for _, l := range [][][]api.Want{nil, {}, lists("R1|W1 r2"), lists("R1 w3|r2|W1")} {
		for _, i := range nowhere {
			for _, c := range []api.Command{of([]int{i}, nil), of(nil, []int{i}), of([]int{i, 0}, []int{1}), of([]int{0}, []int{1, i}), of([]int{i, 0, i}, []int{i, 1, i})} {
				if got, want := Ask(l, c, 1), asked(l, c, 1); !same(got, want) {
					t.Errorf("%v, %v: %v, want %v", l, c, got, want)
				}
				if got, want := Give(l, c, 1), given(l, c, 1); !same(got, want) {
					t.Errorf("%v, %v: %v, want %v", l, c, got, want)
				}
				if Ready(l, c, 1) {
					t.Errorf("%v, %v: ready", l, c)
				}
			}
		}
	}
}

// The rules that hold everywhere.

// roomy is a copy of lists with spare room, in which something stands: in that
// of the lists' list, and in that of each list.
func roomy(l [][]api.Want) (all, part [][]api.Want) {
	for _, some := range l {
		some = slices.Concat(some, []api.Want{{Seq: 96}, {Seq: 97, Excl: true, Has: true}})
		all = append(all, some)
		part = append(part, some[:len(some)-2])
	}
	part = append(part, []api.Want{{Seq: 98}}, []api.Want{{Seq: 99}})
	return all, part[:len(l)]
}

// Rule 3: what is handed in is as it was, its spare room too.
func TestGivenStays(t *testing.T) {
	each(func(l [][]api.Want) {
		all, part := roomy(l)
		then, room := copyOf(all), copyOf(part[:len(part)+2])
		for _, c := range kinds() {
			reads, writes := slices.Clone(c.Reads), slices.Clone(c.Writes)
			for _, seq := range numbers[:2] {
				Ask(part, c, seq)
				Give(part, c, seq)
				Ready(part, c, seq)
			}
			if !slices.Equal(c.Reads, reads) || !slices.Equal(c.Writes, writes) {
				t.Fatalf("%v, and it was %v, %v", c, reads, writes)
			}
		}
		if !same(all, then) || !same(part[:len(part)+2], room) {
			t.Fatalf("%v, and it was %v", all, then)
		}
	})
}

// spoil writes over all that lists hold, their spare room too.
func spoil(l [][]api.Want) {
	for _, some := range l {
		some = some[:cap(some)]
		for i := range some {
			some[i] = api.Want{Seq: -999, Excl: !some[i].Excl, Has: !some[i].Has}
		}
	}
	l = l[:cap(l)]
	for i := range l {
		l[i] = []api.Want{{Seq: -998, Excl: true}}
	}
}

// Rule 3: an answer is new memory, also where nothing has changed: whoever
// writes into one changes neither what was handed in nor another answer, nor
// does a later change of what was.
func TestAnswersAreTheirOwn(t *testing.T) {
	each(func(was [][]api.Want) {
		for _, c := range kinds()[:30] {
			l := copyOf(was)
			wantAsked, wantGiven := asked(l, c, 2), given(l, c, 2)
			spoil(Ask(l, c, 2))
			spoil(Give(l, c, 2))
			if !same(l, was) {
				t.Fatalf("%v, and it was %v", l, was)
			}
			gotAsked, gotGiven := Ask(l, c, 2), Give(l, c, 2)
			spoil(l)
			if !same(gotAsked, wantAsked) || !same(gotGiven, wantGiven) {
				t.Fatalf("%v, %v: %v, %v", was, c, gotAsked, gotGiven)
			}
		}
	})
}

// No two lists of an answer share memory, also where those handed in do.
func TestListsAreTheirOwn(t *testing.T) {
	shared := lists("R1 R2 w3")[0]
	for _, c := range kinds() {
		for _, ask := range []func([][]api.Want, api.Command, int) [][]api.Want{Ask, Give} {
			l := [][]api.Want{shared, shared, shared}
			for i := range l {
				got := ask(l, c, 2)
				want := copyOf(got)
				want[i] = nil
				spoil(got[i : i+1 : i+1])
				got[i] = nil
				if !same(got, want) {
					t.Fatalf("%v, %d: %v, want %v", c, i, got, want)
				}
			}
		}
	}
}

// An older list may be gone on with, in two ways, also where it has spare room.
func TestOlderLists(t *testing.T) {
	r := rand.New(rand.NewSource(4))
	l := New(3)
	for seq := 1; seq < 40; seq++ {
		c, d := pick(r, 3), pick(r, 3)
		l = Ask(l, c, seq)
		was := copyOf(l)
		a, b := Ask(l, c, 100), Ask(l, d, 200)
		e, f := Give(l, c, seq), Give(l, d, 1)
		if !same(a, asked(was, c, 100)) || !same(b, asked(was, d, 200)) {
			t.Fatalf("%v: %v, %v", was, a, b)
		}
		if !same(e, given(was, c, seq)) || !same(f, given(was, d, 1)) || !same(l, was) {
			t.Fatalf("%v: %v, %v", was, e, f)
		}
	}
}

// Rule 2: a list that holds nothing may be nil or empty.
func TestNilOrEmpty(t *testing.T) {
	for _, l := range [][][]api.Want{{nil, nil}, {{}, {}}, {nil, {}}, lists("R1|W2")[:2]} {
		for i := range l {
			l[i] = l[i][:0]
		}
		c := of([]int{0}, []int{1})
		if got := Ask(l, c, 4); !same(got, lists("R4|W4")) {
			t.Errorf("%v", got)
		}
		if got := Give(l, c, 4); !same(got, New(2)) {
			t.Errorf("%v", got)
		}
		if Ready(l, c, 4) {
			t.Errorf("%v: ready", l)
		}
		for _, none := range []api.Command{of(nil, nil), of([]int{}, []int{}), {}} {
			if !same(Ask(l, none, 4), New(2)) || !same(Give(l, none, 4), New(2)) || !Ready(l, none, 4) {
				t.Errorf("%v, %v", l, none)
			}
		}
	}
	for _, l := range [][][]api.Want{nil, {}, New(0), New(-1)} {
		none := of(nil, nil)
		if len(Ask(l, none, 4)) != 0 || len(Give(l, none, 4)) != 0 || !Ready(l, none, 4) {
			t.Errorf("%v", l)
		}
	}
}

// Rules 4 and 6: a call hangs on its arguments alone, whoever calls beside it.
func TestManyCallAtOnce(t *testing.T) {
	_, l := roomy(lists("R1 R2 w3 r4|W2 r3|R4"))
	was := copyOf(l)
	c := of([]int{0, 2}, []int{1})
	wantAsked, wantGiven := asked(l, c, 9), given(l, c, 2)
	var wg sync.WaitGroup
	for range 8 {
		wg.Go(func() {
			for range 200 {
				a, b := Ask(l, c, 9), Give(l, c, 2)
				if !same(a, wantAsked) || !same(b, wantGiven) || Ready(l, c, 2) || !Ready(l, of([]int{0}, []int{1}), 2) || !same(New(2), lists("|")) {
					t.Errorf("%v, %v", a, b)
				}
			}
		})
	}
	wg.Wait()
	if !same(l, was) {
		t.Errorf("%v", l)
	}
}
