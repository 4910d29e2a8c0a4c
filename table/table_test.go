package table

import (
	"fmt"
	"math"
	"math/rand"
	"slices"
	"sync"
	"testing"

	"foreman/api"
	"foreman/asm"
	"foreman/proof"
	"foreman/run"
)

// numbered is a table of which no two cells are alike, and none is nought; each
// block was written by a command of its own.
func numbered(many int) []api.Entry {
	l := make([]api.Entry, many)
	for i := range l {
		for j := range l[i].Cells {
			l[i].Cells[j] = 1000*(i+1) + j
		}
		l[i].Seq = 70 + i
	}
	return l
}

// blocks are a command's own blocks that are in no table.
func blocks(many int) []api.Block {
	l := make([]api.Block, many)
	for i := range l {
		for j := range l[i] {
			l[i][j] = -1000*(i+1) - j
		}
	}
	return l
}

// may refuses a command of a test that may not be, or not on so many blocks:
// the calls aren't asked of it.
func may(t *testing.T, c api.Command, many int) api.Command {
	t.Helper()
	if e := proof.Check(c); e != api.OK {
		t.Fatalf("%v may not be: %d", c, e)
	}
	for _, i := range slices.Concat(c.Reads, c.Writes) {
		if i >= many {
			t.Fatalf("%v: no block %d", c, i)
		}
	}
	return c
}

// code is a program from its text.
func code(t *testing.T, text string) []api.Instr {
	t.Helper()
	l, e := asm.Build(text)
	if e != api.OK {
		t.Fatalf("%q: %d", text, e)
	}
	return l
}

// of is a command on the tables of five blocks: it reads 3, and writes 1 and 4.
func of(t *testing.T, fuel int, text string, args ...int) api.Command {
	t.Helper()
	return may(t, api.Command{Reads: []int{3}, Writes: []int{1, 4}, Args: args, Fuel: fuel, Code: code(t, text)}, 5)
}

// sets are the blocks of a command, in all shapes: none, one kind alone, both
// in turns, as many as there may be, the first and the last one.
func sets() []api.Command {
	return []api.Command{
		{}, {Reads: []int{0}}, {Reads: []int{11}}, {Writes: []int{0}}, {Writes: []int{11}},
		{Reads: []int{0}, Writes: []int{11}}, {Reads: []int{11}, Writes: []int{0}},
		{Reads: []int{1, 3, 5}, Writes: []int{0, 2, 4}}, {Reads: []int{6, 7, 9}, Writes: []int{0, 1}},
		{Reads: []int{0, 1, 2, 3, 4, 5, 6, 7}}, {Writes: []int{0, 2, 4, 6, 8, 9, 10, 11}},
		{Reads: []int{4, 5, 10, 11}, Writes: []int{0, 1, 6, 7}}, {Reads: []int{8}, Writes: []int{1, 2, 3, 9, 10, 11}},
	}
}

// The ways in which a command of each ends.
var ends = []string{"end", "stop", "push 1 push 0 div keep 0 end", "get 0 0 get 0 1 add emit end"}

// busy is a program that puts a number of its own into a cell of each of
// Writes, out of all blocks that it has, and then ends so.
func busy(c api.Command, end string) string {
	text, all := "", len(c.Reads)+len(c.Writes)
	for i := len(c.Reads); i < all; i++ {
		text += fmt.Sprintf("get %d %d arg 0 add put %d %d ", (i+1)%all, (i+2)%api.Cells, i, i%api.Cells)
	}
	return text + "push 8 emit " + end
}

// each hands commands of all sets of blocks, with programs that do all they can
// and end in all ways, with fuel that isn't enough, is just enough, and is more.
func each(t *testing.T, do func(l []api.Entry, c api.Command)) {
	t.Helper()
	for _, c := range sets() {
		for _, end := range ends {
			if len(c.Reads)+len(c.Writes) == 0 && end == ends[3] {
				continue
			}
			c.Args, c.Code = []int{5000000}, code(t, busy(c, end))
			for _, fuel := range []int{1, 2, 3, 4, 5, 7, len(c.Code) - 1, len(c.Code), len(c.Code) + 1, 200} {
				if c.Fuel = fuel; fuel < 1 {
					continue
				}
				do(numbered(12), may(t, c, 12))
			}
		}
	}
}

// loaded is Load in the chapter's words: the cells of its Reads, then its
// Writes.
func loaded(l []api.Entry, c api.Command) []api.Block {
	var own []api.Block
	for _, i := range append(slices.Clone(c.Reads), c.Writes...) {
		own = append(own, l[i].Cells)
	}
	return own
}

// stored is Store in the chapter's words, block by block of the table.
func stored(l []api.Entry, c api.Command, own []api.Block, seq int) []api.Entry {
	var answer []api.Entry
	for i, e := range l {
		if at := slices.Index(c.Writes, i); at >= 0 {
			e = api.Entry{Cells: own[len(c.Reads)+at], Seq: seq}
		}
		answer = append(answer, e)
	}
	return answer
}

// applied is Apply in the chapter's words.
func applied(l []api.Entry, c api.Command, seq int) ([]api.Entry, api.Result) {
	m, own, _ := run.Whole(c, loaded(l, c))
	r := api.Result{Seq: seq, Told: m.Told, Out: m.Out}
	if m.Told == api.OK {
		return stored(l, c, own, seq), r
	}
	return l, r
}

// sameResult tells whether two results are alike; lists that hold nothing are.
func sameResult(a, b api.Result) bool {
	return a.Seq == b.Seq && a.Told == b.Told && slices.Equal(a.Out, b.Out)
}

// numbers are commands' numbers, also such as no command has.
var numbers = []int{1, 2, 71, 0, -1, 1 << 32, math.MaxInt32, math.MaxInt, math.MinInt}

// P12.1: New.

func TestNew(t *testing.T) {
	for _, n := range []int{0, 1, 2, 3, 5, 8, 63, 64, 65, 256, 4097, 100000} {
		l := New(n)
		if len(l) != n {
			t.Errorf("%d: %d blocks", n, len(l))
		}
		for i, e := range l {
			if e != (api.Entry{}) {
				t.Errorf("%d: block %d is %v", n, i, e)
			}
		}
	}
}

func TestNewBelowOne(t *testing.T) {
	for _, n := range []int{0, -1, -2, -64, math.MinInt32, -1 << 32, 1 - 1<<40, math.MinInt + 1, math.MinInt} {
		if l := New(n); len(l) != 0 {
			t.Errorf("%d: %d blocks", n, len(l))
		}
	}
}

// More than an answer can be is beyond what is promised; it is no panic either.
func TestNewBeyondAll(t *testing.T) {
	for _, n := range []int{mostEntries + 1, math.MaxInt32, 1 << 32, 1 << 57, 1 << 60, math.MaxInt - 1, math.MaxInt} {
		if l := New(n); len(l) != 0 {
			t.Errorf("%d: %d blocks", n, len(l))
		}
	}
	if most := math.MaxInt32 / 72; mostEntries != most {
		t.Errorf("at most %d, want %d", mostEntries, most)
	}
}

// P12.1: Load.

func TestLoadKnown(t *testing.T) {
	l := numbered(4)
	for _, x := range []struct {
		reads, writes []int
		want          []int
	}{
		{nil, nil, nil},
		{[]int{0}, nil, []int{0}},
		{[]int{3}, nil, []int{3}},
		{nil, []int{0}, []int{0}},
		{nil, []int{3}, []int{3}},
		{[]int{2}, []int{1}, []int{2, 1}},
		{[]int{1}, []int{2}, []int{1, 2}},
		{[]int{1, 3}, []int{0, 2}, []int{1, 3, 0, 2}},
		{[]int{0, 2}, []int{1, 3}, []int{0, 2, 1, 3}},
		{[]int{0, 1, 2, 3}, nil, []int{0, 1, 2, 3}},
		{nil, []int{0, 1, 2, 3}, []int{0, 1, 2, 3}},
	} {
		c := may(t, api.Command{Reads: x.reads, Writes: x.writes, Fuel: 1, Code: code(t, "end")}, 4)
		var want []api.Block
		for _, i := range x.want {
			want = append(want, l[i].Cells)
		}
		if got := Load(l, c); !slices.Equal(got, want) {
			t.Errorf("%v, %v: %v, want %v", x.reads, x.writes, got, want)
		}
	}
}

func TestLoadByRule(t *testing.T) {
	each(t, func(l []api.Entry, c api.Command) {
		if got, want := Load(l, c), loaded(l, c); !slices.Equal(got, want) {
			t.Fatalf("%v: %v, want %v", c, got, want)
		}
	})
}

// The cells alone are loaded: who wrote them doesn't count, nor what the
// command is like otherwise.
func TestLoadLooksAtNothingElse(t *testing.T) {
	l, c := numbered(5), of(t, 9, "end", 1, 2)
	want := loaded(l, c)
	for i := range l {
		l[i].Seq = -5
	}
	c.Args, c.Fuel, c.Code = nil, 1, code(t, "push 3 put 1 0 stop")
	if got := Load(l, c); !slices.Equal(got, want) {
		t.Errorf("%v, want %v", got, want)
	}
}

// P12.1: Store.

func TestStoreKnown(t *testing.T) {
	own, put := blocks(4), func(places map[int]int) []api.Entry {
		l := numbered(4)
		for place, of := range places {
			l[place] = api.Entry{Cells: blocks(4)[of], Seq: 9}
		}
		return l
	}
	for _, x := range []struct {
		reads, writes []int
		want          []api.Entry
	}{
		{nil, nil, put(nil)},
		{[]int{0, 1, 2, 3}, nil, put(nil)},
		{nil, []int{0}, put(map[int]int{0: 0})},
		{nil, []int{3}, put(map[int]int{3: 0})},
		{nil, []int{0, 3}, put(map[int]int{0: 0, 3: 1})},
		{[]int{0}, []int{3}, put(map[int]int{3: 1})},
		{[]int{3}, []int{0}, put(map[int]int{0: 1})},
		{[]int{1, 2}, []int{0, 3}, put(map[int]int{0: 2, 3: 3})},
		{[]int{0, 3}, []int{1, 2}, put(map[int]int{1: 2, 2: 3})},
		{[]int{2}, []int{0, 1, 3}, put(map[int]int{0: 1, 1: 2, 3: 3})},
		{nil, []int{0, 1, 2, 3}, put(map[int]int{0: 0, 1: 1, 2: 2, 3: 3})},
	} {
		c := may(t, api.Command{Reads: x.reads, Writes: x.writes, Fuel: 1, Code: code(t, "end")}, 4)
		if got := Store(numbered(4), c, own[:len(x.reads)+len(x.writes)], 9); !slices.Equal(got, x.want) {
			t.Errorf("%v, %v: %v, want %v", x.reads, x.writes, got, x.want)
		}
	}
}

func TestStoreByRule(t *testing.T) {
	each(t, func(l []api.Entry, c api.Command) {
		own := blocks(len(c.Reads) + len(c.Writes))
		for _, seq := range numbers {
			if got, want := Store(l, c, own, seq), stored(l, c, own, seq); !slices.Equal(got, want) {
				t.Fatalf("%v, %d: %v, want %v", c, seq, got, want)
			}
		}
	})
}

// Store doesn't look at how the command would end, nor at what it would put.
func TestStoreLooksAtNothingElse(t *testing.T) {
	l, own := numbered(5), blocks(3)
	want := stored(l, of(t, 9, "end"), own, 12)
	for _, text := range []string{"stop", "push 1 push 0 div keep 0 end", "push 3 put 1 0 end"} {
		for fuel := 1; fuel < 9; fuel++ {
			if got := Store(l, of(t, fuel, text), own, 12); !slices.Equal(got, want) {
				t.Errorf("%q, %d: %v, want %v", text, fuel, got, want)
			}
		}
	}
}

// Of Reads nothing is stored, though their own blocks have changed.
func TestStoreLeavesReads(t *testing.T) {
	each(t, func(l []api.Entry, c api.Command) {
		got := Store(l, c, blocks(len(c.Reads)+len(c.Writes)), 5)
		for _, i := range c.Reads {
			if got[i] != l[i] {
				t.Fatalf("%v: block %d is %v, and was %v", c, i, got[i], l[i])
			}
		}
	})
}

// What was loaded and is stored again: other numbers of commands, no other
// cells.
func TestLoadAndStore(t *testing.T) {
	each(t, func(l []api.Entry, c api.Command) {
		got := Store(l, c, Load(l, c), 5)
		for i, e := range got {
			want := l[i]
			if slices.Contains(c.Writes, i) {
				want.Seq = 5
			}
			if e != want {
				t.Fatalf("%v: block %d is %v, want %v", c, i, e, want)
			}
		}
	})
}

// P12.1: Apply.

func TestApplyKnown(t *testing.T) {
	// get 0 is block 3, put 1 and put 2 go to blocks 1 and 4.
	for _, x := range []struct {
		text string
		fuel int
		told api.Errno
		out  []int
		put  func(l []api.Entry)
	}{
		{"end", 1, api.OK, nil, func(l []api.Entry) { l[1].Seq, l[4].Seq = 6, 6 }},
		{"get 0 2 arg 0 add put 1 7 end", 5, api.OK, nil, func(l []api.Entry) {
			l[1].Cells[7], l[1].Seq, l[4].Seq = 4002+11, 6, 6
		}},
		{"get 1 0 put 2 0 get 2 0 emit end", 9, api.OK, []int{2000}, func(l []api.Entry) {
			l[4].Cells[0], l[1].Seq, l[4].Seq = 2000, 6, 6
		}},
		{"push 3 put 1 0 push 4 put 2 1 push 5 emit push 5 emit end", 9, api.OK, []int{5, 5}, func(l []api.Entry) {
			l[1].Cells[0], l[4].Cells[1], l[1].Seq, l[4].Seq = 3, 4, 6, 6
		}},
		{"push 3 put 1 0 push 4 put 2 1 push 5 emit push 5 emit end", 8, api.ErrFuel, nil, func([]api.Entry) {}},
		{"push 3 put 1 0 push 4 put 2 1 push 5 emit stop", 99, api.ErrStop, nil, func([]api.Entry) {}},
		{"push 3 put 1 0 push 4 put 2 1 push 5 emit push 0 push 0 div emit end", 99, api.ErrZero, nil, func([]api.Entry) {}},
		{"stop", 1, api.ErrStop, nil, func([]api.Entry) {}},
	} {
		want := numbered(5)
		x.put(want)
		l, r := Apply(numbered(5), of(t, x.fuel, x.text, 11), 6)
		if !slices.Equal(l, want) {
			t.Errorf("%q: %v, want %v", x.text, l, want)
		}
		if wr := (api.Result{Seq: 6, Told: x.told, Out: x.out}); !sameResult(r, wr) {
			t.Errorf("%q: %v, want %v", x.text, r, wr)
		}
	}
}

func TestApplyByRule(t *testing.T) {
	told := map[api.Errno]int{}
	each(t, func(l []api.Entry, c api.Command) {
		for _, seq := range numbers {
			want, wr := applied(l, c, seq)
			if got, r := Apply(l, c, seq); !slices.Equal(got, want) || !sameResult(r, wr) {
				t.Fatalf("%v, %d: %v, %v, want %v, %v", c, seq, got, r, want, wr)
			}
			told[wr.Told]++
		}
	})
	for _, e := range []api.Errno{api.OK, api.ErrFuel, api.ErrZero, api.ErrStop} {
		if told[e] < 20 {
			t.Errorf("%d is told %d times: too few to be of use", e, told[e])
		}
	}
}

// A command of no blocks, also on a table of none: only its result tells.
func TestApplyWithoutBlocks(t *testing.T) {
	c := may(t, api.Command{Args: []int{4}, Fuel: 3, Code: code(t, "arg 0 emit end")}, 0)
	for _, many := range []int{0, 1, 3} {
		l, r := Apply(numbered(many), c, 2)
		if !slices.Equal(l, numbered(many)) || !sameResult(r, api.Result{Seq: 2, Out: []int{4}}) {
			t.Errorf("%d: %v, %v", many, l, r)
		}
	}
}

// Commands one behind the other: each sees what those ahead of it have left,
// and nothing of one that didn't end well.
func TestApplyInOrder(t *testing.T) {
	adds := may(t, api.Command{Writes: []int{0}, Args: []int{5}, Fuel: 9, Code: code(t, "get 0 0 arg 0 add put 0 0 get 0 0 emit end")}, 2)
	stops := may(t, api.Command{Writes: []int{0}, Fuel: 9, Code: code(t, "push 77 put 0 0 stop")}, 2)
	moves := may(t, api.Command{Reads: []int{0}, Writes: []int{1}, Fuel: 9, Code: code(t, "get 0 0 put 1 3 end")}, 2)
	l, out := New(2), []int(nil)
	for i, c := range []api.Command{adds, adds, stops, moves, adds, stops} {
		var r api.Result
		l, r = Apply(l, c, i+1)
		out = append(out, r.Out...)
	}
	want := []api.Entry{{Cells: api.Block{15}, Seq: 5}, {Cells: api.Block{3: 10}, Seq: 4}}
	if !slices.Equal(l, want) || !slices.Equal(out, []int{5, 10, 15}) {
		t.Errorf("%v, %v", l, out)
	}
}

// P12.2: all of a command, or nothing. With whatever fuel: as it was, or as with
// all the fuel there may be; no block in between.
func TestAllOrNothing(t *testing.T) {
	each(t, func(l []api.Entry, c api.Command) {
		full := c
		full.Fuel = api.MaxFuel
		all, wr := Apply(l, full, 5)
		got, r := Apply(l, c, 5)
		switch {
		case r.Told == api.OK && (wr.Told != api.OK || !slices.Equal(got, all) || !slices.Equal(r.Out, wr.Out)):
			t.Fatalf("%v: %v, want all: %v", c, got, all)
		case r.Told != api.OK && (!slices.Equal(got, l) || len(r.Out) != 0):
			t.Fatalf("%v: %v, want nothing: %v", c, got, l)
		}
		for i, e := range got {
			written := r.Told == api.OK && slices.Contains(c.Writes, i)
			if (e.Seq == 5) != written || !written && e != l[i] {
				t.Fatalf("%v: block %d is %v, and was %v", c, i, e, l[i])
			}
		}
	})
}

// Each fuel of one command that writes eight blocks: there is one from which on
// all of them are written.
func TestAllOrNothingByFuel(t *testing.T) {
	c := api.Command{Writes: []int{0, 1, 2, 3, 4, 5, 6, 7}, Args: []int{1}}
	c.Code = code(t, busy(c, "end"))
	for fuel := 1; fuel <= api.MaxFuel; fuel++ {
		c.Fuel = fuel
		l, r := Apply(New(8), may(t, c, 8), 3)
		whole := 0
		for _, e := range l {
			if e.Seq == 3 && e.Cells != (api.Block{}) {
				whole++
			} else if e != (api.Entry{}) {
				t.Fatalf("fuel %d: %v", fuel, l)
			}
		}
		enough := fuel >= len(c.Code)
		if enough != (r.Told == api.OK) || enough != (whole == 8) || !enough && whole != 0 {
			t.Errorf("fuel %d: %v, %v", fuel, l, r)
		}
	}
}

// Of a command that may not be, or whose blocks aren't there, nothing is asked;
// it is no panic either (P1), no table of another length, and, as far as it
// changes anything, all of it.

func anyNumber(r *rand.Rand) int {
	if r.Intn(4) > 0 {
		return r.Intn(12) - 3
	}
	return []int{math.MaxInt, math.MinInt, 1 << 32, int(r.Uint64())}[r.Intn(4)]
}

func anyList(r *rand.Rand) []int {
	l := make([]int, r.Intn(5))
	for i := range l {
		l[i] = anyNumber(r)
	}
	return l
}

// anything is a command that hardly may be.
func anything(r *rand.Rand) api.Command {
	c := api.Command{Reads: anyList(r), Writes: anyList(r), Args: anyList(r), Fuel: r.Intn(40) - 3}
	for range r.Intn(9) {
		c.Code = append(c.Code, api.Instr{Op: r.Intn(21) - 1, A: anyNumber(r), B: anyNumber(r)})
	}
	return c
}

// seen are the places of a list that a table has.
func seen(l []api.Entry, places []int) int {
	many := 0
	for _, i := range places {
		if i >= 0 && i < len(l) {
			many++
		}
	}
	return many
}

// written are the blocks whose entry is by that command.
func written(l []api.Entry, seq int) []int {
	var places []int
	for i, e := range l {
		if e.Seq == seq {
			places = append(places, i)
		}
	}
	return places
}

func TestAnything(t *testing.T) {
	r := rand.New(rand.NewSource(1))
	ways := [2]int{}
	for range 30000 {
		l, c, own := numbered(r.Intn(9)), anything(r), blocks(r.Intn(9))
		loads := Load(l, c)
		if len(loads) != len(c.Reads)+len(c.Writes) {
			t.Fatalf("%v: %d own blocks", c, len(loads))
		}
		for _, answer := range [][]api.Entry{Store(l, c, own, 5), first(Apply(l, c, 5))} {
			if len(answer) != len(l) {
				t.Fatalf("%v: %d blocks, and there were %d", c, len(answer), len(l))
			}
			places := written(answer, 5)
			if len(places) == 0 {
				ways[0]++
				continue
			}
			ways[1]++
			if all := slices.Compact(slices.Sorted(slices.Values(c.Writes))); seen(l, c.Writes) < len(c.Writes) || !slices.Equal(places, all) {
				t.Fatalf("%v: written are %v", c, places)
			}
		}
	}
	if ways[0] < 500 || ways[1] < 500 {
		t.Errorf("%v: too few to be of use", ways)
	}
}

func first[A, B any](a A, _ B) A { return a }

// A block that isn't there: noughts, and the others at their places.
func TestLoadOfNoBlock(t *testing.T) {
	l := numbered(3)
	for _, i := range []int{-1, 3, 4, math.MaxInt, math.MinInt, 1 << 32} {
		c := api.Command{Reads: []int{0, i, 1}, Writes: []int{i, 2}}
		want := []api.Block{l[0].Cells, {}, l[1].Cells, {}, l[2].Cells}
		if got := Load(l, c); !slices.Equal(got, want) {
			t.Errorf("%d: %v, want %v", i, got, want)
		}
		if got := Load(nil, c); !slices.Equal(got, make([]api.Block, 5)) {
			t.Errorf("%d, of none: %v", i, got)
		}
	}
}

// Where one of Writes has no place: nothing of it, wherever that one stands.
func TestStoreToNoBlock(t *testing.T) {
	l := numbered(3)
	for _, i := range []int{-1, 3, 4, math.MaxInt, math.MinInt, 1 << 32} {
		for _, writes := range [][]int{{i}, {0, i}, {i, 0}, {0, 1, i, 2}} {
			c := api.Command{Writes: writes, Fuel: 9, Code: code(t, "push 5 put 0 0 end")}
			if got := Store(l, c, blocks(len(writes)), 5); !slices.Equal(got, l) {
				t.Errorf("%v: %v", writes, got)
			}
			if got, _ := Apply(l, c, 5); !slices.Equal(got, l) {
				t.Errorf("apply of %v: %v", writes, got)
			}
		}
	}
}

// Where own blocks are missing: nothing; where there are more: the first ones.
func TestStoreOfOtherCounts(t *testing.T) {
	l, c := numbered(5), of(t, 9, "end")
	for many := range 3 {
		if got := Store(l, c, blocks(many), 5); !slices.Equal(got, l) {
			t.Errorf("%d own blocks: %v", many, got)
		}
	}
	want := stored(l, c, blocks(3), 5)
	for many := 3; many < 6; many++ {
		if got := Store(l, c, blocks(many), 5); !slices.Equal(got, want) {
			t.Errorf("%d own blocks: %v, want %v", many, got, want)
		}
	}
	reads := api.Command{Reads: []int{0, 1}}
	if got := Store(l, reads, nil, 5); !slices.Equal(got, l) {
		t.Errorf("of no writes: %v", got)
	}
}

// The rules that hold everywhere.

// roomy is a list's copy in front of spare room, which is told beside it.
func roomy[T any](l []T, spare ...T) (list, all []T) {
	all = slices.Concat(l, spare)
	return all[:len(l)], all
}

// Rule 3: what is handed in is as it was, its spare room too.
func TestGivenStays(t *testing.T) {
	each(t, func(l []api.Entry, c api.Command) {
		was := api.Command{Args: slices.Clone(c.Args), Code: slices.Clone(c.Code)}
		reads, allReads := roomy(c.Reads, 94, 95, 96, 97)
		writes, allWrites := roomy(c.Writes, 94, 95, 96, 97)
		thenReads, thenWrites := slices.Clone(allReads), slices.Clone(allWrites)
		c.Reads, c.Writes = reads, writes
		l, all := roomy(l, api.Entry{Seq: 96}, api.Entry{Seq: 97})
		own, allOwn := roomy(blocks(len(reads)+len(writes)), api.Block{96}, api.Block{97})
		then, thenOwn := slices.Clone(all), slices.Clone(allOwn)
		Load(l, c)
		Store(l, c, own, 5)
		Apply(l, c, 5)
		if !slices.Equal(all, then) || !slices.Equal(allOwn, thenOwn) {
			t.Fatalf("%v: %v, %v", c, all, allOwn)
		}
		if !slices.Equal(allReads, thenReads) || !slices.Equal(allWrites, thenWrites) || !slices.Equal(c.Args, was.Args) || !slices.Equal(c.Code, was.Code) {
			t.Fatalf("%v: %v, %v", c, allReads, allWrites)
		}
	})
}

// spoil writes over all that a list holds, its spare room too.
func spoil[T any](l []T, with T) {
	l = l[:cap(l)]
	for i := range l {
		l[i] = with
	}
}

// Rule 3: an answer is new memory: whoever writes into one changes neither what
// was handed in nor another answer, nor does a later change of what was.
func TestAnswersAreTheirOwn(t *testing.T) {
	odd := api.Entry{Cells: api.Block{-999, -999}, Seq: -999}
	each(t, func(l []api.Entry, c api.Command) {
		was, own := slices.Clone(l), blocks(len(c.Reads)+len(c.Writes))
		wantOwn, wantStored := loaded(l, c), stored(l, c, own, 5)
		wantApplied, wantResult := applied(l, c, 5)
		wantApplied = slices.Clone(wantApplied)

		spoil(Load(l, c), odd.Cells)
		spoil(Store(l, c, own, 5), odd)
		spoiled, r := Apply(l, c, 5)
		spoil(spoiled, odd)
		spoil(r.Out, -999)
		if !slices.Equal(l, was) || !slices.Equal(own, blocks(len(own))) || !slices.Equal(c.Args, []int{5000000}) {
			t.Fatalf("%v: %v, %v", c, l, own)
		}

		gotOwn, gotStored := Load(l, c), Store(l, c, own, 5)
		gotApplied, gotResult := Apply(l, c, 5)
		spoil(l, odd)
		spoil(own, odd.Cells)
		if !slices.Equal(gotOwn, wantOwn) || !slices.Equal(gotStored, wantStored) || !slices.Equal(gotApplied, wantApplied) || !sameResult(gotResult, wantResult) {
			t.Fatalf("%v: %v, %v, %v, %v", c, gotOwn, gotStored, gotApplied, gotResult)
		}
	})
}

// Also where nothing can be stored: the answer isn't the table itself.
func TestAnswersAreTheirOwnOfNothing(t *testing.T) {
	l := numbered(3)
	c := api.Command{Writes: []int{0, 3}, Fuel: 9, Code: code(t, "end")}
	applied, _ := Apply(l, c, 5)
	for _, answer := range [][]api.Entry{Store(l, c, blocks(2), 5), Store(l, c, nil, 5), applied} {
		spoil(answer, api.Entry{Seq: -999})
	}
	if !slices.Equal(l, numbered(3)) {
		t.Errorf("%v", l)
	}
}

func TestNewIsItsOwn(t *testing.T) {
	spoil(New(3), api.Entry{Seq: -999})
	if l := New(3); !slices.Equal(l, make([]api.Entry, 3)) {
		t.Errorf("%v", l)
	}
}

// Rule 2: a list that holds nothing may be nil or empty.
func TestNilOrEmpty(t *testing.T) {
	end := code(t, "push 4 emit end")
	c := may(t, api.Command{Fuel: 4, Code: end}, 0)
	d := may(t, api.Command{Reads: []int{}, Writes: []int{}, Args: []int{}, Fuel: 4, Code: end}, 0)
	for _, l := range [][]api.Entry{nil, {}} {
		for _, x := range []api.Command{c, d} {
			got, r := Apply(l, x, 3)
			if len(Load(l, x)) != 0 || len(Store(l, x, nil, 3)) != 0 || len(Store(l, x, []api.Block{}, 3)) != 0 || len(got) != 0 {
				t.Errorf("%v, %v: %v", l, x, got)
			}
			if !sameResult(r, api.Result{Seq: 3, Out: []int{4}}) {
				t.Errorf("%v, %v: %v", l, x, r)
			}
		}
	}
}

// Rules 4 and 6: a call hangs on its arguments alone, whoever calls beside it.
func TestManyCallAtOnce(t *testing.T) {
	c, stops := of(t, 20, "get 0 1 arg 0 add put 1 1 get 1 1 emit end", 6), of(t, 20, "push 1 put 1 1 stop")
	l, own := numbered(5), blocks(3)
	wantOwn, wantStored := loaded(l, c), stored(l, c, own, 8)
	want, wr := applied(l, c, 8)
	var wg sync.WaitGroup
	for range 8 {
		wg.Go(func() {
			for range 200 {
				got, r := Apply(l, c, 8)
				left, _ := Apply(l, stops, 9)
				if !slices.Equal(got, want) || !sameResult(r, wr) || !slices.Equal(left, l) || len(New(4)) != 4 {
					t.Errorf("%v, %v, %v", got, r, left)
				}
				if !slices.Equal(Load(l, c), wantOwn) || !slices.Equal(Store(l, c, own, 8), wantStored) {
					t.Errorf("%v, %v", Load(l, c), Store(l, c, own, 8))
				}
			}
		})
	}
	wg.Wait()
}
