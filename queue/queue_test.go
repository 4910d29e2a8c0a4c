package queue

import (
	"math"
	"math/rand"
	"slices"
	"sync"
	"testing"

	"foreman/api"
)

// The chapter's words, written anew: who has it is told one by one.

// whoHas tells of each one of a list whether it has the block.
func whoHas(l []api.Want) []bool {
	has := make([]bool, len(l))
	for i := range l {
		switch {
		case i == 0:
			has[i] = true
		case l[i].Excl:
		case has[i-1] && !l[i-1].Excl:
			has[i] = true
		}
	}
	return has
}

// says is a list's copy, of which Has says who has it.
func says(l []api.Want) []api.Want {
	l = slices.Clone(l)
	for i, has := range whoHas(l) {
		l[i].Has = has
	}
	return l
}

// asked is Ask in the chapter's words.
func asked(l []api.Want, seq int, excl bool) []api.Want {
	more := make([]api.Want, len(l)+1)
	copy(more, l)
	more[len(l)].Seq, more[len(l)].Excl = seq, excl
	return says(more)
}

// given is Give in the chapter's words.
func given(l []api.Want, seq int) []api.Want {
	var rest []api.Want
	for _, w := range l {
		if w.Seq != seq {
			rest = append(rest, w)
		}
	}
	return says(rest)
}

// hasIt is Has in the chapter's words.
func hasIt(l []api.Want, seq int) bool {
	for i, has := range whoHas(l) {
		if has && l[i].Seq == seq {
			return true
		}
	}
	return false
}

// of is a list of which each letter asks, numbered from 1 on: r to read, w to
// write; a capital letter's Has is set.
func of(letters string) []api.Want {
	l := make([]api.Want, len(letters))
	for i, c := range letters {
		l[i] = api.Want{Seq: i + 1, Excl: c == 'w' || c == 'W', Has: c == 'R' || c == 'W'}
	}
	return l
}

// each hands all lists of at most three, of three numbers, that write or don't,
// whatever their Has tells; and all of four and of five whose Has is never set,
// and whose numbers are so few that they meet.
func each(do func(l []api.Want)) {
	var more func(l []api.Want, rest, numbers, has int)
	more = func(l []api.Want, rest, numbers, has int) {
		if rest == 0 {
			do(slices.Clone(l))
			return
		}
		for seq := range numbers {
			for bits := range 2 * has {
				w := api.Want{Seq: seq + 1, Excl: bits&1 == 1, Has: bits&2 == 2}
				more(append(slices.Clone(l), w), rest-1, numbers, has)
			}
		}
	}
	for many := range 4 {
		more(nil, many, 3, 2)
	}
	more(nil, 4, 3, 1)
	more(nil, 5, 2, 1)
}

// The numbers to ask for: those of each's lists, and others.
var numbers = []int{1, 2, 3, 0, 4, -1, 1<<32 + 1, math.MaxInt, math.MinInt}

// Numbers may be any, the ends of their type too; no two of these are one.
var ends = []int{0, 1, -1, 2, 1 << 31, 1 << 32, 1<<32 + 1, -1 << 32, math.MaxInt32, math.MinInt32, math.MaxUint32, math.MaxInt, math.MinInt, math.MaxInt - 1, math.MinInt + 1}

// P14.1: Ask.

func TestAskKnown(t *testing.T) {
	for _, x := range []struct {
		l    string
		excl bool
		want string
	}{
		{"", false, "R"},
		{"", true, "W"},
		{"R", false, "RR"},
		{"R", true, "Rw"},
		{"W", false, "Wr"},
		{"W", true, "Ww"},
		{"RR", false, "RRR"},
		{"RR", true, "RRw"},
		{"Rw", false, "Rwr"},
		{"Rw", true, "Rww"},
		{"Wr", false, "Wrr"},
		{"Wr", true, "Wrw"},
		{"RRw", false, "RRwr"},
		{"Wrr", false, "Wrrr"},
		{"RRRRwr", true, "RRRRwrw"},
		// Has isn't as it must be: it is so in the answer.
		{"r", false, "RR"},
		{"w", false, "Wr"},
		{"rr", true, "RRw"},
		{"WR", false, "Wrr"},
		{"RWR", false, "Rwrr"},
		{"wRWR", true, "Wrwrw"},
	} {
		if got := Ask(of(x.l), len(x.l)+1, x.excl); !slices.Equal(got, of(x.want)) {
			t.Errorf("%q, %t: %v, want %v", x.l, x.excl, got, of(x.want))
		}
	}
}

func TestAskByRule(t *testing.T) {
	ways := [2]int{}
	each(func(l []api.Want) {
		for _, seq := range numbers {
			for _, excl := range []bool{false, true} {
				want := asked(l, seq, excl)
				if got := Ask(l, seq, excl); !slices.Equal(got, want) {
					t.Fatalf("%v, %d, %t: %v, want %v", l, seq, excl, got, want)
				}
				if want[len(l)].Has {
					ways[0]++
				} else {
					ways[1]++
				}
			}
		}
	})
	if ways[0] < 1000 || ways[1] < 1000 {
		t.Errorf("%v: too few to be of use", ways)
	}
}

// One that is there already is there once more.
func TestAskAgain(t *testing.T) {
	l := Ask(Ask(Ask(nil, 7, false), 7, false), 7, true)
	want := []api.Want{{Seq: 7, Has: true}, {Seq: 7, Has: true}, {Seq: 7, Excl: true}}
	if !slices.Equal(l, want) || !Has(l, 7) || len(Give(l, 7)) != 0 {
		t.Errorf("%v, want %v", l, want)
	}
}

// In order of asking, not of numbers.
func TestAskInOrder(t *testing.T) {
	var l []api.Want
	for _, seq := range []int{9, 3, 11, -4, 7} {
		l = Ask(l, seq, seq == 11)
	}
	want := []api.Want{{Seq: 9, Has: true}, {Seq: 3, Has: true}, {Seq: 11, Excl: true}, {Seq: -4}, {Seq: 7}}
	if !slices.Equal(l, want) {
		t.Errorf("%v, want %v", l, want)
	}
}

// P14.1: Give.

func TestGiveKnown(t *testing.T) {
	read := func(seq int, has bool) api.Want { return api.Want{Seq: seq, Has: has} }
	write := func(seq int, has bool) api.Want { return api.Want{Seq: seq, Excl: true, Has: has} }
	for _, x := range []struct {
		l    string
		seq  int
		want []api.Want
	}{
		{"", 1, nil},
		{"R", 1, nil},
		{"W", 1, nil},
		{"R", 2, of("R")},
		{"W", 0, of("W")},
		// A reader goes: others that have it go on.
		{"RRw", 1, []api.Want{read(2, true), write(3, false)}},
		{"RRw", 2, []api.Want{read(1, true), write(3, false)}},
		// The last reader goes: the writer has it.
		{"Rw", 1, []api.Want{write(2, true)}},
		{"Rwr", 1, []api.Want{write(2, true), read(3, false)}},
		{"Rww", 1, []api.Want{write(2, true), write(3, false)}},
		// The writer goes: all readers behind it, up to the next writer; or that.
		{"Wr", 1, []api.Want{read(2, true)}},
		{"Wrrwr", 1, []api.Want{read(2, true), read(3, true), write(4, false), read(5, false)}},
		{"Ww", 1, []api.Want{write(2, true)}},
		{"Wwr", 1, []api.Want{write(2, true), read(3, false)}},
		// One goes that waits: those behind it may have it now.
		{"Rwr", 2, []api.Want{read(1, true), read(3, true)}},
		{"Rwrrw", 2, []api.Want{read(1, true), read(3, true), read(4, true), write(5, false)}},
		{"Rwwr", 2, []api.Want{read(1, true), write(3, false), read(4, false)}},
		{"Wwr", 2, []api.Want{write(1, true), read(3, false)}},
		{"Wrw", 3, []api.Want{write(1, true), read(2, false)}},
		// Has isn't as it must be: it is so in the answer, also if nobody goes.
		{"rWR", 4, []api.Want{read(1, true), write(2, false), read(3, false)}},
		{"rrW", 3, []api.Want{read(1, true), read(2, true)}},
		{"wWR", 1, []api.Want{write(2, true), read(3, false)}},
	} {
		if got := Give(of(x.l), x.seq); !slices.Equal(got, x.want) {
			t.Errorf("%q, %d: %v, want %v", x.l, x.seq, got, x.want)
		}
	}
}

func TestGiveByRule(t *testing.T) {
	ways := [3]int{}
	each(func(l []api.Want) {
		for _, seq := range numbers {
			want := given(l, seq)
			if got := Give(l, seq); !slices.Equal(got, want) {
				t.Fatalf("%v, %d: %v, want %v", l, seq, got, want)
			}
			ways[min(2, len(l)-len(want))]++
		}
	})
	if slices.Min(ways[:]) < 1000 {
		t.Errorf("%v: too few to be of use", ways)
	}
}

// All of a number go, wherever they stand; the others stay in order.
func TestGiveAll(t *testing.T) {
	l := []api.Want{{Seq: 5}, {Seq: 5, Excl: true}, {Seq: 2}, {Seq: 5}, {Seq: 9}, {Seq: 4, Excl: true}, {Seq: 5, Excl: true}, {Seq: 1}, {Seq: 5}}
	want := []api.Want{{Seq: 2, Has: true}, {Seq: 9, Has: true}, {Seq: 4, Excl: true}, {Seq: 1}}
	if got := Give(l, 5); !slices.Equal(got, want) {
		t.Errorf("%v, want %v", got, want)
	}
	for many := range 9 {
		if got := Give(slices.Repeat([]api.Want{{Seq: 5}, {Seq: 5, Excl: true}}, many), 5); len(got) != 0 {
			t.Errorf("%d: %v", many, got)
		}
	}
}

// P14.1: Has.

func TestHasKnown(t *testing.T) {
	for _, x := range []struct {
		l    string
		many int
	}{
		{"", 0}, {"R", 1}, {"W", 1}, {"RR", 2}, {"Rw", 1}, {"Wr", 1}, {"Ww", 1},
		{"RRw", 2}, {"RRwr", 2}, {"RRRR", 4}, {"RRRw", 3}, {"Rwrr", 1}, {"Wrrr", 1}, {"Wwrr", 1}, {"RRwwrr", 2},
	} {
		for seq := -2; seq < len(x.l)+3; seq++ {
			if got := Has(of(x.l), seq); got != (seq >= 1 && seq <= x.many) {
				t.Errorf("%q, %d: %t", x.l, seq, got)
			}
		}
	}
}

func TestHasByRule(t *testing.T) {
	ways := [2]int{}
	each(func(l []api.Want) {
		for _, seq := range numbers {
			want := hasIt(l, seq)
			if got := Has(l, seq); got != want {
				t.Fatalf("%v, %d: %t, want %t", l, seq, got, want)
			}
			if want {
				ways[0]++
			} else {
				ways[1]++
			}
		}
	})
	if ways[0] < 1000 || ways[1] < 1000 {
		t.Errorf("%v: too few to be of use", ways)
	}
}

// Who is there more than once has it, if one of these has it.
func TestHasOfOneThatIsThereTwice(t *testing.T) {
	for _, x := range []struct {
		l    []api.Want
		want bool
	}{
		{[]api.Want{{Seq: 8}, {Seq: 7}, {Seq: 9, Excl: true}, {Seq: 7}}, true},
		{[]api.Want{{Seq: 7}, {Seq: 9, Excl: true}, {Seq: 7, Excl: true}}, true},
		{[]api.Want{{Seq: 8, Excl: true}, {Seq: 7}, {Seq: 7, Excl: true}}, false},
		{[]api.Want{{Seq: 8}, {Seq: 7, Excl: true}, {Seq: 7}}, false},
	} {
		if got := Has(x.l, 7); got != x.want {
			t.Errorf("%v: %t", x.l, got)
		}
	}
}

// Has hangs on the order alone, whatever a list that nobody asked for tells.
func TestHasByOrder(t *testing.T) {
	for _, x := range []struct{ l, as string }{
		{"r", "R"}, {"w", "W"}, {"rr", "RR"}, {"WR", "Wr"}, {"WW", "Ww"}, {"rW", "Rw"}, {"RWR", "Rwr"}, {"rRw", "RRw"}, {"wWRR", "Wwrr"},
	} {
		for i, w := range of(x.as) {
			if got := Has(of(x.l), i+1); got != w.Has {
				t.Errorf("%q, %d: %t", x.l, i+1, got)
			}
		}
	}
}

// All three calls.

// Lists of the ends of all numbers: each is told from each other one.
func TestEnds(t *testing.T) {
	var readers []api.Want
	for _, seq := range ends {
		readers = Ask(readers, seq, false)
	}
	for i, seq := range ends {
		rest := slices.Delete(slices.Clone(readers), i, i+1)
		if got := Give(readers, seq); !slices.Equal(got, rest) || Has(got, seq) || !Has(readers, seq) {
			t.Errorf("%d: %v, want %v", seq, got, rest)
		}
		writer := Ask(nil, seq, true)
		for _, other := range ends {
			if Has(writer, other) != (other == seq) || (len(Give(writer, other)) == 0) != (other == seq) {
				t.Errorf("%v, %d: %t, %v", writer, other, Has(writer, other), Give(writer, other))
			}
		}
	}
}

// Long lists: readers alone, and with a writer at any place.
func TestLongLists(t *testing.T) {
	for _, many := range []int{31, 32, 33, 256, 1000} {
		for _, at := range []int{-1, 0, 1, 2, many / 2, many - 2, many - 1} {
			l := make([]api.Want, many)
			for i := range l {
				l[i] = api.Want{Seq: i + 1, Excl: i == at}
			}
			got, want := Give(l, 0), says(l)
			if !slices.Equal(got, want) {
				t.Errorf("%d, %d: other than by rule", many, at)
			}
			if more := Ask(l, many+1, false); !slices.Equal(more, asked(l, many+1, false)) || more[many].Has != (at < 0) {
				t.Errorf("%d, %d: %v", many, at, more[many])
			}
			for i := range l {
				if Has(l, i+1) != want[i].Has {
					t.Errorf("%d, %d: %d: %t", many, at, i+1, Has(l, i+1))
				}
			}
		}
	}
}

func TestVeryLongLists(t *testing.T) {
	l := slices.Repeat([]api.Want{{Seq: 1}, {Seq: 2}}, 100000)
	if got := Ask(l, 3, false); len(got) != 200001 || !got[200000].Has || !Has(got, 3) {
		t.Errorf("%d", len(got))
	}
	if got := Give(l, 2); len(got) != 100000 || !got[99999].Has || Has(got, 2) {
		t.Errorf("%d", len(got))
	}
	l[1].Excl = true
	if got := Give(l, 2); len(got) != 100000 || !got[99999].Has {
		t.Errorf("%d", len(got))
	}
}

// Whatever is asked and given, each list is as the chapter says of the one ahead
// of it; and some are long.
func TestAnyhow(t *testing.T) {
	r := rand.New(rand.NewSource(1))
	longest := 0
	for round := range 500 {
		var l []api.Want
		for range 100 {
			seq, excl := r.Intn(1+round%40), r.Intn(1+round%7) == 1
			want := asked(l, seq, excl)
			if r.Intn(3) == 0 {
				want = given(l, seq)
				l = Give(l, seq)
			} else {
				l = Ask(l, seq, excl)
			}
			if !slices.Equal(l, want) || Has(l, seq) != hasIt(want, seq) {
				t.Fatalf("%d: %v, want %v", seq, l, want)
			}
			longest = max(longest, len(l))
		}
	}
	if longest < 50 {
		t.Errorf("%d: too few to be of use", longest)
	}
}

// P14.2: a writer has it alone.

// alone tells whether a list is so: as Has tells, and as the call does.
func alone(l []api.Want) bool {
	var have, writers int
	for _, w := range l {
		if w.Has {
			have++
		}
		if w.Has && w.Excl {
			writers++
		}
	}
	return writers == 0 || have == 1
}

// In all lists that are asked for, whatever was handed in.
func TestWriterAlone(t *testing.T) {
	writers := 0
	each(func(l []api.Want) {
		for _, seq := range numbers[:4] {
			for _, got := range [][]api.Want{Ask(l, seq, false), Ask(l, seq, true), Give(l, seq)} {
				if !alone(got) {
					t.Fatalf("%v, %d: %v", l, seq, got)
				}
				if len(got) > 1 && got[0].Excl {
					writers++
				}
			}
		}
	})
	if writers < 1000 {
		t.Errorf("%d: too few to be of use", writers)
	}
}

// By the call: of numbers that are there once, beside a writer that has it
// nobody has it, also of lists that nobody asked for.
func TestWriterAloneByCall(t *testing.T) {
	for bits := range 1 << 10 {
		l := make([]api.Want, 5)
		for i := range l {
			l[i] = api.Want{Seq: i + 1, Excl: bits>>i&1 == 1, Has: bits>>(5+i)&1 == 1}
		}
		for i := range l {
			l[i].Has = Has(l, i+1)
		}
		if !alone(l) {
			t.Fatalf("%v", l)
		}
	}
}

// Where somebody waits, somebody has it; who gives it, in order of having it,
// makes room for all, each in turn, and for nobody ahead of its turn.
func TestEachInTurn(t *testing.T) {
	for bits := range 1 << 8 {
		var l []api.Want
		for i := range 8 {
			l = Ask(l, i+1, bits>>i&1 == 1)
		}
		for seq := 1; seq <= 8; seq++ {
			if len(l) != 9-seq || !Has(l, seq) || !alone(l) {
				t.Fatalf("%b, %d: %v", bits, seq, l)
			}
			for i := 1; i < len(l); i++ {
				if l[i].Has && !l[i-1].Has {
					t.Fatalf("%b, %d: %v has it ahead of its turn", bits, seq, l[i])
				}
			}
			l = Give(l, seq)
		}
		if len(l) != 0 {
			t.Fatalf("%b: %v", bits, l)
		}
	}
}

// Who has it has it until it gives it, whoever else asks and gives.
func TestHadUntilGiven(t *testing.T) {
	r := rand.New(rand.NewSource(2))
	for range 500 {
		var l []api.Want
		for next := 1; next < 60; next++ {
			was := l
			gone := 0
			if len(l) > 0 && r.Intn(2) == 0 {
				gone = l[r.Intn(len(l))].Seq
				l = Give(l, gone)
			} else {
				l = Ask(l, next, r.Intn(3) == 0)
			}
			for _, w := range was {
				if Has(was, w.Seq) && w.Seq != gone && !Has(l, w.Seq) {
					t.Fatalf("%v has it no more: %v, and it was %v", w, l, was)
				}
			}
		}
	}
}

// The chapter's example, and the whole's tenth: two readers, and a writer.
func TestExample(t *testing.T) {
	l := Ask(Ask(Ask(nil, 1, false), 2, false), 3, true)
	if !Has(l, 1) || !Has(l, 2) || Has(l, 3) {
		t.Errorf("%v", l)
	}
	if l = Give(l, 1); Has(l, 1) || !Has(l, 2) || Has(l, 3) {
		t.Errorf("%v", l)
	}
	if l = Give(l, 2); Has(l, 2) || !Has(l, 3) {
		t.Errorf("%v", l)
	}
}

// The rules that hold everywhere.

// Rule 3: what is handed in is as it was, its spare room too.
func TestGivenStays(t *testing.T) {
	each(func(l []api.Want) {
		all := slices.Concat(l, []api.Want{{Seq: 96}, {Seq: 97, Excl: true, Has: true}})
		then := slices.Clone(all)
		l = all[:len(l)]
		for _, seq := range numbers[:4] {
			Ask(l, seq, false)
			Ask(l, seq, true)
			Give(l, seq)
			Has(l, seq)
		}
		if !slices.Equal(all, then) {
			t.Fatalf("%v, and it was %v", all, then)
		}
	})
}

// spoil writes over all that a list holds, its spare room too.
func spoil(l []api.Want) {
	l = l[:cap(l)]
	for i := range l {
		l[i] = api.Want{Seq: -999, Excl: !l[i].Excl, Has: !l[i].Has}
	}
}

// Rule 3: an answer is new memory, also where nobody goes: whoever writes into
// one changes neither what was handed in nor another answer, nor does a later
// change of what was.
func TestAnswersAreTheirOwn(t *testing.T) {
	each(func(l []api.Want) {
		was := slices.Clone(l)
		for _, seq := range numbers[:4] {
			wantAsked, wantGiven := asked(l, seq, true), given(l, seq)
			spoil(Ask(l, seq, true))
			spoil(Give(l, seq))
			if !slices.Equal(l, was) {
				t.Fatalf("%v, and it was %v", l, was)
			}
			gotAsked, gotGiven := Ask(l, seq, true), Give(l, seq)
			spoil(l)
			if !slices.Equal(gotAsked, wantAsked) || !slices.Equal(gotGiven, wantGiven) {
				t.Fatalf("%v, %d: %v, %v", was, seq, gotAsked, gotGiven)
			}
			copy(l, was)
		}
	})
}

// An older list may be gone on with, in two ways, also where it has spare room.
func TestOlderLists(t *testing.T) {
	var l []api.Want
	for seq := 1; seq < 20; seq++ {
		l = Ask(l, seq, seq%5 == 0)
		was := slices.Clone(l)
		a, b := Ask(l, 100, false), Ask(l, 200, true)
		c, d := Give(l, 1), Give(l, seq)
		if !slices.Equal(a, asked(was, 100, false)) || !slices.Equal(b, asked(was, 200, true)) {
			t.Fatalf("%v: %v, %v", was, a, b)
		}
		if !slices.Equal(c, given(was, 1)) || !slices.Equal(d, given(was, seq)) || !slices.Equal(l, was) {
			t.Fatalf("%v: %v, %v", was, c, d)
		}
	}
}

// Rule 2: a list that holds nothing may be nil or empty.
func TestNilOrEmpty(t *testing.T) {
	for _, l := range [][]api.Want{nil, {}, of("RW")[:0]} {
		for _, seq := range ends {
			if len(Give(l, seq)) != 0 || Has(l, seq) {
				t.Errorf("%d: %v, %t", seq, Give(l, seq), Has(l, seq))
			}
			for _, excl := range []bool{false, true} {
				if got := Ask(l, seq, excl); !slices.Equal(got, []api.Want{{Seq: seq, Excl: excl, Has: true}}) {
					t.Errorf("%d, %t: %v", seq, excl, got)
				}
			}
		}
	}
}

// Rules 4 and 6: a call hangs on its arguments alone, whoever calls beside it.
func TestManyCallAtOnce(t *testing.T) {
	all := of("rrwrr")
	l := all[:4]
	wantAsked, wantGiven := asked(l, 9, false), given(l, 3)
	var wg sync.WaitGroup
	for range 8 {
		wg.Go(func() {
			for range 200 {
				a, b := Ask(l, 9, false), Give(l, 3)
				if !slices.Equal(a, wantAsked) || !slices.Equal(b, wantGiven) || !Has(l, 2) || Has(l, 4) {
					t.Errorf("%v, %v", a, b)
				}
			}
		})
	}
	wg.Wait()
	if !slices.Equal(all, of("rrwrr")) {
		t.Errorf("%v", all)
	}
}
