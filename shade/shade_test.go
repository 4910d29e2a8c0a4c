package shade

import (
	"math"
	"math/rand"
	"slices"
	"sync"
	"testing"

	"foreman/api"
)

// numbered are blocks of which no two cells are alike, and none is nought; each
// was written by a command of its own.
func numbered(many int) []api.Entry { return from(1000, many) }

// from are such blocks, whose numbers begin at another one.
func from(first, many int) []api.Entry {
	l := make([]api.Entry, many)
	for i := range l {
		for j := range l[i].Cells {
			l[i].Cells[j] = first + 20*i + j
		}
		l[i].Seq = first + 20*i + 19
	}
	return l
}

// filled is a mark of which no number is nought, and no two are alike.
func filled() api.Mark {
	return api.Mark{Slot: 1, Seq: 5, Batch: 7, Begin: 9, Done: 11, Sum: 13}
}

// marked is a filled mark with room for as many blocks as kept has bits; that
// of bit i is kept, if it is set. Old is never nought, also of those that aren't
// kept, so that a look at a wrong place shows.
func marked(on bool, room, bits int) api.Mark {
	m := filled()
	m.On, m.Old, m.Kept = on, from(5000, room), make([]bool, room)
	for i := range m.Kept {
		m.Kept[i] = bits>>i&1 == 1
	}
	return m
}

// same tells whether two marks are alike; lists that hold nothing are.
func same(a, b api.Mark) bool {
	return sameNumbers(a, b) && slices.Equal(a.Old, b.Old) && slices.Equal(a.Kept, b.Kept)
}

// sameNumbers tells whether two marks are alike but for their lists.
func sameNumbers(a, b api.Mark) bool {
	return a.On == b.On && a.Slot == b.Slot && a.Seq == b.Seq && a.Batch == b.Batch && a.Begin == b.Begin && a.Done == b.Done && a.Sum == b.Sum
}

// copied is a mark with lists of its own.
func copied(m api.Mark) api.Mark {
	m.Old, m.Kept = slices.Clone(m.Old), slices.Clone(m.Kept)
	return m
}

// kept is Keep in the chapter's words.
func kept(m api.Mark, l []api.Entry, i int) api.Mark {
	m = copied(m)
	switch {
	case !m.On:
	case i < 0 || i >= len(l):
	case i < 0 || i >= len(m.Kept):
	case m.Kept[i]:
	default:
		m.Old[i] = l[i]
		m.Kept[i] = true
	}
	return m
}

// seen is See in the chapter's words.
func seen(m api.Mark, l []api.Entry, i int) api.Entry {
	switch {
	case i < 0 || i >= len(l):
		return api.Entry{}
	case m.On && i < len(m.Kept) && m.Kept[i]:
		return m.Old[i]
	}
	return l[i]
}

// The places that no list of these tests has.
var nowhere = []int{-1, -2, 12, 13, 64, 256, -256, 1 << 32, -1 << 32, 1<<32 + 1, math.MaxInt32, math.MinInt32, math.MaxInt, math.MinInt, math.MaxInt - 1, math.MinInt + 1}

// places are all that the longest list has, and some ahead of it and behind.
func places() []int {
	l := slices.Clone(nowhere)
	for i := range 12 {
		l = append(l, i)
	}
	return l
}

// each hands marks of all counts up to five with all of Kept, that are on and
// that aren't, beside lists that are shorter, as long, and longer; each with all
// places.
func each(do func(m api.Mark, l []api.Entry, i int)) {
	for room := range 6 {
		for bits := range 1 << room {
			for many := range 7 {
				for _, i := range places() {
					do(marked(true, room, bits), numbered(many), i)
					do(marked(false, room, bits), numbered(many), i)
				}
			}
		}
	}
}

// P13.1: Begin.

// begun are the marks to begin from: nought, filled, and some that were begun
// ahead of it, with less room and with more.
func begun() []api.Mark {
	return []api.Mark{
		{}, filled(), marked(true, 0, 0), marked(true, 2, 3), marked(true, 5, 31), marked(false, 5, 21), marked(true, 100, math.MaxInt),
		{Slot: math.MinInt, Seq: math.MaxInt, Batch: -1, Begin: 1 << 32, Done: math.MinInt32, Sum: math.MaxUint32},
		{On: true, Old: numbered(3)}, {Kept: []bool{true, true}},
	}
}

func TestBegin(t *testing.T) {
	for _, m := range begun() {
		for _, n := range []int{0, 1, 2, 3, 5, 8, 63, 64, 65, 256, 4097} {
			want := m
			want.On, want.Old, want.Kept = true, make([]api.Entry, n), make([]bool, n)
			if got := Begin(m, n); !same(got, want) {
				t.Errorf("%v, %d: %v", m, n, got)
			}
		}
	}
}

func TestBeginOfMany(t *testing.T) {
	m := Begin(filled(), 100000)
	if len(m.Old) != 100000 || len(m.Kept) != 100000 || slices.Contains(m.Kept, true) {
		t.Errorf("%d of Old, %d of Kept", len(m.Old), len(m.Kept))
	}
}

// Below one there is none, but it is on.
func TestBeginBelowOne(t *testing.T) {
	for _, m := range begun() {
		want := m
		want.On, want.Old, want.Kept = true, nil, nil
		for _, n := range []int{0, -1, -2, -64, math.MinInt32, -1 << 32, 1 - 1<<40, math.MinInt + 1, math.MinInt} {
			if got := Begin(m, n); !same(got, want) {
				t.Errorf("%v, %d: %v", m, n, got)
			}
		}
	}
}

// More than an answer can be is beyond what is promised; it is no panic either.
func TestBeginBeyondAll(t *testing.T) {
	want := filled()
	want.On = true
	for _, n := range []int{mostBlocks + 1, math.MaxInt32, 1 << 32, 1 << 57, 1 << 60, math.MaxInt - 1, math.MaxInt} {
		if got := Begin(filled(), n); !same(got, want) {
			t.Errorf("%d: %d of Old, %d of Kept", n, len(got.Old), len(got.Kept))
		}
	}
	if most := math.MaxInt32 / 73; mostBlocks != most {
		t.Errorf("at most %d, want %d", mostBlocks, most)
	}
}

// P13.1: Keep.

func TestKeepKnown(t *testing.T) {
	l := numbered(3)
	old := from(5000, 3)
	for _, x := range []struct {
		m    api.Mark
		l    []api.Entry
		i    int
		old  []api.Entry
		kept []bool
	}{
		{marked(true, 3, 0), l, 0, []api.Entry{l[0], old[1], old[2]}, []bool{true, false, false}},
		{marked(true, 3, 0), l, 1, []api.Entry{old[0], l[1], old[2]}, []bool{false, true, false}},
		{marked(true, 3, 0), l, 2, []api.Entry{old[0], old[1], l[2]}, []bool{false, false, true}},
		{marked(true, 3, 5), l, 1, []api.Entry{old[0], l[1], old[2]}, []bool{true, true, true}},
		// Kept already.
		{marked(true, 3, 1), l, 0, old, []bool{true, false, false}},
		{marked(true, 3, 4), l, 2, old, []bool{false, false, true}},
		{marked(true, 3, 7), l, 1, old, []bool{true, true, true}},
		// Not on.
		{marked(false, 3, 0), l, 0, old, []bool{false, false, false}},
		{marked(false, 3, 4), l, 1, old, []bool{false, false, true}},
		// No such place in either.
		{marked(true, 3, 0), l, -1, old, []bool{false, false, false}},
		{marked(true, 3, 0), l, 3, old, []bool{false, false, false}},
		// In Kept alone.
		{marked(true, 3, 0), l[:2], 2, old, []bool{false, false, false}},
		{marked(true, 3, 0), nil, 0, old, []bool{false, false, false}},
		// In l alone.
		{marked(true, 2, 0), l, 2, old[:2], []bool{false, false}},
		{marked(true, 0, 0), l, 0, nil, nil},
		// At the ends of both.
		{marked(true, 3, 0), l[:2], 1, []api.Entry{old[0], l[1], old[2]}, []bool{false, true, false}},
		{marked(true, 2, 0), l, 1, []api.Entry{old[0], l[1]}, []bool{false, true}},
	} {
		want := x.m
		want.Old, want.Kept = x.old, x.kept
		if got := Keep(x.m, x.l, x.i); !same(got, want) {
			t.Errorf("%v, %d blocks, %d: %v, want %v", x.m, len(x.l), x.i, got, want)
		}
	}
}

func TestKeepByRule(t *testing.T) {
	ways := [2]int{}
	each(func(m api.Mark, l []api.Entry, i int) {
		want := kept(m, l, i)
		if got := Keep(m, l, i); !same(got, want) {
			t.Fatalf("%v, %d blocks, %d: %v, want %v", m, len(l), i, got, want)
		}
		if same(m, want) {
			ways[0]++
		} else {
			ways[1]++
		}
	})
	if ways[0] < 1000 || ways[1] < 300 {
		t.Errorf("%v: too few to be of use", ways)
	}
}

// Where there is no such place: the mark as it was, whatever it has kept.
func TestKeepNowhere(t *testing.T) {
	for _, i := range nowhere {
		for _, m := range []api.Mark{{}, {On: true}, marked(true, 3, 0), marked(true, 12, 0), marked(true, 12, math.MaxInt), marked(false, 12, 0)} {
			for _, l := range [][]api.Entry{nil, numbered(1), numbered(3), numbered(12)} {
				if got := Keep(m, l, i); !same(got, m) {
					t.Errorf("%v, %d blocks, %d: %v", m, len(l), i, got)
				}
			}
		}
	}
}

// A block that is nought is kept just as another one.
func TestKeepNought(t *testing.T) {
	l := make([]api.Entry, 2)
	m := Keep(Begin(filled(), 2), l, 1)
	if !slices.Equal(m.Kept, []bool{false, true}) {
		t.Errorf("%v", m)
	}
	if again := Keep(m, numbered(2), 1); !same(again, m) || See(again, numbered(2), 1) != (api.Entry{}) {
		t.Errorf("%v, want %v", again, m)
	}
}

// The first one counts, however often it is kept.
func TestKeepAgain(t *testing.T) {
	m := Keep(Begin(filled(), 3), numbered(3), 1)
	first := copied(m)
	for round := range 5 {
		m = Keep(m, from(20000*(round+1), 3), 1)
		if !same(m, first) {
			t.Fatalf("%v, want %v", m, first)
		}
	}
	if m.Old[1] != numbered(3)[1] {
		t.Errorf("%v", m)
	}
}

// Begun anew, nothing is kept any more.
func TestKeepBehindANewBegin(t *testing.T) {
	l := numbered(3)
	m := Begin(Keep(Begin(filled(), 3), l, 1), 3)
	now := from(5000, 3)
	if See(m, now, 1) != now[1] {
		t.Errorf("seen as it was: %v", See(m, now, 1))
	}
	if m = Keep(m, now, 1); See(m, l, 1) != now[1] {
		t.Errorf("%v, want %v", See(m, l, 1), now[1])
	}
}

// P13.1: See.

func TestSeeKnown(t *testing.T) {
	l, old := numbered(3), from(5000, 3)
	for _, x := range []struct {
		m    api.Mark
		l    []api.Entry
		i    int
		want api.Entry
	}{
		{marked(true, 3, 2), l, 0, l[0]},
		{marked(true, 3, 2), l, 1, old[1]},
		{marked(true, 3, 2), l, 2, l[2]},
		{marked(true, 3, 5), l, 0, old[0]},
		{marked(true, 3, 5), l, 1, l[1]},
		{marked(true, 3, 5), l, 2, old[2]},
		// Not on, though kept.
		{marked(false, 3, 7), l, 0, l[0]},
		{marked(false, 3, 7), l, 2, l[2]},
		{api.Mark{}, l, 1, l[1]},
		// No such place in l, though kept.
		{marked(true, 3, 7), l[:2], 2, api.Entry{}},
		{marked(true, 3, 7), nil, 0, api.Entry{}},
		{marked(true, 3, 7), l, 3, api.Entry{}},
		{marked(true, 3, 7), l, -1, api.Entry{}},
		{marked(false, 3, 7), l, 3, api.Entry{}},
		{api.Mark{}, l, -1, api.Entry{}},
		// No such place in Kept.
		{marked(true, 2, 3), l, 1, old[1]},
		{marked(true, 2, 3), l, 2, l[2]},
		{marked(true, 0, 0), l, 0, l[0]},
	} {
		if got := See(x.m, x.l, x.i); got != x.want {
			t.Errorf("%v, %d blocks, %d: %v, want %v", x.m, len(x.l), x.i, got, x.want)
		}
	}
}

func TestSeeByRule(t *testing.T) {
	ways := [3]int{}
	each(func(m api.Mark, l []api.Entry, i int) {
		want := seen(m, l, i)
		if got := See(m, l, i); got != want {
			t.Fatalf("%v, %d blocks, %d: %v, want %v", m, len(l), i, got, want)
		}
		switch {
		case want == api.Entry{}:
			ways[0]++
		case want == l[i]:
			ways[1]++
		default:
			ways[2]++
		}
	})
	if ways[0] < 1000 || ways[1] < 300 || ways[2] < 300 {
		t.Errorf("%v: too few to be of use", ways)
	}
}

func TestSeeNowhere(t *testing.T) {
	for _, i := range nowhere {
		for _, m := range []api.Mark{{}, {On: true}, marked(true, 3, 7), marked(true, 12, math.MaxInt), marked(false, 12, math.MaxInt)} {
			for _, l := range [][]api.Entry{nil, numbered(1), numbered(3), numbered(12)} {
				if got := See(m, l, i); got != (api.Entry{}) {
					t.Errorf("%v, %d blocks, %d: %v", m, len(l), i, got)
				}
			}
		}
	}
}

// The mark's numbers, its slot and how far it is, count in neither call.
func TestNumbersDoNotCount(t *testing.T) {
	l := numbered(3)
	for _, x := range []api.Mark{
		{}, filled(), {Slot: -1, Seq: math.MinInt, Batch: math.MaxInt, Begin: 1 << 32, Done: 64, Sum: -1},
		{Slot: math.MaxInt, Seq: math.MaxInt, Batch: math.MinInt, Begin: math.MaxInt, Done: math.MaxInt, Sum: math.MaxInt},
		{Slot: math.MinInt, Seq: -1, Batch: -1, Begin: math.MinInt, Done: math.MinInt, Sum: math.MinInt},
	} {
		m := marked(true, 3, 1)
		x.On, x.Old, x.Kept = m.On, m.Old, m.Kept
		want := x
		want.Old, want.Kept = []api.Entry{m.Old[0], m.Old[1], l[2]}, []bool{true, false, true}
		if got := Keep(x, l, 2); !same(got, want) || See(got, l, 0) != m.Old[0] || See(got, l, 1) != l[1] {
			t.Errorf("%v: %v, want %v", x, got, want)
		}
	}
}

// P13.2: kept ahead of each change, all blocks are seen as they were.

// asTheyWere tells whether a mark sees all blocks so.
func asTheyWere(m api.Mark, now, were []api.Entry) bool {
	for i := range were {
		if See(m, now, i) != were[i] {
			return false
		}
	}
	return true
}

// changed are blocks of which one is another, with numbers by the change's own.
func changed(l []api.Entry, i, by int) []api.Entry {
	l = slices.Clone(l)
	l[i] = from(100000*(by+1), 1)[0]
	return l
}

// All ways to change three blocks five times.
func TestSeenAsTheyWere(t *testing.T) {
	for way := range 3 * 3 * 3 * 3 * 3 {
		were := numbered(3)
		m, now := Begin(filled(), 3), were
		for step, rest := 0, way; step < 5; step, rest = step+1, rest/3 {
			m, now = Keep(m, now, rest%3), changed(now, rest%3, step)
			if !asTheyWere(m, now, were) {
				t.Fatalf("way %d, step %d: %v, %v", way, step, m, now)
			}
		}
	}
}

// Blocks of any count, changed one by one or together, kept also where nothing
// is changed, and where there is no such block; some back to what they were, or
// to noughts. The mark is what it was but for what is kept.
func TestSeenAsTheyWereAnyhow(t *testing.T) {
	r := rand.New(rand.NewSource(1))
	for range 1500 {
		were := numbered(1 + r.Intn(64))
		m, now := Begin(filled(), len(were)), slices.Clone(were)
		touched := make([]bool, len(were))
		for range r.Intn(100) {
			set := r.Perm(len(were))[:r.Intn(min(9, len(were)+1))]
			for _, i := range set {
				m, touched[i] = Keep(m, now, i), true
			}
			m = Keep(m, now, nowhere[r.Intn(2)])
			m = Keep(m, now, len(were)+r.Intn(3))
			for _, i := range set {
				now[i] = []api.Entry{{}, were[i], now[i], from(r.Intn(1<<40), 1)[0], from(-r.Intn(1<<40), 1)[0]}[r.Intn(5)]
			}
			if !asTheyWere(m, now, were) {
				t.Fatalf("%v, %v, and they were %v", m, now, were)
			}
		}
		want := filled()
		if want.On = true; !sameNumbers(m, want) || !slices.Equal(m.Kept, touched) || len(m.Old) != len(were) {
			t.Fatalf("%v, want %v", m, touched)
		}
	}
}

// One that isn't kept ahead of its change is seen as it is; behind it, it is
// kept as it was then.
func TestSeenBehindAChange(t *testing.T) {
	were := numbered(3)
	m, now := Begin(filled(), 3), changed(were, 1, 0)
	if See(m, now, 1) != now[1] {
		t.Errorf("not kept: %v", See(m, now, 1))
	}
	m = Keep(m, now, 1)
	then, later := now[1], changed(now, 1, 1)
	if See(m, later, 1) != then || See(m, later, 0) != were[0] {
		t.Errorf("kept behind: %v, want %v", See(m, later, 1), then)
	}
}

// A mark that isn't on keeps nothing: all blocks are seen as they are.
func TestSeenWithoutAMark(t *testing.T) {
	for _, m := range []api.Mark{{}, filled(), marked(false, 3, 0), marked(false, 3, 7)} {
		now := numbered(3)
		for i := range now {
			m, now = Keep(m, now, i), changed(now, i, i)
			if !asTheyWere(m, now, now) {
				t.Errorf("%v: %v", m, now)
			}
		}
	}
}

// An older mark sees what it saw, whatever a newer one has kept.
func TestSeenByOlderMarks(t *testing.T) {
	were := numbered(4)
	m, now := Begin(filled(), 4), were
	var marks []api.Mark
	var thens [][]api.Entry
	for step, i := range []int{2, 0, 2, 3, 1, 0} {
		marks, thens = append(marks, m), append(thens, now)
		m, now = Keep(m, now, i), changed(now, i, step)
	}
	for step := range marks {
		if !asTheyWere(marks[step], thens[step], were) {
			t.Errorf("step %d: %v, %v", step, marks[step], thens[step])
		}
	}
}

// Marks with other counts of Old than of Kept: nothing is asked of them; it is
// no panic either (P1), and the counts stay.
func TestUnevenMarks(t *testing.T) {
	for olds := range 5 {
		for bits := range 1 << 4 {
			for many := range 6 {
				for _, i := range places() {
					m, l := marked(true, 4, bits), numbered(many)
					m.Old = m.Old[:olds:olds]
					for _, x := range []api.Mark{m, {On: true, Old: from(5000, 4), Kept: m.Kept[:olds]}} {
						got := Keep(x, l, i)
						if len(got.Old) != len(x.Old) || len(got.Kept) != len(x.Kept) {
							t.Fatalf("%v, %d blocks, %d: %v", x, many, i, got)
						}
						if e := See(x, l, i); (e == api.Entry{}) != (i < 0 || i >= many) {
							t.Fatalf("%v, %d blocks, %d: %v", x, many, i, e)
						}
					}
				}
			}
		}
	}
}

// The rules that hold everywhere.

// roomy is a list's copy in front of spare room, which is told beside it.
func roomy[T any](l []T, spare ...T) (list, all []T) {
	all = slices.Concat(l, spare)
	return all[:len(l)], all
}

// Rule 3: what is handed in is as it was, its spare room too.
func TestGivenStays(t *testing.T) {
	each(func(m api.Mark, l []api.Entry, i int) {
		l, all := roomy(l, api.Entry{Seq: 96}, api.Entry{Seq: 97})
		old, allOld := roomy(m.Old, api.Entry{Seq: 94}, api.Entry{Seq: 95})
		bits, allBits := roomy(m.Kept, false, true)
		m.Old, m.Kept = old, bits
		then, thenOld, thenBits := slices.Clone(all), slices.Clone(allOld), slices.Clone(allBits)
		Begin(m, len(old))
		Begin(m, len(old)+2)
		Keep(m, l, i)
		See(m, l, i)
		if !slices.Equal(all, then) || !slices.Equal(allOld, thenOld) || !slices.Equal(allBits, thenBits) {
			t.Fatalf("%d: %v, %v, %v", i, all, allOld, allBits)
		}
	})
}

// spoil writes over all that a mark's lists hold, their spare room too.
func spoil(m api.Mark) {
	for i := range m.Old[:cap(m.Old)] {
		m.Old[:cap(m.Old)][i] = api.Entry{Cells: api.Block{-999, -999}, Seq: -999}
	}
	for i := range m.Kept[:cap(m.Kept)] {
		m.Kept[:cap(m.Kept)][i] = !m.Kept[:cap(m.Kept)][i]
	}
}

// Rule 3: an answer is new memory, also where nothing is kept: whoever writes
// into one changes neither what was handed in nor another answer, nor does a
// later change of what was.
func TestAnswersAreTheirOwn(t *testing.T) {
	each(func(m api.Mark, l []api.Entry, i int) {
		was, then := copied(m), slices.Clone(l)
		want, wantSeen, room := kept(m, l, i), seen(m, l, i), len(m.Old)
		spoil(Keep(m, l, i))
		spoil(Begin(m, room))
		if !same(m, was) || !slices.Equal(l, then) {
			t.Fatalf("%d: %v, %v", i, m, l)
		}
		got, gotSeen, gotBegun := Keep(m, l, i), See(m, l, i), Begin(m, room)
		spoil(m)
		clear(l)
		anew := was
		anew.On, anew.Old, anew.Kept = true, make([]api.Entry, room), make([]bool, room)
		if !same(got, want) || gotSeen != wantSeen || !same(gotBegun, anew) {
			t.Fatalf("%d: %v, %v, %v", i, got, gotSeen, gotBegun)
		}
	})
}

// Rule 2: a list that holds nothing may be nil or empty.
func TestNilOrEmpty(t *testing.T) {
	one, two := filled(), filled()
	one.On, two.On, two.Old, two.Kept = true, true, []api.Entry{}, []bool{}
	for _, m := range []api.Mark{one, two} {
		for _, l := range [][]api.Entry{nil, {}} {
			for _, i := range []int{-1, 0, 1} {
				if !same(Keep(m, l, i), one) || See(m, l, i) != (api.Entry{}) {
					t.Errorf("%v, %v, %d: %v", m, l, i, Keep(m, l, i))
				}
			}
		}
		if l := numbered(1); !same(Keep(m, l, 0), one) || See(m, l, 0) != l[0] || !same(Begin(m, 0), one) {
			t.Errorf("%v: %v", m, Keep(m, l, 0))
		}
	}
}

// Rules 4 and 6: a call hangs on its arguments alone, whoever calls beside it.
func TestManyCallAtOnce(t *testing.T) {
	m, l := marked(true, 4, 5), numbered(4)
	wantBegun := filled()
	wantBegun.On, wantBegun.Old, wantBegun.Kept = true, make([]api.Entry, 4), make([]bool, 4)
	var wg sync.WaitGroup
	for range 8 {
		wg.Go(func() {
			for round := range 400 {
				i := round%6 - 1
				if got, want := Keep(m, l, i), kept(m, l, i); !same(got, want) {
					t.Errorf("%d: %v, want %v", i, got, want)
				}
				if got, want := See(m, l, i), seen(m, l, i); got != want {
					t.Errorf("%d: %v, want %v", i, got, want)
				}
				if got := Begin(m, 4); !same(got, wantBegun) {
					t.Errorf("%v, want %v", got, wantBegun)
				}
			}
		})
	}
	wg.Wait()
}
