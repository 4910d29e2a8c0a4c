package pool

import (
	"math"
	"math/rand"
	"reflect"
	"slices"
	"sync"
	"testing"

	"foreman/api"
	"foreman/locks"
	"foreman/machine"
)

// The chapter's words, written anew: each place is looked at, one by one.

// added is Add in the chapter's words.
func added(l []api.Task, c api.Command, seq int) []api.Task {
	more := make([]api.Task, len(l)+1)
	for i := range l {
		more[i] = copyOfTask(l[i])
	}
	more[len(l)].Seq, more[len(l)].Cmd, more[len(l)].M = seq, copyOfCommand(c), machine.New(c)
	more[len(l)].Worker = -1
	return more
}

// firstOf is the first place at which it is so; -1.
func firstOf(l []api.Task, is func(api.Task) bool) int {
	place := -1
	for i := len(l) - 1; i >= 0; i-- {
		if is(l[i]) {
			place = i
		}
	}
	return place
}

// found is Find in the chapter's words.
func found(l []api.Task, seq int) int {
	return firstOf(l, func(t api.Task) bool { return t.Seq == seq })
}

// ofWorker is Of in the chapter's words.
func ofWorker(l []api.Task, worker int) int {
	return firstOf(l, func(t api.Task) bool { return worker >= 0 && t.Worker == worker })
}

// with is With in the chapter's words, of a place that there is.
func with(l []api.Task, i int, t api.Task) []api.Task {
	other := make([]api.Task, len(l))
	for at := range l {
		if at == i {
			other[at] = copyOfTask(t)
		} else {
			other[at] = copyOfTask(l[at])
		}
	}
	return other
}

// without is Without in the chapter's words, of a place that there is.
func without(l []api.Task, i int) []api.Task {
	var rest []api.Task
	for at := range l {
		if at != i {
			rest = append(rest, copyOfTask(l[at]))
		}
	}
	return rest
}

// readies is Ready in the chapter's words.
func readies(l []api.Task, wants [][]api.Want) []int {
	var seqs []int
	for i := range l {
		if l[i].Worker >= 0 {
			continue
		}
		if locks.Ready(wants, l[i].Cmd, l[i].Seq) {
			seqs = append(seqs, l[i].Seq)
		}
	}
	return seqs
}

// left is Fuel in the chapter's words.
func left(l []api.Task) int {
	many := 0
	for i := len(l) - 1; i >= 0; i-- {
		many = l[i].M.Fuel + many
	}
	return many
}

// copyOfCommand is a copy that shares nothing.
func copyOfCommand(c api.Command) api.Command {
	return api.Command{
		Reads:  slices.Clone(c.Reads),
		Writes: slices.Clone(c.Writes),
		Args:   slices.Clone(c.Args),
		Fuel:   c.Fuel,
		Code:   slices.Clone(c.Code),
	}
}

// copyOfTask is a copy that shares nothing.
func copyOfTask(t api.Task) api.Task {
	m := t.M
	m.Stack, m.Out = slices.Clone(m.Stack), slices.Clone(m.Out)
	return api.Task{Seq: t.Seq, Cmd: copyOfCommand(t.Cmd), M: m, Own: slices.Clone(t.Own), Worker: t.Worker}
}

// copyOf is a copy that shares nothing.
func copyOf(l []api.Task) []api.Task {
	l = slices.Clone(l)
	for i := range l {
		l[i] = copyOfTask(l[i])
	}
	return l
}

// sameCommand tells whether two commands are alike (nil and empty are).
func sameCommand(a, b api.Command) bool {
	return a.Fuel == b.Fuel && slices.Equal(a.Reads, b.Reads) && slices.Equal(a.Writes, b.Writes) &&
		slices.Equal(a.Args, b.Args) && slices.Equal(a.Code, b.Code)
}

// sameMachine tells whether two machines are alike (nil and empty are).
func sameMachine(a, b api.Machine) bool {
	return a.Pc == b.Pc && a.Fuel == b.Fuel && slices.Equal(a.Stack, b.Stack) && a.Regs == b.Regs &&
		slices.Equal(a.Out, b.Out) && a.Over == b.Over && a.Told == b.Told
}

// sameTask tells whether two tasks are alike (nil and empty are).
func sameTask(a, b api.Task) bool {
	return a.Seq == b.Seq && a.Worker == b.Worker && sameCommand(a.Cmd, b.Cmd) && sameMachine(a.M, b.M) &&
		slices.Equal(a.Own, b.Own)
}

// same tells whether two lists are alike (nil and empty are).
func same(a, b []api.Task) bool { return slices.EqualFunc(a, b, sameTask) }

// The comparison itself sees each of a task's fields, also such as may come to
// be there: else the tests that lean on it would see less than they say.
func TestSameSeesAll(t *testing.T) {
	fields := map[reflect.Type]int{
		reflect.TypeFor[api.Task]():    5,
		reflect.TypeFor[api.Command](): 5,
		reflect.TypeFor[api.Machine](): 7,
	}
	for kind, many := range fields {
		if kind.NumField() != many {
			t.Errorf("%v has %d fields", kind, kind.NumField())
		}
	}
	for i, change := range changes() {
		was := full(4)
		now := copyOfTask(was)
		if !sameTask(was, now) {
			t.Fatal("a copy is another one")
		}
		if change(&now); sameTask(was, now) {
			t.Errorf("change %d isn't seen", i)
		}
	}
}

// changes change a task in one thing each.
func changes() []func(*api.Task) {
	return []func(*api.Task){
		func(t *api.Task) { t.Seq++ },
		func(t *api.Task) { t.Worker++ },
		func(t *api.Task) { t.Cmd.Fuel++ },
		func(t *api.Task) { t.Cmd.Reads[0]++ },
		func(t *api.Task) { t.Cmd.Writes[0]++ },
		func(t *api.Task) { t.Cmd.Args[0]++ },
		func(t *api.Task) { t.Cmd.Code[0].A++ },
		func(t *api.Task) { t.M.Pc++ },
		func(t *api.Task) { t.M.Fuel++ },
		func(t *api.Task) { t.M.Stack[0]++ },
		func(t *api.Task) { t.M.Regs[3]++ },
		func(t *api.Task) { t.M.Out[0]++ },
		func(t *api.Task) { t.M.Over = !t.M.Over },
		func(t *api.Task) { t.M.Told++ },
		func(t *api.Task) { t.Own[0][7]++ },
	}
}

// What tasks are made of.

// of is a command that reads and writes such blocks.
func of(reads, writes []int, fuel int) api.Command {
	return api.Command{Reads: reads, Writes: writes, Fuel: fuel, Code: []api.Instr{{Op: api.OpEnd}}}
}

// full is a task that has something in all of its lists, each of them with
// numbers of its own.
func full(seq int) api.Task {
	n := 1000 * seq
	return api.Task{
		Seq: seq,
		Cmd: api.Command{
			Reads:  []int{n + 1, n + 2},
			Writes: []int{n + 3},
			Args:   []int{n + 4, n + 5},
			Fuel:   n + 6,
			Code:   []api.Instr{{Op: api.OpPush, A: n + 7}, {Op: api.OpEnd}},
		},
		M: api.Machine{
			Pc: n + 8, Fuel: n + 9,
			Stack: []int{n + 10, n + 11},
			Regs:  [api.Regs]int{n + 12, 0, 0, n + 13},
			Out:   []int{n + 14},
			Told:  api.ErrZero,
		},
		Own:    []api.Block{{n + 15}, {7: n + 16}, {n + 17}},
		Worker: seq % 3,
	}
}

// fulls are so many full tasks, from 1 on.
func fulls(many int) []api.Task {
	var l []api.Task
	for i := range many {
		l = append(l, full(i+1))
	}
	return l
}

// pairs are tasks that have a number and a worker alone, each of two numbers.
func pairs(numbers ...[2]int) []api.Task {
	var l []api.Task
	for _, n := range numbers {
		l = append(l, api.Task{Seq: n[0], Worker: n[1]})
	}
	return l
}

// each hands all lists of at most four tasks, of three numbers and four workers
// (none, as two numbers below 0 tell, and two); of two, full ones too.
func each(do func(l []api.Task)) {
	var more func(l []api.Task, rest int)
	more = func(l []api.Task, rest int) {
		if rest == 0 {
			do(copyOf(l))
			return
		}
		for seq := 1; seq < 4; seq++ {
			for _, worker := range []int{-1, -2, 0, 1} {
				more(append(slices.Clone(l), api.Task{Seq: seq, Worker: worker}), rest-1)
			}
		}
	}
	for many := range 5 {
		more(nil, many)
	}
	for many := 1; many < 7; many++ {
		do(fulls(many))
	}
}

// Numbers may be any, the ends of their type too; no two of these are one.
var ends = []int{0, 1, -1, 2, 3, -2, 4, 31, 32, 256, 1 << 31, 1 << 32, 1<<32 + 1, -1 << 32, -1<<32 + 1, math.MaxInt32, math.MinInt32, math.MaxUint32, math.MaxInt, math.MinInt, math.MaxInt - 1, math.MinInt + 1}

// P16.1: Add.

// One more: its number, its command, a machine ahead of its first step, no
// blocks of its own, no worker.
func TestAddToNone(t *testing.T) {
	c := full(3).Cmd
	l := Add(nil, c, 12)
	if len(l) != 1 {
		t.Fatalf("%v", l)
	}
	x := l[0]
	if x.Seq != 12 || x.Worker != -1 || len(x.Own) != 0 || !sameCommand(x.Cmd, c) {
		t.Errorf("%v", x)
	}
	if !sameMachine(x.M, api.Machine{Fuel: 3006}) || !sameMachine(x.M, machine.New(c)) {
		t.Errorf("%v", x.M)
	}
}

// Those ahead of it are as they were, whatever they hold.
func TestAddBehindOthers(t *testing.T) {
	each(func(l []api.Task) {
		for _, seq := range []int{1, 4, -1} {
			c := full(seq + 5).Cmd
			if got, want := Add(l, c, seq), added(l, c, seq); !same(got, want) {
				t.Fatalf("%v, %d: %v, want %v", l, seq, got, want)
			}
		}
	})
}

// One behind the other, as many as may be pending, and more.
func TestAddMany(t *testing.T) {
	var l []api.Task
	for i := range 3 * api.MaxPending {
		l = Add(l, full(i).Cmd, 100-i)
		if len(l) != i+1 {
			t.Fatalf("%d: %d tasks", i, len(l))
		}
	}
	for i, x := range l {
		if x.Seq != 100-i || x.Worker != -1 || len(x.Own) != 0 || !sameCommand(x.Cmd, full(i).Cmd) || !sameMachine(x.M, machine.New(x.Cmd)) {
			t.Errorf("%d: %v", i, x)
		}
	}
}

// Numbers and fuel may be any; nothing is asked of the command: raw ones too.
func TestAddEnds(t *testing.T) {
	for _, seq := range ends {
		for _, fuel := range ends {
			l := Add(fulls(1), api.Command{Fuel: fuel}, seq)
			want := api.Task{Seq: seq, Cmd: api.Command{Fuel: fuel}, M: api.Machine{Fuel: fuel}, Worker: -1}
			if len(l) != 2 || !sameTask(l[0], full(1)) || !sameTask(l[1], want) {
				t.Fatalf("%d, %d: %v", seq, fuel, l)
			}
		}
	}
	raw := api.Command{Reads: ends, Writes: ends, Args: ends, Code: []api.Instr{{Op: -1, A: math.MaxInt, B: math.MinInt}, {Op: 99}}}
	if l := Add(nil, raw, 1); len(l) != 1 || !sameCommand(l[0].Cmd, raw) || !sameMachine(l[0].M, api.Machine{}) {
		t.Errorf("%v", l)
	}
}

// P16.1: Find and Of.

func TestFindKnown(t *testing.T) {
	l := pairs([2]int{4, -1}, [2]int{5, 0}, [2]int{7, -1}, [2]int{5, 1}, [2]int{0, 2}, [2]int{-1, 3}, [2]int{7, 0})
	for seq, want := range map[int]int{4: 0, 5: 1, 7: 2, 0: 4, -1: 5, 6: -1, 1: -1, 3: -1, 8: -1, -4: -1} {
		if got := Find(l, seq); got != want {
			t.Errorf("%d: %d, want %d", seq, got, want)
		}
	}
}

func TestOfKnown(t *testing.T) {
	l := pairs([2]int{0, -1}, [2]int{1, 2}, [2]int{2, 0}, [2]int{3, 2}, [2]int{9, -2}, [2]int{4, 0}, [2]int{5, 7})
	for worker, want := range map[int]int{2: 1, 0: 2, 7: 6, 1: -1, 3: -1, 9: -1, -1: -1, -2: -1, -7: -1} {
		if got := Of(l, worker); got != want {
			t.Errorf("%d: %d, want %d", worker, got, want)
		}
	}
}

// Of all small lists, as the chapter's words say.
func TestFindAndOf(t *testing.T) {
	places := [5]int{}
	each(func(l []api.Task) {
		for n := -3; n < 5; n++ {
			place, worker := Find(l, n), Of(l, n)
			if want := found(l, n); place != want {
				t.Fatalf("%v, %d: found at %d, want %d", l, n, place, want)
			}
			if want := ofWorker(l, n); worker != want {
				t.Fatalf("%v, %d: the worker's at %d, want %d", l, n, worker, want)
			}
			if place < 4 && worker < 4 {
				places[place+1]++
				places[worker+1]++
			}
		}
	})
	if slices.Min(places[:]) < 1000 {
		t.Errorf("%v: too few to be of use", places)
	}
}

// No worker is below 0, whatever tasks tell of one.
func TestOfBelowNought(t *testing.T) {
	for _, worker := range ends {
		l := pairs([2]int{1, 5}, [2]int{2, worker}, [2]int{3, worker})
		want := 1
		if worker < 0 {
			want = -1
		}
		if got := Of(l, worker); got != want {
			t.Errorf("%d: %d, want %d", worker, got, want)
		}
	}
}

// The ends of all numbers: each is found at its own place, and others nowhere.
func TestFindAndOfEnds(t *testing.T) {
	var l []api.Task
	for i, n := range ends {
		if Find(l, n) != -1 || Of(l, n) != -1 {
			t.Errorf("%d is at %d, %d", n, Find(l, n), Of(l, n))
		}
		l = append(l, api.Task{Seq: n, Worker: n})
		for at, have := range ends[:i+1] {
			worker := at
			if have < 0 {
				worker = -1
			}
			if Find(l, have) != at || Of(l, have) != worker {
				t.Errorf("%d is at %d, %d", have, Find(l, have), Of(l, have))
			}
		}
	}
}

// A number is a task's, not its worker's, nor its machine's; and the other way.
func TestFindAndOfAlone(t *testing.T) {
	x := full(8)
	x.Worker = 5
	x.M.Pc, x.M.Fuel, x.Cmd.Fuel = 6, 7, 9
	l := []api.Task{x}
	for n := range 20 {
		find, worker := -1, -1
		if n == 8 {
			find = 0
		}
		if n == 5 {
			worker = 0
		}
		if Find(l, n) != find || Of(l, n) != worker {
			t.Errorf("%d is at %d, %d", n, Find(l, n), Of(l, n))
		}
	}
}

// P16.1: With and Without.

func TestWithKnown(t *testing.T) {
	l := fulls(3)
	for i := range l {
		got := With(l, i, full(9))
		if len(got) != 3 {
			t.Fatalf("%d: %v", i, got)
		}
		for at, x := range got {
			want := full(at + 1)
			if at == i {
				want = full(9)
			}
			if !sameTask(x, want) {
				t.Errorf("%d: %v at %d, want %v", i, x, at, want)
			}
		}
	}
}

func TestWithoutKnown(t *testing.T) {
	for _, x := range []struct{ many, i int }{{1, 0}, {2, 0}, {2, 1}, {3, 0}, {3, 1}, {3, 2}, {32, 0}, {32, 31}, {32, 17}} {
		got := Without(fulls(x.many), x.i)
		if len(got) != x.many-1 {
			t.Fatalf("%v: %d tasks", x, len(got))
		}
		for at, have := range got {
			seq := at + 1
			if at >= x.i {
				seq++
			}
			if !sameTask(have, full(seq)) {
				t.Errorf("%v: %v at %d", x, have, at)
			}
		}
	}
}

// At each place of all small lists, as the chapter's words say.
func TestWithAndWithout(t *testing.T) {
	many := 0
	each(func(l []api.Task) {
		for i := range l {
			if got, want := With(l, i, full(8)), with(l, i, full(8)); !same(got, want) {
				t.Fatalf("%v, %d: %v, want %v", l, i, got, want)
			}
			if got, want := Without(l, i), without(l, i); !same(got, want) {
				t.Fatalf("%v, %d: %v, want %v", l, i, got, want)
			}
			many++
		}
	})
	if many < 10000 {
		t.Errorf("%d: too few to be of use", many)
	}
}

// A task that is put there may be any, also the one that is there, and a raw one.
func TestWithAny(t *testing.T) {
	l := fulls(2)
	if got := With(l, 1, l[1]); !same(got, l) {
		t.Errorf("%v", got)
	}
	if got := With(l, 1, l[0]); len(got) != 2 || !sameTask(got[0], full(1)) || !sameTask(got[1], full(1)) {
		t.Errorf("%v", got)
	}
	for _, n := range ends {
		raw := api.Task{Seq: n, Worker: n, M: api.Machine{Pc: n, Fuel: n, Told: api.Errno(n)}, Cmd: api.Command{Fuel: n}}
		if got := With(l, 0, raw); len(got) != 2 || !sameTask(got[0], raw) || !sameTask(got[1], full(2)) {
			t.Errorf("%d: %v", n, got)
		}
	}
}

// P1: the calls aren't asked of places that aren't there; they don't panic, and
// the list is as it was.
func TestPlacesThatArentThere(t *testing.T) {
	for _, l := range [][]api.Task{nil, {}, fulls(1), fulls(3)} {
		for _, i := range append([]int{len(l), len(l) + 1, -len(l)}, ends...) {
			if i >= 0 && i < len(l) {
				continue
			}
			if got := With(l, i, full(9)); !same(got, l) {
				t.Errorf("%v, %d: %v", l, i, got)
			}
			if got := Without(l, i); !same(got, l) {
				t.Errorf("%v, %d: %v", l, i, got)
			}
		}
	}
}

// P16.1: Ready.

// The chapter's example: two that write one block.
func TestExample(t *testing.T) {
	c := of(nil, []int{0}, 7)
	l := Add(Add(nil, c, 4), c, 5)
	w := locks.Ask(locks.Ask(locks.New(1), c, 4), c, 5)
	if got := Ready(l, w); !slices.Equal(got, []int{4}) {
		t.Errorf("%v", got)
	}
	l, w = Without(l, 0), locks.Give(w, c, 4)
	if got := Ready(l, w); !slices.Equal(got, []int{5}) {
		t.Errorf("%v", got)
	}
}

// The whole's tenth: two readers and a writer of one block.
func TestReadersAndWriter(t *testing.T) {
	read, write := of([]int{0}, nil, 1), of(nil, []int{0}, 1)
	l := Add(Add(Add(nil, read, 1), read, 2), write, 3)
	w := locks.Ask(locks.Ask(locks.Ask(locks.New(1), read, 1), read, 2), write, 3)
	if got := Ready(l, w); !slices.Equal(got, []int{1, 2}) {
		t.Errorf("%v", got)
	}
	l, w = Without(l, 1), locks.Give(w, read, 2)
	if got := Ready(l, w); !slices.Equal(got, []int{1}) {
		t.Errorf("%v", got)
	}
	l, w = Without(l, 0), locks.Give(w, read, 1)
	if got := Ready(l, w); !slices.Equal(got, []int{3}) {
		t.Errorf("%v", got)
	}
}

// In order: the list's, not the numbers'; each task as often as it is there.
func TestReadyInOrder(t *testing.T) {
	var l []api.Task
	var want []int
	for _, seq := range []int{7, 3, 5, 3, 0, -4, math.MaxInt, math.MinInt, 1} {
		l = Add(l, api.Command{}, seq)
		want = append(want, seq)
		if got := Ready(l, nil); !slices.Equal(got, want) {
			t.Fatalf("%v, want %v", got, want)
		}
	}
}

// Below 0 no worker has it, whatever the number; from 0 on one has.
func TestReadyOfWorkers(t *testing.T) {
	c := of([]int{0}, nil, 1)
	w := locks.Ask(locks.New(1), c, 4)
	for _, worker := range ends {
		l := Add(nil, c, 4)
		l[0].Worker = worker
		var want []int
		if worker < 0 {
			want = []int{4}
		}
		if got := Ready(l, w); !slices.Equal(got, want) {
			t.Errorf("%d: %v", worker, got)
		}
	}
}

// It hangs on each of the command's blocks, and on the number: who lacks one
// isn't ready, nor is one that doesn't wait.
func TestReadyKnown(t *testing.T) {
	w := [][]api.Want{
		{{Seq: 1}, {Seq: 2}, {Seq: 3, Excl: true}, {Seq: 4}},
		{{Seq: 2, Excl: true}, {Seq: 1}},
		{},
	}
	for _, x := range []struct {
		reads, writes []int
		seq           int
		want          bool
	}{
		{[]int{0}, nil, 1, true},
		{[]int{0}, nil, 2, true},
		{nil, []int{0}, 3, false},
		{[]int{0}, nil, 4, false},
		{[]int{0}, nil, 5, false},
		{[]int{0}, []int{1}, 2, true},
		{[]int{1}, nil, 1, false},
		{[]int{0, 1}, nil, 1, false},
		{[]int{2}, nil, 1, false},
		{nil, nil, 1, true},
		{nil, nil, 77, true},
		{[]int{3}, nil, 1, false},
		{nil, []int{-1}, 1, false},
	} {
		l := Add(nil, of(x.reads, x.writes, 1), x.seq)
		want := []int{}
		if x.want {
			want = []int{x.seq}
		}
		if got := Ready(l, w); !slices.Equal(got, want) {
			t.Errorf("%v: %v", x, got)
		}
	}
}

// pick is a command of some blocks that rise, few enough to be ready often.
func pick(r *rand.Rand, blocks int) api.Command {
	var c api.Command
	for i := range blocks {
		switch r.Intn(6) {
		case 0:
			c.Reads = append(c.Reads, i)
		case 1:
			c.Writes = append(c.Writes, i)
		}
	}
	c.Fuel = r.Intn(api.MaxFuel + 1)
	return c
}

// Whoever has come, gone or been picked: as the chapter's words say; and where
// something is pending, and no worker has the first one, there is one ready.
func TestReadyByRule(t *testing.T) {
	r := rand.New(rand.NewSource(1))
	ways := [4]int{}
	for range 300 {
		blocks := 1 + r.Intn(5)
		var l []api.Task
		w := locks.New(blocks)
		for seq := 1; seq < 30; seq++ {
			if c := pick(r, blocks); r.Intn(3) > 0 {
				l, w = Add(l, c, seq), locks.Ask(w, c, seq)
			}
			if len(l) > 0 && r.Intn(3) == 0 {
				i := r.Intn(len(l))
				x := l[i]
				x.Worker = r.Intn(6) - 2
				l = With(l, i, x)
			}
			if len(l) > 0 && r.Intn(4) == 0 {
				i := r.Intn(len(l))
				w = locks.Give(w, l[i].Cmd, l[i].Seq)
				l = Without(l, i)
			}
			got := Ready(l, w)
			if want := readies(l, w); !slices.Equal(got, want) {
				t.Fatalf("%v, %v: %v, want %v", l, w, got, want)
			}
			if len(l) > 0 && l[0].Worker < 0 && (len(got) == 0 || got[0] != l[0].Seq) {
				t.Fatalf("%v, %v: %v, and the first one is free", l, w, got)
			}
			ways[min(len(got), 3)]++
		}
	}
	if slices.Min(ways[:]) < 300 {
		t.Errorf("%v: too few to be of use", ways)
	}
}

// P16.1: Fuel.

func TestFuelKnown(t *testing.T) {
	for _, x := range []struct {
		fuels []int
		want  int
	}{
		{nil, 0},
		{[]int{0}, 0},
		{[]int{7}, 7},
		{[]int{7, 7}, 14},
		{[]int{200, 1, 0, 31}, 232},
		{[]int{-1, 5}, 4},
		{[]int{1 << 32, 1 << 32, 1}, 1<<33 + 1},
		{[]int{math.MaxInt}, math.MaxInt},
		{[]int{math.MinInt}, math.MinInt},
		{[]int{math.MaxInt, math.MinInt}, -1},
		{[]int{math.MaxInt, 1}, math.MinInt},
		{[]int{math.MinInt, -1}, math.MaxInt},
	} {
		var l []api.Task
		for _, fuel := range x.fuels {
			l = append(l, api.Task{M: api.Machine{Fuel: fuel}})
		}
		if got := Fuel(l); got != x.want {
			t.Errorf("%v: %d, want %d", x.fuels, got, x.want)
		}
	}
}

// What is left, not what the command began with; of those that are over, and
// of those that a worker has, too.
func TestFuelThatIsLeft(t *testing.T) {
	l := fulls(5)
	l[1].M.Over, l[2].M.Over, l[2].M.Told = true, true, api.OK
	if got, want := Fuel(l), 1009+2009+3009+4009+5009; got != want {
		t.Errorf("%d, want %d", got, want)
	}
	l[3].Cmd.Fuel = 99
	l[4].Worker = -1
	if got, want := Fuel(l), 15045; got != want {
		t.Errorf("%d, want %d", got, want)
	}
}

// A step takes one; one more brings its own; one that goes takes what it has.
func TestFuelByRule(t *testing.T) {
	r := rand.New(rand.NewSource(2))
	turns := 0
	for range 100 {
		var l []api.Task
		for seq := range api.MaxPending {
			c := of(nil, nil, r.Intn(api.MaxFuel+1))
			c.Code = []api.Instr{{Op: api.OpPush, A: 1}, {Op: api.OpEmit}, {Op: api.OpEnd}}
			was := Fuel(l)
			l = Add(l, c, seq)
			if got := Fuel(l); got != was+c.Fuel || got != left(l) {
				t.Fatalf("%d, want %d", got, was+c.Fuel)
			}
		}
		for len(l) > 0 {
			i, was := r.Intn(len(l)), Fuel(l)
			if x := l[i]; !x.M.Over && x.M.Fuel > 0 {
				x.M, x.Own = machine.Step(x.Cmd, x.M, x.Own)
				l = With(l, i, x)
				was--
				turns++
			} else {
				l = Without(l, i)
				was -= x.M.Fuel
			}
			if got := Fuel(l); got != was || got != left(l) {
				t.Fatalf("%d, want %d", got, was)
			}
		}
	}
	if turns < 5000 {
		t.Errorf("%d: too few to be of use", turns)
	}
}

// P16.2: what is added is found.

// At the end, if the number is new; else the first one of that number is. All
// others are found where they were.
func TestAddedIsFound(t *testing.T) {
	ways := [2]int{}
	each(func(l []api.Task) {
		for _, seq := range []int{1, 2, 3, 4, 0, -1, math.MaxInt, math.MinInt} {
			more := Add(l, full(7).Cmd, seq)
			want := found(l, seq)
			if want < 0 {
				want = len(l)
				ways[0]++
			} else {
				ways[1]++
			}
			if got := Find(more, seq); got != want || more[got].Seq != seq {
				t.Fatalf("%v, %d: at %d, want %d", l, seq, got, want)
			}
			for other := 1; other < 8; other++ {
				if other != seq && Find(more, other) != Find(l, other) {
					t.Fatalf("%v, %d: %d is at %d", l, seq, other, Find(more, other))
				}
			}
		}
	})
	if slices.Min(ways[:]) < 1000 {
		t.Errorf("%v: too few to be of use", ways)
	}
}

// Numbered on from one, as they are: each is found at its place, as it was
// added; no worker has it; and once it is taken out, it is found no more.
func TestAddedAreFound(t *testing.T) {
	for _, first := range []int{1, 0, -16, 1 << 32, math.MaxInt - api.MaxPending, math.MinInt} {
		var l []api.Task
		for i := range api.MaxPending {
			l = Add(l, full(i).Cmd, first+i)
		}
		for i := range api.MaxPending {
			at := Find(l, first+i)
			if at != 0 || !sameCommand(l[at].Cmd, full(i).Cmd) || Of(l, -1) != -1 || Of(l, i) != -1 {
				t.Fatalf("%d: at %d", first+i, at)
			}
			if last := Find(l, first+api.MaxPending-1); last != len(l)-1 {
				t.Fatalf("%d: the last one is at %d", first+i, last)
			}
			if l = Without(l, at); Find(l, first+i) != -1 {
				t.Fatalf("%d is there yet", first+i)
			}
		}
	}
}

// One that a worker gets is found by that worker, and by its number.
func TestPickedIsFound(t *testing.T) {
	for worker := range api.MaxWorkers {
		for i := range 5 {
			l := Add(Add(Add(Add(Add(nil, full(1).Cmd, 1), full(2).Cmd, 2), full(3).Cmd, 3), full(4).Cmd, 4), full(5).Cmd, 5)
			x := l[i]
			x.Worker = worker
			l = With(l, i, x)
			if Of(l, worker) != i || Of(l, worker+1) != -1 || Find(l, i+1) != i {
				t.Errorf("%d, %d: %d, %d", worker, i, Of(l, worker), Find(l, i+1))
			}
			if got := Ready(l, locks.New(0)); len(got) != 0 {
				t.Errorf("%d, %d: %v", worker, i, got)
			}
		}
	}
}

// The rules that hold everywhere.

// roomyOf is a list's copy with spare room, in which something stands.
func roomyOf[T any](l []T, more ...T) []T { return slices.Concat(l, more)[:len(l)] }

// roomy is a copy of a list with spare room, in which something stands: in that
// of the list, and in that of each of its tasks' lists.
func roomy(l []api.Task) []api.Task {
	l = roomyOf(l, full(96), full(97))
	for i, t := range l {
		l[i].Cmd.Reads, l[i].Cmd.Writes = roomyOf(t.Cmd.Reads, 90, 91), roomyOf(t.Cmd.Writes, 92)
		l[i].Cmd.Args, l[i].Cmd.Code = roomyOf(t.Cmd.Args, 93), roomyOf(t.Cmd.Code, api.Instr{Op: 94})
		l[i].M.Stack, l[i].M.Out = roomyOf(t.M.Stack, 95), roomyOf(t.M.Out, 96)
		l[i].Own = roomyOf(t.Own, api.Block{97}, api.Block{98})
	}
	return l
}

// wide is a list's copy that has its spare room too, all over.
func wide(l []api.Task) []api.Task {
	l = slices.Clone(l[:cap(l)])
	for i, t := range l {
		l[i].Cmd.Reads, l[i].Cmd.Writes = t.Cmd.Reads[:cap(t.Cmd.Reads)], t.Cmd.Writes[:cap(t.Cmd.Writes)]
		l[i].Cmd.Args, l[i].Cmd.Code = t.Cmd.Args[:cap(t.Cmd.Args)], t.Cmd.Code[:cap(t.Cmd.Code)]
		l[i].M.Stack, l[i].M.Out = t.M.Stack[:cap(t.M.Stack)], t.M.Out[:cap(t.M.Out)]
		l[i].Own = t.Own[:cap(t.Own)]
	}
	return copyOf(l)
}

// spoilList writes over all that a list has, its spare room too.
func spoilList[T any](l []T, with T) {
	l = l[:cap(l)]
	for i := range l {
		l[i] = with
	}
}

// spoilTask writes over all that a task's lists have.
func spoilTask(t api.Task) {
	spoilList(t.Cmd.Reads, -999)
	spoilList(t.Cmd.Writes, -998)
	spoilList(t.Cmd.Args, -997)
	spoilList(t.Cmd.Code, api.Instr{Op: -996})
	spoilList(t.M.Stack, -995)
	spoilList(t.M.Out, -994)
	spoilList(t.Own, api.Block{-993})
}

// spoil writes over all that a list of tasks has, all over.
func spoil(l []api.Task) {
	for _, t := range l[:cap(l)] {
		spoilTask(t)
	}
	spoilList(l, api.Task{Seq: -992, Worker: -991})
}

// Rule 3: what is handed in is as it was, its spare room too.
func TestGivenStays(t *testing.T) {
	for many := range 5 {
		l := roomy(fulls(many))
		x := roomy([]api.Task{full(8)})
		w := [][]api.Want{{{Seq: 1}, {Seq: 2, Excl: true}}, {{Seq: 3}}}
		then, thenOne, wants := wide(l), wide(x), slices.Clone(w[0])
		for i := -1; i <= many; i++ {
			Add(l, x[0].Cmd, i)
			Find(l, i)
			Of(l, i)
			With(l, i, x[0])
			Without(l, i)
			Ready(l, w)
			Fuel(l)
		}
		if !same(wide(l), then) || !same(wide(x), thenOne) || !slices.Equal(w[0], wants) || len(w[1]) != 1 {
			t.Fatalf("%v, and it was %v", wide(l), then)
		}
	}
}

// answers are those of the calls that answer lists, one after the other: Add,
// and, of each place, one below the first and one behind the last, With and
// Without.
func answers(l []api.Task, t api.Task) [][]api.Task {
	all := [][]api.Task{Add(l, t.Cmd, 9)}
	for i := -1; i <= len(l); i++ {
		all = append(all, With(l, i, t), Without(l, i))
	}
	return all
}

// wanted are those answers in the chapter's words.
func wanted(l []api.Task, t api.Task) [][]api.Task {
	all := [][]api.Task{added(l, t.Cmd, 9)}
	for i := -1; i <= len(l); i++ {
		if i < 0 || i == len(l) {
			all = append(all, copyOf(l), copyOf(l))
		} else {
			all = append(all, with(l, i, t), without(l, i))
		}
	}
	return all
}

// Rule 3: an answer is new memory: whoever writes into one changes neither what
// was handed in nor another answer, nor does a later change of what was.
func TestAnswersAreTheirOwn(t *testing.T) {
	for many := range 5 {
		for _, make := range []func([]api.Task) []api.Task{copyOf, roomy} {
			l, x := make(fulls(many)), make([]api.Task{full(8)})
			then, thenOne := wide(l), wide(x)
			want := wanted(l, x[0])
			for _, got := range answers(l, x[0]) {
				spoil(got)
			}
			if !same(wide(l), then) || !same(wide(x), thenOne) {
				t.Fatalf("%v, and it was %v", wide(l), then)
			}
			got := answers(l, x[0])
			spoil(l)
			spoil(x)
			for i := range want {
				if !same(got[i], want[i]) {
					t.Fatalf("%d tasks, answer %d: %v, want %v", many, i, got[i], want[i])
				}
			}
			for i := range got {
				spoil(got[i])
				for j := i + 1; j < len(got); j++ {
					if !same(got[j], want[j]) {
						t.Fatalf("%d tasks, answers %d and %d share", many, i, j)
					}
				}
			}
		}
	}
}

// No two lists of an answer share memory, also where those handed in do.
func TestListsAreTheirOwn(t *testing.T) {
	numbers := []int{1, 2, 3}
	one := api.Task{
		Cmd: api.Command{Reads: numbers, Writes: numbers, Args: numbers, Code: []api.Instr{{Op: 1}}},
		M:   api.Machine{Stack: numbers, Out: numbers},
		Own: []api.Block{{1}},
	}
	for i, l := range answers([]api.Task{one, one, one}, one) {
		for at, x := range l {
			for _, some := range [][]int{x.Cmd.Reads, x.Cmd.Writes, x.Cmd.Args, x.M.Stack, x.M.Out} {
				if len(some) == 0 {
					continue
				}
				if !slices.Equal(some, numbers) {
					t.Fatalf("answer %d, task %d: %v", i, at, some)
				}
				spoilList(some, 7)
			}
			for _, block := range x.Own {
				if block != (api.Block{1}) {
					t.Fatalf("answer %d, task %d: %v", i, at, x.Own)
				}
			}
			if x.Cmd.Code[0].Op != 1 {
				t.Fatalf("answer %d, task %d: %v", i, at, x.Cmd.Code)
			}
			spoilList(x.Own, api.Block{})
			spoilList(x.Cmd.Code, api.Instr{})
		}
	}
}

// Ready's answer is its own, too.
func TestReadyIsItsOwn(t *testing.T) {
	l := Add(Add(nil, api.Command{}, 3), api.Command{}, 4)
	spoilList(Ready(l, nil), 99)
	if got := Ready(l, nil); !slices.Equal(got, []int{3, 4}) || l[0].Seq != 3 || l[1].Seq != 4 {
		t.Errorf("%v, %v", got, l)
	}
}

// An older list may be gone on with, in two ways, also where it has spare room.
func TestOlderLists(t *testing.T) {
	var l []api.Task
	for seq := 1; seq < 40; seq++ {
		l = Add(l, full(seq).Cmd, seq)
		was := copyOf(l)
		a, b := Add(l, full(50).Cmd, 50), Add(l, full(60).Cmd, 60)
		d, e := With(l, seq-1, full(70)), With(l, 0, full(80))
		f, g := Without(l, 0), Without(l, seq-1)
		h, i := Add(g, full(90).Cmd, 90), Add(g, full(91).Cmd, 91)
		if !same(a, added(was, full(50).Cmd, 50)) || !same(b, added(was, full(60).Cmd, 60)) {
			t.Fatalf("%v: %v, %v", was, a, b)
		}
		if !same(d, with(was, seq-1, full(70))) || !same(e, with(was, 0, full(80))) {
			t.Fatalf("%v: %v, %v", was, d, e)
		}
		if !same(f, without(was, 0)) || !same(g, without(was, seq-1)) || !same(l, was) {
			t.Fatalf("%v: %v, %v", was, f, g)
		}
		if !same(h, added(g, full(90).Cmd, 90)) || !same(i, added(g, full(91).Cmd, 91)) {
			t.Fatalf("%v: %v, %v", g, h, i)
		}
	}
}

// Rule 2: a list that holds nothing may be nil or empty.
func TestNilOrEmpty(t *testing.T) {
	for _, l := range [][]api.Task{nil, {}, fulls(2)[:0]} {
		if got := Add(l, full(3).Cmd, 3); !same(got, added(nil, full(3).Cmd, 3)) {
			t.Errorf("%v", got)
		}
		if Find(l, 0) != -1 || Of(l, 0) != -1 || Fuel(l) != 0 {
			t.Errorf("%d, %d, %d", Find(l, 0), Of(l, 0), Fuel(l))
		}
		for _, w := range [][][]api.Want{nil, {}, {nil}, {{}, {{Seq: 1}}}} {
			if got := Ready(l, w); len(got) != 0 {
				t.Errorf("%v", got)
			}
		}
	}
	empty := api.Task{
		Seq: 1, Worker: -1, Own: []api.Block{},
		Cmd: api.Command{Reads: []int{}, Writes: []int{}, Args: []int{}, Code: []api.Instr{}},
		M:   api.Machine{Stack: []int{}, Out: []int{}},
	}
	bare := api.Task{Seq: 1, Worker: -1}
	for _, x := range []api.Task{empty, bare} {
		l := []api.Task{x, bare}
		if !same(With(l, 0, x), l) || !same(Without(l, 0), l[1:]) || !same(Add(l[:1], x.Cmd, 1), l) {
			t.Errorf("%v", l)
		}
		if got := Ready(l, nil); !slices.Equal(got, []int{1, 1}) {
			t.Errorf("%v", got)
		}
	}
}

// Rules 4 and 6: a call hangs on its arguments alone, whoever calls beside it.
func TestManyCallAtOnce(t *testing.T) {
	l, x := roomy(fulls(4)), full(8)
	was := wide(l)
	want := wanted(l, x)
	var wg sync.WaitGroup
	for range 8 {
		wg.Go(func() {
			for range 100 {
				for i, got := range answers(l, x) {
					if !same(got, want[i]) {
						t.Errorf("answer %d: %v", i, got)
					}
				}
				if Find(l, 3) != 2 || Of(l, 1) != 0 || Fuel(l) != 10036 || len(Ready(l, nil)) != 0 {
					t.Errorf("%v", l)
				}
			}
		})
	}
	wg.Wait()
	if !same(wide(l), was) {
		t.Errorf("%v", l)
	}
}
