package crew

import (
	"fmt"
	"math"
	"math/rand"
	"reflect"
	"slices"
	"sync"
	"testing"

	"foreman/api"
	"foreman/asm"
	"foreman/locks"
	"foreman/machine"
	"foreman/pool"
	"foreman/proof"
	"foreman/shade"
	"foreman/table"
)

// The chapter's words, written anew: of the crew handed in nothing is shared.

// added is Add in the chapter's words.
func added(c api.Crew, l []api.Command, first int) api.Crew {
	c = copyOf(c)
	for i := range l {
		t := api.Task{Seq: first + i, Cmd: copyOfCommand(l[i]), Worker: -1}
		t.M.Fuel = l[i].Fuel
		c.Tasks = append(c.Tasks, t)
	}
	for i := range l {
		c.Wants = locks.Ask(c.Wants, l[i], first+i)
	}
	return c
}

// taskOf is the place of the first task of which it is so; -1.
func taskOf(l []api.Task, is func(t api.Task) bool) int {
	for i := range l {
		if is(l[i]) {
			return i
		}
	}
	return -1
}

// picked is Pick in the chapter's words.
func picked(c api.Crew, workers, worker, seq int) (api.Crew, api.Errno) {
	c = copyOf(c)
	if worker < 0 || workers <= worker {
		return c, api.ErrArg
	}
	if taskOf(c.Tasks, func(t api.Task) bool { return t.Worker == worker }) != -1 {
		return c, api.ErrBusy
	}
	at := taskOf(c.Tasks, func(t api.Task) bool { return t.Seq == seq })
	switch {
	case at == -1:
		return c, api.ErrNone
	case c.Tasks[at].Worker >= 0:
		return c, api.ErrNone
	case !locks.Ready(c.Wants, c.Tasks[at].Cmd, seq):
		return c, api.ErrNone
	}
	c.Tasks[at].Worker = worker
	c.Tasks[at].Own = table.Load(c.Blocks, c.Tasks[at].Cmd)
	return c, api.OK
}

// stepped is Step in the chapter's words.
func stepped(c api.Crew, workers, worker int) (api.Crew, api.Errno) {
	c = copyOf(c)
	if worker < 0 || workers <= worker {
		return c, api.ErrArg
	}
	at := taskOf(c.Tasks, func(t api.Task) bool { return t.Worker == worker })
	if at == -1 {
		return c, api.ErrNone
	}
	t := &c.Tasks[at]
	t.M, t.Own = machine.Step(t.Cmd, t.M, t.Own)
	if !t.M.Over {
		return c, api.OK
	}
	if t.M.Told == api.OK {
		// All of the blocks as they were: each change comes behind this.
		was := slices.Clone(c.Blocks)
		c.Blocks = table.Store(c.Blocks, t.Cmd, t.Own, t.Seq)
		for _, i := range t.Cmd.Writes {
			c.Mark = shade.Keep(c.Mark, was, i)
		}
	}
	c.Results = append(c.Results, api.Result{Seq: t.Seq, Told: t.M.Told, Out: slices.Clone(t.M.Out)})
	c.Wants = locks.Give(c.Wants, t.Cmd, t.Seq)
	var rest []api.Task
	for i := range c.Tasks {
		if i != at {
			rest = append(rest, c.Tasks[i])
		}
	}
	c.Tasks = rest
	return c, api.OK
}

// oneByOne are the blocks and results of commands that are done one by one.
func oneByOne(blocks []api.Entry, l []api.Command, first int) ([]api.Entry, []api.Result) {
	var results []api.Result
	for i, c := range l {
		var r api.Result
		blocks, r = table.Apply(blocks, c, first+i)
		results = append(results, r)
	}
	return blocks, results
}

// copyOfCommand is a copy that shares nothing.
func copyOfCommand(c api.Command) api.Command {
	return api.Command{
		Reads:  slices.Clone(c.Reads),
		Writes: slices.Clone(c.Writes),
		Args:   slices.Clone(c.Args),
		Fuel:   c.Fuel,
		Code:   slices.Clone(c.Code),
	}
}

// copyOfTask is a copy that shares nothing.
func copyOfTask(t api.Task) api.Task {
	t.Cmd, t.Own = copyOfCommand(t.Cmd), slices.Clone(t.Own)
	t.M.Stack, t.M.Out = slices.Clone(t.M.Stack), slices.Clone(t.M.Out)
	return t
}

// copyOf is a copy that shares nothing.
func copyOf(c api.Crew) api.Crew {
	c.Blocks, c.Wants, c.Tasks = slices.Clone(c.Blocks), slices.Clone(c.Wants), slices.Clone(c.Tasks)
	for i := range c.Wants {
		c.Wants[i] = slices.Clone(c.Wants[i])
	}
	for i := range c.Tasks {
		c.Tasks[i] = copyOfTask(c.Tasks[i])
	}
	c.Results = slices.Clone(c.Results)
	for i := range c.Results {
		c.Results[i].Out = slices.Clone(c.Results[i].Out)
	}
	c.Mark.Old, c.Mark.Kept = slices.Clone(c.Mark.Old), slices.Clone(c.Mark.Kept)
	return c
}

// sameCommand tells whether two commands are alike (nil and empty are).
func sameCommand(a, b api.Command) bool {
	return a.Fuel == b.Fuel && slices.Equal(a.Reads, b.Reads) && slices.Equal(a.Writes, b.Writes) &&
		slices.Equal(a.Args, b.Args) && slices.Equal(a.Code, b.Code)
}

// sameMachine tells whether two machines are alike (nil and empty are).
func sameMachine(a, b api.Machine) bool {
	return a.Pc == b.Pc && a.Fuel == b.Fuel && slices.Equal(a.Stack, b.Stack) && a.Regs == b.Regs &&
		slices.Equal(a.Out, b.Out) && a.Over == b.Over && a.Told == b.Told
}

// sameTask tells whether two tasks are alike (nil and empty are).
func sameTask(a, b api.Task) bool {
	return a.Seq == b.Seq && a.Worker == b.Worker && sameCommand(a.Cmd, b.Cmd) && sameMachine(a.M, b.M) &&
		slices.Equal(a.Own, b.Own)
}

// sameResult tells whether two results are alike (nil and empty are).
func sameResult(a, b api.Result) bool {
	return a.Seq == b.Seq && a.Told == b.Told && slices.Equal(a.Out, b.Out)
}

// sameMark tells whether two marks are alike (nil and empty are).
func sameMark(a, b api.Mark) bool {
	return a.On == b.On && a.Slot == b.Slot && a.Seq == b.Seq && a.Batch == b.Batch && a.Begin == b.Begin &&
		a.Done == b.Done && a.Sum == b.Sum && slices.Equal(a.Old, b.Old) && slices.Equal(a.Kept, b.Kept)
}

// same tells whether two crews are alike (nil and empty are).
func same(a, b api.Crew) bool {
	return slices.Equal(a.Blocks, b.Blocks) && slices.EqualFunc(a.Wants, b.Wants, slices.Equal[[]api.Want]) &&
		slices.EqualFunc(a.Tasks, b.Tasks, sameTask) && slices.EqualFunc(a.Results, b.Results, sameResult) &&
		sameMark(a.Mark, b.Mark)
}

// The comparison itself sees each field, also such as may come to be there:
// else the tests that lean on it would see less than they say.
func TestSameSeesAll(t *testing.T) {
	for kind, many := range map[reflect.Type]int{
		reflect.TypeFor[api.Crew]():    5,
		reflect.TypeFor[api.Task]():    5,
		reflect.TypeFor[api.Command](): 5,
		reflect.TypeFor[api.Machine](): 7,
		reflect.TypeFor[api.Result]():  3,
		reflect.TypeFor[api.Mark]():    9,
	} {
		if kind.NumField() != many {
			t.Errorf("%v has %d fields", kind, kind.NumField())
		}
	}
	for i, change := range changes() {
		was := full()
		now := copyOf(was)
		if !same(was, now) {
			t.Fatal("a copy is another one")
		}
		if change(&now); same(was, now) {
			t.Errorf("change %d isn't seen", i)
		}
		if !same(was, full()) {
			t.Errorf("change %d changes what was copied", i)
		}
	}
}

// changes change a crew in one thing each.
func changes() []func(*api.Crew) {
	return []func(*api.Crew){
		func(c *api.Crew) { c.Blocks[1].Cells[7]++ },
		func(c *api.Crew) { c.Blocks[0].Seq++ },
		func(c *api.Crew) { c.Blocks = c.Blocks[:2] },
		func(c *api.Crew) { c.Wants[2][1].Has = !c.Wants[2][1].Has },
		func(c *api.Crew) { c.Wants[2][0].Excl = !c.Wants[2][0].Excl },
		func(c *api.Crew) { c.Wants[2][0].Seq++ },
		func(c *api.Crew) { c.Wants[1] = c.Wants[1][:0] },
		func(c *api.Crew) { c.Tasks[1].Seq++ },
		func(c *api.Crew) { c.Tasks[0].Worker++ },
		func(c *api.Crew) { c.Tasks[0].Cmd.Fuel++ },
		func(c *api.Crew) { c.Tasks[0].Cmd.Reads[0]++ },
		func(c *api.Crew) { c.Tasks[0].Cmd.Writes[0]++ },
		func(c *api.Crew) { c.Tasks[0].Cmd.Args[0]++ },
		func(c *api.Crew) { c.Tasks[0].Cmd.Code[0].A++ },
		func(c *api.Crew) { c.Tasks[0].M.Pc++ },
		func(c *api.Crew) { c.Tasks[0].M.Fuel++ },
		func(c *api.Crew) { c.Tasks[0].M.Stack[0]++ },
		func(c *api.Crew) { c.Tasks[0].M.Regs[3]++ },
		func(c *api.Crew) { c.Tasks[0].M.Out[0]++ },
		func(c *api.Crew) { c.Tasks[0].M.Over = !c.Tasks[0].M.Over },
		func(c *api.Crew) { c.Tasks[0].M.Told++ },
		func(c *api.Crew) { c.Tasks[0].Own[1][7]++ },
		func(c *api.Crew) { c.Results[0].Seq++ },
		func(c *api.Crew) { c.Results[0].Told++ },
		func(c *api.Crew) { c.Results[0].Out[1]++ },
		func(c *api.Crew) { c.Mark.On = !c.Mark.On },
		func(c *api.Crew) { c.Mark.Slot++ },
		func(c *api.Crew) { c.Mark.Seq++ },
		func(c *api.Crew) { c.Mark.Batch++ },
		func(c *api.Crew) { c.Mark.Begin++ },
		func(c *api.Crew) { c.Mark.Done++ },
		func(c *api.Crew) { c.Mark.Sum++ },
		func(c *api.Crew) { c.Mark.Old[0].Seq++ },
		func(c *api.Crew) { c.Mark.Kept[0] = !c.Mark.Kept[0] },
	}
}

// What crews are made of.

// full is a crew that has something in all of its lists: of three blocks, with a
// mark under way that has kept block 1; of four commands one is worker 0's, and
// a step far, and one is worker 2's.
func full() api.Crew {
	c := api.Crew{
		Blocks:  numbered(3),
		Wants:   locks.New(3),
		Results: []api.Result{{Seq: 7, Out: []int{70, 71}}, {Seq: 8, Told: api.ErrZero}, {Seq: 6, Out: []int{60}}},
		Mark:    api.Mark{On: true, Slot: 1, Seq: 8, Batch: 5, Begin: 6, Done: 2, Sum: 77, Old: make([]api.Entry, 3), Kept: make([]bool, 3)},
	}
	c.Mark.Old[1], c.Mark.Kept[1] = api.Entry{Cells: api.Block{5, 6}, Seq: 4}, true
	put := command([]int{2}, []int{1}, 9, "push 8 emit get 0 0 arg 0 add put 1 2 end", 50)
	see := command([]int{2}, nil, 9, "get 0 1 emit end")
	end := command([]int{1}, []int{0}, 9, "end")
	c = added(c, []api.Command{put, see, end, put}, 11)
	c.Tasks[0].Worker, c.Tasks[0].Own = 0, []api.Block{c.Blocks[2].Cells, c.Blocks[1].Cells}
	c.Tasks[0].M = api.Machine{Pc: 2, Fuel: 7, Stack: []int{3}, Regs: [api.Regs]int{1, 0, 0, 2}, Out: []int{8}}
	c.Tasks[1].Worker, c.Tasks[1].Own = 2, []api.Block{c.Blocks[2].Cells}
	return c
}

// numbered are blocks of which no two cells are alike, and none is nought; each
// was written by a command of its own.
func numbered(many int) []api.Entry {
	l := make([]api.Entry, many)
	for i := range l {
		for j := range l[i].Cells {
			l[i].Cells[j] = 1000*(i+1) + j
		}
		l[i].Seq = i - 70
	}
	return l
}

// command is a command from its program's text. One that may not be is a fault
// of the test.
func command(reads, writes []int, fuel int, text string, args ...int) api.Command {
	l, e := asm.Build(text)
	c := api.Command{Reads: reads, Writes: writes, Args: args, Fuel: fuel, Code: l}
	if f := proof.Check(c); e != api.OK || f != api.OK {
		panic(fmt.Sprintf("%q, %v, %v: %d, %d", text, reads, writes, e, f))
	}
	return c
}

// on is a crew of so many blocks, with commands numbered from 1 on.
func on(blocks int, l ...api.Command) api.Crew {
	return Add(api.Crew{Blocks: numbered(blocks), Wants: locks.New(blocks)}, l, 1)
}

// pick picks; the turn must be a valid one.
func pick(t *testing.T, c api.Crew, workers, worker, seq int) api.Crew {
	t.Helper()
	c, e := Pick(c, workers, worker, seq)
	if e != api.OK {
		t.Fatalf("worker %d, command %d: %d", worker, seq, e)
	}
	return c
}

// steps takes so many steps of a worker; all turns must be valid ones.
func steps(t *testing.T, c api.Crew, workers, worker, many int) api.Crew {
	t.Helper()
	for i := range many {
		var e api.Errno
		if c, e = Step(c, workers, worker); e != api.OK {
			t.Fatalf("worker %d, step %d: %d", worker, i, e)
		}
	}
	return c
}

// whole picks a command and takes its steps till the worker has none.
func whole(t *testing.T, c api.Crew, workers, worker, seq int) api.Crew {
	t.Helper()
	c = pick(t, c, workers, worker, seq)
	for pool.Of(c.Tasks, worker) >= 0 {
		c = steps(t, c, workers, worker, 1)
	}
	return c
}

// adds is a command that adds a number to a block's first cell: five steps.
func adds(block, n int) api.Command {
	return command(nil, []int{block}, 9, "get 0 0 arg 0 add put 0 0 end", n)
}

// puts is a command that puts a number into a block's first cell, and ends so.
func puts(block, n, fuel int, end string) api.Command {
	return command(nil, []int{block}, fuel, "arg 0 put 0 0 "+end, n)
}

// Numbers may be any, the ends of their type too; no two of these are one.
var ends = []int{0, 1, -1, 2, 3, -2, 4, 31, 32, 256, 1 << 31, 1 << 32, 1<<32 + 1, -1 << 32, -1<<32 + 1, math.MaxInt32, math.MinInt32, math.MaxUint32, math.MaxInt, math.MinInt, math.MaxInt - 1, math.MinInt + 1}

// P17.1: Add.

// Numbered from first on; each is pending, and waits for its blocks.
func TestAddKnown(t *testing.T) {
	a := command([]int{2}, []int{0}, 5, "end")
	b := command([]int{0, 2}, nil, 6, "push 3 emit end")
	d := command(nil, nil, 7, "stop")
	c := Add(api.Crew{Wants: locks.New(3)}, []api.Command{a, b, d, a}, 40)
	var tasks []api.Task
	for i, x := range []api.Command{a, b, d, a} {
		tasks = append(tasks, api.Task{Seq: 40 + i, Cmd: x, M: api.Machine{Fuel: x.Fuel}, Worker: -1})
	}
	want := api.Crew{Tasks: tasks, Wants: [][]api.Want{
		{{Seq: 40, Excl: true, Has: true}, {Seq: 41}, {Seq: 43, Excl: true}},
		{},
		{{Seq: 40, Has: true}, {Seq: 41, Has: true}, {Seq: 43, Has: true}},
	}}
	if !same(c, want) {
		t.Errorf("%v, want %v", c, want)
	}
}

// Behind others; all else is as it was.
func TestAddBehindOthers(t *testing.T) {
	l := []api.Command{adds(1, 1), command([]int{0, 2}, []int{1}, 4, "end"), adds(2, 3), command(nil, nil, 1, "end")}
	for many := range len(l) + 1 {
		for _, first := range []int{15, 1, 100} {
			got, want := Add(full(), l[:many], first), added(full(), l[:many], first)
			if !same(got, want) {
				t.Fatalf("%d, %d: %v, want %v", many, first, got, want)
			}
			was := full()
			if len(got.Tasks) != 4+many || !slices.Equal(got.Blocks, was.Blocks) || !sameMark(got.Mark, was.Mark) {
				t.Fatalf("%d, %d: %v", many, first, got)
			}
			if !slices.EqualFunc(got.Results, was.Results, sameResult) || !slices.EqualFunc(got.Tasks[:4], was.Tasks, sameTask) {
				t.Fatalf("%d, %d: %v", many, first, got)
			}
		}
	}
}

// In two goes it is the same as in one.
func TestAddInTwoGoes(t *testing.T) {
	r := rand.New(rand.NewSource(5))
	for range 200 {
		l := anyBatch(r, r.Intn(10), 4)
		for many := range len(l) + 1 {
			one := Add(on(4), l, 9)
			two := Add(Add(on(4), l[:many], 9), l[many:], 9+many)
			if !same(one, two) {
				t.Fatalf("%v, %d: %v, %v", l, many, one, two)
			}
		}
	}
}

// Numbers may be any: they wrap round, as all numbers do.
func TestAddEnds(t *testing.T) {
	for _, first := range ends {
		l := []api.Command{adds(0, 1), adds(1, 2), adds(0, 3)}
		c := Add(api.Crew{Wants: locks.New(2)}, l, first)
		for i, x := range c.Tasks {
			if x.Seq != first+i || !sameCommand(x.Cmd, l[i]) {
				t.Errorf("%d, %d: %v", first, i, x)
			}
		}
		if len(c.Tasks) != 3 || c.Wants[0][0].Seq != first || c.Wants[1][0].Seq != first+1 || c.Wants[0][1].Seq != first+2 {
			t.Errorf("%d: %v", first, c)
		}
		for i, want := range []api.Errno{api.OK, api.OK, api.ErrNone} {
			if _, e := Pick(c, 1, 0, first+i); e != want {
				t.Errorf("%d: %d, want %d", first+i, e, want)
			}
		}
	}
}

// P17.1: Pick.

// The worker's, its own blocks loaded, Reads first; all else is as it was.
func TestPickKnown(t *testing.T) {
	x := command([]int{0, 3}, []int{1, 2}, 8, "push 1 emit end", 6)
	c := on(4, adds(0, 1), x)
	c = whole(t, c, 3, 1, 1)
	got := pick(t, c, 3, 2, 2)
	b := numbered(4)
	b[0].Cells[0], b[0].Seq = 1001, 1
	task := api.Task{Seq: 2, Cmd: x, M: api.Machine{Fuel: 8}, Worker: 2, Own: []api.Block{b[0].Cells, b[3].Cells, b[1].Cells, b[2].Cells}}
	want := api.Crew{
		Blocks:  b,
		Wants:   [][]api.Want{{{Seq: 2, Has: true}}, {{Seq: 2, Excl: true, Has: true}}, {{Seq: 2, Excl: true, Has: true}}, {{Seq: 2, Has: true}}},
		Tasks:   []api.Task{task},
		Results: []api.Result{{Seq: 1}},
	}
	if !same(got, want) {
		t.Errorf("%v, want %v", got, want)
	}
}

// One without blocks, and one of which others stand ahead and behind: the place
// stays.
func TestPickLeavesPlaces(t *testing.T) {
	c := on(3, adds(0, 1), command(nil, nil, 3, "end"), adds(1, 2), adds(2, 3))
	for _, seq := range []int{2, 4, 3, 1} {
		was := copyOf(c)
		c = pick(t, c, 4, seq%4, seq)
		for i, x := range c.Tasks {
			want := was.Tasks[i]
			if x.Seq == seq {
				want.Worker, want.Own = seq%4, table.Load(was.Blocks, x.Cmd)
			}
			if !sameTask(x, want) {
				t.Errorf("%d, %d: %v, want %v", seq, i, x, want)
			}
		}
	}
}

// Which errors there are, and which one is told where several apply.
func TestPickErrors(t *testing.T) {
	c := on(3, adds(0, 1), adds(0, 2), adds(1, 3), command([]int{0, 1}, nil, 5, "end"), adds(2, 4))
	c = pick(t, c, 2, 0, 3)
	for _, x := range []struct {
		workers, worker, seq int
		want                 api.Errno
	}{
		{2, 1, 1, api.OK}, {2, 1, 5, api.OK}, {9, 8, 1, api.OK}, {math.MaxInt, math.MaxInt - 1, 5, api.OK},
		// No such worker: whatever else is so.
		{2, 2, 1, api.ErrArg}, {2, 3, 1, api.ErrArg}, {2, -1, 1, api.ErrArg}, {0, 0, 1, api.ErrArg}, {1, 1, 5, api.ErrArg},
		{0, 0, 3, api.ErrArg}, {-1, 0, 1, api.ErrArg}, {-5, -6, 1, api.ErrArg}, {2, -1, 9, api.ErrArg}, {2, 2, 9, api.ErrArg},
		{math.MaxInt, math.MaxInt, 1, api.ErrArg}, {math.MinInt, math.MinInt, 1, api.ErrArg}, {math.MaxInt, -1, 1, api.ErrArg},
		{math.MinInt, math.MaxInt, 1, api.ErrArg}, {math.MaxInt, math.MinInt, 1, api.ErrArg},
		// At work: whatever command it asks for.
		{2, 0, 1, api.ErrBusy}, {2, 0, 3, api.ErrBusy}, {2, 0, 2, api.ErrBusy}, {2, 0, 99, api.ErrBusy}, {1, 0, 5, api.ErrBusy},
		// No such command.
		{2, 1, 0, api.ErrNone}, {2, 1, 6, api.ErrNone}, {2, 1, -1, api.ErrNone}, {2, 1, math.MinInt, api.ErrNone}, {2, 1, math.MaxInt, api.ErrNone},
		{2, 1, 1 + 1<<32, api.ErrNone},
		// One that a worker has.
		{2, 1, 3, api.ErrNone},
		// Those that wait: behind one that is ready, and behind one at work.
		{2, 1, 2, api.ErrNone}, {2, 1, 4, api.ErrNone},
	} {
		got, e := Pick(c, x.workers, x.worker, x.seq)
		if e != x.want {
			t.Errorf("%v: %d", x, e)
		}
		if e != api.OK && !same(got, c) {
			t.Errorf("%v: %v, and it was %v", x, got, c)
		}
		if want, _ := picked(c, x.workers, x.worker, x.seq); !same(got, want) {
			t.Errorf("%v: %v, want %v", x, got, want)
		}
	}
}

// Of workers and numbers at the ends.
func TestPickEnds(t *testing.T) {
	c := on(2, adds(0, 1), adds(0, 2), adds(1, 3))
	good := 0
	for _, workers := range ends {
		for _, worker := range ends {
			for _, seq := range ends {
				got, e := Pick(c, workers, worker, seq)
				want, f := picked(c, workers, worker, seq)
				if e != f || !same(got, want) {
					t.Fatalf("%d, %d, %d: %d, want %d", workers, worker, seq, e, f)
				}
				if e == api.OK {
					good++
				}
			}
		}
	}
	if good < 100 {
		t.Errorf("%d: too few to be of use", good)
	}
}

// What is loaded is what is there then: behind what others have written.
func TestPickLoadsAtThatTime(t *testing.T) {
	c := on(2, adds(0, 5), adds(1, 6), adds(0, 7))
	early := pick(t, c, 2, 1, 2)
	c = whole(t, early, 2, 0, 1)
	c = pick(t, c, 2, 0, 3)
	if own := c.Tasks[1].Own; len(own) != 1 || own[0][0] != 1005 {
		t.Errorf("%v", own)
	}
	if own := c.Tasks[0].Own; len(own) != 1 || own[0] != numbered(2)[1].Cells {
		t.Errorf("%v", own)
	}
}

// The blocks may be exchanged between calls: what counts is what is there.
func TestPickOfOtherBlocks(t *testing.T) {
	c := on(2, adds(1, 5))
	c.Blocks = []api.Entry{{}, {Cells: api.Block{-3, 4}, Seq: 9}}
	c = pick(t, c, 1, 0, 1)
	if own := c.Tasks[0].Own; len(own) != 1 || own[0] != (api.Block{-3, 4}) {
		t.Errorf("%v", own)
	}
}

// P17.1: Step.

// Step by step: on the way the machine and its own blocks alone change; nobody
// sees what it has written.
func TestStepKnown(t *testing.T) {
	x := command([]int{1}, []int{0}, 9, "get 0 1 emit push 7 put 1 3 end")
	c := on(2, adds(1, 5), x, adds(0, 3))
	c = whole(t, c, 2, 0, 1)
	c = pick(t, c, 2, 1, 2)
	was := copyOf(c)
	for i, want := range []api.Machine{
		{Pc: 1, Fuel: 8, Stack: []int{2001}},
		{Pc: 2, Fuel: 7, Out: []int{2001}},
		{Pc: 3, Fuel: 6, Stack: []int{7}, Out: []int{2001}},
		{Pc: 4, Fuel: 5, Out: []int{2001}},
	} {
		c = steps(t, c, 2, 1, 1)
		if !sameMachine(c.Tasks[0].M, want) {
			t.Fatalf("%d: %v, want %v", i, c.Tasks[0].M, want)
		}
		other := copyOf(c)
		other.Tasks[0].M, other.Tasks[0].Own = was.Tasks[0].M, was.Tasks[0].Own
		if !same(other, was) {
			t.Fatalf("%d: %v, and it was %v", i, c, was)
		}
	}
	if c.Tasks[0].Own[1][3] != 7 {
		t.Errorf("%v", c.Tasks[0].Own)
	}
	c = steps(t, c, 2, 1, 1)
	b := numbered(2)
	b[1].Cells[0], b[1].Seq = 2005, 1
	b[0].Cells[3], b[0].Seq = 7, 2
	want := api.Crew{
		Blocks:  b,
		Wants:   [][]api.Want{{{Seq: 3, Excl: true, Has: true}}, {}},
		Tasks:   was.Tasks[1:],
		Results: []api.Result{{Seq: 1}, {Seq: 2, Out: []int{2001}}},
	}
	if !same(c, want) {
		t.Errorf("%v, want %v", c, want)
	}
}

// Which errors there are, and which one is told where both apply.
func TestStepErrors(t *testing.T) {
	c := pick(t, on(2, adds(0, 1), adds(0, 2), adds(1, 3)), 3, 1, 3)
	for _, x := range []struct {
		workers, worker int
		want            api.Errno
	}{
		{3, 1, api.OK}, {2, 1, api.OK}, {math.MaxInt, 1, api.OK},
		{3, 0, api.ErrNone}, {3, 2, api.ErrNone}, {1, 0, api.ErrNone}, {math.MaxInt, math.MaxInt - 1, api.ErrNone},
		{1, 1, api.ErrArg}, {0, 1, api.ErrArg}, {-1, 1, api.ErrArg}, {3, 3, api.ErrArg}, {3, -1, api.ErrArg}, {0, 0, api.ErrArg},
		{3, -2, api.ErrArg}, {math.MaxInt, math.MaxInt, api.ErrArg}, {math.MinInt, math.MinInt, api.ErrArg}, {math.MinInt, 1, api.ErrArg},
		{math.MaxInt, math.MinInt, api.ErrArg}, {math.MaxInt, -1, api.ErrArg}, {-1, -1, api.ErrArg}, {-1, -2, api.ErrArg},
	} {
		got, e := Step(c, x.workers, x.worker)
		if e != x.want {
			t.Errorf("%v: %d", x, e)
		}
		if e != api.OK && !same(got, c) {
			t.Errorf("%v: %v, and it was %v", x, got, c)
		}
	}
	for _, workers := range ends {
		for _, worker := range ends {
			got, e := Step(c, workers, worker)
			want, f := stepped(c, workers, worker)
			if e != f || !same(got, want) {
				t.Errorf("%d, %d: %d, want %d", workers, worker, e, f)
			}
		}
	}
}

// Of each way to end: what it told, whether it is stored, and that its blocks
// are free and it is pending no more, however it ended.
func TestStepToTheEnd(t *testing.T) {
	for _, x := range []struct {
		cmd    api.Command
		turns  int
		told   api.Errno
		stored bool
		out    []int
	}{
		{puts(0, 5, 9, "end"), 3, api.OK, true, nil},
		{puts(0, 5, 3, "end"), 3, api.OK, true, nil},
		{puts(0, 5, 9, "push 4 emit push 6 emit end"), 7, api.OK, true, []int{4, 6}},
		{puts(0, 5, 9, "stop"), 3, api.ErrStop, false, nil},
		{puts(0, 5, 3, "stop"), 3, api.ErrStop, false, nil},
		{puts(0, 5, 9, "push 4 emit stop"), 5, api.ErrStop, false, nil},
		{puts(0, 5, 9, "push 4 emit push 1 push 0 div emit end"), 7, api.ErrZero, false, nil},
		{puts(0, 5, 2, "end"), 3, api.ErrFuel, false, nil},
		{puts(0, 5, 1, "end"), 2, api.ErrFuel, false, nil},
		{puts(0, 5, 4, "push 4 emit end"), 5, api.ErrFuel, false, nil},
		{puts(0, 5, 5, "push 4 emit end"), 5, api.OK, true, []int{4}},
	} {
		c := pick(t, on(2, x.cmd, adds(0, 1), adds(1, 2)), 2, 1, 1)
		c = steps(t, c, 2, 1, x.turns-1)
		if len(c.Tasks) != 3 || len(c.Results) != 0 || !slices.Equal(c.Blocks, numbered(2)) || c.Tasks[0].Worker != 1 {
			t.Fatalf("%v: %v", x.cmd, c)
		}
		c = steps(t, c, 2, 1, 1)
		b := numbered(2)
		if x.stored {
			b[0].Cells[0], b[0].Seq = 5, 1
		}
		want := added(api.Crew{Wants: locks.New(2)}, []api.Command{adds(0, 1), adds(1, 2)}, 2)
		want.Blocks, want.Results = b, []api.Result{{Seq: 1, Told: x.told, Out: x.out}}
		if !same(c, want) {
			t.Errorf("%v: %v, want %v", x.cmd, c, want)
		}
		if got, e := Step(c, 2, 1); e != api.ErrNone || !same(got, c) {
			t.Errorf("%v: one step more: %d", x.cmd, e)
		}
	}
}

// A command without blocks; and one that writes, but puts nothing: the block is
// written by it all the same.
func TestStepWritesAll(t *testing.T) {
	c := on(3, command([]int{1}, []int{0, 2}, 3, "end"), command(nil, nil, 3, "push 9 emit end"))
	c = whole(t, c, 2, 0, 2)
	if !slices.Equal(c.Blocks, numbered(3)) || !slices.EqualFunc(c.Results, []api.Result{{Seq: 2, Out: []int{9}}}, sameResult) {
		t.Errorf("%v", c)
	}
	c = whole(t, c, 2, 0, 1)
	b := numbered(3)
	b[0].Seq, b[2].Seq = 1, 1
	if !slices.Equal(c.Blocks, b) {
		t.Errorf("%v", c.Blocks)
	}
}

// Results stand in the order in which commands were over, not in which they
// were sealed or picked.
func TestResultsInOrder(t *testing.T) {
	long := command(nil, []int{0}, 20, "push 1 emit push 2 emit push 3 emit end")
	short := command(nil, []int{1}, 20, "end")
	c := on(3, long, short, adds(2, 4))
	c.Results = []api.Result{{Seq: 9, Told: api.ErrStop}}
	c = pick(t, c, 4, 3, 1)
	c = pick(t, c, 4, 0, 3)
	c = pick(t, c, 4, 2, 2)
	for len(c.Tasks) > 0 {
		for worker := range 4 {
			if pool.Of(c.Tasks, worker) >= 0 {
				c = steps(t, c, 4, worker, 1)
			}
		}
	}
	want := []api.Result{{Seq: 9, Told: api.ErrStop}, {Seq: 2}, {Seq: 3}, {Seq: 1, Out: []int{1, 2, 3}}}
	if !slices.EqualFunc(c.Results, want, sameResult) {
		t.Errorf("%v, want %v", c.Results, want)
	}
}

// P17.1: the mark.

// Kept ahead of each change: with OK each of Writes, though its cells stay the
// same; none of Reads; none beside an error; none on the way; once alone.
func TestMarkKeeps(t *testing.T) {
	begun := func(l ...api.Command) api.Crew {
		c := on(4, l...)
		c.Mark = shade.Begin(api.Mark{Slot: 1, Seq: 5, Sum: 9}, 4)
		return c
	}
	kept := func(c api.Crew, blocks ...int) {
		t.Helper()
		want := shade.Begin(api.Mark{Slot: 1, Seq: 5, Sum: 9}, 4)
		for _, i := range blocks {
			want.Kept[i], want.Old[i] = true, numbered(4)[i]
		}
		if !sameMark(c.Mark, want) {
			t.Errorf("%v, want %v", c.Mark, want)
		}
	}
	two := command([]int{0, 2}, []int{1, 3}, 9, "push 4 put 2 0 end")
	c := begun(two, adds(1, 5), adds(0, 6))
	kept(c)
	c = pick(t, c, 1, 0, 1)
	kept(c)
	c = steps(t, c, 1, 0, 2)
	kept(c)
	c = steps(t, c, 1, 0, 1)
	kept(c, 1, 3)
	c = whole(t, c, 1, 0, 2)
	kept(c, 1, 3)
	c = whole(t, c, 1, 0, 3)
	kept(c, 0, 1, 3)
	if b := c.Blocks; b[1].Cells[0] != 9 || b[1].Seq != 2 || b[3].Seq != 1 || b[0].Cells[0] != 1006 || b[2] != numbered(4)[2] {
		t.Errorf("%v", b)
	}
	for _, x := range []api.Command{puts(1, 5, 9, "stop"), puts(1, 5, 2, "end"), puts(1, 5, 9, "push 1 push 0 div emit end")} {
		kept(whole(t, begun(x), 1, 0, 1))
	}
	kept(whole(t, begun(command([]int{0, 1, 2, 3}, nil, 9, "end")), 1, 0, 1))
	kept(whole(t, begun(command(nil, []int{0, 1, 2, 3}, 9, "end")), 1, 0, 1), 0, 1, 2, 3)
}

// A mark that isn't on keeps nothing.
func TestMarkThatIsNotOn(t *testing.T) {
	for _, m := range []api.Mark{{}, {Slot: 1, Old: make([]api.Entry, 2), Kept: make([]bool, 2)}, {Old: []api.Entry{{}, {Seq: 8}}, Kept: []bool{false, true}}} {
		c := on(2, adds(0, 1), adds(1, 2))
		c.Mark = m
		c = whole(t, whole(t, c, 1, 0, 1), 1, 0, 2)
		if !sameMark(c.Mark, m) || c.Blocks[0].Seq != 1 || c.Blocks[1].Seq != 2 {
			t.Errorf("%v: %v", m, c)
		}
	}
}

// The chapter's example: the second one waits for the first. And two of the
// whole: two that add to one block, and two readers and a writer.
func TestExamples(t *testing.T) {
	c := on(1, adds(0, 5), adds(0, 6))
	c.Blocks = table.New(1)
	if got, e := Pick(c, 2, 1, 2); e != api.ErrNone || !same(got, c) {
		t.Errorf("the second one ahead of the first: %d", e)
	}
	for first := range 2 {
		x := pick(t, c, 2, first, 1)
		for range 4 {
			if _, e := Pick(x, 2, 1-first, 2); e != api.ErrNone {
				t.Errorf("the second one beside the first: %d", e)
			}
			x = steps(t, x, 2, first, 1)
		}
		x = steps(t, x, 2, first, 1)
		x = whole(t, x, 2, 1-first, 2)
		if want := (api.Entry{Cells: api.Block{11}, Seq: 2}); x.Blocks[0] != want {
			t.Errorf("%v", x.Blocks)
		}
	}
	see := command([]int{0}, nil, 5, "get 0 0 emit end")
	c = on(1, see, see, adds(0, 1), see)
	c = pick(t, pick(t, c, 4, 0, 1), 4, 1, 2)
	for _, worker := range []int{0, 0, 1, 1, 0} {
		for _, seq := range []int{3, 4} {
			if _, e := Pick(c, 4, 2, seq); e != api.ErrNone {
				t.Errorf("%d beside the readers: %d", seq, e)
			}
		}
		c = steps(t, c, 4, worker, 1)
	}
	if _, e := Pick(c, 4, 2, 3); e != api.ErrNone {
		t.Errorf("the writer beside the second reader: %d", e)
	}
	c = whole(t, steps(t, c, 4, 1, 1), 4, 2, 3)
	c = whole(t, c, 4, 3, 4)
	want := []api.Result{{Seq: 1, Out: []int{1000}}, {Seq: 2, Out: []int{1000}}, {Seq: 3}, {Seq: 4, Out: []int{1001}}}
	if !slices.EqualFunc(c.Results, want, sameResult) {
		t.Errorf("%v", c.Results)
	}
}

// P17.2: in whatever order workers go on, all is as one by one.

// turn is what a worker may do: pick a command, or, if that is 0, step.
type turn struct{ worker, seq int }

// take takes a turn.
func (x turn) take(c api.Crew, workers int) (api.Crew, api.Errno) {
	if x.seq == 0 {
		return Step(c, workers, x.worker)
	}
	return Pick(c, workers, x.worker, x.seq)
}

// valid are the valid turns, by who has a command, and who is ready.
func valid(c api.Crew, workers int) []turn {
	var turns []turn
	for worker := range workers {
		if pool.Of(c.Tasks, worker) >= 0 {
			turns = append(turns, turn{worker: worker})
			continue
		}
		for _, seq := range pool.Ready(c.Tasks, c.Wants) {
			turns = append(turns, turn{worker, seq})
		}
	}
	return turns
}

// sorted are results by their numbers.
func sorted(l []api.Result) []api.Result {
	l = slices.Clone(l)
	slices.SortStableFunc(l, func(a, b api.Result) int { return a.Seq - b.Seq })
	return l
}

// atRest tells whether nothing is pending, nobody waits, and all is as it is
// when the commands are done one by one.
func atRest(c, begun api.Crew, l []api.Command) bool {
	blocks, results := oneByOne(begun.Blocks, l, 1)
	empty := !slices.ContainsFunc(c.Wants, func(w []api.Want) bool { return len(w) > 0 })
	return empty && len(c.Wants) == len(begun.Wants) && len(c.Tasks) == 0 &&
		slices.Equal(c.Blocks, blocks) && slices.EqualFunc(sorted(c.Results), results, sameResult)
}

// All ways to go through small batches, with one worker, two and three.
func TestAllOrders(t *testing.T) {
	end := command(nil, []int{0}, 1, "end")
	see := command([]int{0}, nil, 3, "get 0 0 emit end")
	seen := command([]int{0}, []int{1}, 9, "get 0 0 put 1 0 end")
	back := command([]int{1}, []int{0}, 9, "get 0 0 put 1 0 end")
	stop := command(nil, []int{0}, 9, "push 3 put 0 0 stop")
	short := command(nil, []int{0, 1}, 2, "push 3 put 0 0 push 4 put 1 0 end")
	both := command([]int{0, 1}, nil, 9, "get 0 0 get 1 0 sub emit end")
	for _, x := range []struct {
		workers int
		l       []api.Command
		ways    int
	}{
		{3, nil, 1},
		{1, []api.Command{end}, 1},
		// Either worker.
		{2, []api.Command{end}, 2},
		// One that waits: any worker each.
		{2, []api.Command{end, end}, 4},
		{3, []api.Command{end, end, end}, 27},
		{1, []api.Command{see, see}, 2},
		{1, []api.Command{see, see, see}, 6},
		{2, []api.Command{see, stop, see}, 8},
		{2, []api.Command{seen, back, both}, 8},
		{2, []api.Command{short, adds(1, 5), both}, 8},
		// Each has four turns: those of two workers are mixed in 70 ways, and
		// either gets the first command; or one does both, in either order.
		{2, []api.Command{see, see}, 144},
		{2, []api.Command{adds(0, 3), see, adds(1, 4)}, 0},
		{2, []api.Command{stop, seen, see}, 0},
		{3, []api.Command{adds(0, 3), adds(1, 4), both}, 0},
		{3, []api.Command{end, command(nil, []int{1}, 1, "end"), command(nil, nil, 1, "end")}, 0},
		{3, []api.Command{stop, command([]int{1}, nil, 2, "get 0 0 emit end"), see}, 0},
	} {
		begun := on(2, x.l...)
		ways := allWays(t, begun, begun, x.l, x.workers, 0)
		if x.ways != 0 && ways != x.ways {
			t.Errorf("%d workers, %v: %d ways, want %d", x.workers, x.l, ways, x.ways)
		}
		if x.ways == 0 && ways < 50 {
			t.Errorf("%d workers, %v: %d ways: too few to be of use", x.workers, x.l, ways)
		}
	}
}

// allWays goes all ways on from a crew, and answers how many there are.
func allWays(t *testing.T, c, begun api.Crew, l []api.Command, workers, took int) int {
	t.Helper()
	turns := valid(c, workers)
	if len(turns) == 0 {
		if !atRest(c, begun, l) || took > most(l) {
			t.Fatalf("%d workers, %v, behind %d turns: %v", workers, l, took, c)
		}
		return 1
	}
	ways := 0
	for _, x := range turns {
		next, e := x.take(c, workers)
		if e != api.OK {
			t.Fatalf("%d workers, %v, %v: %d", workers, l, x, e)
		}
		ways += allWays(t, next, begun, l, workers, took+1)
	}
	return ways
}

// most is how many turns commands take at most: as many as their fuel together,
// and three for each.
func most(l []api.Command) int {
	turns := 0
	for _, c := range l {
		turns += c.Fuel + 3
	}
	return turns
}

// Commands that may be, of any kind.

// anySet is some of so many blocks: such as are read, and such as are written.
func anySet(r *rand.Rand, blocks int) (reads, writes []int) {
	kinds := 2 + r.Intn(4)
	for i := range blocks {
		switch r.Intn(kinds) {
		case 0:
			reads = append(reads, i)
		case 1:
			writes = append(writes, i)
		}
	}
	return reads, writes
}

// anyPart is a piece of a program that leaves the stack as it was, of a command
// that has such blocks.
func anyPart(r *rand.Rand, reads, writes int) string {
	all := reads + writes
	if all == 0 {
		return fmt.Sprintf("arg %d keep %d ", r.Intn(2), r.Intn(api.Regs))
	}
	at, cell := r.Intn(all), r.Intn(2)
	if writes > 0 && r.Intn(2) == 0 {
		to := reads + r.Intn(writes)
		how := []string{"add", "sub", "mul", "less", "same", "div"}[r.Intn(6)]
		return fmt.Sprintf("get %d %d get %d %d %s put %d %d ", to, cell, at, r.Intn(2), how, to, cell)
	}
	switch r.Intn(4) {
	case 0:
		return fmt.Sprintf("get %d %d keep %d ", at, cell, r.Intn(api.Regs))
	case 1:
		return fmt.Sprintf("load %d get %d %d add keep %d ", r.Intn(api.Regs), at, cell, r.Intn(api.Regs))
	case 2:
		return fmt.Sprintf("get %d %d arg 1 less skip xa stop xa: ", at, cell)
	}
	return fmt.Sprintf("get %d %d arg 0 div keep 1 ", at, cell)
}

// anyCommand is a command on so many blocks: it works on them, tells some
// numbers, and ends in any way; its fuel may be too little.
func anyCommand(r *rand.Rand, blocks int) api.Command {
	reads, writes := anySet(r, blocks)
	text, parts := "", r.Intn(4)
	for i := range parts {
		part := anyPart(r, len(reads), len(writes))
		text += replaceLabel(part, i)
	}
	for i := range r.Intn(3) {
		text += fmt.Sprintf("load %d emit ", i)
	}
	text += []string{"end", "end", "end", "stop"}[r.Intn(4)]
	fuel := 1 + r.Intn(30)
	return command(reads, writes, fuel, text, r.Intn(5)-1, 1000+r.Intn(2000))
}

// replaceLabel makes a part's label one of its own: letters alone.
func replaceLabel(part string, i int) string {
	out := ""
	for _, c := range part {
		if c == 'x' {
			out += "x" + string(rune('a'+i))
			continue
		}
		out += string(c)
	}
	return out
}

// anyBatch are so many of them.
func anyBatch(r *rand.Rand, many, blocks int) []api.Command {
	var l []api.Command
	for range many {
		l = append(l, anyCommand(r, blocks))
	}
	return l
}

// Any batches, any number of workers, any turns; each turn is held against the
// chapter's words, and so are turns that aren't valid.
func TestAnyOrder(t *testing.T) {
	r := rand.New(rand.NewSource(1))
	told, refused, beside := map[api.Errno]int{}, map[api.Errno]int{}, 0
	for range 1500 {
		blocks, workers := r.Intn(6), 1+r.Intn(api.MaxWorkers)
		l := anyBatch(r, r.Intn(10), blocks)
		begun := on(blocks, l...)
		c, took := begun, 0
		for turns := valid(c, workers); len(turns) > 0; turns = valid(c, workers) {
			x := turns[r.Intn(len(turns))]
			if len(turns) > 1 {
				beside++
			}
			refusedTurn(t, r, c, workers, refused)
			c = checkedTurn(t, c, workers, x)
			took++
		}
		if !atRest(c, begun, l) {
			blocks, results := oneByOne(begun.Blocks, l, 1)
			t.Fatalf("%d workers, %v: %v, want %v, %v", workers, l, c, blocks, results)
		}
		if took > most(l) {
			t.Fatalf("%v: %d turns, at most %d", l, took, most(l))
		}
		for _, x := range c.Results {
			told[x.Told]++
		}
	}
	for _, e := range []api.Errno{api.OK, api.ErrStop, api.ErrZero, api.ErrFuel} {
		if told[e] < 100 {
			t.Errorf("%v: too few to be of use", told)
		}
	}
	for _, e := range []api.Errno{api.ErrArg, api.ErrBusy, api.ErrNone} {
		if refused[e] < 500 {
			t.Errorf("%v: too few to be of use", refused)
		}
	}
	if beside < 5000 {
		t.Errorf("%d turns beside others: too few to be of use", beside)
	}
}

// checkedTurn takes a valid turn, and holds it against the chapter's words.
func checkedTurn(t *testing.T, c api.Crew, workers int, x turn) api.Crew {
	t.Helper()
	var want api.Crew
	var f api.Errno
	if x.seq == 0 {
		want, f = stepped(c, workers, x.worker)
	} else {
		want, f = picked(c, workers, x.worker, x.seq)
	}
	got, e := x.take(c, workers)
	if e != api.OK || f != api.OK || !same(got, want) {
		t.Fatalf("%v of %v: %d, %v, want %d, %v", x, c, e, got, f, want)
	}
	return got
}

// refusedTurn takes any turn, valid or not: what isn't is refused, as the
// chapter's words say, and changes nothing.
func refusedTurn(t *testing.T, r *rand.Rand, c api.Crew, workers int, refused map[api.Errno]int) {
	t.Helper()
	worker, seq := r.Intn(workers+2)-1, r.Intn(12)
	got, e := Pick(c, workers, worker, seq)
	want, f := picked(c, workers, worker, seq)
	if e != f || !same(got, want) || e != api.OK && !same(got, c) {
		t.Fatalf("%v, worker %d, command %d: %d, want %d", c, worker, seq, e, f)
	}
	refused[e]++
	got, e = Step(c, workers, worker)
	want, f = stepped(c, workers, worker)
	if e != f || !same(got, want) || e != api.OK && !same(got, c) {
		t.Fatalf("%v, worker %d: %d, want %d", c, worker, e, f)
	}
	refused[e]++
}

// Also where more is added on the way, wherever that is: all is as one by one.
func TestAddOnTheWay(t *testing.T) {
	r := rand.New(rand.NewSource(3))
	many := 0
	for range 300 {
		blocks, workers := 1+r.Intn(5), 1+r.Intn(api.MaxWorkers)
		begun := on(blocks)
		c, all, took := begun, []api.Command(nil), 0
		for turns := valid(c, workers); len(turns) > 0 || len(all) < 12; turns = valid(c, workers) {
			if len(turns) == 0 || len(all) < 12 && r.Intn(6) == 0 {
				if len(c.Tasks) > 0 {
					many++
				}
				more := anyBatch(r, 1+r.Intn(4), blocks)
				c = Add(c, more, 1+len(all))
				all = append(all, more...)
				continue
			}
			c, _ = turns[r.Intn(len(turns))].take(c, workers)
			took++
		}
		if !atRest(c, begun, all) || took > most(all) {
			t.Fatalf("%d workers, %v, %d turns: %v", workers, all, took, c)
		}
	}
	if many < 500 {
		t.Errorf("%d: too few to be of use", many)
	}
}

// At all times: a valid turn, while something is pending; nobody works on a
// block beside one that writes it; blocks are as those that are done left them.
func TestOnTheWay(t *testing.T) {
	r := rand.New(rand.NewSource(4))
	together := 0
	for range 300 {
		blocks, workers := 1+r.Intn(4), 1+r.Intn(api.MaxWorkers)
		l := anyBatch(r, 2+r.Intn(8), blocks)
		c := on(blocks, l...)
		for len(c.Tasks) > 0 {
			turns := valid(c, workers)
			if len(turns) == 0 {
				t.Fatalf("no valid turn: %v", c)
			}
			c, _ = turns[r.Intn(len(turns))].take(c, workers)
			together += alone(t, c)
			for i, e := range c.Blocks {
				if want := lastOf(c, l, i); e.Seq != want {
					t.Fatalf("block %d is %d's, want %d: %v", i, e.Seq, want, c)
				}
			}
		}
	}
	if together < 1000 {
		t.Errorf("%d: too few to be of use", together)
	}
}

// alone tells a fault where one works on a block that another one writes; and
// answers how many pairs work at once.
func alone(t *testing.T, c api.Crew) int {
	t.Helper()
	pairs := 0
	for i, a := range c.Tasks {
		for _, b := range c.Tasks[i+1:] {
			if a.Worker < 0 || b.Worker < 0 {
				continue
			}
			pairs++
			if a.Worker == b.Worker {
				t.Fatalf("%d and %d are one worker's: %v", a.Seq, b.Seq, c)
			}
			for _, i := range slices.Concat(a.Cmd.Reads, a.Cmd.Writes) {
				writes := slices.Contains(a.Cmd.Writes, i) || slices.Contains(b.Cmd.Writes, i)
				if writes && (slices.Contains(b.Cmd.Writes, i) || slices.Contains(b.Cmd.Reads, i)) {
					t.Fatalf("%d and %d work on block %d: %v", a.Seq, b.Seq, i, c)
				}
			}
		}
	}
	return pairs
}

// lastOf is the last command that is done, ended well, and writes the block;
// else who wrote it at the beginning.
func lastOf(c api.Crew, l []api.Command, block int) int {
	last := 0
	for _, x := range c.Results {
		if x.Told == api.OK && slices.Contains(l[x.Seq-1].Writes, block) {
			last = max(last, x.Seq)
		}
	}
	if last == 0 {
		return numbered(block + 1)[block].Seq
	}
	return last
}

// What a mark has kept: through it all blocks are seen as they were when it
// began, at all times.
func TestSeenAsTheyWere(t *testing.T) {
	r := rand.New(rand.NewSource(6))
	changed := 0
	for range 300 {
		blocks, workers := 1+r.Intn(5), 1+r.Intn(api.MaxWorkers)
		l := anyBatch(r, 1+r.Intn(9), blocks)
		c := on(blocks, l...)
		c.Mark = shade.Begin(c.Mark, blocks)
		for turns := valid(c, workers); len(turns) > 0; turns = valid(c, workers) {
			c, _ = turns[r.Intn(len(turns))].take(c, workers)
			for i, was := range numbered(blocks) {
				if got := shade.See(c.Mark, c.Blocks, i); got != was {
					t.Fatalf("block %d is seen as %v, and it was %v", i, got, was)
				}
				if kept := c.Blocks[i].Seq > 0; c.Mark.Kept[i] != kept {
					t.Fatalf("block %d: kept %v", i, c.Mark.Kept)
				}
				if c.Mark.Kept[i] {
					changed++
				}
			}
		}
	}
	if changed < 10000 {
		t.Errorf("%d: too few to be of use", changed)
	}
}

// How many turns there are: one picks, all others step, whatever the order; one
// more than the fuel where that is over. As many commands as may be pending.
func TestTurns(t *testing.T) {
	r := rand.New(rand.NewSource(7))
	for _, workers := range []int{1, 2, 4, 40} {
		for _, fuel := range []int{1, 2, 5, 64, api.MaxFuel} {
			text := ""
			for range 30 {
				text += "get 0 0 put 0 1 "
			}
			var l []api.Command
			for i := range api.MaxPending {
				l = append(l, command(nil, []int{i % 3}, fuel, text+"end"))
			}
			c, took := on(3, l...), 0
			for turns := valid(c, workers); len(turns) > 0; turns = valid(c, workers) {
				c, _ = turns[r.Intn(len(turns))].take(c, workers)
				took++
			}
			want := api.MaxPending * (1 + min(fuel+1, 61))
			if took != want || took > most(l) || len(c.Results) != api.MaxPending || len(c.Tasks) != 0 {
				t.Errorf("%d workers, fuel %d: %d turns, want %d", workers, fuel, took, want)
			}
		}
	}
}

// The number of workers may be another one from turn to turn.
func TestOtherNumbersOfWorkers(t *testing.T) {
	c := pick(t, on(1, adds(0, 5), adds(0, 6)), 9, 8, 1)
	if got, e := Step(c, 8, 8); e != api.ErrArg || !same(got, c) {
		t.Errorf("%d", e)
	}
	c = steps(t, c, 10, 8, 5)
	c = whole(t, c, 1, 0, 2)
	if c.Blocks[0].Cells[0] != 1011 || len(c.Tasks) != 0 {
		t.Errorf("%v", c)
	}
}

// Raw crews: P1, and the chapter's words.

// anyNumber is a number as there may be one, or any.
func anyNumber(r *rand.Rand) int {
	if r.Intn(8) == 0 {
		return ends[r.Intn(len(ends))]
	}
	return r.Intn(6) - 1
}

// anyList is a short list of them.
func anyList(r *rand.Rand) []int {
	l := make([]int, r.Intn(4))
	for i := range l {
		l[i] = anyNumber(r)
	}
	return l
}

// anything is a command that may be none.
func anything(r *rand.Rand) api.Command {
	c := api.Command{Reads: anyList(r), Writes: anyList(r), Args: anyList(r), Fuel: anyNumber(r), Code: make([]api.Instr, r.Intn(5))}
	for i := range c.Code {
		c.Code[i] = api.Instr{Op: r.Intn(20) - 1, A: anyNumber(r), B: anyNumber(r)}
	}
	return c
}

// anyCrew is a crew that no call may have made.
func anyCrew(r *rand.Rand) api.Crew {
	c := api.Crew{Blocks: numbered(r.Intn(5)), Wants: make([][]api.Want, r.Intn(5))}
	for i := range c.Wants {
		for range r.Intn(2) {
			c.Wants[i] = append(c.Wants[i], api.Want{Seq: anyNumber(r), Excl: r.Intn(2) == 0, Has: r.Intn(2) == 0})
		}
	}
	for range r.Intn(6) {
		x := api.Task{Seq: anyNumber(r), Cmd: anything(r), Worker: anyNumber(r), Own: make([]api.Block, r.Intn(5))}
		if r.Intn(2) == 0 {
			x.Worker = -1
		}
		x.M = api.Machine{Pc: anyNumber(r), Fuel: anyNumber(r), Stack: anyList(r), Out: anyList(r), Over: r.Intn(4) == 0}
		if r.Intn(4) == 0 {
			x.M.Told = api.Errno(anyNumber(r))
		}
		if r.Intn(2) == 0 {
			x.Cmd.Reads = nil
			x.Cmd.Writes = x.Cmd.Writes[:min(1, len(x.Cmd.Writes))]
		}
		c.Tasks = append(c.Tasks, x)
		c.Wants = locks.Ask(c.Wants, x.Cmd, x.Seq)
	}
	for range r.Intn(3) {
		c.Results = append(c.Results, api.Result{Seq: anyNumber(r), Told: api.Errno(anyNumber(r)), Out: anyList(r)})
	}
	c.Mark = api.Mark{On: r.Intn(2) == 0, Slot: anyNumber(r), Sum: anyNumber(r), Kept: make([]bool, r.Intn(5))}
	c.Mark.Old = numbered(len(c.Mark.Kept))
	if r.Intn(4) == 0 {
		c.Mark.Old = numbered(r.Intn(5))
	}
	return c
}

// Raw crews may hold anything: no call panics, and all is as the chapter's
// words say. A number stands for the first command that has it.
func TestAnything(t *testing.T) {
	r := rand.New(rand.NewSource(8))
	picks, over, many := map[api.Errno]int{}, 0, map[api.Errno]int{}
	for range 30000 {
		c := anyCrew(r)
		workers, worker, seq := anyNumber(r)+2, anyNumber(r), anyNumber(r)
		got, e := Pick(c, workers, worker, seq)
		want, f := picked(c, workers, worker, seq)
		if e != f || !same(got, want) || e != api.OK && !same(got, c) {
			t.Fatalf("%v, %d, %d, %d: %d, %v, want %d, %v", c, workers, worker, seq, e, got, f, want)
		}
		picks[e]++
		got, e = Step(c, workers, worker)
		want, f = stepped(c, workers, worker)
		if e != f || !same(got, want) || e != api.OK && !same(got, c) {
			t.Fatalf("%v, %d, %d: %d, %v, want %d, %v", c, workers, worker, e, got, f, want)
		}
		many[e]++
		if e == api.OK && len(got.Tasks) < len(c.Tasks) {
			over++
		}
		l := []api.Command{anything(r), anything(r)}[:r.Intn(3)]
		if got, want := Add(c, l, seq), added(c, l, seq); !same(got, want) {
			t.Fatalf("%v, %v, %d: %v, want %v", c, l, seq, got, want)
		}
	}
	for _, e := range []api.Errno{api.OK, api.ErrArg, api.ErrNone} {
		if picks[e] < 300 || many[e] < 300 || picks[api.ErrBusy] < 300 || over < 300 {
			t.Fatalf("%v, %v, %d: too few to be of use", picks, many, over)
		}
	}
}

// A command of a block that there isn't is never ready; nor is one of which a
// block is told in no list. Nothing is stored where there is no place.
func TestBlocksThatAreNotThere(t *testing.T) {
	for _, block := range []int{2, 3, 64, -1, math.MaxInt, math.MinInt} {
		x := adds(0, 1)
		x.Writes = []int{block}
		c := on(2, x, adds(1, 5))
		if _, e := Pick(c, 2, 0, 1); e != api.ErrNone {
			t.Errorf("%d: %d", block, e)
		}
		c = whole(t, c, 2, 0, 2)
		if len(c.Tasks) != 1 || c.Blocks[1].Cells[0] != 2005 {
			t.Errorf("%d: %v", block, c)
		}
		c.Tasks[0].Worker, c.Tasks[0].Own = 1, make([]api.Block, 1)
		c.Mark = shade.Begin(c.Mark, 2)
		was := slices.Clone(c.Blocks)
		c = steps(t, c, 2, 1, 5)
		if len(c.Tasks) != 0 || !slices.Equal(c.Blocks, was) || slices.Contains(c.Mark.Kept, true) || c.Results[1].Told != api.OK {
			t.Errorf("%d: %v", block, c)
		}
	}
}

// Of a worker that has two commands, and of a number that is twice, it is the
// first one.
func TestFirstOfTwo(t *testing.T) {
	c := on(3, adds(0, 1), adds(1, 2), adds(2, 3))
	c = pick(t, c, 1, 0, 2)
	c.Tasks[2].Worker, c.Tasks[2].Own = 0, []api.Block{{}}
	c = steps(t, c, 1, 0, 5)
	if len(c.Tasks) != 2 || c.Tasks[0].Seq != 1 || c.Tasks[1].Seq != 3 || c.Tasks[1].M.Fuel != 9 || c.Blocks[1].Seq != 2 {
		t.Errorf("%v", c)
	}
	c = Add(on(2, adds(0, 1)), []api.Command{adds(1, 2)}, 1)
	x := pick(t, c, 2, 1, 1)
	if x.Tasks[0].Worker != 1 || x.Tasks[1].Worker != -1 {
		t.Errorf("%v", x)
	}
	if _, e := Pick(x, 2, 0, 1); e != api.ErrNone {
		t.Errorf("%d", e)
	}
}

// What doesn't count: how Has stands in a list, and what a task's own blocks
// are ahead of its picking.
func TestWhatDoesNotCount(t *testing.T) {
	c := on(1, adds(0, 1), adds(0, 2))
	c.Wants[0][0].Has, c.Wants[0][1].Has = false, true
	c.Tasks[0].Own = []api.Block{{9}, {8}}
	if _, e := Pick(c, 1, 0, 2); e != api.ErrNone {
		t.Errorf("%d", e)
	}
	c = pick(t, c, 1, 0, 1)
	if own := c.Tasks[0].Own; len(own) != 1 || own[0] != numbered(1)[0].Cells {
		t.Errorf("%v", own)
	}
	c = steps(t, c, 1, 0, 5)
	if !c.Wants[0][0].Has || c.Wants[0][0].Seq != 2 {
		t.Errorf("%v", c.Wants)
	}
}

// The rules that hold everywhere.

// roomyOf is a list's copy with spare room, in which something stands.
func roomyOf[T any](l []T, more ...T) []T { return slices.Concat(l, more)[:len(l)] }

// roomyTask is a task whose lists have spare room.
func roomyTask(t api.Task) api.Task {
	t.Cmd.Reads, t.Cmd.Writes = roomyOf(t.Cmd.Reads, 90, 91), roomyOf(t.Cmd.Writes, 92)
	t.Cmd.Args, t.Cmd.Code = roomyOf(t.Cmd.Args, 93), roomyOf(t.Cmd.Code, api.Instr{Op: 94})
	t.M.Stack, t.M.Out = roomyOf(t.M.Stack, 95, 95), roomyOf(t.M.Out, 96, 96)
	t.Own = roomyOf(t.Own, api.Block{97}, api.Block{98})
	return t
}

// roomy is a crew all of whose lists have spare room, in which something stands.
func roomy(c api.Crew) api.Crew {
	c.Blocks = roomyOf(c.Blocks, api.Entry{Seq: 80}, api.Entry{Seq: 81})
	c.Wants = roomyOf(c.Wants, []api.Want{{Seq: 82}}, []api.Want{{Seq: 83}})
	for i, w := range c.Wants {
		c.Wants[i] = roomyOf(w, api.Want{Seq: 84, Has: true}, api.Want{Seq: 85, Excl: true})
	}
	c.Tasks = roomyOf(c.Tasks, api.Task{Seq: 86, Worker: 3}, api.Task{Seq: 87})
	for i, x := range c.Tasks {
		c.Tasks[i] = roomyTask(x)
	}
	c.Results = roomyOf(c.Results, api.Result{Seq: 88, Out: []int{1}}, api.Result{Seq: 89})
	for i, x := range c.Results {
		c.Results[i].Out = roomyOf(x.Out, 78, 79)
	}
	c.Mark.Old, c.Mark.Kept = roomyOf(c.Mark.Old, api.Entry{Seq: 77}), roomyOf(c.Mark.Kept, true, false)
	return c
}

// wideOf is a list with all of its room.
func wideOf[T any](l []T) []T { return l[:cap(l)] }

// wide is a crew's copy that has its spare room too, all over.
func wide(c api.Crew) api.Crew {
	c.Blocks, c.Mark.Old, c.Mark.Kept = wideOf(c.Blocks), wideOf(c.Mark.Old), wideOf(c.Mark.Kept)
	c.Wants, c.Tasks, c.Results = slices.Clone(wideOf(c.Wants)), slices.Clone(wideOf(c.Tasks)), slices.Clone(wideOf(c.Results))
	for i, w := range c.Wants {
		c.Wants[i] = wideOf(w)
	}
	for i := range c.Tasks {
		c.Tasks[i] = wideTask(c.Tasks[i])
	}
	for i, x := range c.Results {
		c.Results[i].Out = wideOf(x.Out)
	}
	return copyOf(c)
}

// wideTask is a task with its spare room too.
func wideTask(t api.Task) api.Task {
	t.Cmd.Reads, t.Cmd.Writes, t.Cmd.Args = wideOf(t.Cmd.Reads), wideOf(t.Cmd.Writes), wideOf(t.Cmd.Args)
	t.Cmd.Code, t.M.Stack, t.M.Out, t.Own = wideOf(t.Cmd.Code), wideOf(t.M.Stack), wideOf(t.M.Out), wideOf(t.Own)
	return t
}

// spoilList writes over all that a list has, its spare room too.
func spoilList[T any](l []T, with T) {
	l = l[:cap(l)]
	for i := range l {
		l[i] = with
	}
}

// spoilCommand writes over all that a command's lists have.
func spoilCommand(c api.Command) {
	spoilList(c.Reads, -999)
	spoilList(c.Writes, -998)
	spoilList(c.Args, -997)
	spoilList(c.Code, api.Instr{Op: -996})
}

// spoilTasks writes over all that tasks have, all over.
func spoilTasks(l []api.Task) {
	for _, t := range wideOf(l) {
		spoilCommand(t.Cmd)
		spoilList(t.M.Stack, -995)
		spoilList(t.M.Out, -994)
		spoilList(t.Own, api.Block{-993})
	}
	spoilList(l, api.Task{Seq: -992, Worker: -991})
}

// spoilWants writes over all that the lists of who waits have, all over.
func spoilWants(l [][]api.Want) {
	for _, w := range wideOf(l) {
		spoilList(w, api.Want{Seq: -990})
	}
	spoilList(l, nil)
}

// spoilDone writes over the lists that change where a command has ended well.
func spoilDone(c api.Crew) {
	spoilList(c.Blocks, api.Entry{Seq: -989})
	spoilList(c.Mark.Old, api.Entry{Seq: -988})
	spoilList(c.Mark.Kept, true)
	spoilWants(c.Wants)
	spoilList(c.Results, api.Result{Seq: -987})
	spoilTasks(c.Tasks)
}

// nearEnd is a crew whose worker 0 takes its last step next: it ends well, and
// writes two blocks. A mark is under way, and a command waits for it.
func nearEnd(t *testing.T) api.Crew {
	c := on(3, command([]int{2}, []int{0, 1}, 9, "push 5 put 1 0 push 6 emit end"), adds(1, 7), adds(2, 4))
	c.Results = []api.Result{{Seq: -4, Out: []int{1, 2}}, {Seq: -3, Told: api.ErrStop}}
	c.Mark = shade.Begin(c.Mark, 3)
	return steps(t, pick(t, c, 2, 0, 1), 2, 0, 4)
}

// Rule 3: what is handed in is as it was, its spare room too.
func TestGivenStays(t *testing.T) {
	for i, c := range []api.Crew{full(), nearEnd(t), on(2, adds(0, 1), adds(1, 2)), {}} {
		c = roomy(c)
		was := wide(c)
		l := []api.Command{roomyTask(api.Task{Cmd: adds(0, 9)}).Cmd, roomyTask(api.Task{Cmd: command([]int{0}, []int{1}, 3, "end")}).Cmd}
		one, two := copyOfCommand(l[0]), copyOfCommand(l[1])
		for worker := -1; worker < 4; worker++ {
			for seq := -1; seq < 16; seq++ {
				Pick(c, 3, worker, seq)
			}
			Step(c, 3, worker)
			Add(c, l[:max(0, worker)%3], worker)
		}
		if !same(wide(c), was) {
			t.Fatalf("%d: %v, and it was %v", i, wide(c), was)
		}
		if !sameCommand(l[0], one) || !sameCommand(l[1], two) || l[0].Reads[:2][1] != 91 || l[1].Code[:2][1].Op != 94 {
			t.Fatalf("%d: %v", i, l)
		}
	}
}

// Rule 3: what a call changes is new memory: whoever writes into it doesn't
// change what was handed in, nor another answer.
func TestChangesAreNew(t *testing.T) {
	given := []api.Crew{roomy(full()), roomy(nearEnd(t))}
	for i, c := range given {
		was := wide(c)
		x := Add(c, []api.Command{adds(0, 9)}, 50)
		spoilTasks(x.Tasks)
		spoilWants(x.Wants)
		if !same(wide(c), was) {
			t.Fatalf("%d: behind Add %v, and it was %v", i, wide(c), was)
		}
	}
	c := roomy(on(3, command([]int{2}, []int{1}, 9, "end"), adds(1, 6)))
	was := wide(c)
	spoilTasks(pick(t, c, 2, 1, 1).Tasks)
	if !same(wide(c), was) {
		t.Fatalf("behind Pick %v, and it was %v", wide(c), was)
	}
	was = wide(given[0])
	spoilTasks(steps(t, given[0], 1, 0, 1).Tasks)
	if !same(wide(given[0]), was) {
		t.Fatalf("behind a step %v, and it was %v", wide(given[0]), was)
	}
	was = wide(given[1])
	want, _ := stepped(given[1], 2, 0)
	other := steps(t, given[1], 2, 0, 1)
	spoilDone(steps(t, given[1], 2, 0, 1))
	if !same(wide(given[1]), was) || !same(other, want) {
		t.Fatalf("behind the last step %v, and it was %v; %v, want %v", wide(given[1]), was, other, want)
	}
}

// Commands that are added are not kept: whoever changes them later changes no
// crew.
func TestAddedAreCopied(t *testing.T) {
	l := []api.Command{adds(0, 9), command([]int{0}, []int{1}, 3, "push 4 emit end", 5)}
	want := added(on(2), l, 1)
	c := Add(on(2), l, 1)
	for _, x := range l {
		spoilCommand(x)
	}
	if !same(c, want) {
		t.Errorf("%v, want %v", c, want)
	}
}

// All crews on a way are kept: later turns change none of them, and each may be
// gone on with, in another way, with the same end.
func TestOlderCrews(t *testing.T) {
	r := rand.New(rand.NewSource(9))
	for range 60 {
		blocks, workers := 1+r.Intn(4), 1+r.Intn(api.MaxWorkers)
		l := anyBatch(r, 1+r.Intn(6), blocks)
		begun := on(blocks, l...)
		begun.Mark = shade.Begin(begun.Mark, blocks)
		begun = roomy(begun)
		older, was := []api.Crew{begun}, []api.Crew{copyOf(begun)}
		for i := 0; i < len(older) && i < 150; i++ {
			c := older[i]
			for turns := valid(c, workers); len(turns) > 0; turns = valid(c, workers) {
				c, _ = turns[r.Intn(len(turns))].take(c, workers)
				if i == 0 {
					older, was = append(older, c), append(was, copyOf(c))
				}
			}
			if !atRest(c, begun, l) {
				t.Fatalf("%d workers, %v, from turn %d on: %v", workers, l, i, c)
			}
		}
		for i := range older {
			if !same(older[i], was[i]) {
				t.Fatalf("%d: %v, and it was %v", i, older[i], was[i])
			}
		}
	}
}

// Two ways from one crew, behind one another: results, too, stand in room of
// their own.
func TestTwoWays(t *testing.T) {
	see := command([]int{0}, nil, 3, "get 0 0 emit end")
	c := on(1, see, command([]int{0}, nil, 3, "stop"), see, see)
	for range 2 {
		c.Results = append(c.Results, api.Result{Seq: 77, Out: []int{7}})
	}
	c.Results = roomyOf(c.Results, api.Result{Seq: 99}, api.Result{Seq: 98})
	a, b := whole(t, c, 1, 0, 1), whole(t, c, 1, 0, 2)
	d, e := whole(t, a, 1, 0, 3), whole(t, a, 1, 0, 4)
	for i, x := range []struct {
		c    api.Crew
		want []int
	}{{a, []int{77, 77, 1}}, {b, []int{77, 77, 2}}, {d, []int{77, 77, 1, 3}}, {e, []int{77, 77, 1, 4}}, {c, []int{77, 77}}} {
		var got []int
		for _, y := range x.c.Results {
			got = append(got, y.Seq)
		}
		if !slices.Equal(got, x.want) {
			t.Errorf("%d: %v, want %v", i, got, x.want)
		}
	}
	if rest := c.Results[:4]; rest[2].Seq != 99 || rest[3].Seq != 98 {
		t.Errorf("%v", rest)
	}
}

// Rule 2: a list that holds nothing may be nil or empty.
func TestNilOrEmpty(t *testing.T) {
	empty := api.Crew{
		Blocks: []api.Entry{}, Wants: [][]api.Want{}, Tasks: []api.Task{}, Results: []api.Result{},
		Mark: api.Mark{On: true, Old: []api.Entry{}, Kept: []bool{}},
	}
	bare := api.Command{Fuel: 1, Code: []api.Instr{{Op: api.OpEnd}}}
	none := api.Command{Reads: []int{}, Writes: []int{}, Args: []int{}, Fuel: 1, Code: bare.Code}
	for _, c := range []api.Crew{empty, {}, {Mark: api.Mark{On: true}}} {
		for _, l := range [][]api.Command{nil, {}, make([]api.Command, 0, 3)} {
			if got := Add(c, l, 1); !same(got, c) {
				t.Errorf("%v", got)
			}
		}
		if got, e := Pick(c, 1, 0, 0); e != api.ErrNone || !same(got, c) {
			t.Errorf("%d, %v", e, got)
		}
		if got, e := Step(c, 1, 0); e != api.ErrNone || !same(got, c) {
			t.Errorf("%d, %v", e, got)
		}
		for _, x := range []api.Command{bare, none} {
			got := whole(t, Add(c, []api.Command{x}, 1), 1, 0, 1)
			want := c
			want.Results = []api.Result{{Seq: 1}}
			if !same(got, want) {
				t.Errorf("%v", got)
			}
		}
	}
}

// Rules 4 and 6: a call hangs on its arguments alone, whoever calls beside it;
// each goes its own way on from one crew.
func TestManyCallAtOnce(t *testing.T) {
	r := rand.New(rand.NewSource(10))
	l := anyBatch(r, 8, 3)
	begun := on(3, l...)
	begun.Mark = shade.Begin(begun.Mark, 3)
	begun = roomy(begun)
	was := wide(begun)
	near := roomy(nearEnd(t))
	want, _ := stepped(near, 2, 0)
	var wg sync.WaitGroup
	for i := range 8 {
		wg.Go(func() {
			r := rand.New(rand.NewSource(int64(i)))
			for range 20 {
				c := begun
				for turns := valid(c, 4); len(turns) > 0; turns = valid(c, 4) {
					c, _ = turns[r.Intn(len(turns))].take(c, 4)
				}
				if !atRest(c, begun, l) {
					t.Errorf("%v", c)
				}
				if got, e := Step(near, 2, 0); e != api.OK || !same(got, want) {
					t.Errorf("%d, %v", e, got)
				}
			}
		})
	}
	wg.Wait()
	if !same(wide(begun), was) {
		t.Errorf("%v", begun)
	}
}
