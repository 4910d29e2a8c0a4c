package run

import (
	"math"
	"math/rand"
	"slices"
	"strings"
	"sync"
	"testing"

	"foreman/api"
	"foreman/asm"
	"foreman/machine"
	"foreman/proof"
)

// state is a machine and its blocks, and how many steps led there.
type state struct {
	m     api.Machine
	own   []api.Block
	steps int
}

// same tells whether two states are alike; lists that hold nothing are.
func same(a, b state) bool {
	return a.m.Pc == b.m.Pc && a.m.Fuel == b.m.Fuel && slices.Equal(a.m.Stack, b.m.Stack) && a.m.Regs == b.m.Regs &&
		slices.Equal(a.m.Out, b.m.Out) && a.m.Over == b.m.Over && a.m.Told == b.m.Told && slices.Equal(a.own, b.own) && a.steps == b.steps
}

// sameResult is the same of results.
func sameResult(a, b api.Result) bool {
	return a.Seq == b.Seq && a.Told == b.Told && slices.Equal(a.Out, b.Out)
}

func whole(c api.Command, own []api.Block) state {
	m, l, steps := Whole(c, own)
	return state{m, l, steps}
}

// some leaves out the count, which Some doesn't tell.
func some(c api.Command, own []api.Block, most int) state {
	m, l := Some(c, own, most)
	return state{m: m, own: l}
}

// way is all states of a command in the chapter's words: layer 10's New, and
// what each Step makes, until one is over.
func way(c api.Command, own []api.Block) []state {
	z := state{m: machine.New(c), own: own}
	all := []state{z}
	for !z.m.Over {
		m, next := machine.Step(c, z.m, z.own)
		z = state{m, next, z.steps + 1}
		all = append(all, z)
	}
	return all
}

// uncounted is a state as Some tells it.
func uncounted(z state) state {
	z.steps = 0
	return z
}

// may refuses a command of a test that may not be: layer 10 is asked of those
// that may be alone.
func may(t *testing.T, c api.Command) api.Command {
	t.Helper()
	if e := proof.Check(c); e != api.OK {
		t.Fatalf("%v may not be: %d", c, e)
	}
	return c
}

// of is a command of one block that is read, two that are written, and three
// numbers.
func of(t *testing.T, fuel int, text string, args ...int) api.Command {
	t.Helper()
	l, e := asm.Build(text)
	if e != api.OK {
		t.Fatalf("%q: %d", text, e)
	}
	return may(t, api.Command{Reads: []int{9}, Writes: []int{2, 60}, Args: args, Fuel: fuel, Code: l})
}

// numbered are blocks of which no two cells are alike, and none is nought.
func numbered(many int) []api.Block {
	l := make([]api.Block, many)
	for i := range l {
		for j := range l[i] {
			l[i][j] = 1000*(i+1) + j
		}
	}
	return l
}

// texts are programs of all kinds of instructions, and with all ways to end.
func texts() []string {
	return []string{
		"end", "stop", "push 5 emit end", "push 5 emit stop", "push 1 push 2 push 3 end",
		"get 0 0 arg 0 add put 1 0 end", "get 1 7 arg 1 sub put 2 7 get 2 7 emit end", "arg 0 put 2 3 stop",
		"push 4 emit arg 0 arg 1 div emit end", "push 6 put 1 1 arg 2 arg 0 div put 2 2 end", "arg 0 arg 1 mul keep 3 load 3 load 3 emit emit end",
		"arg 0 skip other push 1 put 2 0 go out other: push 2 put 2 1 out: push 3 emit end",
		"arg 0 arg 1 less skip no stop no: arg 1 arg 2 same skip last push 1 emit last: end",
		"go a a: go b b: go c c: push 8 emit push 9 put 1 6 end", strings.Repeat("push 1 emit ", 8) + "end",
	}
}

// each hands the commands of all programs, with fuel that isn't enough, is just
// enough, and is more, and with numbers that lead here and there.
func each(t *testing.T, do func(c api.Command, own []api.Block)) {
	t.Helper()
	for _, text := range texts() {
		for _, args := range [][]int{{0, 0, 0}, {1, 2, 3}, {-5, 0, 0}, {0, 7, 7}, {math.MinInt, -1, math.MaxInt}} {
			for _, fuel := range []int{1, 2, 3, 4, 5, 6, 7, 8, 9, 10, 11, 12, 16, 17, 18, 64, 199, 200} {
				do(of(t, fuel, text, args...), numbered(3))
			}
		}
	}
}

// P11.1: Whole.

func TestWholeKnown(t *testing.T) {
	for _, x := range []struct {
		text  string
		fuel  int
		steps int
		left  api.Machine
	}{
		{"push 5 emit end", 9, 3, api.Machine{Pc: 3, Fuel: 6, Out: []int{5}}},
		{"push 5 emit end", 3, 3, api.Machine{Pc: 3, Out: []int{5}}},
		{"push 5 emit end", 2, 3, api.Machine{Pc: 2, Told: api.ErrFuel}},
		{"push 5 emit end", 1, 2, api.Machine{Pc: 1, Stack: []int{5}, Told: api.ErrFuel}},
		{"end", 1, 1, api.Machine{Pc: 1}},
		{"end", 200, 1, api.Machine{Pc: 1, Fuel: 199}},
		{"stop", 9, 1, api.Machine{Pc: 1, Fuel: 8, Told: api.ErrStop}},
		{"push 5 emit push 6 stop", 9, 4, api.Machine{Pc: 4, Fuel: 5, Stack: []int{6}, Told: api.ErrStop}},
		{"push 5 emit push 1 push 0 div emit end", 9, 5, api.Machine{Pc: 5, Fuel: 4, Stack: []int{1, 0}, Told: api.ErrZero}},
		{"push 5 emit push 1 push 0 div emit end", 5, 5, api.Machine{Pc: 5, Stack: []int{1, 0}, Told: api.ErrZero}},
		{"push 5 emit push 1 push 0 div emit end", 4, 5, api.Machine{Pc: 4, Stack: []int{1, 0}, Told: api.ErrFuel}},
		{"push 7 keep 2 push 1 push 2 emit emit end", 7, 7, api.Machine{Pc: 7, Regs: [4]int{2: 7}, Out: []int{2, 1}}},
		{"push 0 skip over stop over: push 4 emit end", 9, 5, api.Machine{Pc: 6, Fuel: 4, Out: []int{4}}},
		{"push 1 skip over stop over: push 4 emit end", 9, 3, api.Machine{Pc: 3, Fuel: 6, Told: api.ErrStop}},
	} {
		c := of(t, x.fuel, x.text)
		x.left.Over = true
		want := state{x.left, numbered(3), x.steps}
		if got := whole(c, numbered(3)); !same(got, want) {
			t.Errorf("%q with %d: %v, want %v", x.text, x.fuel, got, want)
		}
	}
}

// What was put is there, however it ended: it is layer 12 that looks at that.
func TestWholeBlocks(t *testing.T) {
	for _, x := range []struct {
		text string
		fuel int
		told api.Errno
	}{
		{"get 0 4 arg 0 add put 1 4 push -3 put 2 0 end", 7, api.OK},
		{"get 0 4 arg 0 add put 1 4 push -3 put 2 0 end", 6, api.ErrFuel},
		{"get 0 4 arg 0 add put 1 4 push -3 put 2 0 stop", 9, api.ErrStop},
		{"get 0 4 arg 0 add put 1 4 push -3 put 2 0 push 1 push 0 div put 1 1 end", 20, api.ErrZero},
	} {
		own := numbered(3)
		own[1][4], own[2][0] = 1004+11, -3
		got := whole(of(t, x.fuel, x.text, 11), numbered(3))
		if got.m.Told != x.told || !slices.Equal(got.own, own) {
			t.Errorf("%q: %v", x.text, got)
		}
	}
}

func TestWholeByRule(t *testing.T) {
	told := map[api.Errno]int{}
	each(t, func(c api.Command, own []api.Block) {
		all := way(c, own)
		want := all[len(all)-1]
		if got := whole(c, own); !same(got, want) {
			t.Fatalf("%v: %v, want %v", c, got, want)
		}
		told[want.m.Told]++
	})
	for _, e := range []api.Errno{api.OK, api.ErrFuel, api.ErrZero, api.ErrStop} {
		if told[e] < 20 {
			t.Errorf("%d is told %d times: too few to be of use", e, told[e])
		}
	}
}

// P11.1: Some.

func TestSomeKnown(t *testing.T) {
	c := of(t, 9, "push 5 emit push 6 put 1 2 end")
	put := numbered(3)
	put[1][2] = 6
	for _, x := range []struct {
		most int
		want state
	}{
		{0, state{m: api.Machine{Fuel: 9}, own: numbered(3)}},
		{1, state{m: api.Machine{Pc: 1, Fuel: 8, Stack: []int{5}}, own: numbered(3)}},
		{2, state{m: api.Machine{Pc: 2, Fuel: 7, Out: []int{5}}, own: numbered(3)}},
		{3, state{m: api.Machine{Pc: 3, Fuel: 6, Stack: []int{6}, Out: []int{5}}, own: numbered(3)}},
		{4, state{m: api.Machine{Pc: 4, Fuel: 5, Out: []int{5}}, own: put}},
		{5, state{m: api.Machine{Pc: 5, Fuel: 4, Out: []int{5}, Over: true}, own: put}},
		{6, state{m: api.Machine{Pc: 5, Fuel: 4, Out: []int{5}, Over: true}, own: put}},
	} {
		if got := some(c, numbered(3), x.most); !same(got, x.want) {
			t.Errorf("%d: %v, want %v", x.most, got, x.want)
		}
	}
}

// The step that finds no fuel is one of the most, too.
func TestSomeWithoutFuel(t *testing.T) {
	c := of(t, 2, "push 5 emit push 6 emit end")
	two := state{m: api.Machine{Pc: 2, Out: []int{5}}, own: numbered(3)}
	if got := some(c, numbered(3), 2); !same(got, two) {
		t.Errorf("two: %v, want %v", got, two)
	}
	three := state{m: api.Machine{Pc: 2, Over: true, Told: api.ErrFuel}, own: numbered(3)}
	for _, most := range []int{3, 4, 200, math.MaxInt} {
		if got := some(c, numbered(3), most); !same(got, three) {
			t.Errorf("%d: %v, want %v", most, got, three)
		}
	}
}

// Below 1 none is taken; beyond the end there are no more, though most is the
// greatest number there is.
func TestSomeAtTheEnds(t *testing.T) {
	each(t, func(c api.Command, own []api.Block) {
		all := way(c, own)
		first, last := uncounted(all[0]), uncounted(all[len(all)-1])
		for _, most := range []int{0, -1, -2, -200, math.MinInt32, math.MinInt + 1, math.MinInt, -1 << 32} {
			if got := some(c, own, most); !same(got, first) {
				t.Fatalf("%v, %d: %v, want %v", c, most, got, first)
			}
		}
		for _, most := range []int{len(all) - 1, len(all), len(all) + 1, 201, 256, math.MaxInt32, 1 << 32, math.MaxInt - 1, math.MaxInt} {
			if got := some(c, own, most); !same(got, last) {
				t.Fatalf("%v, %d: %v, want %v", c, most, got, last)
			}
		}
	})
}

func TestSomeByRule(t *testing.T) {
	each(t, func(c api.Command, own []api.Block) {
		for most, z := range way(c, own) {
			if got, want := some(c, own, most), uncounted(z); !same(got, want) {
				t.Fatalf("%v, %d: %v, want %v", c, most, got, want)
			}
		}
	})
}

// The two calls tell the same: Whole's count is the least most by which Some is
// over.
func TestWholeAndSome(t *testing.T) {
	each(t, func(c api.Command, own []api.Block) {
		w := whole(c, own)
		if got := some(c, own, w.steps); !same(got, uncounted(w)) {
			t.Fatalf("%v: %v, and whole %v", c, got, w)
		}
		if got := some(c, own, w.steps-1); got.m.Over {
			t.Fatalf("%v: over ahead of %d: %v", c, w.steps, got)
		}
	})
}

// A machine that Some has answered may be gone on with, to Whole's end.
func TestSomeIsGoneOnWith(t *testing.T) {
	c := of(t, 20, "get 0 1 arg 0 add put 1 1 get 1 1 emit end", 6)
	w := whole(c, numbered(3))
	for most := range w.steps + 1 {
		m, own := Some(c, numbered(3), most)
		for range w.steps - most {
			m, own = machine.Step(c, m, own)
		}
		if got := (state{m, own, w.steps}); !same(got, w) {
			t.Errorf("from %d: %v, want %v", most, got, w)
		}
	}
}

// P11.1: Tells.

func TestTellsKnown(t *testing.T) {
	for _, x := range []struct {
		text string
		fuel int
		told api.Errno
		out  []int
	}{
		{"push 5 emit push 6 emit push 5 emit end", 9, api.OK, []int{5, 6, 5}},
		{"end", 1, api.OK, nil},
		{"push 5 emit stop", 9, api.ErrStop, nil},
		{"push 5 emit end", 2, api.ErrFuel, nil},
		{"push 5 emit push 1 push 0 div emit end", 9, api.ErrZero, nil},
	} {
		m, _, _ := Whole(of(t, x.fuel, x.text), numbered(3))
		for _, seq := range []int{4, 1, 0, -1, 1 << 32, math.MaxInt, math.MinInt} {
			if got, want := Tells(seq, m), (api.Result{Seq: seq, Told: x.told, Out: x.out}); !sameResult(got, want) {
				t.Errorf("%q, %d: %v, want %v", x.text, seq, got, want)
			}
		}
	}
}

// A machine may hold anything: what it told is told, and nothing else counts.
func TestTellsOfAny(t *testing.T) {
	for _, told := range []api.Errno{api.OK, api.ErrFuel, api.ErrZero, api.ErrStop, api.ErrDown, 18, -1, math.MaxInt, math.MinInt} {
		for _, out := range [][]int{nil, {}, {0}, {7, 7, -7}, {math.MaxInt, math.MinInt}, {1, 2, 3, 4, 5, 6, 7, 8}, make([]int, 300)} {
			want := api.Result{Seq: 12, Told: told, Out: out}
			for _, m := range []api.Machine{
				{}, {Over: true}, {Pc: 3, Fuel: 4, Stack: []int{5, 6}, Regs: [4]int{1, 2, 3, 4}},
				{Pc: math.MinInt, Fuel: math.MaxInt, Stack: make([]int, 20), Over: true},
			} {
				m.Told, m.Out = told, out
				if got := Tells(12, m); !sameResult(got, want) {
					t.Errorf("%v: %v, want %v", m, got, want)
				}
			}
		}
	}
}

// One that isn't over yet: what it told so far.
func TestTellsOnTheWay(t *testing.T) {
	c := of(t, 9, "push 5 emit push 6 emit stop")
	for most, out := range [][]int{{}, {}, {5}, {5}, {5, 6}} {
		m, _ := Some(c, numbered(3), most)
		if got := Tells(3, m); !sameResult(got, api.Result{Seq: 3, Out: out}) {
			t.Errorf("behind %d: %v, want %v", most, got, out)
		}
	}
}

// P11.2: it ends within its fuel, and one step: that one just where the fuel
// wasn't enough.

func TestEndsInTime(t *testing.T) {
	each(t, func(c api.Command, own []api.Block) {
		got := whole(c, own)
		if !got.m.Over || got.steps < 1 || got.steps > c.Fuel+1 || (got.steps == c.Fuel+1) != (got.m.Told == api.ErrFuel) {
			t.Fatalf("%v: %v", c, got)
		}
		if z := some(c, own, c.Fuel+1); !z.m.Over {
			t.Fatalf("%v: %v", c, z)
		}
	})
}

// As long a program, and as much fuel, as there may be.
func TestEndsInTimeAtTheLongest(t *testing.T) {
	long := append(slices.Repeat([]api.Instr{{Op: api.OpGo}}, 63), api.Instr{Op: api.OpEnd})
	for fuel := 1; fuel <= api.MaxFuel; fuel++ {
		c := may(t, api.Command{Fuel: fuel, Code: long})
		want := state{m: api.Machine{Pc: 64, Fuel: fuel - 64, Over: true}, steps: 64}
		if fuel < 64 {
			want = state{m: api.Machine{Pc: fuel, Over: true, Told: api.ErrFuel}, steps: fuel + 1}
		}
		if got := whole(c, nil); !same(got, want) {
			t.Errorf("fuel %d: %v, want %v", fuel, got, want)
		}
	}
}

// Commands that may not be: layer 10 isn't asked of them, but the chapter doesn't
// leave them out here, so P1 and the bound are held against them, too; of fuel
// below 1 there is one step.

func anyNumber(r *rand.Rand) int {
	if r.Intn(3) > 0 {
		return r.Intn(12) - 4
	}
	return int(r.Uint64())
}

func anyList(r *rand.Rand) []int {
	l := make([]int, r.Intn(5))
	for i := range l {
		l[i] = anyNumber(r)
	}
	return l
}

// anything is a command that hardly may be; jumps backwards are among them.
func anything(r *rand.Rand) api.Command {
	c := api.Command{Reads: anyList(r), Writes: anyList(r), Args: anyList(r), Fuel: r.Intn(40) - 3}
	for range r.Intn(9) {
		c.Code = append(c.Code, api.Instr{Op: r.Intn(21) - 1, A: anyNumber(r), B: anyNumber(r)})
	}
	return c
}

func TestAnythingEnds(t *testing.T) {
	r := rand.New(rand.NewSource(1))
	for range 20000 {
		c, own := anything(r), numbered(r.Intn(4))
		all := way(c, own)
		last := all[len(all)-1]
		if got := whole(c, own); !same(got, last) || got.steps > max(c.Fuel, 0)+1 {
			t.Fatalf("%v: %v, want %v", c, got, last)
		}
		most := r.Intn(len(all)+2) - 1
		want := uncounted(all[min(max(most, 0), len(all)-1)])
		if got := some(c, own, most); !same(got, want) {
			t.Fatalf("%v, %d: %v, want %v", c, most, got, want)
		}
	}
}

func TestFuelBelowOne(t *testing.T) {
	for _, fuel := range []int{0, -1, -200, math.MinInt} {
		c := api.Command{Fuel: fuel, Code: []api.Instr{{Op: api.OpEnd}}}
		want := state{api.Machine{Fuel: fuel, Over: true, Told: api.ErrFuel}, numbered(1), 1}
		if got := whole(c, numbered(1)); !same(got, want) {
			t.Errorf("%d: %v, want %v", fuel, got, want)
		}
	}
}

// The longest way backwards that is within the limits: it ends by its fuel.
func TestBackwards(t *testing.T) {
	c := api.Command{Fuel: api.MaxFuel, Code: []api.Instr{{Op: api.OpGo, A: -1}}}
	if got := whole(c, nil); got.m.Told != api.ErrFuel || got.steps != api.MaxFuel+1 {
		t.Errorf("%v", got)
	}
}

// The rules that hold everywhere.

// roomy is a list's copy in front of spare room, which is told beside it.
func roomy[T any](l []T, spare ...T) (list, all []T) {
	all = slices.Concat(l, spare)
	return all[:len(l)], all
}

// Rule 3: what is handed in is as it was, its spare room too.
func TestGivenStays(t *testing.T) {
	each(t, func(c api.Command, _ []api.Block) {
		was := api.Command{Reads: slices.Clone(c.Reads), Writes: slices.Clone(c.Writes), Args: slices.Clone(c.Args), Fuel: c.Fuel, Code: slices.Clone(c.Code)}
		own, all := roomy(numbered(3), api.Block{96}, api.Block{97})
		then := slices.Clone(all)
		w := whole(c, own)
		for most := range w.steps + 1 {
			some(c, own, most)
		}
		if !slices.Equal(all, then) {
			t.Fatalf("%v: blocks %v, and they were %v", c, all, then)
		}
		if !slices.Equal(c.Reads, was.Reads) || !slices.Equal(c.Writes, was.Writes) || !slices.Equal(c.Args, was.Args) || !slices.Equal(c.Code, was.Code) {
			t.Fatalf("%v, and it was %v", c, was)
		}
	})
}

func TestGivenMachineStays(t *testing.T) {
	m := api.Machine{Stack: []int{1, 2}, Told: api.ErrStop}
	out, all := roomy([]int{5, 6}, 94, 95)
	m.Out = out
	Tells(3, m)
	if !slices.Equal(all, []int{5, 6, 94, 95}) || !slices.Equal(m.Stack, []int{1, 2}) || len(m.Out) != 2 {
		t.Errorf("%v, %v", m, all)
	}
}

// spoil writes over all that a state's lists hold, their spare room too.
func spoil(z state) {
	for _, l := range [][]int{z.m.Stack[:cap(z.m.Stack)], z.m.Out[:cap(z.m.Out)]} {
		for i := range l {
			l[i] = -999
		}
	}
	clear(z.own[:cap(z.own)])
}

// Rule 3: an answer is new memory, that of no step too: whoever writes into one
// changes neither what was handed in nor another answer.
func TestAnswersAreTheirOwn(t *testing.T) {
	each(t, func(c api.Command, own []api.Block) {
		was, args := slices.Clone(own), slices.Clone(c.Args)
		all := way(c, own)
		one, two := whole(c, own), whole(c, own)
		spoil(one)
		if !same(two, all[len(all)-1]) {
			t.Fatalf("%v: %v, want %v", c, two, all[len(all)-1])
		}
		for most, want := range all {
			one, two := some(c, own, most), some(c, own, most)
			spoil(one)
			if !slices.Equal(own, was) || !slices.Equal(c.Args, args) || !same(two, uncounted(want)) {
				t.Fatalf("%v, %d: %v, want %v", c, most, two, want)
			}
		}
	})
}

func TestResultsAreTheirOwn(t *testing.T) {
	m := api.Machine{Out: []int{5, 6}, Over: true}
	one, two := Tells(3, m), Tells(3, m)
	one.Out[0], one.Out[1] = -999, -999
	if !slices.Equal(m.Out, []int{5, 6}) || !slices.Equal(two.Out, []int{5, 6}) {
		t.Errorf("%v, %v", m, two)
	}
	m.Out[0] = -998
	if two.Out[0] != 5 {
		t.Errorf("behind the machine's change: %v", two)
	}
}

// Rule 2: a list that holds nothing may be nil or empty.
func TestNilOrEmpty(t *testing.T) {
	code := []api.Instr{{Op: api.OpPush, A: 5}, {Op: api.OpEmit}, {Op: api.OpEnd}}
	c := may(t, api.Command{Fuel: 4, Code: code})
	d := may(t, api.Command{Reads: []int{}, Writes: []int{}, Args: []int{}, Fuel: 4, Code: code})
	if one, two := whole(c, nil), whole(d, []api.Block{}); !same(one, two) || one.steps != 3 {
		t.Errorf("%v, %v", one, two)
	}
	for most := range 5 {
		if one, two := some(c, nil, most), some(d, []api.Block{}, most); !same(one, two) {
			t.Errorf("%d: %v, %v", most, one, two)
		}
	}
	if one, two := Tells(1, api.Machine{}), Tells(1, api.Machine{Out: []int{}}); !sameResult(one, two) {
		t.Errorf("%v, %v", one, two)
	}
}

// Rules 4 and 6: a call hangs on its arguments alone, whoever calls beside it.
func TestManyCallAtOnce(t *testing.T) {
	c := of(t, 20, "get 0 1 arg 0 add put 1 1 get 1 1 emit push 3 put 2 0 end", 6)
	own := numbered(3)
	all := way(c, own)
	var wg sync.WaitGroup
	for range 8 {
		wg.Go(func() {
			for range 50 {
				w := whole(c, own)
				if !same(w, all[len(all)-1]) || !sameResult(Tells(2, w.m), api.Result{Seq: 2, Out: []int{1001 + 6}}) {
					t.Errorf("%v, want %v", w, all[len(all)-1])
				}
				for most, want := range all {
					if got := some(c, own, most); !same(got, uncounted(want)) {
						t.Errorf("%d: %v, want %v", most, got, want)
					}
				}
			}
		})
	}
	wg.Wait()
}
