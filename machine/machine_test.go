package machine

import (
	"math"
	"math/big"
	"math/rand"
	"slices"
	"strings"
	"sync"
	"testing"

	"foreman/api"
	"foreman/asm"
	"foreman/cell"
	"foreman/proof"
)

// kindWords are the kinds' words in chapter 5's order, from 1 on.
var kindWords = strings.Fields("push load keep get put arg add sub mul div less same skip go emit stop end")

// state is a machine and its blocks.
type state struct {
	m   api.Machine
	own []api.Block
}

func copyOf(z state) state {
	z.m.Stack, z.m.Out = slices.Clone(z.m.Stack), slices.Clone(z.m.Out)
	return state{z.m, slices.Clone(z.own)}
}

// same tells whether two states are alike; lists that hold nothing are.
func same(a, b state) bool {
	return a.m.Pc == b.m.Pc && a.m.Fuel == b.m.Fuel && slices.Equal(a.m.Stack, b.m.Stack) && a.m.Regs == b.m.Regs &&
		slices.Equal(a.m.Out, b.m.Out) && a.m.Over == b.m.Over && a.m.Told == b.m.Told && slices.Equal(a.own, b.own)
}

// step is Step on a state.
func step(c api.Command, z state) state {
	m, own := Step(c, z.m, z.own)
	return state{m, own}
}

// wide are a number's 64 bits, and narrow the number that their lowest ones are:
// sums and products here are reckoned without an end, and cut behind that.
func wide(n int) *big.Int { return big.NewInt(int64(n)) }

func narrow(n *big.Int) int {
	rest := new(big.Int).Mod(n, new(big.Int).Lsh(wide(1), 64))
	return int(rest.Uint64())
}

// madeByRule is what two numbers make in the chapter's words; false by nought.
func madeByRule(word string, deeper, upper int) (int, bool) {
	a, b, n := wide(deeper), wide(upper), new(big.Int)
	switch word {
	case "add":
		n.Add(a, b)
	case "sub":
		n.Sub(a, b)
	case "mul":
		n.Mul(a, b)
	case "div":
		if upper == 0 {
			return 0, false
		}
		n.Quo(a, b)
	case "less":
		if a.Cmp(b) < 0 {
			n = wide(1)
		}
	case "same":
		if a.Cmp(b) == 0 {
			n = wide(1)
		}
	}
	return narrow(n), true
}

// ends is a state that is over so.
func ends(z state, told api.Errno) state {
	z.m.Over, z.m.Told = true, told
	if told != api.OK {
		z.m.Out = nil
	}
	return z
}

// stepByRule is Step in the chapter's words.
func stepByRule(c api.Command, was state) state {
	z := copyOf(was)
	if z.m.Over {
		return z
	}
	if z.m.Fuel == 0 {
		return ends(z, api.ErrFuel)
	}
	x := c.Code[z.m.Pc]
	z.m.Fuel, z.m.Pc = z.m.Fuel-1, z.m.Pc+1
	put := func(n int) { z.m.Stack = append(z.m.Stack, n) }
	take := func() int {
		n := z.m.Stack[len(z.m.Stack)-1]
		z.m.Stack = slices.Delete(z.m.Stack, len(z.m.Stack)-1, len(z.m.Stack))
		return n
	}
	switch word := kindWords[x.Op-1]; word {
	case "push":
		put(x.A)
	case "load":
		put(z.m.Regs[x.A])
	case "keep":
		z.m.Regs[x.A] = take()
	case "get":
		put(z.own[x.A][x.B])
	case "put":
		z.own[x.A][x.B] = take()
	case "arg":
		put(c.Args[x.A])
	case "skip":
		if take() == 0 {
			z.m.Pc += x.A
		}
	case "go":
		z.m.Pc += x.A
	case "emit":
		z.m.Out = append(z.m.Out, take())
	case "stop":
		return ends(z, api.ErrStop)
	case "end":
		return ends(z, api.OK)
	default:
		upper, deeper := take(), take()
		n, well := madeByRule(word, deeper, upper)
		if !well {
			put(deeper)
			put(upper)
			return ends(z, api.ErrZero)
		}
		put(n)
	}
	return z
}

func code(t *testing.T, text string) []api.Instr {
	t.Helper()
	l, e := asm.Build(text)
	if e != api.OK {
		t.Fatalf("%q: %d", text, e)
	}
	return l
}

// may refuses a command of a test that may not be: nothing is promised of it.
func may(t *testing.T, c api.Command) api.Command {
	t.Helper()
	if e := proof.Check(c); e != api.OK {
		t.Fatalf("%v may not be: %d", c, e)
	}
	return c
}

// of is a command of two blocks that are read, two that are written, and three
// numbers.
func of(t *testing.T, fuel int, text string) api.Command {
	t.Helper()
	return may(t, api.Command{Reads: []int{3, 7}, Writes: []int{1, 60}, Args: []int{50, -51, math.MinInt}, Fuel: fuel, Code: code(t, text)})
}

// numbered are blocks of which no two cells are alike, and none is nought.
func numbered(many int) []api.Block {
	l := make([]api.Block, many)
	for i := range l {
		for j := range l[i] {
			l[i][j] = 1000*(i+1) + j
		}
	}
	return l
}

// goes is a command's state behind so many steps.
func goes(c api.Command, own []api.Block, many int) state {
	z := state{New(c), own}
	for range many {
		z = step(c, z)
	}
	return z
}

// wantBehind does so many steps on blocks that are numbered.
func wantBehind(t *testing.T, c api.Command, many int, want state) {
	t.Helper()
	if got := goes(c, numbered(len(c.Reads)+len(c.Writes)), many); !same(got, want) {
		t.Errorf("%v behind %d: %v, want %v", c, many, got, want)
	}
}

// P10.1: New.

func TestNew(t *testing.T) {
	for fuel := 1; fuel <= 200; fuel++ {
		c := of(t, fuel, "push 5 keep 1 push 6 emit end")
		if got, want := (state{m: New(c)}), (state{m: api.Machine{Fuel: fuel}}); !same(got, want) {
			t.Errorf("%v, want %v", got, want)
		}
	}
}

// P10.1: Step, instruction by instruction.

func TestEachPut(t *testing.T) {
	for _, x := range []struct {
		text string
		want int
	}{
		{"push 0", 0}, {"push 12", 12}, {"push -1", -1}, {"push 1099511627776", 1 << 40},
		{"arg 0", 50}, {"arg 1", -51}, {"arg 2", math.MinInt},
		{"get 0 0", 1000}, {"get 0 7", 1007}, {"get 1 3", 2003}, {"get 2 1", 3001}, {"get 3 0", 4000}, {"get 3 7", 4007},
	} {
		c := of(t, 9, x.text+" "+x.text+" end")
		own := numbered(4)
		wantBehind(t, c, 1, state{api.Machine{Pc: 1, Fuel: 8, Stack: []int{x.want}}, own})
		wantBehind(t, c, 2, state{api.Machine{Pc: 2, Fuel: 7, Stack: []int{x.want, x.want}}, own})
	}
}

// Numbers that no text has.
func TestPushAny(t *testing.T) {
	for _, n := range edges() {
		c := may(t, api.Command{Fuel: 2, Code: []api.Instr{{Op: api.OpPush, A: n}, {Op: api.OpEnd}}})
		wantBehind(t, c, 1, state{m: api.Machine{Pc: 1, Fuel: 1, Stack: []int{n}}})
	}
}

func TestGetEachCell(t *testing.T) {
	own := numbered(8)
	for a := range 8 {
		for b := range 8 {
			c := may(t, api.Command{Reads: []int{0, 1, 2, 3, 4, 5, 6, 7}, Fuel: 2, Code: []api.Instr{{Op: api.OpGet, A: a, B: b}, {Op: api.OpEnd}}})
			wantBehind(t, c, 1, state{api.Machine{Pc: 1, Fuel: 1, Stack: []int{own[a][b]}}, own})
		}
	}
}

func TestPutEachCell(t *testing.T) {
	for a := range 8 {
		for b := range 8 {
			c := may(t, api.Command{Writes: []int{0, 1, 2, 3, 4, 5, 6, 7}, Fuel: 4,
				Code: []api.Instr{{Op: api.OpPush, A: 8}, {Op: api.OpPush, A: -9}, {Op: api.OpPut, A: a, B: b}, {Op: api.OpKeep}, {Op: api.OpEnd}}})
			own := numbered(8)
			own[a][b] = -9
			wantBehind(t, c, 3, state{api.Machine{Pc: 3, Fuel: 1, Stack: []int{8}}, own})
			wantBehind(t, c, 4, state{api.Machine{Pc: 4, Regs: [4]int{8}}, own})
		}
	}
}

func TestArgEach(t *testing.T) {
	args := []int{11, -12, 13, -14, 15, -16, 17, -18}
	for a, n := range args {
		c := may(t, api.Command{Args: args, Fuel: 2, Code: []api.Instr{{Op: api.OpArg, A: a}, {Op: api.OpEnd}}})
		wantBehind(t, c, 1, state{m: api.Machine{Pc: 1, Fuel: 1, Stack: []int{n}}})
	}
}

// A register is nought at first, is what is kept there, and no other one is
// touched; load leaves it as it is.
func TestRegisters(t *testing.T) {
	for a := range 4 {
		c := may(t, api.Command{Fuel: 9, Code: []api.Instr{{Op: api.OpLoad, A: a}, {Op: api.OpPush, A: 21}, {Op: api.OpKeep, A: a},
			{Op: api.OpLoad, A: a}, {Op: api.OpLoad, A: a}, {Op: api.OpKeep, A: 3 - a}, {Op: api.OpEnd}}})
		var one, two [4]int
		one[a], two[a], two[3-a] = 21, 21, 21
		wantBehind(t, c, 1, state{m: api.Machine{Pc: 1, Fuel: 8, Stack: []int{0}}})
		wantBehind(t, c, 3, state{m: api.Machine{Pc: 3, Fuel: 6, Stack: []int{0}, Regs: one}})
		wantBehind(t, c, 5, state{m: api.Machine{Pc: 5, Fuel: 4, Stack: []int{0, 21, 21}, Regs: one}})
		wantBehind(t, c, 6, state{m: api.Machine{Pc: 6, Fuel: 3, Stack: []int{0, 21}, Regs: two}})
	}
}

// Emits come in order, each behind all ahead of it; end leaves them.
func TestEmit(t *testing.T) {
	c := may(t, api.Command{Fuel: 17, Code: code(t, strings.Repeat("push 7 emit ", 3)+"push -1 push 5 emit emit end")})
	own := []api.Block{}
	wantBehind(t, c, 2, state{api.Machine{Pc: 2, Fuel: 15, Out: []int{7}}, own})
	wantBehind(t, c, 9, state{api.Machine{Pc: 9, Fuel: 8, Stack: []int{-1}, Out: []int{7, 7, 7, 5}}, own})
	wantBehind(t, c, 10, state{api.Machine{Pc: 10, Fuel: 7, Out: []int{7, 7, 7, 5, -1}}, own})
	wantBehind(t, c, 11, state{api.Machine{Pc: 11, Fuel: 6, Out: []int{7, 7, 7, 5, -1}, Over: true}, own})
}

// skip takes its number always, and goes further by nought alone.
func TestSkip(t *testing.T) {
	for _, x := range []struct{ n, further, pc int }{
		{0, 0, 3}, {0, 1, 4}, {0, 2, 5}, {1, 2, 3}, {-1, 2, 3}, {math.MinInt, 1, 3}, {1 << 32, 2, 3}, {math.MaxInt, 2, 3}, {7, 0, 3},
	} {
		c := may(t, api.Command{Fuel: 9, Code: []api.Instr{{Op: api.OpPush, A: 4}, {Op: api.OpPush, A: x.n}, {Op: api.OpSkip, A: x.further},
			{Op: api.OpStop}, {Op: api.OpStop}, {Op: api.OpEnd}}})
		wantBehind(t, c, 3, state{m: api.Machine{Pc: x.pc, Fuel: 6, Stack: []int{4}}})
	}
}

func TestGo(t *testing.T) {
	for further := range 62 {
		l := slices.Repeat([]api.Instr{{Op: api.OpStop}}, 64)
		l[0], l[1] = api.Instr{Op: api.OpPush}, api.Instr{Op: api.OpGo, A: further}
		c := may(t, api.Command{Fuel: 200, Code: l})
		wantBehind(t, c, 2, state{m: api.Machine{Pc: 2 + further, Fuel: 198, Stack: []int{0}}})
	}
}

// A jump leads over what lies between: that is never done.
func TestWhatLiesBetween(t *testing.T) {
	text := "arg 0 skip other push 1 put 2 0 go out other: push 2 put 2 1 out: push 3 emit end"
	for _, x := range []struct{ n, steps, cell int }{{0, 7, 1}, {1, 8, 0}, {-5, 8, 0}} {
		c := may(t, api.Command{Reads: []int{0, 1}, Writes: []int{2}, Args: []int{x.n}, Fuel: 20, Code: code(t, text)})
		own := numbered(3)
		own[2][x.cell] = x.cell + 1
		wantBehind(t, c, x.steps, state{api.Machine{Pc: 10, Fuel: 20 - x.steps, Out: []int{3}, Over: true}, own})
		if got := goes(c, numbered(3), x.steps-1); got.m.Over {
			t.Errorf("%d: over too early: %v", x.n, got)
		}
	}
}

// edges are numbers at the ends, and such as sums and products run over.
func edges() []int {
	return []int{0, 1, -1, 2, -2, 3, -3, 7, -7, 10, math.MaxInt, math.MinInt, math.MaxInt - 1, math.MinInt + 1, math.MaxInt/2 + 1,
		math.MinInt / 2, 1 << 31, -1 << 31, 1<<32 - 1, 1 << 32, 1<<32 + 1, 3037000500, -3037000500, 0x0102030405060708, 1 << 53, 1<<53 + 1}
}

// wantMade holds one instruction of two numbers against what it must make, with
// a third number that lies deeper, and must stay.
func wantMade(t *testing.T, op, deeper, upper int) {
	t.Helper()
	c := may(t, api.Command{Args: []int{77, deeper, upper}, Fuel: 9,
		Code: []api.Instr{{Op: api.OpArg}, {Op: api.OpArg, A: 1}, {Op: api.OpArg, A: 2}, {Op: op}, {Op: api.OpEnd}}})
	want := state{m: api.Machine{Pc: 4, Fuel: 5, Stack: []int{77, deeper, upper}}}
	n, well := madeByRule(kindWords[op-1], deeper, upper)
	if well {
		want.m.Stack = []int{77, n}
	} else {
		want.m.Over, want.m.Told = true, api.ErrZero
	}
	wantBehind(t, c, 4, want)
}

func TestReckonKnown(t *testing.T) {
	for _, x := range []struct {
		op, deeper, upper, want int
	}{
		{api.OpAdd, math.MaxInt, 1, math.MinInt}, {api.OpAdd, math.MinInt, -1, math.MaxInt},
		{api.OpSub, 2, 7, -5}, {api.OpSub, math.MinInt, 1, math.MaxInt}, {api.OpSub, 0, math.MinInt, math.MinInt},
		{api.OpMul, math.MaxInt, 2, -2}, {api.OpMul, 1 << 32, 1 << 32, 0}, {api.OpMul, math.MinInt, -1, math.MinInt},
		{api.OpDiv, 7, 2, 3}, {api.OpDiv, -7, 2, -3}, {api.OpDiv, 7, -2, -3}, {api.OpDiv, -7, -2, 3}, {api.OpDiv, 2, 7, 0},
		{api.OpDiv, -1, 2, 0}, {api.OpDiv, 0, 5, 0}, {api.OpDiv, math.MinInt, -1, math.MinInt}, {api.OpDiv, math.MinInt, 1, math.MinInt},
		{api.OpDiv, math.MinInt, math.MinInt, 1}, {api.OpDiv, math.MaxInt, math.MinInt, 0},
		{api.OpLess, 1, 2, 1}, {api.OpLess, 2, 1, 0}, {api.OpLess, 2, 2, 0}, {api.OpLess, math.MinInt, math.MaxInt, 1}, {api.OpLess, -1, 0, 1},
		{api.OpSame, 2, 2, 1}, {api.OpSame, 2, -2, 0}, {api.OpSame, 1 << 53, 1<<53 + 1, 0}, {api.OpSame, 0, 1 << 32, 0},
	} {
		if n, _ := madeByRule(kindWords[x.op-1], x.deeper, x.upper); n != x.want {
			t.Errorf("the rule makes %d of %v", n, x)
		}
		c := may(t, api.Command{Args: []int{x.deeper, x.upper}, Fuel: 5,
			Code: []api.Instr{{Op: api.OpArg}, {Op: api.OpArg, A: 1}, {Op: x.op}, {Op: api.OpEmit}, {Op: api.OpEnd}}})
		wantBehind(t, c, 5, state{m: api.Machine{Pc: 5, Out: []int{x.want}, Over: true}})
	}
}

func TestReckonByRule(t *testing.T) {
	r := rand.New(rand.NewSource(1))
	for op := api.OpAdd; op <= api.OpSame; op++ {
		for _, deeper := range edges() {
			for _, upper := range edges() {
				wantMade(t, op, deeper, upper)
			}
		}
		for range 500 {
			wantMade(t, op, int(r.Uint64()), int(r.Uint64())>>r.Intn(64))
		}
	}
}

// P10.1: how it ends.

// By nought: the stack, registers and blocks are as they were, Out is empty.
func TestZero(t *testing.T) {
	for _, n := range edges() {
		c := of(t, 30, "push 5 emit push 6 put 2 4 push 8 keep 1 push 9 arg 2 arg 0 arg 0 sub div emit end")
		c.Args = []int{n, 0, n}
		own := numbered(4)
		own[2][4] = 6
		want := state{api.Machine{Pc: 12, Fuel: 18, Stack: []int{9, n, 0}, Regs: [4]int{1: 8}, Over: true, Told: api.ErrZero}, own}
		if got := goes(c, numbered(4), 11); got.m.Over || !slices.Equal(got.m.Out, []int{5}) {
			t.Errorf("ahead of it: %v", got)
		}
		wantBehind(t, c, 12, want)
		wantBehind(t, c, 13, want)
	}
}

func TestStop(t *testing.T) {
	c := of(t, 30, "push 5 emit push 6 put 3 7 push 8 keep 0 push 9 stop")
	own := numbered(4)
	own[3][7] = 6
	want := state{api.Machine{Pc: 8, Fuel: 22, Stack: []int{9}, Regs: [4]int{8}, Over: true, Told: api.ErrStop}, own}
	wantBehind(t, c, 8, want)
	wantBehind(t, c, 9, want)
}

func TestEnd(t *testing.T) {
	c := of(t, 30, "push 5 emit push 6 put 3 7 push 8 keep 0 push 9 end")
	own := numbered(4)
	own[3][7] = 6
	want := state{api.Machine{Pc: 8, Fuel: 22, Stack: []int{9}, Regs: [4]int{8}, Out: []int{5}, Over: true}, own}
	wantBehind(t, c, 8, want)
	wantBehind(t, c, 9, want)
}

// With fuel for n steps n are done, and the next one is over: nothing else is
// changed by it but Out.
func TestFuel(t *testing.T) {
	text := "push 5 emit push 6 put 3 7 push 8 keep 0 push 9 end"
	for fuel := 1; fuel <= 7; fuel++ {
		c, long := of(t, fuel, text), of(t, 200, text)
		last, as := goes(c, numbered(4), fuel), goes(long, numbered(4), fuel)
		as.m.Fuel = 0
		if !same(last, as) {
			t.Errorf("%d steps: %v, want %v", fuel, last, as)
		}
		as.m.Over, as.m.Told, as.m.Out = true, api.ErrFuel, nil
		wantBehind(t, c, fuel+1, as)
		wantBehind(t, c, fuel+2, as)
	}
	if got := goes(of(t, 8, text), numbered(4), 8); !got.m.Over || got.m.Told != api.OK || got.m.Fuel != 0 {
		t.Errorf("just enough: %v", got)
	}
}

// One that ended with nought fuel isn't told anew.
func TestOverStays(t *testing.T) {
	for _, x := range []struct {
		text string
		fuel int
		told api.Errno
	}{
		{"push 3 emit end", 3, api.OK}, {"push 3 emit stop", 3, api.ErrStop}, {"push 3 push 0 div emit end", 3, api.ErrZero},
		{"push 3 emit end", 2, api.ErrFuel}, {"push 3 emit end", 1, api.ErrFuel}, {"push 3 emit end", 200, api.OK},
	} {
		c := of(t, x.fuel, x.text)
		z := goes(c, numbered(4), 4)
		if !z.m.Over || z.m.Told != x.told || (len(z.m.Out) > 0) != (x.told == api.OK) {
			t.Errorf("%q: %v", x.text, z)
		}
		for range 5 {
			next := step(c, z)
			if !same(next, z) {
				t.Errorf("%q: %v, and it was %v", x.text, next, z)
			}
			z = next
		}
	}
}

// As much of each as there may be.
func TestFull(t *testing.T) {
	var l []api.Instr
	for i := range 8 {
		l = append(l, api.Instr{Op: api.OpGet, A: i, B: 7 - i})
	}
	for range 8 {
		l = append(l, api.Instr{Op: api.OpEmit})
	}
	for len(l) < 61 {
		l = append(l, api.Instr{Op: api.OpGo})
	}
	l = append(l, api.Instr{Op: api.OpPush, A: math.MinInt}, api.Instr{Op: api.OpPut, A: 7, B: 7}, api.Instr{Op: api.OpEnd})
	c := may(t, api.Command{Reads: []int{56, 57, 58, 59, 60, 61, 62}, Writes: []int{63}, Fuel: 64, Code: l})
	own := numbered(8)
	wantBehind(t, c, 8, state{api.Machine{Pc: 8, Fuel: 56, Stack: []int{1007, 2006, 3005, 4004, 5003, 6002, 7001, 8000}}, own})
	own[7][7] = math.MinInt
	out := []int{8000, 7001, 6002, 5003, 4004, 3005, 2006, 1007}
	wantBehind(t, c, 64, state{api.Machine{Pc: 64, Out: out, Over: true}, own})
}

// Commands of a source.

func anyNumber(r *rand.Rand) int {
	l := edges()
	if r.Intn(4) > 0 {
		return l[r.Intn(len(l))]
	}
	return int(r.Uint64())
}

// putter is an instruction that puts one onto the stack.
func putter(r *rand.Rand, c api.Command) api.Instr {
	blocks := len(c.Reads) + len(c.Writes)
	switch n := r.Intn(4); {
	case n == 0 && blocks > 0:
		return api.Instr{Op: api.OpGet, A: r.Intn(blocks), B: r.Intn(8)}
	case n == 1 && len(c.Args) > 0:
		return api.Instr{Op: api.OpArg, A: r.Intn(len(c.Args))}
	case n == 2:
		return api.Instr{Op: api.OpLoad, A: r.Intn(4)}
	}
	return api.Instr{Op: api.OpPush, A: anyNumber(r)}
}

// taker is an instruction that takes one from the stack, and goes on.
func taker(r *rand.Rand, c api.Command) api.Instr {
	switch n := r.Intn(4); {
	case n == 0:
		return api.Instr{Op: api.OpEmit}
	case n == 1:
		return api.Instr{Op: api.OpSkip}
	case n == 2 && len(c.Writes) > 0:
		return api.Instr{Op: api.OpPut, A: len(c.Reads) + r.Intn(len(c.Writes)), B: r.Intn(8)}
	}
	return api.Instr{Op: api.OpKeep, A: r.Intn(4)}
}

// plain is instructions without a jump, from a stack so deep to the same one.
func plain(r *rand.Rand, c api.Command, deep int) []api.Instr {
	var l []api.Instr
	now := deep
	for range r.Intn(10) {
		switch n := r.Intn(5); {
		case n < 2 && now < 8:
			l, now = append(l, putter(r, c)), now+1
		case n == 2 && now > deep:
			l, now = append(l, taker(r, c)), now-1
		case n > 2 && now > deep+1:
			l, now = append(l, api.Instr{Op: api.OpAdd + r.Intn(6)}), now-1
		}
	}
	for ; now > deep; now-- {
		l = append(l, taker(r, c))
	}
	return l
}

// forked is a number, and what is done by it, now and then to an end or a stop.
func forked(r *rand.Rand, c api.Command, deep int) []api.Instr {
	ask := putter(r, c)
	if r.Intn(2) == 0 {
		ask = api.Instr{Op: api.OpPush, A: r.Intn(2)}
	}
	one, two := piece(r, c, deep), piece(r, c, deep)
	last := api.Instr{Op: api.OpGo, A: len(two)}
	if r.Intn(4) == 0 {
		last = api.Instr{Op: api.OpStop + r.Intn(2)}
	}
	return slices.Concat([]api.Instr{ask, {Op: api.OpSkip, A: len(one) + 1}}, one, []api.Instr{last}, two)
}

func piece(r *rand.Rand, c api.Command, deep int) []api.Instr {
	if deep < 8 && r.Intn(3) == 0 {
		return forked(r, c, deep)
	}
	return plain(r, c, deep)
}

// tried is a command that may be, or may not.
func tried(r *rand.Rand) api.Command {
	c := api.Command{Fuel: 1 + r.Intn(200)}
	for i := range r.Intn(9) {
		if r.Intn(2) == 0 {
			c.Reads = append(c.Reads, 2*i)
		} else {
			c.Writes = append(c.Writes, 2*i)
		}
	}
	for range r.Intn(9) {
		c.Args = append(c.Args, anyNumber(r))
	}
	deep := r.Intn(7)
	for range deep {
		c.Code = append(c.Code, putter(r, c))
	}
	for range 1 + r.Intn(5) {
		c.Code = append(c.Code, piece(r, c, deep)...)
	}
	c.Code = append(c.Code, api.Instr{Op: api.OpEnd - r.Intn(5)/4})
	if r.Intn(3) == 0 {
		c.Fuel = 1 + r.Intn(len(c.Code))
	}
	return c
}

// anyCommand is a command that may be.
func anyCommand(r *rand.Rand) api.Command {
	for {
		if c := tried(r); proof.Check(c) == api.OK {
			return c
		}
	}
}

func anyOwn(r *rand.Rand, c api.Command) []api.Block {
	l := make([]api.Block, len(c.Reads)+len(c.Writes))
	for i := range l {
		for j := range l[i] {
			l[i][j] = anyNumber(r)
		}
	}
	return l
}

// P10.1: each step of many commands is as the chapter's words have it, whatever
// of its instructions are met; all kinds, and all ways to end, are.
func TestStepsByRule(t *testing.T) {
	r := rand.New(rand.NewSource(2))
	kinds, told := map[int]int{}, map[api.Errno]int{}
	for range 6000 {
		c := anyCommand(r)
		z := state{New(c), anyOwn(r, c)}
		for !z.m.Over {
			if z.m.Fuel > 0 {
				kinds[c.Code[z.m.Pc].Op]++
			}
			want := stepByRule(c, z)
			got := step(c, z)
			if !same(got, want) {
				t.Fatalf("%v at %v: %v, want %v", c, z, got, want)
			}
			z = got
		}
		told[z.m.Told]++
	}
	for op := range kindWords {
		if kinds[op+1] < 200 {
			t.Errorf("%s is met %d times: too few to be of use", kindWords[op], kinds[op+1])
		}
	}
	for _, e := range []api.Errno{api.OK, api.ErrFuel, api.ErrZero, api.ErrStop} {
		if told[e] < 100 {
			t.Errorf("%d is told %d times: too few to be of use", e, told[e])
		}
	}
	if len(told) != 4 {
		t.Errorf("other ends: %v", told)
	}
}

// P10.2: it is over behind as many steps as its fuel, and one; and ahead of that
// just where its fuel is enough.
func TestOverInTime(t *testing.T) {
	r := rand.New(rand.NewSource(3))
	for range 3000 {
		c := anyCommand(r)
		own := anyOwn(r, c)
		if z := goes(c, own, c.Fuel+1); !z.m.Over {
			t.Fatalf("%v: %v", c, z)
		}
		before := goes(c, own, c.Fuel)
		after := step(c, before)
		if before.m.Over == (after.m.Told == api.ErrFuel) {
			t.Fatalf("%v: %v, then %v", c, before, after)
		}
	}
}

// P10.2 at the longest: of all the fuel there may be, and of one step alone.
func TestOverInTimeAtTheEnds(t *testing.T) {
	long := append(slices.Repeat([]api.Instr{{Op: api.OpGo}}, 63), api.Instr{Op: api.OpEnd})
	for fuel := 1; fuel <= 200; fuel++ {
		c := may(t, api.Command{Fuel: fuel, Code: long})
		z, steps := state{m: New(c)}, 0
		for !z.m.Over && steps < 1000 {
			z, steps = step(c, z), steps+1
		}
		want := api.ErrFuel
		if fuel >= 64 {
			want = api.OK
		}
		if steps != min(fuel+1, 64) || z.m.Told != want || z.m.Fuel != max(fuel-64, 0) {
			t.Errorf("fuel %d: %d steps, %v", fuel, steps, z)
		}
	}
}

// P4: what a command has, the stack and what it tells too, is never more than
// there may be, and blocks that it reads alone are as they were.
func TestWithinItsOwn(t *testing.T) {
	r := rand.New(rand.NewSource(4))
	for range 3000 {
		c := anyCommand(r)
		own := anyOwn(r, c)
		reads := slices.Clone(own[:len(c.Reads)])
		z := state{New(c), own}
		for range c.Fuel + 1 {
			z = step(c, z)
			if len(z.m.Stack) > api.MaxStack || len(z.m.Out) > api.MaxOut || len(z.own) != len(own) || !slices.Equal(z.own[:len(reads)], reads) {
				t.Fatalf("%v: %v", c, z)
			}
		}
	}
}

// The rules that hold everywhere.

// roomy is a list's copy in front of spare room, which is told beside it.
func roomy[T any](l []T, spare ...T) (list, all []T) {
	all = slices.Concat(l, spare)
	return all[:len(l)], all
}

// Rule 3: what is handed in is as it was, its spare room too; also what an
// earlier step answered.
func TestGivenStays(t *testing.T) {
	r := rand.New(rand.NewSource(5))
	for range 2000 {
		c := anyCommand(r)
		was := api.Command{Reads: slices.Clone(c.Reads), Writes: slices.Clone(c.Writes), Args: slices.Clone(c.Args), Fuel: c.Fuel, Code: slices.Clone(c.Code)}
		z := state{New(c), anyOwn(r, c)}
		for !z.m.Over {
			var stack, out []int
			var own []api.Block
			z.m.Stack, stack = roomy(z.m.Stack, 91, 92, 93)
			z.m.Out, out = roomy(z.m.Out, 94, 95)
			z.own, own = roomy(z.own, api.Block{96})
			then, room := copyOf(z), [][]int{slices.Clone(stack), slices.Clone(out)}
			next := step(c, z)
			if !same(z, then) || !slices.Equal(stack, room[0]) || !slices.Equal(out, room[1]) || own[len(z.own)] != (api.Block{96}) {
				t.Fatalf("%v: it was %v, and is %v", c, then, z)
			}
			z = next
		}
		if !slices.Equal(c.Reads, was.Reads) || !slices.Equal(c.Writes, was.Writes) || !slices.Equal(c.Args, was.Args) || !slices.Equal(c.Code, was.Code) {
			t.Fatalf("%v, and it was %v", c, was)
		}
	}
}

// spoil writes over all that a state's lists hold, their spare room too.
func spoil(z state) {
	for _, l := range [][]int{z.m.Stack[:cap(z.m.Stack)], z.m.Out[:cap(z.m.Out)]} {
		for i := range l {
			l[i] = -999
		}
	}
	clear(z.own[:cap(z.own)])
}

// Rule 3: an answer is new memory, so that two answers of one machine are each
// its own, and whoever writes into one changes nothing else.
func TestAnswersAreTheirOwn(t *testing.T) {
	r := rand.New(rand.NewSource(6))
	for range 1000 {
		c := anyCommand(r)
		z := state{New(c), anyOwn(r, c)}
		for over := false; !over; {
			over = z.m.Over
			then, want := copyOf(z), stepByRule(c, z)
			one, two := step(c, z), step(c, z)
			spoil(one)
			if !same(z, then) || !same(two, want) {
				t.Fatalf("%v: %v, want %v; %v, want %v", c, z, then, two, want)
			}
			z = two
		}
	}
}

// The chapter's way: a machine is a value. An older one goes on as it did, here
// by another command's numbers, too, whatever was made of it meanwhile.
func TestOlderOnesGoOn(t *testing.T) {
	c := of(t, 20, "push 1 push 2 arg 0 put 2 0 emit arg 1 emit emit end")
	other := c
	other.Args = []int{7, 8, 9}
	var all []state
	z := state{New(c), numbered(4)}
	for range 8 {
		all = append(all, z)
		z = step(c, z)
	}
	for i, old := range all {
		branch, want := old, copyOf(old)
		for range 9 - i {
			branch, want = step(other, branch), stepByRule(other, want)
		}
		if !same(branch, want) || !branch.m.Over {
			t.Errorf("from %d: %v, want %v", i, branch, want)
		}
	}
	for i, old := range all[:7] {
		if got := step(c, old); !same(got, all[i+1]) {
			t.Errorf("%d again: %v, want %v", i, got, all[i+1])
		}
	}
}

// Rule 2: a list that holds nothing may be nil or empty.
func TestNilOrEmpty(t *testing.T) {
	c := may(t, api.Command{Fuel: 4, Code: code(t, "push 5 emit end")})
	d := c
	d.Reads, d.Writes, d.Args = []int{}, []int{}, []int{}
	one, two := state{m: New(c)}, state{New(d), []api.Block{}}
	two.m.Stack, two.m.Out = []int{}, []int{}
	for range 4 {
		if !same(one, two) {
			t.Errorf("%v, %v", one, two)
		}
		one, two = step(c, one), step(d, two)
	}
}

// Rules 4 and 6: a call hangs on its arguments alone, whoever calls beside it.
func TestManyCallAtOnce(t *testing.T) {
	c := of(t, 20, "push 1 push 2 arg 0 put 2 0 emit arg 1 emit emit end")
	shared := goes(c, numbered(4), 3)
	want := stepByRule(c, shared)
	var wg sync.WaitGroup
	for i := range 8 {
		wg.Go(func() {
			r := rand.New(rand.NewSource(int64(i)))
			for range 100 {
				if got := step(c, shared); !same(got, want) {
					t.Errorf("the shared one: %v, want %v", got, want)
				}
				d := anyCommand(r)
				z := state{New(d), anyOwn(r, d)}
				for range d.Fuel + 1 {
					next := step(d, z)
					if !same(next, stepByRule(d, z)) {
						t.Errorf("%v at %v: %v", d, z, next)
					}
					z = next
				}
			}
		})
	}
	wg.Wait()
}

// What is made of nothing that may be: P1 asks for none of it, but no step of
// such a one panics either, and each is over in the end.

func TestNothingToWorkOn(t *testing.T) {
	for _, x := range []struct {
		m    api.Machine
		x    api.Instr
		told api.Errno
	}{
		{api.Machine{Pc: -1}, api.Instr{Op: api.OpEnd}, api.ErrJump},
		{api.Machine{Pc: 1}, api.Instr{Op: api.OpEnd}, api.ErrJump},
		{api.Machine{}, api.Instr{}, api.ErrOp},
		{api.Machine{}, api.Instr{Op: 18}, api.ErrOp},
		{api.Machine{}, api.Instr{Op: api.OpLoad, A: 4}, api.ErrOp},
		{api.Machine{}, api.Instr{Op: api.OpGet, A: 2}, api.ErrOp},
		{api.Machine{}, api.Instr{Op: api.OpArg, A: -1}, api.ErrOp},
		{api.Machine{Stack: []int{1}}, api.Instr{Op: api.OpKeep, A: -1}, api.ErrOp},
		{api.Machine{Stack: []int{1}}, api.Instr{Op: api.OpPut, A: 2}, api.ErrOp},
		{api.Machine{}, api.Instr{Op: api.OpKeep}, api.ErrStack},
		{api.Machine{Stack: []int{1}}, api.Instr{Op: api.OpSame}, api.ErrStack},
	} {
		x.m.Fuel, x.m.Out = 5, []int{1}
		m, own := Step(api.Command{Fuel: 5, Code: []api.Instr{x.x}}, x.m, numbered(2))
		if !m.Over || m.Told != x.told || len(m.Out) != 0 || !slices.Equal(own, numbered(2)) {
			t.Errorf("%v: %v, %v", x, m, own)
		}
	}
	m, _ := Step(api.Command{Code: code(t, "push 1 end")}, api.Machine{Fuel: -3}, nil)
	if !m.Over || m.Told != api.ErrFuel {
		t.Errorf("fuel below nought: %v", m)
	}
}

func TestAnythingEnds(t *testing.T) {
	r := rand.New(rand.NewSource(7))
	number := func() int {
		if r.Intn(3) > 0 {
			return r.Intn(12) - 3
		}
		return anyNumber(r)
	}
	list := func() []int {
		var l []int
		for range r.Intn(5) {
			l = append(l, number())
		}
		return l
	}
	for range 20000 {
		c := api.Command{Reads: list(), Writes: list(), Args: list(), Fuel: r.Intn(20) - 2}
		for range r.Intn(8) {
			c.Code = append(c.Code, api.Instr{Op: r.Intn(21) - 1, A: number(), B: number()})
		}
		z := state{New(c), make([]api.Block, r.Intn(4))}
		if r.Intn(2) == 0 {
			z.m.Pc, z.m.Stack, z.m.Out, z.m.Told = number(), list(), list(), api.Errno(number())
		}
		for range max(c.Fuel, 0) + 1 {
			z = step(c, z)
		}
		if !z.m.Over {
			t.Fatalf("%v: %v", c, z)
		}
	}
}

// Cells that aren't there are as layer 9 has them.
func TestNoCell(t *testing.T) {
	own := numbered(1)
	l := []api.Instr{{Op: api.OpGet, B: 8}, {Op: api.OpPut, B: -1}, {Op: api.OpEnd}}
	z := goes(api.Command{Writes: []int{0}, Fuel: 5, Code: l}, own, 1)
	if n := cell.Get(own[0], 8); !slices.Equal(z.m.Stack, []int{n}) {
		t.Errorf("got: %v", z)
	}
	z = goes(api.Command{Writes: []int{0}, Fuel: 5, Code: l}, own, 3)
	if !z.m.Over || z.m.Told != api.OK || z.own[0] != cell.Put(own[0], -1, 0) {
		t.Errorf("put: %v", z)
	}
}
