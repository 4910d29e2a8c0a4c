package proof

import (
	"math"
	"math/rand"
	"slices"
	"strings"
	"sync"
	"testing"

	"foreman/api"
	"foreman/asm"
)

// kindWords are the kinds' words in chapter 5's order, from 1 on.
var kindWords = strings.Fields("push load keep get put arg add sub mul div less same skip go emit stop end")

// effect is how many a kind takes from the stack and puts onto it, in the
// chapter's words.
func effect(op int) (int, int) {
	w := ""
	if op >= 1 && op <= len(kindWords) {
		w = kindWords[op-1]
	}
	switch {
	case slices.Contains(strings.Fields("push load get arg"), w):
		return 0, 1
	case slices.Contains(strings.Fields("keep put skip emit"), w):
		return 1, 0
	case slices.Contains(strings.Fields("add sub mul div less same"), w):
		return 2, 1
	}
	return 0, 0
}

// leadsTo is the places to which the ways of the instruction at i lead, -1 of
// one that leads out of the program, in the chapter's words.
func leadsTo(l []api.Instr, i int) []int {
	further := []int{0}
	switch l[i].Op {
	case api.OpEnd, api.OpStop:
		further = nil
	case api.OpGo:
		further = []int{l[i].A}
	case api.OpSkip:
		further = []int{0, l[i].A}
	}
	var to []int
	for _, a := range further {
		place := -1
		for j := i + 1; j < len(l); j++ {
			if j-(i+1) == a {
				place = j
			}
		}
		to = append(to, place)
	}
	return to
}

// depthsByRule is Depths in the chapter's words.
func depthsByRule(l []api.Instr) ([]int, api.Errno) {
	known := map[int]int{0: 0}
	for i, x := range l {
		ahead, is := known[i]
		if !is {
			continue
		}
		take, put := effect(x.Op)
		if take > ahead || ahead-take+put > 8 {
			return nil, api.ErrStack
		}
		for _, to := range leadsTo(l, i) {
			if to < 0 {
				return nil, api.ErrJump
			}
			if other, is := known[to]; is && other != ahead-take+put {
				return nil, api.ErrStack
			}
			known[to] = ahead - take + put
		}
	}
	depths := make([]int, len(l))
	for i := range l {
		if ahead, is := known[i]; is {
			depths[i] = ahead
		} else {
			depths[i] = -1
		}
	}
	return depths, api.OK
}

// oneByOne is a program's depths by doing it on each of its paths alone, from
// its first instruction to an end; false, if one of them goes wrong, or two meet
// with different stacks.
func oneByOne(l []api.Instr) ([]int, bool) {
	depths := slices.Repeat([]int{-1}, len(l))
	var follow func(at, depth int) bool
	follow = func(at, depth int) bool {
		if at < 0 || depths[at] >= 0 && depths[at] != depth {
			return false
		}
		depths[at] = depth
		take, put := effect(l[at].Op)
		if depth < take || depth-take+put > 8 {
			return false
		}
		for _, to := range leadsTo(l, at) {
			if !follow(to, depth-take+put) {
				return false
			}
		}
		return true
	}
	if len(l) > 0 && !follow(0, 0) {
		return nil, false
	}
	return depths, true
}

// checkByRule is Check in the chapter's words.
func checkByRule(c api.Command) api.Errno {
	blocks := slices.Concat(c.Reads, c.Writes)
	if len(blocks) > 8 || len(c.Args) > 8 || len(c.Code) == 0 || len(c.Code) > 64 || c.Fuel < 1 || c.Fuel > 200 {
		return api.ErrLimit
	}
	for i, a := range blocks {
		if a < 0 || slices.Index(blocks, a) != i {
			return api.ErrSet
		}
	}
	if !slices.IsSorted(c.Reads) || !slices.IsSorted(c.Writes) {
		return api.ErrSet
	}
	count := 0
	for _, x := range c.Code {
		if !mayByRule(c, x) {
			return api.ErrOp
		}
		if x.Op == api.OpEmit {
			count++
		}
	}
	if count > 8 {
		return api.ErrLimit
	}
	_, e := depthsByRule(c.Code)
	return e
}

// mayByRule is whether Check has no ErrOp for an instruction.
func mayByRule(c api.Command, x api.Instr) bool {
	known := func(a, least, most int) bool { return a >= least && a <= most }
	switch x.Op {
	case api.OpPush, api.OpSkip, api.OpGo:
		return x.B == 0
	case api.OpLoad, api.OpKeep:
		return known(x.A, 0, 3) && x.B == 0
	case api.OpGet:
		return known(x.A, 0, len(c.Reads)+len(c.Writes)-1) && known(x.B, 0, 7)
	case api.OpPut:
		return known(x.A, len(c.Reads), len(c.Reads)+len(c.Writes)-1) && known(x.B, 0, 7)
	case api.OpArg:
		return known(x.A, 0, len(c.Args)-1) && x.B == 0
	}
	return known(x.Op, 7, 17) && x.A == 0 && x.B == 0
}

// of is an instruction of a kind, with so many of its numbers.
func of(op int, numbers ...int) api.Instr {
	numbers = append(numbers, 0, 0)
	return api.Instr{Op: op, A: numbers[0], B: numbers[1]}
}

// built is the instructions of a text.
func built(t *testing.T, s string) []api.Instr {
	t.Helper()
	l, e := asm.Build(s)
	if e != api.OK {
		t.Fatalf("%q: error %d", s, e)
	}
	return l
}

func pushes(n int) []api.Instr { return slices.Repeat([]api.Instr{of(api.OpPush, 1)}, n) }

func ends(n int) []api.Instr { return slices.Repeat([]api.Instr{of(api.OpEnd)}, n) }

func join(lists ...[]api.Instr) []api.Instr { return slices.Concat(lists...) }

// climb is 0 to n: the depths of so many pushes, and of what is behind them.
func climb(n int) []int {
	var l []int
	for i := range n + 1 {
		l = append(l, i)
	}
	return l
}

func wantDepths(t *testing.T, l []api.Instr, want ...int) {
	t.Helper()
	if got, e := Depths(l); e != api.OK || !slices.Equal(got, want) {
		t.Errorf("%v: %v, error %d, want %v", l[:min(len(l), 20)], got[:min(len(got), 20)], e, want[:min(len(want), 20)])
	}
}

func wantError(t *testing.T, l []api.Instr, want api.Errno) {
	t.Helper()
	if got, e := Depths(l); e != want || len(got) != 0 {
		t.Errorf("%v: %v, error %d, want error %d", l[:min(len(l), 20)], got[:min(len(got), 20)], e, want)
	}
}

func wantByRule(t *testing.T, l []api.Instr) {
	t.Helper()
	want, e := depthsByRule(l)
	if e != api.OK {
		wantError(t, l, e)
		return
	}
	wantDepths(t, l, want...)
}

func wantCheck(t *testing.T, c api.Command, want api.Errno) {
	t.Helper()
	if got := Check(c); got != want {
		c.Code = c.Code[:min(len(c.Code), 12)]
		t.Errorf("%v: error %d, want %d", c, got, want)
	}
}

// numbers are some that an instruction may have: near 0, and at the ends.
func numbers() []int {
	return []int{0, 1, -1, 2, -2, 3, 4, 7, 8, 9, -8, 63, 64, 65, 1 << 31, -1 << 31, 1 << 32, 1<<32 + 1, 1 << 40, math.MaxInt - 1, math.MaxInt, math.MinInt, math.MinInt + 1}
}

// P7.1: the stack.

func TestNoInstructions(t *testing.T) {
	wantDepths(t, nil)
	wantDepths(t, []api.Instr{})
}

func TestDepthsExamples(t *testing.T) {
	wantDepths(t, built(t, "push 1 end"), 0, 1)
	wantDepths(t, built(t, "end"), 0)
	wantError(t, built(t, "push 1"), api.ErrJump)
	wantDepths(t, built(t, "push 5 push 6 add emit end"), 0, 1, 2, 1, 0)
	wantDepths(t, built(t, "get 0 1 skip over push 1 emit over: end"), 0, 1, 0, 1, 0)
	wantDepths(t, built(t, "push 1 skip x end x: end end"), 0, 1, 0, 0, -1)
	wantDepths(t, built(t, "arg 0 arg 1 less skip no push 1 go both no: push 2 go both end both: emit stop"), 0, 1, 2, 1, 0, 1, 0, 1, -1, 1, 0)
}

// Each kind, with each stack ahead of it.
func TestEachKindsStack(t *testing.T) {
	for op := 1; op <= 17; op++ {
		take, put := effect(op)
		for ahead := range 9 {
			l := join(pushes(ahead), []api.Instr{of(op)}, ends(1))
			if ahead < take || ahead-take+put > 8 {
				wantError(t, l, api.ErrStack)
				continue
			}
			behind := ahead - take + put
			if op == api.OpEnd || op == api.OpStop {
				behind = -1
			}
			wantDepths(t, l, append(climb(ahead), behind)...)
		}
	}
}

func TestStackOfTexts(t *testing.T) {
	for _, x := range []struct {
		s    string
		want []int
	}{
		{"load 3 keep 0 end", []int{0, 1, 0}}, {"get 0 0 put 1 1 stop", []int{0, 1, 0}}, {"arg 0 emit end", []int{0, 1, 0}},
		{"push 1 push 2 sub end", []int{0, 1, 2, 1}}, {"push 1 push 2 push 3 mul div end", []int{0, 1, 2, 3, 2, 1}},
		{"push 1 push 2 less push 3 same keep 1 end", []int{0, 1, 2, 1, 2, 1, 0}},
		{"keep 0 end", nil}, {"put 0 0 end", nil}, {"emit end", nil}, {"skip x x: end", nil},
		{"add end", nil}, {"push 1 sub end", nil}, {"push 1 mul end", nil}, {"push 1 div end", nil}, {"push 1 less end", nil}, {"push 1 same end", nil},
		{"push 1 emit emit end", nil}, {"push 1 push 1 add add end", nil}, {"push 1 keep 0 load 0 keep 0 keep 0 end", nil},
	} {
		if x.want == nil {
			wantError(t, built(t, x.s), api.ErrStack)
			continue
		}
		wantDepths(t, built(t, x.s), x.want...)
	}
}

// The ninth one is too many, whichever kind puts it; what takes two first isn't.
func TestFullStack(t *testing.T) {
	wantDepths(t, join(pushes(8), ends(1)), climb(8)...)
	for _, n := range []int{9, 10, 20, 64} {
		wantError(t, join(pushes(n), ends(1)), api.ErrStack)
	}
	for op := 1; op <= 17; op++ {
		take, put := effect(op)
		l := join(pushes(8), []api.Instr{of(op), of(api.OpStop)})
		if put > take {
			wantError(t, l, api.ErrStack)
			continue
		}
		wantByRule(t, l)
	}
	wantError(t, join(pushes(8), []api.Instr{of(api.OpAdd)}, pushes(2), ends(1)), api.ErrStack)
	wantDepths(t, join(pushes(8), []api.Instr{of(api.OpAdd)}, pushes(1), ends(1)), append(climb(8), 7, 8)...)
}

// The stack doesn't hang on the instruction's numbers, nor the ways of others
// than skip and go.
func TestNumbersOfOthers(t *testing.T) {
	for op := 1; op <= 17; op++ {
		for _, a := range numbers() {
			for _, b := range []int{0, 1, -1, math.MaxInt, math.MinInt} {
				l := join(pushes(2), []api.Instr{of(op, a, b)}, ends(3))
				wantByRule(t, l)
				if op != api.OpSkip && op != api.OpGo {
					bare := join(pushes(2), []api.Instr{of(op)}, ends(3))
					want, e := Depths(bare)
					if got, f := Depths(l); f != e || !slices.Equal(got, want) {
						t.Errorf("%v: %v, error %d, want %v, error %d", l, got, f, want, e)
					}
				}
			}
		}
	}
	wantDepths(t, []api.Instr{of(api.OpPush, -1), of(api.OpEnd, -1)}, 0, 1)
	wantDepths(t, []api.Instr{of(api.OpPush, math.MaxInt), of(api.OpStop, math.MaxInt)}, 0, 1)
}

// A kind that there isn't takes none and puts none, and has a way to the next
// one, like others: that it may not be, Check says.
func TestUnknownKinds(t *testing.T) {
	for _, op := range []int{0, -1, -7, 18, 19, 255, 256 + 1, 256 + 17, 1<<32 + 1, math.MaxInt, math.MinInt, math.MinInt + 1} {
		wantDepths(t, []api.Instr{of(op, 5, 5), of(api.OpEnd)}, 0, 0)
		wantDepths(t, join(pushes(8), []api.Instr{of(op, -1)}, ends(1)), append(climb(8), 8)...)
		wantError(t, []api.Instr{of(op)}, api.ErrJump)
	}
}

// P7.1: the ways.

// What is last must be an end or a stop, if a way leads there.
func TestLastInstruction(t *testing.T) {
	for op := 1; op <= 17; op++ {
		l := join(pushes(3), []api.Instr{of(op)})
		if op == api.OpEnd || op == api.OpStop {
			wantDepths(t, l, 0, 1, 2, 3)
			wantDepths(t, []api.Instr{of(op)}, 0)
		} else {
			wantError(t, l, api.ErrJump)
		}
		wantDepths(t, join(ends(1), pushes(1), []api.Instr{of(op)}), 0, -1, -1)
	}
}

// end and stop have no way: the next one is reached by jumps alone.
func TestEndAndStop(t *testing.T) {
	for _, op := range []int{api.OpEnd, api.OpStop} {
		for _, a := range []int{0, 1, -1, math.MaxInt, math.MinInt} {
			wantDepths(t, []api.Instr{of(op, a), of(api.OpEmit), of(api.OpEnd)}, 0, -1, -1)
			wantDepths(t, join(pushes(1), []api.Instr{of(api.OpSkip, 1), of(op, a), of(api.OpPush), of(api.OpEnd)}), 0, 1, 0, 0, 1)
		}
		wantDepths(t, join(pushes(8), []api.Instr{of(op)}), climb(8)...)
	}
}

// Each place to which a go can lead, in programs of each length.
func TestGo(t *testing.T) {
	for many := 1; many <= 65; many++ {
		for _, at := range []int{0, 1, 5, many - 2, many - 1} {
			if at < 0 || at >= many {
				continue
			}
			l := ends(many)
			for i := range at {
				l[i] = of(api.OpGo)
			}
			for a := -3; a <= many+3; a++ {
				l[at] = of(api.OpGo, a)
				if a < 0 || at+1+a >= many {
					wantError(t, l, api.ErrJump)
					continue
				}
				want := slices.Repeat([]int{-1}, many)
				for i := range at + 1 {
					want[i] = 0
				}
				want[at+1+a] = 0
				wantDepths(t, l, want...)
			}
		}
	}
}

func TestSkip(t *testing.T) {
	for many := 2; many <= 65; many++ {
		l := join(pushes(2), []api.Instr{of(api.OpSkip)}, ends(many))
		for a := -3; a <= many+3; a++ {
			l[2].A = a
			if a < 0 || a >= many {
				wantError(t, l, api.ErrJump)
				continue
			}
			want := append([]int{0, 1, 2}, slices.Repeat([]int{-1}, many)...)
			want[3], want[3+a] = 1, 1
			wantDepths(t, l, want...)
		}
	}
}

// Numbers that are so far that a place reckoned with them would be back in the
// program.
func TestFarJumps(t *testing.T) {
	for _, at := range []int{0, 1, 2, 30, 63} {
		for _, a := range []int{math.MaxInt, math.MaxInt - 1, math.MaxInt - 2, math.MaxInt - 63, math.MaxInt - 64, math.MinInt, math.MinInt + 1, math.MinInt + 64,
			1 << 32, 1<<32 + 1, 1<<32 - 1, -1 << 32, 1 << 31, 1 << 16, 1 << 8, 256 - at - 1, 1<<32 - at - 1, 1<<63 - 1 - at, -1, -2, -at, -at - 1, -at - 2} {
			ahead := slices.Repeat([]api.Instr{of(api.OpGo)}, at)
			if a < 0 || a > 64 {
				wantError(t, join(ahead, []api.Instr{of(api.OpGo, a)}, ends(64)), api.ErrJump)
				wantError(t, join(ahead, pushes(1), []api.Instr{of(api.OpSkip, a)}, ends(64)), api.ErrJump)
			}
		}
	}
	wantError(t, []api.Instr{of(api.OpGo, -1)}, api.ErrJump)
	wantError(t, []api.Instr{of(api.OpGo, -1), of(api.OpEnd)}, api.ErrJump)
}

// To a place by two ways, or three.
func TestWaysThatMeet(t *testing.T) {
	for _, x := range []struct {
		s string
		e api.Errno
	}{
		{"push 1 skip x push 2 emit x: end", api.OK}, {"push 1 skip x push 2 x: end", api.ErrStack},
		{"push 1 push 2 skip x emit x: end", api.ErrStack}, {"push 1 push 2 skip x emit push 1 x: end", api.OK},
		{"push 1 skip x push 2 go y x: push 3 y: emit end", api.OK}, {"push 1 skip x push 2 go y x: y: end", api.ErrStack},
		{"push 1 skip x push 2 go y x: push 3 push 4 y: emit end", api.ErrStack}, {"push 1 skip x go y x: push 4 y: end", api.ErrStack},
		{"push 1 skip x x: end", api.OK}, {"go x x: end", api.OK}, {"push 1 skip x stop x: end", api.OK},
		{"push 1 skip x push 1 skip x push 1 skip x x: end", api.OK}, {"push 1 push 1 skip x skip x x: end", api.ErrStack},
		{"push 1 skip x push 1 skip y push 9 emit x: push 1 keep 0 y: end", api.OK},
		{"push 1 skip x push 1 skip y push 9 emit x: push 1 y: end", api.ErrStack},
		{"push 1 skip x push 5 stop x: push 6 push 7 end", api.OK},
	} {
		if x.e != api.OK {
			wantError(t, built(t, x.s), x.e)
			continue
		}
		wantByRule(t, built(t, x.s))
		if _, e := Depths(built(t, x.s)); e != api.OK {
			t.Errorf("%s: error %d", x.s, e)
		}
	}
}

// To the end with different stacks, by each pair of depths.
func TestMeetingDepths(t *testing.T) {
	for one := range 8 {
		for two := range 8 {
			l := join(pushes(1), []api.Instr{of(api.OpSkip, one+1)}, pushes(one), []api.Instr{of(api.OpGo, two)}, pushes(two), ends(1))
			if one != two {
				wantError(t, l, api.ErrStack)
			} else {
				wantByRule(t, l)
				if _, e := Depths(l); e != api.OK {
					t.Errorf("%d and %d: error %d", one, two, e)
				}
			}
		}
	}
}

// Instructions to which no way leads may be any, and lead nowhere.
func TestNoWay(t *testing.T) {
	for _, x := range []api.Instr{of(api.OpAdd), of(api.OpEmit), of(api.OpGo, -1), of(api.OpGo, 99), of(api.OpSkip, -7), of(api.OpPush), of(99), of(api.OpKeep)} {
		wantDepths(t, []api.Instr{of(api.OpEnd), x}, 0, -1)
		wantDepths(t, []api.Instr{of(api.OpStop), x, of(api.OpEnd)}, 0, -1, -1)
		wantDepths(t, []api.Instr{of(api.OpGo, 1), x, of(api.OpPush), of(api.OpEnd)}, 0, -1, 0, 1)
		wantDepths(t, join(pushes(1), []api.Instr{of(api.OpGo, 2), x, x, of(api.OpEnd)}), 0, 1, -1, -1, 1)
	}
	wantDepths(t, []api.Instr{of(api.OpGo, 1), of(api.OpGo, 1), of(api.OpPush), of(api.OpEnd)}, 0, -1, 0, 1)
	wantDepths(t, join(ends(1), pushes(20)), append([]int{0}, slices.Repeat([]int{-1}, 20)...)...)
	wantDepths(t, built(t, "go x y: push 1 push 1 z: end x: push 1 go w w: end"), 0, -1, -1, -1, 0, 1, 1)
}

// P7.1: of more than one error the first one is told.

func TestFirstErrorOfDepths(t *testing.T) {
	far, back := of(api.OpGo, 99), of(api.OpGo, -1)
	push, emit, add, end := of(api.OpPush), of(api.OpEmit), of(api.OpAdd), of(api.OpEnd)
	for _, x := range []struct {
		l []api.Instr
		e api.Errno
	}{
		// By instructions: what comes first in the program.
		{[]api.Instr{add, far}, api.ErrStack}, {[]api.Instr{far, add}, api.ErrJump}, {[]api.Instr{push, back, add, end}, api.ErrJump},
		{[]api.Instr{push, emit, emit, far}, api.ErrStack}, {join(pushes(8), []api.Instr{far}, pushes(1)), api.ErrJump},
		{join(pushes(9), []api.Instr{far}), api.ErrStack}, {[]api.Instr{push, of(api.OpSkip, 1), back, add, end}, api.ErrJump},
		{[]api.Instr{push, of(api.OpSkip, 1), add, back, end}, api.ErrStack}, {[]api.Instr{push, of(api.OpSkip, 1), end, back, add}, api.ErrJump},
		// By places, not by the order in which ways lead there.
		{[]api.Instr{push, of(api.OpSkip, 2), of(api.OpGo, 2), end, back, add}, api.ErrJump},
		{[]api.Instr{push, of(api.OpSkip, 2), of(api.OpGo, 2), end, add, far}, api.ErrStack},
		{[]api.Instr{push, of(api.OpSkip, 1), of(api.OpGo, 1), add, back}, api.ErrStack},
		{[]api.Instr{push, of(api.OpSkip, 1), of(api.OpGo, 1), back, add}, api.ErrJump},
		// The stack ahead of the ways.
		{[]api.Instr{of(api.OpSkip, 99), end}, api.ErrStack}, {[]api.Instr{of(api.OpSkip, -1), end}, api.ErrStack},
		{[]api.Instr{of(api.OpSkip)}, api.ErrStack}, {[]api.Instr{emit}, api.ErrStack}, {[]api.Instr{add}, api.ErrStack},
		{pushes(9), api.ErrStack}, {pushes(8), api.ErrJump}, {[]api.Instr{push, add}, api.ErrStack}, {[]api.Instr{push, push, add}, api.ErrJump},
		// Way by way: the way to the next one first.
		{[]api.Instr{push, of(api.OpSkip, 99)}, api.ErrJump}, {[]api.Instr{push, of(api.OpSkip, -1)}, api.ErrJump},
		{[]api.Instr{push, push, of(api.OpSkip, 1), of(api.OpSkip, 99), end}, api.ErrStack},
		{[]api.Instr{push, push, of(api.OpSkip, 1), of(api.OpSkip, -1), end}, api.ErrStack},
		{[]api.Instr{push, push, of(api.OpSkip, 1), of(api.OpSkip, math.MinInt), end}, api.ErrStack},
		{[]api.Instr{push, push, push, of(api.OpSkip, 2), emit, of(api.OpSkip, 0), end}, api.ErrStack},
		{[]api.Instr{push, push, of(api.OpSkip, 2), of(api.OpSkip, 99), end, end}, api.ErrJump},
		{[]api.Instr{push, push, of(api.OpSkip, 2), of(api.OpSkip, 1), end, end}, api.ErrStack},
		{[]api.Instr{push, push, of(api.OpSkip, 2), of(api.OpSkip, -1), end, end}, api.ErrJump},
		// Another stack at a place is told where the second way begins.
		{[]api.Instr{push, push, of(api.OpSkip, 1), emit, far}, api.ErrStack}, {[]api.Instr{push, push, of(api.OpSkip, 1), emit, add}, api.ErrStack},
		{[]api.Instr{push, of(api.OpSkip, 2), push, of(api.OpGo, 0), far}, api.ErrStack},
		{[]api.Instr{push, of(api.OpSkip, 3), far, push, end, end}, api.ErrJump},
	} {
		wantError(t, x.l, x.e)
		if _, e := depthsByRule(x.l); e != x.e {
			t.Errorf("%v: by the rule error %d", x.l, e)
		}
	}
}

// P7.1: all short programs, by the chapter's words, and by all their paths.

// tries calls f with all lists of at most so many of these parts.
func tries[T any](parts []T, most int, f func([]T)) {
	l := make([]T, 0, most)
	var add func()
	add = func() {
		f(l)
		if len(l) == most {
			return
		}
		for _, x := range parts {
			l = append(l, x)
			add()
			l = l[:len(l)-1]
		}
	}
	add()
}

// wantAsOnPaths wants that a program is refused if a path goes wrong, and that
// its depths are those on its paths.
func wantAsOnPaths(t *testing.T, l []api.Instr) {
	t.Helper()
	want, well := oneByOne(l)
	got, e := Depths(l)
	if (e == api.OK) != well || !slices.Equal(got, want) {
		t.Errorf("%v: %v, error %d, want %v, %v", l, got, e, want, well)
	}
	if e != api.OK && e != api.ErrStack && e != api.ErrJump {
		t.Errorf("%v: error %d", l, e)
	}
}

func TestAllShortPrograms(t *testing.T) {
	parts := []api.Instr{of(api.OpPush, -1), of(api.OpEmit), of(api.OpAdd), of(api.OpSkip), of(api.OpSkip, 1), of(api.OpSkip, 2), of(api.OpSkip, -1), of(api.OpGo), of(api.OpGo, 1), of(api.OpGo, -2), of(api.OpEnd)}
	tries(parts, 5, func(l []api.Instr) {
		if t.Failed() {
			return
		}
		wantByRule(t, l)
		wantAsOnPaths(t, l)
	})
}

// All short programs that begin with a full stack, or nearly.
func TestAllShortProgramsOfDeepStacks(t *testing.T) {
	parts := []api.Instr{of(api.OpLoad), of(api.OpGet), of(api.OpPut), of(api.OpMul), of(api.OpSkip, 1), of(api.OpGo, 1), of(api.OpStop)}
	for ahead := 5; ahead <= 8; ahead++ {
		tries(parts, 5, func(l []api.Instr) {
			if t.Failed() {
				return
			}
			l = join(pushes(ahead), l)
			wantByRule(t, l)
			wantAsOnPaths(t, l)
		})
	}
}

// anyProgram is many instructions that nearly fit together: most kinds are such
// that the stack allows them.
func anyProgram(r *rand.Rand, many int) []api.Instr {
	l := make([]api.Instr, many)
	for i := range l {
		op := 1 + r.Intn(17)
		if r.Intn(3) == 0 {
			op = []int{api.OpPush, api.OpKeep, api.OpGo, api.OpSkip}[r.Intn(4)]
		}
		if r.Intn(12) > 0 && (op == api.OpEnd || op == api.OpStop) {
			op = api.OpLoad
		}
		l[i].Op = op
		if op == api.OpSkip || op == api.OpGo {
			l[i].A = r.Intn(3) * r.Intn(2)
			if r.Intn(30) == 0 {
				l[i].A = numbers()[r.Intn(len(numbers()))]
			}
		}
	}
	return l
}

// mended is a program with an end behind it, in which most instructions that
// the stack wouldn't allow have given way to others.
func mended(r *rand.Rand, l []api.Instr) []api.Instr {
	l = append(slices.Clone(l), of(api.OpEnd))
	for i := range l[:len(l)-1] {
		for range 12 {
			if _, e := depthsByRule(join(l[:i+1], ends(70))); e != api.ErrStack {
				break
			}
			l[i] = []api.Instr{of(api.OpPush, 7), of(api.OpEmit), of(api.OpAdd), of(api.OpGo), of(api.OpKeep, 2), of(api.OpEnd)}[r.Intn(6)]
		}
	}
	return l
}

func TestAnyProgramsDepths(t *testing.T) {
	r := rand.New(rand.NewSource(1))
	well := 0
	for n := range 20000 {
		l := anyProgram(r, r.Intn(14))
		if n%2 == 0 {
			l = mended(r, l)
		}
		wantByRule(t, l)
		wantAsOnPaths(t, l)
		if _, e := depthsByRule(l); e == api.OK {
			well++
		}
	}
	if well < 4000 || well > 16000 {
		t.Errorf("%d of 20000 may be: too few, or too many, to be of use", well)
	}
}

func TestLongPrograms(t *testing.T) {
	r := rand.New(rand.NewSource(2))
	for range 500 {
		l := anyProgram(r, 30+r.Intn(40))
		wantByRule(t, l)
		wantByRule(t, mended(r, l))
	}
}

// How many instructions there may be, Check says: Depths takes any number.
func TestDepthsOfMany(t *testing.T) {
	for _, many := range []int{63, 64, 65, 255, 256, 257, 1000, 70000} {
		l := slices.Repeat([]api.Instr{of(api.OpPush), of(api.OpEmit)}, many)
		want := slices.Repeat([]int{0, 1}, many)
		wantDepths(t, append(l, of(api.OpEnd)), append(want, 0)...)
		wantError(t, l, api.ErrJump)
		wantError(t, append(l, of(api.OpAdd), of(api.OpEnd)), api.ErrStack)
		wantError(t, join([]api.Instr{of(api.OpGo, 2*many)}, l), api.ErrJump)
		wantDepths(t, append(append([]api.Instr{of(api.OpGo, 2*many)}, l...), of(api.OpEnd)), append(append([]int{0}, slices.Repeat([]int{-1}, 2*many)...), 0)...)
	}
}

// P1: any instructions, any numbers.
func TestAnyRawInstructions(t *testing.T) {
	r := rand.New(rand.NewSource(3))
	number := func() int { return numbers()[r.Intn(len(numbers()))] }
	for range 20000 {
		l := make([]api.Instr, r.Intn(8))
		for i := range l {
			l[i] = of(r.Intn(20), number(), number())
			if r.Intn(10) == 0 {
				l[i].Op = number()
			}
		}
		wantByRule(t, l)
		wantCheck(t, api.Command{Code: l, Fuel: 1}, checkByRule(api.Command{Code: l, Fuel: 1}))
	}
}

// P7.2: Check.

// upTo is n blocks from least on.
func upTo(least, n int) []int {
	var l []int
	for i := range n {
		l = append(l, least+i)
	}
	return l
}

// plain is a command that may be: it reads two blocks, writes three, and gets
// two numbers.
func plain() api.Command {
	return api.Command{Reads: []int{1, 4}, Writes: []int{0, 2, 9}, Args: []int{5, -6}, Fuel: 9, Code: []api.Instr{of(api.OpGet, 1, 3), of(api.OpArg, 1), of(api.OpAdd), of(api.OpPut, 3, 7), of(api.OpEnd)}}
}

// with is a plain command of other instructions.
func with(l ...api.Instr) api.Command {
	c := plain()
	c.Code = l
	return c
}

func TestCheckExamples(t *testing.T) {
	wantCheck(t, plain(), api.OK)
	wantCheck(t, with(of(api.OpPush), of(api.OpEnd)), api.OK)
	wantCheck(t, with(of(api.OpPush)), api.ErrJump)
	wantCheck(t, api.Command{Fuel: 1, Code: ends(1)}, api.OK)
	wantCheck(t, api.Command{Reads: []int{}, Writes: []int{}, Args: []int{}, Fuel: 1, Code: ends(1)}, api.OK)
	wantCheck(t, api.Command{}, api.ErrLimit)
}

func TestHowManyBlocks(t *testing.T) {
	for reads := range 12 {
		for writes := range 12 {
			c := api.Command{Reads: upTo(0, reads), Writes: upTo(20, writes), Fuel: 1, Code: ends(1)}
			want := api.OK
			if reads+writes > 8 {
				want = api.ErrLimit
			}
			wantCheck(t, c, want)
		}
	}
	wantCheck(t, api.Command{Reads: upTo(0, 300), Fuel: 1, Code: ends(1)}, api.ErrLimit)
	wantCheck(t, api.Command{Writes: upTo(0, 300), Fuel: 1, Code: ends(1)}, api.ErrLimit)
}

func TestHowManyNumbers(t *testing.T) {
	for n := range 300 {
		c := plain()
		c.Args = slices.Repeat([]int{math.MinInt}, n+2)
		want := api.OK
		if n+2 > 8 {
			want = api.ErrLimit
		}
		wantCheck(t, c, want)
	}
	for n := range 12 {
		want := api.OK
		if n > 8 {
			want = api.ErrLimit
		}
		wantCheck(t, api.Command{Args: make([]int, n), Fuel: 1, Code: ends(1)}, want)
	}
}

// A command's numbers may be any.
func TestNumbersMayBeAny(t *testing.T) {
	for _, n := range numbers() {
		c := plain()
		c.Args = []int{n, n}
		wantCheck(t, c, api.OK)
		wantCheck(t, with(of(api.OpPush, n), of(api.OpEnd)), api.OK)
	}
}

func TestHowManyInstructions(t *testing.T) {
	wantCheck(t, with(), api.ErrLimit)
	c := plain()
	c.Code = []api.Instr{}
	wantCheck(t, c, api.ErrLimit)
	for n := 1; n <= 300; n++ {
		want := api.OK
		if n > 64 {
			want = api.ErrLimit
		}
		wantCheck(t, with(ends(n)...), want)
		wantCheck(t, with(join(slices.Repeat([]api.Instr{of(api.OpGo)}, n-1), ends(1))...), want)
	}
}

func TestFuel(t *testing.T) {
	for n := -300; n <= 600; n++ {
		c := plain()
		c.Fuel = n
		want := api.OK
		if n < 1 || n > 200 {
			want = api.ErrLimit
		}
		wantCheck(t, c, want)
	}
	for _, n := range []int{math.MinInt, math.MinInt + 1, math.MinInt + 9, math.MaxInt, math.MaxInt - 1, 1<<32 + 9, -1<<32 + 9, 1 << 31, 256 + 9} {
		c := plain()
		c.Fuel = n
		wantCheck(t, c, api.ErrLimit)
	}
	// It needn't be enough.
	c := with(join(pushes(8), ends(1))...)
	c.Fuel = 1
	wantCheck(t, c, api.OK)
}

func TestSets(t *testing.T) {
	for _, x := range []struct {
		reads, writes []int
		e             api.Errno
	}{
		{nil, nil, api.OK}, {[]int{0}, nil, api.OK}, {nil, []int{0}, api.OK}, {[]int{0, 1}, []int{2, 3}, api.OK},
		{[]int{2, 3}, []int{0, 1}, api.OK}, {[]int{0, 2}, []int{1, 3}, api.OK}, {[]int{5}, []int{7}, api.OK},
		{[]int{0, 63, 64, 1 << 40, math.MaxInt}, nil, api.OK}, {nil, []int{0, 63, 64, 1 << 40, math.MaxInt}, api.OK},
		{[]int{math.MaxInt - 1}, []int{math.MaxInt}, api.OK}, {upTo(0, 8), nil, api.OK}, {nil, upTo(0, 8), api.OK}, {upTo(4, 4), upTo(0, 4), api.OK},
		{[]int{-1}, nil, api.ErrSet}, {nil, []int{-1}, api.ErrSet}, {[]int{-1, 0}, nil, api.ErrSet}, {nil, []int{-2, 1}, api.ErrSet},
		{[]int{math.MinInt}, nil, api.ErrSet}, {nil, []int{math.MinInt}, api.ErrSet}, {[]int{-3, -2, -1}, nil, api.ErrSet},
		{[]int{0, 0}, nil, api.ErrSet}, {nil, []int{0, 0}, api.ErrSet}, {[]int{1, 0}, nil, api.ErrSet}, {nil, []int{1, 0}, api.ErrSet},
		{[]int{3, 1}, []int{4}, api.ErrSet}, {[]int{4}, []int{3, 1}, api.ErrSet}, {[]int{1, 2, 2}, nil, api.ErrSet}, {nil, []int{1, 2, 1}, api.ErrSet},
		{[]int{1, 3, 2}, nil, api.ErrSet}, {[]int{1, 3, 2, 4}, []int{9}, api.ErrSet}, {[]int{0, 1, 2, 3, 4, 5, 6, 6}, nil, api.ErrSet}, {nil, []int{0, 1, 2, 3, 4, 5, 7, 6}, api.ErrSet},
		{[]int{0, -1}, nil, api.ErrSet}, {nil, []int{5, -1}, api.ErrSet}, {[]int{0, math.MinInt}, nil, api.ErrSet},
		{[]int{math.MaxInt, math.MinInt}, nil, api.ErrSet}, {nil, []int{math.MaxInt, 0}, api.ErrSet}, {[]int{math.MaxInt, math.MaxInt}, nil, api.ErrSet}, {[]int{math.MaxInt, math.MinInt, 0}, nil, api.ErrSet},
		{[]int{1}, []int{1}, api.ErrSet}, {[]int{0}, []int{0}, api.ErrSet}, {[]int{1, 2}, []int{2, 3}, api.ErrSet}, {[]int{2, 3}, []int{1, 2}, api.ErrSet},
		{[]int{1, 5}, []int{0, 1}, api.ErrSet}, {[]int{1, 5}, []int{4, 5}, api.ErrSet}, {[]int{1, 2, 3}, []int{0, 3}, api.ErrSet}, {[]int{math.MaxInt}, []int{math.MaxInt}, api.ErrSet},
		{upTo(0, 4), upTo(3, 4), api.ErrSet}, {upTo(0, 4), []int{0, 9}, api.ErrSet}, {[]int{9}, upTo(3, 7), api.ErrSet}, {[]int{6}, upTo(0, 7), api.ErrSet},
	} {
		wantCheck(t, api.Command{Reads: x.reads, Writes: x.writes, Fuel: 1, Code: ends(1)}, x.e)
	}
}

// All short sets of a few blocks.
func TestAllShortSets(t *testing.T) {
	tries([]int{-1, 0, 1, 2, 3}, 5, func(blocks []int) {
		for cut := range len(blocks) + 1 {
			c := api.Command{Reads: blocks[:cut], Writes: blocks[cut:], Fuel: 1, Code: ends(1)}
			wantCheck(t, c, checkByRule(c))
		}
	})
}

// wantOp wants of an instruction in a command that it may be, or ErrOp, whether
// a way leads there or not. Two are ahead of it on the stack where one does:
// that is as many as any takes.
func wantOp(t *testing.T, c api.Command, x api.Instr, may bool) {
	t.Helper()
	want := api.ErrOp
	if may {
		want = api.OK
	}
	ahead := []api.Instr{of(api.OpPush), of(api.OpPush)}
	c.Code = join(ahead, []api.Instr{x, of(api.OpEnd)})
	wantCheck(t, c, want)
	c.Code = join(ends(1), []api.Instr{x})
	wantCheck(t, c, want)
	if !may {
		c.Code = []api.Instr{x}
		wantCheck(t, c, want)
		c.Code = []api.Instr{x, of(api.OpEnd)}
		wantCheck(t, c, want)
	}
}

// Kinds that there are, and numbers only where they have some.
func TestInstructionsThatAreNotRight(t *testing.T) {
	for _, op := range append(numbers(), 18, 19, 255, 256+1, 256+17, 1<<32+17) {
		if op < 1 || op > 17 {
			wantOp(t, plain(), of(op), false)
			wantOp(t, plain(), of(op, 1, 1), false)
		}
	}
	for op := 1; op <= 17; op++ {
		x := of(op)
		if op == api.OpPut {
			x.A = 2
		}
		wantOp(t, plain(), x, true)
		for _, n := range numbers() {
			if n == 0 {
				continue
			}
			if op >= api.OpAdd && op != api.OpSkip && op != api.OpGo {
				wantOp(t, plain(), of(op, n), false)
			}
			if op != api.OpGet && op != api.OpPut {
				wantOp(t, plain(), of(op, 0, n), false)
			}
		}
	}
}

func TestRegisters(t *testing.T) {
	for _, op := range []int{api.OpLoad, api.OpKeep} {
		for a := -300; a <= 300; a++ {
			wantOp(t, plain(), of(op, a), a >= 0 && a <= 3)
		}
		for _, a := range []int{math.MinInt, math.MinInt + 1, math.MaxInt, 1 << 32, 1<<32 + 3, -1 << 32} {
			wantOp(t, plain(), of(op, a), false)
		}
	}
}

// The places of a command's blocks: of those it reads, then those it writes.
func TestPlacesOfBlocks(t *testing.T) {
	for reads := range 9 {
		for writes := range 9 - reads {
			c := api.Command{Reads: upTo(40, reads), Writes: upTo(3, writes), Fuel: 1}
			for a := -10; a <= 60; a++ {
				wantOp(t, c, of(api.OpGet, a), a >= 0 && a < reads+writes)
				wantOp(t, c, of(api.OpPut, a), a >= reads && a < reads+writes)
			}
			for _, a := range []int{math.MinInt, math.MinInt + 1, math.MaxInt, 1 << 32, -1 << 32, 256} {
				wantOp(t, c, of(api.OpGet, a), false)
				wantOp(t, c, of(api.OpPut, a), false)
			}
		}
	}
}

func TestCells(t *testing.T) {
	for b := -300; b <= 300; b++ {
		wantOp(t, plain(), of(api.OpGet, 0, b), b >= 0 && b <= 7)
		wantOp(t, plain(), of(api.OpGet, 4, b), b >= 0 && b <= 7)
		wantOp(t, plain(), of(api.OpPut, 2, b), b >= 0 && b <= 7)
		wantOp(t, plain(), of(api.OpPut, 4, b), b >= 0 && b <= 7)
		wantOp(t, plain(), of(api.OpGet, 5, b), false)
		wantOp(t, plain(), of(api.OpPut, 1, b), false)
	}
	for _, b := range []int{math.MinInt, math.MinInt + 1, math.MaxInt, 1 << 32, 1<<32 + 7, -1 << 32} {
		wantOp(t, plain(), of(api.OpGet, 0, b), false)
		wantOp(t, plain(), of(api.OpPut, 2, b), false)
	}
}

func TestPlacesOfNumbers(t *testing.T) {
	for many := range 9 {
		c := plain()
		c.Args = make([]int, many)
		for a := -20; a <= 20; a++ {
			wantOp(t, c, of(api.OpArg, a), a >= 0 && a < many)
		}
		for _, a := range []int{math.MinInt, math.MinInt + 1, math.MaxInt, 1 << 32, -1 << 32, 256} {
			wantOp(t, c, of(api.OpArg, a), false)
		}
	}
}

// A wrong instruction is found at each place.
func TestWrongInstructionAtEachPlace(t *testing.T) {
	wrong := []api.Instr{of(0), of(18), of(api.OpAdd, 1), of(api.OpPush, 0, 1), of(api.OpLoad, 4), of(api.OpKeep, -1), of(api.OpGet, 5), of(api.OpGet, 0, 8), of(api.OpPut, 1), of(api.OpPut, 5), of(api.OpPut, 2, -1), of(api.OpArg, 2)}
	for at := range 64 {
		for _, x := range wrong {
			l := ends(64)
			l[at] = x
			wantCheck(t, with(l...), api.ErrOp)
		}
	}
}

func TestHowManyEmits(t *testing.T) {
	for n := range 32 {
		want := api.OK
		if n > 8 {
			want = api.ErrLimit
		}
		one := []api.Instr{of(api.OpPush), of(api.OpEmit)}
		wantCheck(t, with(join(slices.Repeat(one, n), ends(1))...), want)
		wantCheck(t, with(join(ends(1), slices.Repeat(one, n))...), want)
		wantCheck(t, with(join(ends(1), slices.Repeat(one[1:], n))...), want)
		// Of those on either side of a skip each counts, though no path has all.
		wantCheck(t, with(join(pushes(1), []api.Instr{of(api.OpSkip, 2*(n/2)+1)}, slices.Repeat(one, n/2), ends(1), slices.Repeat(one, n-n/2), ends(1))...), want)
	}
	wantCheck(t, with(join(ends(1), slices.Repeat([]api.Instr{of(api.OpEmit)}, 63))...), api.ErrLimit)
	for op := 1; op <= 17; op++ {
		if op != api.OpEmit {
			x := of(op)
			if op == api.OpPut {
				x.A = 2
			}
			wantCheck(t, with(join(ends(1), slices.Repeat([]api.Instr{x}, 63))...), api.OK)
		}
	}
}

// Depths' error is told as it is.
func TestErrorsOfDepths(t *testing.T) {
	for _, x := range []struct {
		s string
		e api.Errno
	}{
		{"push 1 end", api.OK}, {"push 1", api.ErrJump}, {"push 1 emit", api.ErrJump}, {"add end", api.ErrStack}, {"push 1 add end", api.ErrStack},
		{"push 1 push 2 skip x emit x: end", api.ErrStack}, {"push 1 skip x x:", api.ErrJump}, {"go x x:", api.ErrJump}, {"end push 1", api.OK}, {"end go x x:", api.OK},
	} {
		wantCheck(t, with(built(t, x.s)...), x.e)
	}
	wantCheck(t, with(join(pushes(8), ends(1))...), api.OK)
	wantCheck(t, with(join(pushes(9), ends(1))...), api.ErrStack)
	for _, a := range numbers() {
		if a != 0 && a != 1 {
			wantCheck(t, with(of(api.OpGo, a), of(api.OpEnd), of(api.OpEnd)), api.ErrJump)
			wantCheck(t, with(of(api.OpPush), of(api.OpSkip, a), of(api.OpEnd), of(api.OpEnd)), api.ErrJump)
			wantCheck(t, with(of(api.OpEnd), of(api.OpGo, a)), api.OK)
		}
	}
}

// fault is a way to spoil a command, and the error that it brings.
type fault struct {
	name  string
	e     api.Errno
	rank  int // in which turn the chapter names it
	spoil func(*api.Command)
}

func faults() []fault {
	code := func(l ...api.Instr) func(*api.Command) {
		return func(c *api.Command) { c.Code = append(slices.Clone(c.Code), l...) }
	}
	first := func(x api.Instr) func(*api.Command) {
		return func(c *api.Command) { c.Code = join([]api.Instr{x}, c.Code) }
	}
	emits := slices.Repeat([]api.Instr{of(api.OpEmit)}, 9)
	return []fault{
		{"many blocks", api.ErrLimit, 0, func(c *api.Command) { c.Writes = append(c.Writes, upTo(50, 9)...) }},
		{"many numbers", api.ErrLimit, 0, func(c *api.Command) { c.Args = make([]int, 9) }},
		{"many instructions", api.ErrLimit, 0, code(ends(65)...)},
		{"no fuel", api.ErrLimit, 0, func(c *api.Command) { c.Fuel = 0 }},
		{"much fuel", api.ErrLimit, 0, func(c *api.Command) { c.Fuel = 201 }},
		{"reads that fall", api.ErrSet, 1, func(c *api.Command) { c.Reads = append(c.Reads, 3) }},
		{"writes that fall", api.ErrSet, 1, func(c *api.Command) { c.Writes = append(c.Writes, 3) }},
		{"a block below 0", api.ErrSet, 1, func(c *api.Command) { c.Reads = append([]int{-1}, c.Reads...) }},
		{"a block among both", api.ErrSet, 1, func(c *api.Command) { c.Writes = append(c.Writes, 40) }},
		{"no kind", api.ErrOp, 2, code(of(18))},
		{"a register", api.ErrOp, 2, first(of(api.OpLoad, 4))},
		{"a block to get", api.ErrOp, 2, code(of(api.OpGet, 60))},
		{"a block to put", api.ErrOp, 2, code(of(api.OpPut, 0))},
		{"a cell", api.ErrOp, 2, first(of(api.OpGet, 0, 8))},
		{"a number", api.ErrOp, 2, code(of(api.OpArg, 60))},
		{"emits behind", api.ErrLimit, 3, code(emits...)},
		{"emits ahead", api.ErrLimit, 3, func(c *api.Command) { c.Code = join(ends(1), emits, c.Code) }},
		{"a stack", api.ErrStack, 4, first(of(api.OpAdd))},
		{"a way out", api.ErrJump, 4, first(of(api.OpGo, 99))},
		{"a way back", api.ErrJump, 4, first(of(api.OpGo, -1))},
	}
}

// P7.2: of two faults the one that the chapter names first is told.
func TestFirstErrorOfCheck(t *testing.T) {
	fine := api.Command{Reads: []int{7, 40}, Writes: []int{30}, Args: []int{1}, Fuel: 20, Code: []api.Instr{of(api.OpPush), of(api.OpEmit), of(api.OpEnd)}}
	for _, one := range faults() {
		c := fine
		one.spoil(&c)
		wantCheck(t, c, one.e)
		for _, two := range faults() {
			if one.rank >= two.rank {
				continue
			}
			for _, l := range [][]fault{{one, two}, {two, one}} {
				c := fine
				l[0].spoil(&c)
				l[1].spoil(&c)
				if got := Check(c); got != one.e {
					t.Errorf("%s and %s: error %d, want %d", l[0].name, l[1].name, got, one.e)
				}
			}
		}
	}
	wantCheck(t, fine, api.OK)
	// Where there is no instruction, none can be wrong.
	for _, two := range faults() {
		c := fine
		two.spoil(&c)
		c.Code = nil
		wantCheck(t, c, api.ErrLimit)
	}
}

// A wrong instruction counts ahead of the ninth emit, wherever it stands.
func TestWrongInstructionAmongEmits(t *testing.T) {
	one := []api.Instr{of(api.OpPush), of(api.OpEmit)}
	l := join(slices.Repeat(one, 9), ends(1))
	wantCheck(t, with(l...), api.ErrLimit)
	for at := range len(l) + 1 {
		wantCheck(t, with(slices.Insert(slices.Clone(l), at, of(api.OpLoad, 4))...), api.ErrOp)
		wantCheck(t, with(slices.Insert(slices.Clone(l), at, of(api.OpAdd))...), api.ErrLimit)
		wantCheck(t, with(slices.Insert(slices.Clone(l), at, of(api.OpGo, -1))...), api.ErrLimit)
	}
}

// anyCommand is one that nearly may be.
func anyCommand(r *rand.Rand) api.Command {
	blocks := r.Perm(12)[:r.Intn(9)]
	cut := r.Intn(len(blocks) + 1)
	reads, writes := slices.Sorted(slices.Values(blocks[:cut])), slices.Sorted(slices.Values(blocks[cut:]))
	c := api.Command{Reads: reads, Writes: writes, Args: make([]int, r.Intn(9)), Fuel: 1 + r.Intn(200), Code: mended(r, anyProgram(r, r.Intn(20)))}
	for i, x := range c.Code {
		switch x.Op {
		case api.OpLoad, api.OpKeep:
			c.Code[i].A = r.Intn(4)
		case api.OpGet:
			c.Code[i].A, c.Code[i].B = r.Intn(len(blocks)+1), r.Intn(8)
		case api.OpPut:
			c.Code[i].A, c.Code[i].B = len(reads)+r.Intn(len(writes)+1), r.Intn(8)
		case api.OpArg:
			c.Code[i].A = r.Intn(len(c.Args) + 1)
		}
	}
	return c
}

func TestAnyCommands(t *testing.T) {
	r := rand.New(rand.NewSource(4))
	told := map[api.Errno]int{}
	for n := range 10000 {
		c := anyCommand(r)
		if n%4 == 0 {
			l := faults()
			l[r.Intn(len(l))].spoil(&c)
		}
		told[checkByRule(c)]++
		wantCheck(t, c, checkByRule(c))
	}
	for _, e := range []api.Errno{api.OK, api.ErrLimit, api.ErrSet, api.ErrOp, api.ErrStack, api.ErrJump} {
		if told[e] < 80 {
			t.Errorf("error %d was told %d times: too few to be of use", e, told[e])
		}
	}
}

// P7.3: each way of a command that may be leads forwards, to an end or a stop.
func TestWaysLeadForwardsToAnEnd(t *testing.T) {
	r := rand.New(rand.NewSource(5))
	walked, jumped := 0, 0
	for range 10000 {
		c := anyCommand(r)
		if Check(c) != api.OK {
			continue
		}
		depths, e := Depths(c.Code)
		if e != api.OK {
			t.Fatalf("%v: error %d", c.Code, e)
		}
		for range 8 {
			if wantForwards(t, r, c.Code, depths) {
				jumped++
			}
			walked++
		}
		if t.Failed() {
			return
		}
	}
	if walked < 10000 || jumped < 5000 {
		t.Errorf("%d paths, %d with jumps: too few to be of use", walked, jumped)
	}
}

// wantForwards goes a program's ways by chance, with a stack that is kept
// beside it; it answers whether there was a jump among them.
func wantForwards(t *testing.T, r *rand.Rand, l []api.Instr, depths []int) bool {
	t.Helper()
	at, stack, jumped := 0, 0, false
	for range len(l) {
		if depths[at] != stack {
			t.Fatalf("%v: %d ahead of %d, told was %d", l, stack, at, depths[at])
		}
		take, put := effect(l[at].Op)
		if stack < take || stack-take+put > 8 {
			t.Fatalf("%v: a stack of %d at %d", l, stack, at)
		}
		stack += put - take
		next := at + 1
		switch op := l[at].Op; {
		case op == api.OpEnd || op == api.OpStop:
			return jumped
		case op == api.OpGo || op == api.OpSkip && r.Intn(2) == 0:
			next += l[at].A
			jumped = true
		}
		if next <= at || next >= len(l) {
			t.Fatalf("%v: from %d to %d", l, at, next)
		}
		at = next
	}
	t.Fatalf("%v: no end", l)
	return jumped
}

// Rule 3: what is handed in is as it was, its spare room too.
func TestGivenStays(t *testing.T) {
	code := []api.Instr{of(api.OpPush, 1), of(api.OpSkip, 1), of(api.OpEnd), of(api.OpEnd), of(99, 9, 9)}
	reads, writes, args := []int{1, 3, -7, -7}, []int{2, 4, -7, -7}, []int{6, 5, -7}
	was := [][]int{slices.Clone(reads), slices.Clone(writes), slices.Clone(args)}
	codeWas := slices.Clone(code)
	for _, many := range []int{4, 5} {
		Depths(code[:many])
		Check(api.Command{Reads: reads[:2], Writes: writes[:2], Args: args[:2], Fuel: 5, Code: code[:many]})
		Check(api.Command{Reads: reads, Writes: writes, Args: args, Fuel: 5, Code: code[:many]})
	}
	if !slices.Equal(code, codeWas) || !slices.Equal(reads, was[0]) || !slices.Equal(writes, was[1]) || !slices.Equal(args, was[2]) {
		t.Errorf("%v, %v, %v, %v, and they were %v, %v", code, reads, writes, args, codeWas, was)
	}
}

// Rules 3 and 7: answers are new memory.
func TestAnswersAreTheirOwn(t *testing.T) {
	l := built(t, "push 1 push 2 add emit end")
	one, _ := Depths(l)
	two, _ := Depths(l)
	clear(one)
	if !slices.Equal(two, []int{0, 1, 2, 1, 0}) {
		t.Errorf("another answer: %v", two)
	}
	wantDepths(t, l, 0, 1, 2, 1, 0)
}

// Rules 4 and 6: a call hangs on its arguments alone, whoever calls beside it.
func TestManyCallAtOnce(t *testing.T) {
	shared := plain()
	var wg sync.WaitGroup
	for i := range 8 {
		wg.Go(func() {
			r := rand.New(rand.NewSource(int64(i)))
			for range 200 {
				c := anyCommand(r)
				wantByRule(t, c.Code)
				wantCheck(t, c, checkByRule(c))
				wantCheck(t, shared, api.OK)
				wantDepths(t, shared.Code, 0, 1, 2, 1, 0)
				wantError(t, pushes(9), api.ErrStack)
			}
		})
	}
	wg.Wait()
}
