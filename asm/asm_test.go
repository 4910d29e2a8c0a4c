package asm

import (
	"math"
	"math/rand"
	"slices"
	"strconv"
	"strings"
	"sync"
	"testing"

	"foreman/api"
)

// kindWords are the kinds' words in the chapter's order, from 1 on.
var kindWords = strings.Fields("push load keep get put arg add sub mul div less same skip go emit stop end")

// numbersOf is how many numbers a word's kind has, in the chapter's words.
func numbersOf(w string) int {
	switch w {
	case "get", "put":
		return 2
	case "push", "load", "keep", "arg", "skip", "go":
		return 1
	}
	return 0
}

func leads(w string) bool { return w == "skip" || w == "go" }

// byRule is Build in the chapter's words, of a text whose tokens are these.
func byRule(parts []string) ([]api.Instr, api.Errno) {
	var l []api.Instr
	to := map[int]string{}
	places := map[string]int{}
	for i := 0; i < len(parts); i++ {
		if w, is := strings.CutSuffix(parts[i], ":"); is {
			if _, twice := places[w]; twice {
				return nil, api.ErrLabel
			}
			places[w] = len(l)
			continue
		}
		op := 1 + slices.Index(kindWords, parts[i])
		if op == 0 {
			return nil, api.ErrOp
		}
		x := api.Instr{Op: op}
		behind := slices.Concat(parts[i+1:min(i+3, len(parts))], []string{"", ""})
		a, errA := strconv.Atoi(behind[0])
		b, errB := strconv.Atoi(behind[1])
		switch {
		case leads(parts[i]):
			if behind[0] == "" || errA == nil || strings.HasSuffix(behind[0], ":") {
				return nil, api.ErrOp
			}
			to[len(l)] = behind[0]
		case numbersOf(parts[i]) == 2:
			if errA != nil || errB != nil {
				return nil, api.ErrOp
			}
			x.A, x.B = a, b
		case numbersOf(parts[i]) == 1:
			if errA != nil {
				return nil, api.ErrOp
			}
			x.A = a
		}
		i += numbersOf(parts[i])
		l = append(l, x)
		if len(l) == 65 {
			return nil, api.ErrLimit
		}
	}
	for i := range l {
		if w, is := to[i]; is {
			place, there := places[w]
			if !there || place <= i {
				return nil, api.ErrLabel
			}
			l[i].A = place - 1 - i
		}
	}
	return l, api.OK
}

// toldByRule is Tell in the chapter's words.
func toldByRule(l []api.Instr) string {
	const letters = "abcdefghijklmnopqrstuvwxyz"
	name := func(place int) string {
		return "x" + letters[place/26:place/26+1] + letters[place%26:place%26+1]
	}
	var lines []string
	for place := range len(l) + 1 {
		if slices.ContainsFunc(jumpsOf(l), func(j [2]int) bool { return j[1] == place }) {
			lines = append(lines, name(place)+":")
		}
		if place == len(l) {
			break
		}
		x, w := l[place], kindWords[l[place].Op-1]
		switch {
		case leads(w):
			lines = append(lines, w+" "+name(place+1+x.A))
		case numbersOf(w) == 2:
			lines = append(lines, w+" "+strconv.Itoa(x.A)+" "+strconv.Itoa(x.B))
		case numbersOf(w) == 1:
			lines = append(lines, w+" "+strconv.Itoa(x.A))
		default:
			lines = append(lines, w)
		}
	}
	if len(lines) == 0 {
		return ""
	}
	return strings.Join(lines, "\n") + "\n"
}

// jumpsOf is of each jump its place, and the one to which it leads.
func jumpsOf(l []api.Instr) [][2]int {
	var jumps [][2]int
	for i, x := range l {
		if x.Op == api.OpSkip || x.Op == api.OpGo {
			jumps = append(jumps, [2]int{i, i + 1 + x.A})
		}
	}
	return jumps
}

// of is an instruction of a kind, with so many of its numbers.
func of(op int, numbers ...int) api.Instr {
	numbers = append(numbers, 0, 0)
	return api.Instr{Op: op, A: numbers[0], B: numbers[1]}
}

// short is a text as a failure tells it.
func short(s string) string {
	if len(s) > 300 {
		return s[:150] + " .. " + s[len(s)-140:]
	}
	return s
}

func wantBuilt(t *testing.T, s string, want ...api.Instr) {
	t.Helper()
	got, e := Build(s)
	if e != api.OK || !slices.Equal(got, want) {
		t.Errorf("%q: %v, error %d, want %v", short(s), got, e, want)
	}
}

// wantError asks for nothing beside the error, too.
func wantError(t *testing.T, s string, want api.Errno) {
	t.Helper()
	got, e := Build(s)
	if e != want || len(got) != 0 {
		t.Errorf("%q: %v, error %d, want error %d", short(s), got, e, want)
	}
}

func wantByRule(t *testing.T, parts []string) {
	t.Helper()
	s := strings.Join(parts, " ")
	l, e := byRule(parts)
	if e != api.OK {
		wantError(t, s, e)
		return
	}
	wantBuilt(t, s, l...)
}

func wantTold(t *testing.T, want string, l ...api.Instr) {
	t.Helper()
	if got := Tell(l); got != want {
		t.Errorf("%v: %q, want %q", l, short(got), short(want))
	}
}

// P5.1: Takes, Word, Of.

func TestKinds(t *testing.T) {
	want := []struct {
		op    int
		word  string
		takes int
	}{
		{api.OpPush, "push", 1}, {api.OpLoad, "load", 1}, {api.OpKeep, "keep", 1}, {api.OpGet, "get", 2},
		{api.OpPut, "put", 2}, {api.OpArg, "arg", 1}, {api.OpAdd, "add", 0}, {api.OpSub, "sub", 0},
		{api.OpMul, "mul", 0}, {api.OpDiv, "div", 0}, {api.OpLess, "less", 0}, {api.OpSame, "same", 0},
		{api.OpSkip, "skip", 1}, {api.OpGo, "go", 1}, {api.OpEmit, "emit", 0}, {api.OpStop, "stop", 0},
		{api.OpEnd, "end", 0},
	}
	for i, k := range want {
		if k.op != i+1 {
			t.Errorf("%s is kind %d, not %d", k.word, k.op, i+1)
		}
		if got := Takes(k.op); got != k.takes {
			t.Errorf("Takes(%d): %d, want %d", k.op, got, k.takes)
		}
		if got := Word(k.op); got != k.word {
			t.Errorf("Word(%d): %q, want %q", k.op, got, k.word)
		}
		if got := Of(k.word); got != k.op {
			t.Errorf("Of(%q): %d, want %d", k.word, got, k.op)
		}
	}
}

func TestNoKinds(t *testing.T) {
	ops := []int{math.MinInt, math.MinInt32, -17, 1 << 8, 1<<8 + 1, 1<<16 + 4, 1<<32 + 4, -1<<32 + 4, 1<<40 + 13, math.MaxInt32, math.MaxInt}
	for op := -300; op <= 300; op++ {
		if op < 1 || op > 17 {
			ops = append(ops, op)
		}
	}
	for _, op := range ops {
		if n, w := Takes(op), Word(op); n != 0 || w != "" {
			t.Errorf("kind %d: takes %d, word %q", op, n, w)
		}
	}
}

func TestNoKindsWords(t *testing.T) {
	words := []string{"", " ", "x", "foo", "jump", "pushes", "pus", "ush", "Push", "PUSH", "push ", " push", "push:", "push\n", "push 1", "pushload", "ends", "en", "1", "0", "-1", "\x00", "\xff", "é", "goto", "g", "o"}
	words = append(words, strings.Repeat("push", 1<<20))
	for _, w := range kindWords {
		words = append(words, w+w, w[1:], w+"\x00", strings.ToUpper(w))
	}
	for _, w := range words {
		if op := Of(w); op != 0 {
			t.Errorf("Of(%q): %d", short(w), op)
		}
	}
}

// P5.1: Build of what is right.

func TestExample(t *testing.T) {
	wantBuilt(t, "skip over push 1 emit over: end", of(api.OpSkip, 2), of(api.OpPush, 1), of(api.OpEmit), of(api.OpEnd))
}

func TestNothing(t *testing.T) {
	for _, s := range []string{"", " \n\t", "# push 1", "x:", "x: y:", "push: end: x:"} {
		wantBuilt(t, s)
	}
}

func TestEachKind(t *testing.T) {
	for i, w := range kindWords {
		op := i + 1
		switch {
		case leads(w):
			wantBuilt(t, w+" x x:", of(op))
			wantBuilt(t, w+" x end stop x: end", of(op, 2), of(api.OpEnd), of(api.OpStop), of(api.OpEnd))
		case numbersOf(w) == 2:
			wantBuilt(t, w+" 7 -9", of(op, 7, -9))
			wantBuilt(t, w+"7-9end", of(op, 7, -9), of(api.OpEnd))
		case numbersOf(w) == 1:
			wantBuilt(t, w+" -9", of(op, -9))
			wantBuilt(t, "end "+w+" 7 end", of(api.OpEnd), of(op, 7), of(api.OpEnd))
		default:
			wantBuilt(t, w, of(op))
			wantBuilt(t, w+" "+w, of(op), of(op))
		}
	}
}

// A layer further on asks which numbers may be: here any that a text can have.
func TestAnyNumbers(t *testing.T) {
	for _, n := range []int{0, 1, -1, 7, 8, 63, 64, -8, 1000, math.MaxInt32, math.MinInt32, 1<<40 - 1, 1 << 40, -1 << 40} {
		s := strconv.Itoa(n)
		for _, w := range []string{"push", "load", "keep", "arg"} {
			wantBuilt(t, w+" "+s, of(Of(w), n))
		}
		for _, w := range []string{"get", "put"} {
			wantBuilt(t, w+" "+s+" 3", of(Of(w), n, 3))
			wantBuilt(t, w+" 3 "+s, of(Of(w), 3, n))
		}
	}
}

func TestNotesBetween(t *testing.T) {
	wantBuilt(t, "get#a\n0#b\n\t1 skip # c\n over#\nover:#\nend", of(api.OpGet, 0, 1), of(api.OpSkip), of(api.OpEnd))
}

// P5.1: labels, and where jumps lead.

func TestJumps(t *testing.T) {
	end := of(api.OpEnd)
	wantBuilt(t, "go x x: end", of(api.OpGo), end)
	wantBuilt(t, "go x end x:", of(api.OpGo, 1), end)
	wantBuilt(t, "go x x:", of(api.OpGo))
	wantBuilt(t, "go x skip x x: end", of(api.OpGo, 1), of(api.OpSkip), end)
	wantBuilt(t, "go x go y x: end y: end", of(api.OpGo, 1), of(api.OpGo, 1), end, end)
	wantBuilt(t, "end end go x end x: end", end, end, of(api.OpGo, 1), end, end)
	wantBuilt(t, "go x get 1 2 put 3 4 x: end", of(api.OpGo, 2), of(api.OpGet, 1, 2), of(api.OpPut, 3, 4), end)
}

// More than one label may stand at one place, and one to which nothing leads.
func TestLabelsSideBySide(t *testing.T) {
	wantBuilt(t, "go y skip x z: x: y: end", of(api.OpGo, 1), of(api.OpSkip), of(api.OpEnd))
	wantBuilt(t, "a: go b b: c:", of(api.OpGo))
	wantBuilt(t, "x: end y: end", of(api.OpEnd), of(api.OpEnd))
}

// A kind's word may be a label's, too.
func TestLabelsWithKindsWords(t *testing.T) {
	wantBuilt(t, "go go go: end", of(api.OpGo), of(api.OpEnd))
	wantBuilt(t, "skip push push 1 push: end", of(api.OpSkip, 1), of(api.OpPush, 1), of(api.OpEnd))
	wantBuilt(t, "go end end end:", of(api.OpGo, 1), of(api.OpEnd))
	wantBuilt(t, "end: end", of(api.OpEnd))
}

func TestLabelsByTheirWholeWord(t *testing.T) {
	long := strings.Repeat("x", 1000)
	wantBuilt(t, "go x skip xx xx: end x: end", of(api.OpGo, 2), of(api.OpSkip), of(api.OpEnd), of(api.OpEnd))
	wantBuilt(t, "go "+long+" "+long+"y: end "+long+": end", of(api.OpGo, 1), of(api.OpEnd), of(api.OpEnd))
	wantError(t, "go xx x:", api.ErrLabel)
	wantError(t, "go x xx:", api.ErrLabel)
}

func TestFarthestJump(t *testing.T) {
	want := append([]api.Instr{of(api.OpGo, 63)}, slices.Repeat([]api.Instr{of(api.OpEnd)}, 63)...)
	wantBuilt(t, "go x "+strings.Repeat("end ", 63)+"x:", want...)
	want[0].A = 62
	wantBuilt(t, "go x "+strings.Repeat("end ", 62)+"x: end", want...)
}

func TestWrongLabels(t *testing.T) {
	for _, s := range []string{
		"go x", "go x end", "skip x end", "go x y: end", "go x end go y x: end", // isn't there
		"x: go x", "x: go x end", "x: skip x end", "x: end go x", "go y y: x: end go x end", "end x: y: skip x", // lies behind
		"x: x:", "x: end x: end", "go x x: x:", "x: y: x:", "end end x: end y: end x:", // is twice
	} {
		wantError(t, s, api.ErrLabel)
	}
}

// P5.1: what isn't an instruction.

func TestNoInstructions(t *testing.T) {
	for _, s := range []string{"foo", "x", "end foo", "pushes 1", "5", "-5", "0", "end 5", "add 1", "push 1 2", "get 1 2 3", "x: 5", "go x 5 x:", "emit 0", "end x"} {
		wantError(t, s, api.ErrOp)
	}
}

func TestNumbersThatArent(t *testing.T) {
	for _, w := range kindWords {
		if leads(w) {
			continue
		}
		for given := range numbersOf(w) {
			s := w + strings.Repeat(" 1", given)
			for _, next := range []string{"", " end", " x", " x:", " x: 1", " push 1", " x 1 1", " x: 1 1", " # 1"} {
				wantError(t, s+next, api.ErrOp)
			}
		}
		if numbersOf(w) < 2 {
			wantError(t, w+strings.Repeat(" 1", numbersOf(w)+1), api.ErrOp)
		}
	}
	wantError(t, "get 1 2 3", api.ErrOp)
}

func TestTargetsThatArent(t *testing.T) {
	for _, w := range []string{"skip", "go"} {
		for _, s := range []string{w, w + " 3", w + " -3", w + " 0 end", w + " x: end", w + " x: x", "x: " + w, w + " 1 x:", w + " #x\n"} {
			wantError(t, s, api.ErrOp)
		}
	}
}

// P5.1: layer 4's error, ahead of all else.
func TestTokensErrors(t *testing.T) {
	for _, s := range []string{"-", "Push", "push 1.5", "push 1099511627777", "get 0 -1099511627777", "x :", "end;", "\xff", "é", "push: x: x: foo 5 -", "foo A", "x: x: -", "go x :"} {
		wantError(t, s, api.ErrToken)
	}
	spare := strings.Repeat(" ", 4000)
	wantBuilt(t, spare[:3997]+"end", of(api.OpEnd))
	wantError(t, spare+"end", api.ErrLimit)
	wantError(t, spare+"foo", api.ErrLimit)
	wantError(t, spare+"-", api.ErrLimit)
	wantError(t, strings.Repeat("x:", 2001), api.ErrLimit)
	wantError(t, strings.Repeat("x:", 2000), api.ErrLabel)
}

// P5.1: how many instructions there may be.

func TestManyInstructions(t *testing.T) {
	for i, w := range kindWords {
		one := w + strings.Repeat(" 1", numbersOf(w)) + " "
		x := of(i+1, slices.Repeat([]int{1}, numbersOf(w))...)
		tail := ""
		if leads(w) {
			one = w + " x "
			tail = "x:"
		}
		for n := 60; n <= 70; n++ {
			s := strings.Repeat(one, n) + tail
			if n > 64 {
				wantError(t, s, api.ErrLimit)
				continue
			}
			want := slices.Repeat([]api.Instr{x}, n)
			for at := range want {
				if leads(w) {
					want[at].A = n - 1 - at
				}
			}
			wantBuilt(t, s, want...)
		}
	}
}

// Labels are no instructions: there may be more of them.
func TestManyLabels(t *testing.T) {
	s := "go zz "
	for _, a := range "abcdefghijklmnopqrstuvwxyz" {
		for _, b := range "abcdefghijklmnopqrstuvwxyz" {
			s += string(a) + string(b) + ":"
		}
	}
	wantBuilt(t, s+" end", of(api.OpGo), of(api.OpEnd))
	wantBuilt(t, s+strings.Repeat(" end", 63), append([]api.Instr{of(api.OpGo)}, slices.Repeat([]api.Instr{of(api.OpEnd)}, 63)...)...)
	wantError(t, s+"mm:", api.ErrLabel)
	wantError(t, s+strings.Repeat(" end", 64), api.ErrLimit)
}

// P5.1: of more than one error the one that is told comes first.

func TestFirstErrorIsTold(t *testing.T) {
	many := strings.Repeat("end ", 64)
	for _, x := range []struct {
		s string
		e api.Errno
	}{
		{"x: x: foo", api.ErrLabel}, {"foo x: x:", api.ErrOp}, {"x: x: 5", api.ErrLabel}, {"5 x: x:", api.ErrOp},
		{"x: foo x:", api.ErrOp}, {"push x: x: x:", api.ErrOp},
		{"go x foo", api.ErrOp}, {"go x 5", api.ErrOp}, {"x: go x push", api.ErrOp}, // jumps in the end
		{"go x y: y:", api.ErrLabel}, {"go x " + many, api.ErrLimit}, {"x: go x " + many, api.ErrLimit},
		{many + "end foo", api.ErrLimit}, {many + "end 5", api.ErrLimit}, {many + "end x: x:", api.ErrLimit},
		{many + "foo", api.ErrOp}, {many + "5", api.ErrOp}, {many + "push", api.ErrOp}, {many + "push end", api.ErrOp},
		{many + "get 1", api.ErrOp}, {many + "go 5", api.ErrOp}, {many + "go", api.ErrOp},
		{many + "go x", api.ErrLimit}, {many + "push 1", api.ErrLimit}, {many + "get 1 2", api.ErrLimit},
		{many + "x: x:", api.ErrLabel}, {many + "x: x: end", api.ErrLabel}, {"x: x: " + many + "end", api.ErrLabel},
		{"foo " + many + "end", api.ErrOp}, {many + "x:", api.OK},
	} {
		if x.e == api.OK {
			wantBuilt(t, x.s, slices.Repeat([]api.Instr{of(api.OpEnd)}, 64)...)
			continue
		}
		wantError(t, x.s, x.e)
	}
}

// P5.1: all short texts of tokens that matter.
func TestAllShortTexts(t *testing.T) {
	parts := []string{"push", "get", "add", "skip", "go", "x", "y", "x:", "y:", "go:", "1", "-2"}
	texts := [][]string{nil}
	for range 5 {
		var next [][]string
		for _, l := range texts {
			for _, p := range parts {
				next = append(next, append(slices.Clone(l), p))
			}
		}
		for _, l := range next {
			wantByRule(t, l)
		}
		texts = next
		if t.Failed() {
			return
		}
	}
}

// program is a text's tokens of about so many instructions, nearly all right.
func program(r *rand.Rand, many int) []string {
	var parts []string
	for i := range many {
		if r.Intn(3) == 0 {
			parts = append(parts, "l"+string(rune('a'+i/26))+string(rune('a'+i%26))+":")
		}
		w := kindWords[r.Intn(len(kindWords))]
		parts = append(parts, w)
		if leads(w) {
			to := i + 1 + r.Intn(4)
			parts = append(parts, "l"+string(rune('a'+to/26))+string(rune('a'+to%26)))
			continue
		}
		for range numbersOf(w) {
			parts = append(parts, strconv.Itoa(r.Intn(2<<40+1)-1<<40))
		}
	}
	return parts
}

// withLabels is a program with the labels that its jumps miss at its end.
func withLabels(parts []string) []string {
	whole := slices.Clone(parts)
	for i := range len(parts) - 1 {
		if to := parts[i+1] + ":"; leads(parts[i]) && !slices.Contains(whole, to) {
			whole = append(whole, to)
		}
	}
	return whole
}

func TestAnyPrograms(t *testing.T) {
	r := rand.New(rand.NewSource(1))
	well := 0
	for range 8000 {
		parts := program(r, r.Intn(68))
		if r.Intn(4) > 0 {
			parts = withLabels(parts)
		}
		for range r.Intn(6) / 5 {
			stray := []string{"5", "end", "x", "laa:", "foo", "go", "push", "lab"}[r.Intn(8)]
			parts = slices.Insert(parts, r.Intn(len(parts)+1), stray)
		}
		if len(strings.Join(parts, " ")) > 4000 {
			t.Fatal("a program that is too long to be of use")
		}
		if _, e := byRule(parts); e == api.OK {
			well++
		}
		wantByRule(t, parts)
	}
	if well < 800 || well > 7200 {
		t.Errorf("%d programs are right: too few, or too many, to be of use", well)
	}
}

// P1: any text ends, and well.
func TestAnyTexts(t *testing.T) {
	r := rand.New(rand.NewSource(2))
	parts := []string{"push", "get", "go", "skip", "end", "x", "x:", "y:", "-", "1", "-7", "1099511627777", " ", "\n", "\t", "#", ":", "\xff", "é"}
	for range 50000 {
		var s strings.Builder
		for range r.Intn(14) {
			s.WriteString(parts[r.Intn(len(parts)-r.Intn(8))])
		}
		l, e := Build(s.String())
		if e != api.OK && len(l) != 0 || len(l) > 64 {
			t.Fatalf("%q: %v beside error %d", s.String(), l, e)
		}
		for _, j := range jumpsOf(l) {
			if j[1] <= j[0] || j[1] > len(l) {
				t.Fatalf("%q: %v: a jump leads to %d", s.String(), l, j[1])
			}
		}
	}
}

// P5.2: Tell.

func TestTellNothing(t *testing.T) {
	wantTold(t, "")
	if got := Tell([]api.Instr{}); got != "" {
		t.Errorf("an empty list: %q", got)
	}
}

func TestTellExample(t *testing.T) {
	wantTold(t, "skip xad\npush 1\nemit\nxad:\nend\n", of(api.OpSkip, 2), of(api.OpPush, 1), of(api.OpEmit), of(api.OpEnd))
}

func TestTellEachKind(t *testing.T) {
	for i, w := range kindWords {
		op := i + 1
		switch {
		case leads(w):
			wantTold(t, w+" xab\nxab:\n", of(op))
			wantTold(t, "end\n"+w+" xad\nend\nxad:\nend\n", of(api.OpEnd), of(op, 1), of(api.OpEnd), of(api.OpEnd))
		case numbersOf(w) == 2:
			wantTold(t, w+" 7 -9\n", of(op, 7, -9))
			wantTold(t, w+" 0 0\n", of(op))
			wantTold(t, w+" -1099511627776 1099511627776\n", of(op, -1<<40, 1<<40))
		case numbersOf(w) == 1:
			wantTold(t, w+" -9\n", of(op, -9))
			wantTold(t, w+" 0\n", of(op))
			wantTold(t, w+" 1099511627776\n", of(op, 1<<40))
			wantTold(t, w+" -1099511627776\n", of(op, -1<<40))
		default:
			wantTold(t, w+"\n", of(op))
			wantTold(t, w+"\n"+w+"\n", of(op), of(op))
		}
	}
}

// One label a place, whoever leads there, and none where nobody does.
func TestTellLabels(t *testing.T) {
	end := of(api.OpEnd)
	wantTold(t, "go xac\nskip xac\nxac:\nend\n", of(api.OpGo, 1), of(api.OpSkip), end)
	wantTold(t, "go xab\nxab:\nskip xac\nxac:\n", of(api.OpGo), of(api.OpSkip))
	wantTold(t, "go xad\ngo xad\ngo xad\nxad:\n", of(api.OpGo, 2), of(api.OpGo, 1), of(api.OpGo))
	wantTold(t, "push 1\nget 0 1\nend\n", of(api.OpPush, 1), of(api.OpGet, 0, 1), end)
}

func TestTellLabelsOfAllPlaces(t *testing.T) {
	want := strings.Fields("xab xac xad xae xaf xag xah xai xaj xak xal xam xan xao xap xaq xar xas xat xau xav xaw xax xay xaz " +
		"xba xbb xbc xbd xbe xbf xbg xbh xbi xbj xbk xbl xbm xbn xbo xbp xbq xbr xbs xbt xbu xbv xbw xbx xby xbz " +
		"xca xcb xcc xcd xce xcf xcg xch xci xcj xck xcl xcm")
	if len(want) != 64 {
		t.Fatal("there are 64 places that a jump can lead to")
	}
	for place := 1; place <= 64; place++ {
		for _, long := range []int{place, place + 1, 64} {
			if long > 64 {
				continue
			}
			l := slices.Repeat([]api.Instr{of(api.OpEnd)}, long)
			l[0] = of(api.OpGo, place-1)
			lines := slices.Repeat([]string{"end"}, long)
			lines[0] = "go " + want[place-1]
			lines = slices.Insert(lines, place, want[place-1]+":")
			wantTold(t, strings.Join(lines, "\n")+"\n", l...)
		}
	}
}

func TestTellMany(t *testing.T) {
	wantTold(t, strings.Repeat("end\n", 64), slices.Repeat([]api.Instr{of(api.OpEnd)}, 64)...)
	wantTold(t, strings.Repeat("get -1099511627776 -1099511627776\n", 64), slices.Repeat([]api.Instr{of(api.OpGet, -1<<40, -1<<40)}, 64)...)
}

// A jump backwards leads no further than to the end: it is told, too, where
// there is such a place.
func TestTellBackwards(t *testing.T) {
	wantTold(t, "xaa:\nend\ngo xaa\n", of(api.OpEnd), of(api.OpGo, -2))
	wantTold(t, "xaa:\ngo xaa\n", of(api.OpGo, -1))
	wantTold(t, "end\nxab:\nskip xab\n", of(api.OpEnd), of(api.OpSkip, -1))
	wantError(t, Tell([]api.Instr{of(api.OpEnd), of(api.OpGo, -2)}), api.ErrLabel)
}

// P1, and the remark at Tell: a list for which there is no text has none.
func TestTellNoText(t *testing.T) {
	end := of(api.OpEnd)
	wrong := [][]api.Instr{
		slices.Repeat([]api.Instr{end}, 65), slices.Repeat([]api.Instr{end}, 100000), slices.Repeat([]api.Instr{of(api.OpGo)}, 65),
		{of(api.OpGo, 1)}, {end, of(api.OpSkip, 1)}, {of(api.OpGo, 2), end}, {of(api.OpSkip, 64)}, {of(api.OpGo, 1<<40)},
		{of(api.OpGo, -2)}, {end, of(api.OpGo, -3)}, {of(api.OpSkip, -1<<40)},
	}
	for _, op := range []int{math.MinInt, -1, 0, 18, 255, 256 + 4, 1<<32 + 1, math.MaxInt} {
		wrong = append(wrong, []api.Instr{of(op)}, []api.Instr{end, of(op, 1, 1)})
	}
	far := []int{math.MinInt, math.MinInt + 1, -1<<40 - 1, 1<<40 + 1, 1 << 62, math.MaxInt - 1, math.MaxInt}
	for i, w := range kindWords {
		op := i + 1
		for _, n := range far {
			wrong = append(wrong, []api.Instr{of(op, n)}, []api.Instr{of(op, 0, n)}, []api.Instr{of(op, n, n)}, []api.Instr{end, of(op, n), end})
		}
		if numbersOf(w) < 2 {
			wrong = append(wrong, []api.Instr{of(op, 0, 1)}, []api.Instr{of(op, 0, -1), end})
		}
		if numbersOf(w) < 1 {
			wrong = append(wrong, []api.Instr{of(op, 1)}, []api.Instr{end, of(op, -1)})
		}
	}
	for _, l := range wrong {
		if got := Tell(l); got != "" {
			t.Errorf("%v: %q", l[:min(len(l), 3)], short(got))
		}
	}
}

// anyNumber is one that a text can have, near or far.
func anyNumber(r *rand.Rand) int {
	if r.Intn(2) == 0 {
		return r.Intn(2<<40+1) - 1<<40
	}
	return r.Intn(41) - 20
}

// anyList is instructions that can be told, and built again.
func anyList(r *rand.Rand, many int) []api.Instr {
	l := make([]api.Instr, many)
	for i := range l {
		w := kindWords[r.Intn(len(kindWords))]
		if r.Intn(3) == 0 {
			w = []string{"skip", "go"}[r.Intn(2)]
		}
		l[i].Op = 1 + slices.Index(kindWords, w)
		switch {
		case leads(w):
			l[i].A = r.Intn(many - i)
		case numbersOf(w) == 2:
			l[i].A, l[i].B = anyNumber(r), anyNumber(r)
		case numbersOf(w) == 1:
			l[i].A = anyNumber(r)
		}
	}
	return l
}

// P5.2 and P5.3: what is told is built again.

func TestToldAndBuiltAgain(t *testing.T) {
	r := rand.New(rand.NewSource(3))
	for n := range 65 * 100 {
		l := anyList(r, n%65)
		wantTold(t, toldByRule(l), l...)
		wantBuilt(t, Tell(l), l...)
	}
}

// Each jump that a program can have.
func TestEachJumpBuiltAgain(t *testing.T) {
	for at := range 64 {
		for to := at + 1; to <= 64; to++ {
			l := slices.Repeat([]api.Instr{of(api.OpEnd)}, 64)
			l[at] = of(api.OpSkip, to-at-1)
			wantTold(t, toldByRule(l), l...)
			wantBuilt(t, Tell(l), l...)
		}
	}
}

// And long texts, with many labels: layer 4 takes them.
func TestLongTextsBuiltAgain(t *testing.T) {
	for jumps := range 65 {
		l := slices.Repeat([]api.Instr{of(api.OpPut, -1<<40, -1<<40)}, 64)
		for i := range jumps {
			l[i] = of(api.OpSkip, (63-i)/2)
		}
		wantTold(t, toldByRule(l), l...)
		wantBuilt(t, Tell(l), l...)
	}
}

// What is built is told, and built again, whatever the labels were.
func TestBuiltIsToldAgain(t *testing.T) {
	r := rand.New(rand.NewSource(4))
	for range 5000 {
		l, e := Build(strings.Join(withLabels(program(r, r.Intn(65))), "\n"))
		if e != api.OK {
			continue
		}
		s := Tell(l)
		wantBuilt(t, s, l...)
		again, _ := Build(s)
		wantTold(t, s, again...)
	}
}

// Rule 3: what is handed in is as it was, its spare room too.
func TestGivenStays(t *testing.T) {
	room := []api.Instr{of(api.OpGo, 1), of(api.OpEnd), of(api.OpStop), of(99, 9, 9)}
	was := slices.Clone(room)
	Tell(room[:2])
	Tell(room)
	if !slices.Equal(room, was) {
		t.Errorf("%v, and it was %v", room, was)
	}
}

// Rules 3 and 7: answers are new memory.
func TestAnswersAreTheirOwn(t *testing.T) {
	s := "go x push 3 x: end"
	want := []api.Instr{of(api.OpGo, 1), of(api.OpPush, 3), of(api.OpEnd)}
	one, _ := Build(s)
	two, _ := Build(s)
	one[0], one[1], one[2] = of(9), of(9), of(9)
	if !slices.Equal(two, want) {
		t.Errorf("another answer: %v", two)
	}
	wantBuilt(t, s, want...)
}

// Rules 4 and 6: a call hangs on its arguments alone, whoever calls beside it.
func TestManyCallAtOnce(t *testing.T) {
	var wg sync.WaitGroup
	for i := range 8 {
		wg.Go(func() {
			r := rand.New(rand.NewSource(int64(i)))
			for range 300 {
				l := anyList(r, r.Intn(65))
				wantTold(t, toldByRule(l), l...)
				wantBuilt(t, Tell(l), l...)
				wantError(t, "x: x:", api.ErrLabel)
				wantByRule(t, program(r, r.Intn(20)))
			}
		})
	}
	wg.Wait()
}
