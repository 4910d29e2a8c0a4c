package sector

import (
	"math"
	"math/rand"
	"reflect"
	"strings"
	"sync"
	"testing"

	"foreman/api"
)

// full is a sector of these bytes, worked out apart from the package.
func full(s string) string {
	b := make([]byte, 128)
	copy(b, s)
	return string(b)
}

// made is a device of n sectors that begin with the letters a, b, and so on.
func made(n int) api.Disk {
	d := api.Disk{Left: -1}
	for i := range n {
		d.Sectors = append(d.Sectors, full(string(rune('a'+i))))
	}
	return d
}

// loose is d with more loose writes.
func loose(d api.Disk, l ...api.Write) api.Disk {
	d.Loose = append(append([]api.Write{}, d.Loose...), l...)
	return d
}

func write(at int, s string) api.Write { return api.Write{At: at, Data: full(s)} }

// same holds devices against each other; nil and empty lists are one.
func same(a, b api.Disk) bool {
	if a.Down != b.Down || a.Left != b.Left || len(a.Sectors) != len(b.Sectors) || len(a.Loose) != len(b.Loose) {
		return false
	}
	for i := range a.Sectors {
		if a.Sectors[i] != b.Sectors[i] {
			return false
		}
	}
	for i := range a.Loose {
		if a.Loose[i] != b.Loose[i] {
			return false
		}
	}
	return true
}

func wantDisk(t *testing.T, what string, got, want api.Disk) {
	t.Helper()
	if !same(got, want) {
		t.Errorf("%s: got %+v, want %+v", what, got, want)
	}
}

func wantErr(t *testing.T, what string, got, want api.Errno) {
	t.Helper()
	if got != want {
		t.Errorf("%s: error %d, want %d", what, got, want)
	}
}

func wantRead(t *testing.T, what string, d api.Disk, at int, want string) {
	t.Helper()
	got, err := Read(d, at)
	if err != api.OK || got != want {
		t.Errorf("%s: sector %d is %q, error %d; want %q", what, at, got, err, want)
	}
}

// P1.1: New.

func TestNewHasNoughts(t *testing.T) {
	for _, n := range []int{0, 1, 3, 4095, 4096} {
		d, err := New(n)
		wantErr(t, "New", err, api.OK)
		if len(d.Sectors) != n || len(d.Loose) != 0 || d.Down || d.Left != -1 {
			t.Fatalf("New(%d): %d sectors, %d loose, down %v, left %d", n, len(d.Sectors), len(d.Loose), d.Down, d.Left)
		}
		for i, s := range d.Sectors {
			if s != strings.Repeat("\x00", 128) {
				t.Fatalf("New(%d): sector %d is %q", n, i, s)
			}
		}
		if !Right(d) {
			t.Errorf("New(%d) isn't right", n)
		}
	}
}

func TestNewRefuses(t *testing.T) {
	for _, n := range []int{-1, 4097, math.MinInt, math.MaxInt} {
		d, err := New(n)
		wantErr(t, "New", err, api.ErrArg)
		wantDisk(t, "New", d, api.Disk{})
	}
}

// P1.1: Right.

func TestRight(t *testing.T) {
	many := func(n int) api.Disk {
		d := api.Disk{Sectors: make([]string, n)}
		for i := range d.Sectors {
			d.Sectors[i] = full("")
		}
		return d
	}
	with := func(s string) api.Disk {
		d := made(3)
		d.Sectors[2] = s
		return d
	}
	down := made(2)
	down.Down, down.Left = true, math.MinInt
	cases := []struct {
		what string
		d    api.Disk
		want bool
	}{
		{"zero", api.Disk{}, true},
		{"three", made(3), true},
		{"4096", many(4096), true},
		{"4097", many(4097), false},
		{"without power", down, true},
		{"127 bytes", with(strings.Repeat("a", 127)), false},
		{"129 bytes", with(strings.Repeat("a", 129)), false},
		{"no bytes", with(""), false},
		{"loose to the first", loose(made(3), write(0, "x")), true},
		{"loose to the last", loose(made(3), write(2, "x")), true},
		{"loose behind the last", loose(made(3), write(3, "x")), false},
		{"loose ahead of the first", loose(made(3), write(-1, "x")), false},
		{"loose to the ends", loose(made(3), write(math.MaxInt, "x")), false},
		{"loose of none", loose(api.Disk{}, write(0, "x")), false},
		{"a second loose one out of range", loose(made(3), write(0, "x"), write(math.MinInt, "x")), false},
		{"loose of 127 bytes", loose(made(3), api.Write{At: 0, Data: strings.Repeat("a", 127)}), false},
		{"loose of 129 bytes", loose(made(3), write(1, ""), api.Write{At: 0, Data: strings.Repeat("a", 129)}), false},
	}
	for _, c := range cases {
		if got := Right(c.d); got != c.want {
			t.Errorf("%s: %v", c.what, got)
		}
	}
}

// P1.1: Read.

func TestReadOwnAndLastLoose(t *testing.T) {
	d := loose(made(3), write(1, "x"), write(2, "y"), write(1, "z"), write(2, "w"), write(1, "v"))
	wantRead(t, "no loose write", d, 0, full("a"))
	wantRead(t, "last of three", d, 1, full("v"))
	wantRead(t, "last of two", d, 2, full("w"))
}

func TestReadRefuses(t *testing.T) {
	d := loose(made(3), write(3, "x"), write(-1, "x"))
	for _, at := range []int{-1, 3, math.MinInt, math.MaxInt} {
		s, err := Read(d, at)
		wantErr(t, "Read", err, api.ErrRange)
		if s != "" {
			t.Errorf("Read(%d) answers %q beside an error", at, s)
		}
	}
	_, err := Read(api.Disk{}, 0)
	wantErr(t, "Read of no sector", err, api.ErrRange)
	d.Down = true
	for _, at := range []int{0, -1, 3} {
		s, err := Read(d, at)
		wantErr(t, "Read without power", err, api.ErrDown)
		if s != "" {
			t.Errorf("Read(%d) answers %q without power", at, s)
		}
	}
}

func TestReadIsNoDeed(t *testing.T) {
	wantRead(t, "nothing left", Arm(made(2), 0), 1, full("b"))
}

// P1.1: Put.

func TestPutIsLoose(t *testing.T) {
	d := made(2)
	for _, data := range []string{"", "xyz", strings.Repeat("q", 127), strings.Repeat("q", 128)} {
		got, err := Put(d, 1, data)
		wantErr(t, "Put", err, api.OK)
		wantDisk(t, "Put", got, loose(d, write(1, data)))
		wantRead(t, "Put", got, 1, full(data))
		wantRead(t, "Put", got, 0, full("a"))
		d = got
	}
	if len(d.Loose) != 4 || !Right(d) {
		t.Errorf("four puts: %d loose, right %v", len(d.Loose), Right(d))
	}
}

func TestPutRefuses(t *testing.T) {
	long := strings.Repeat("q", 129)
	down := made(2)
	down.Down, down.Left = true, 5
	spent := Arm(loose(made(2), write(0, "x")), 0)
	spentDown := spent
	spentDown.Down = true
	cases := []struct {
		what string
		d    api.Disk
		at   int
		data string
		err  api.Errno
		want api.Disk
	}{
		{"long", made(2), 0, long, api.ErrArg, made(2)},
		{"long, no such sector, no power", down, 2, long, api.ErrArg, down},
		{"long, nothing left", spent, 0, long, api.ErrArg, spent},
		{"behind", made(2), 2, "x", api.ErrRange, made(2)},
		{"ahead", made(2), -1, "x", api.ErrRange, made(2)},
		{"greatest", made(2), math.MaxInt, "x", api.ErrRange, made(2)},
		{"least", made(2), math.MinInt, "x", api.ErrRange, made(2)},
		{"of none", api.Disk{Left: -1}, 0, "x", api.ErrRange, api.Disk{Left: -1}},
		{"no such sector, no power", down, 2, "x", api.ErrRange, down},
		{"no such sector, nothing left", spent, -1, "x", api.ErrRange, spent},
		{"no power", down, 1, "x", api.ErrDown, down},
		{"nothing left", spent, 1, "x", api.ErrDown, spentDown},
		{"nothing left, no power", spentDown, 1, "x", api.ErrDown, spentDown},
	}
	for _, c := range cases {
		got, err := Put(c.d, c.at, c.data)
		wantErr(t, c.what, err, c.err)
		wantDisk(t, c.what, got, c.want)
	}
}

// P1.1: Flush.

func TestFlushDoesAllInOrder(t *testing.T) {
	d := loose(made(3), write(1, "x"), write(2, "y"), write(1, "z"))
	got, err := Flush(d)
	wantErr(t, "Flush", err, api.OK)
	want := made(3)
	want.Sectors[1], want.Sectors[2] = full("z"), full("y")
	wantDisk(t, "Flush", got, want)
	again, err := Flush(got)
	wantErr(t, "Flush of nothing", err, api.OK)
	wantDisk(t, "Flush of nothing", again, want)
	none, err := Flush(api.Disk{Left: -1})
	wantErr(t, "Flush of no sector", err, api.OK)
	wantDisk(t, "Flush of no sector", none, api.Disk{Left: -1})
}

func TestFlushRefuses(t *testing.T) {
	d := loose(made(2), write(1, "x"))
	down := d
	down.Down, down.Left = true, 5
	got, err := Flush(down)
	wantErr(t, "no power", err, api.ErrDown)
	wantDisk(t, "no power", got, down)
	spent := Arm(d, 0)
	got, err = Flush(spent)
	wantErr(t, "nothing left", err, api.ErrDown)
	spent.Down = true
	wantDisk(t, "nothing left", got, spent)
}

// P1.1: deeds, and Arm.

func TestArm(t *testing.T) {
	d := loose(made(2), write(1, "x"))
	d.Down = true
	for n, want := range map[int]int{0: 0, 1: 1, 7: 7, -1: -1, -2: -1, math.MinInt: -1, math.MaxInt: math.MaxInt} {
		w := d
		w.Left = want
		wantDisk(t, "Arm", Arm(d, n), w)
	}
}

func TestDeedsAreCounted(t *testing.T) {
	d := Arm(made(2), 3)
	d, err := Put(d, 0, "x")
	wantErr(t, "first", err, api.OK)
	d, err = Put(d, 2, "x")
	wantErr(t, "refused for another reason", err, api.ErrRange)
	d, err = Put(d, 0, strings.Repeat("x", 129))
	wantErr(t, "refused for another reason", err, api.ErrArg)
	if d.Left != 2 {
		t.Fatalf("left %d", d.Left)
	}
	d, err = Flush(d)
	wantErr(t, "second", err, api.OK)
	d, err = Put(d, 1, "y")
	wantErr(t, "third", err, api.OK)
	if d.Left != 0 || d.Down {
		t.Fatalf("left %d, down %v", d.Left, d.Down)
	}
	wantRead(t, "behind the third", d, 1, full("y"))
	d, err = Flush(d)
	wantErr(t, "fourth", err, api.ErrDown)
	if !d.Down || d.Left != 0 || len(d.Loose) != 1 {
		t.Errorf("down %v, left %d, %d loose", d.Down, d.Left, len(d.Loose))
	}
	_, err = Put(Arm(d, 4), 0, "x")
	wantErr(t, "armed without power", err, api.ErrDown)
}

func TestAnyNumberOfDeeds(t *testing.T) {
	for _, left := range []int{-1, -2, math.MinInt} {
		d := made(1)
		d.Left = left
		for range 5 {
			var a, b api.Errno
			d, a = Put(d, 0, "x")
			d, b = Flush(d)
			if a != api.OK || b != api.OK || d.Left != left || d.Down {
				t.Fatalf("left %d: errors %d, %d, left %d", left, a, b, d.Left)
			}
		}
	}
}

// P1.1: Start.

func TestStartTorn(t *testing.T) {
	old, data := strings.Repeat("o", 128), strings.Repeat("n", 128)
	d := api.Disk{Sectors: []string{old}, Loose: []api.Write{{At: 0, Data: data}}, Down: true}
	for bytes, n := range map[int]int{0: 0, 1: 1, 64: 64, 127: 127, 128: 128, 129: 128, math.MaxInt: 128, -1: 0, math.MinInt: 0} {
		for _, stay := range [][]bool{nil, {}, {false}, {true}} {
			got := Start(d, api.Cut{Stay: stay, Torn: 0, Bytes: bytes})
			wantDisk(t, "torn", got, api.Disk{Sectors: []string{data[:n] + old[n:]}, Left: -1})
		}
	}
}

func TestStartTornInTurn(t *testing.T) {
	d := loose(made(1), write(0, "xyz"), write(0, "uvw"), write(0, "rst"))
	cases := []struct {
		c    api.Cut
		want string
	}{
		{api.Cut{Torn: 0, Bytes: 2}, "xy"},
		{api.Cut{Torn: 1, Bytes: 1}, "u"},
		{api.Cut{Stay: []bool{true}, Torn: 2, Bytes: 1}, "rvw"},
		{api.Cut{Stay: []bool{true}, Torn: 1, Bytes: 1}, "rst"},
		{api.Cut{Stay: []bool{true, false, false}, Torn: 2, Bytes: 2}, "rsz"},
		{api.Cut{Stay: []bool{true}, Torn: 3, Bytes: 1}, "rst"},
		{api.Cut{Stay: []bool{true}, Torn: math.MinInt, Bytes: 1}, "rst"},
		{api.Cut{Torn: math.MaxInt, Bytes: 1}, "a"},
	}
	for _, c := range cases {
		wantRead(t, "torn in turn", Start(d, c.c), 0, full(c.want))
	}
}

func TestStartStays(t *testing.T) {
	d := loose(made(5), write(0, "A"), write(1, "B"), write(2, "C"), write(3, "D"), write(4, "E"))
	cases := []struct {
		stay []bool
		want string
	}{
		{nil, "abcde"},
		{[]bool{}, "abcde"},
		{[]bool{false}, "abcde"},
		{[]bool{true}, "ABCDE"},
		{[]bool{true, false}, "AbCdE"},
		{[]bool{false, false, true}, "abCde"},
		{[]bool{false, false, false, false, true, true}, "abcdE"},
	}
	for _, c := range cases {
		want := api.Disk{Left: -1}
		for _, r := range c.want {
			want.Sectors = append(want.Sectors, full(string(r)))
		}
		wantDisk(t, "stays", Start(d, api.Cut{Stay: c.stay, Torn: -1}), want)
	}
}

func TestStartGivesPower(t *testing.T) {
	d := made(2)
	for _, down := range []bool{false, true} {
		for _, left := range []int{-5, 0, 7} {
			d.Down, d.Left = down, left
			wantDisk(t, "start", Start(d, api.Cut{}), made(2))
		}
	}
	wantDisk(t, "start of none", Start(api.Disk{Down: true}, api.Cut{}), api.Disk{Left: -1})
}

// The chapter's example.
func TestTornExample(t *testing.T) {
	d, _ := New(1)
	d, _ = Put(d, 0, "ab")
	d, _ = Flush(d)
	d, _ = Put(d, 0, "xyz")
	wantRead(t, "torn at one byte", Start(d, api.Cut{Torn: 0, Bytes: 1}), 0, full("xb"))
}

// P1.2: what was flushed is there, whatever stays.

func anyCut(r *rand.Rand) api.Cut {
	c := api.Cut{Torn: r.Intn(8) - 1, Bytes: r.Intn(132) - 2}
	for range r.Intn(5) {
		c.Stay = append(c.Stay, r.Intn(2) == 0)
	}
	return c
}

func TestFlushedIsThere(t *testing.T) {
	r := rand.New(rand.NewSource(1))
	for range 300 {
		d, _ := New(4)
		sure := []string{full(""), full(""), full(""), full("")}
		for range 4 {
			for range r.Intn(6) {
				at, data := r.Intn(4), strings.Repeat(string(rune('a'+r.Intn(26))), r.Intn(129))
				d, _ = Put(d, at, data)
				sure[at] = full(data)
			}
			d, _ = Flush(d)
			for range 4 {
				wantDisk(t, "flushed, started", Start(d, anyCut(r)), api.Disk{Sectors: sure, Left: -1})
			}
		}
	}
}

func TestFlushedIsThereBesideLoose(t *testing.T) {
	r := rand.New(rand.NewSource(2))
	for range 300 {
		d, _ := New(4)
		for at := range 4 {
			d, _ = Put(d, at, strings.Repeat("s", 1+at))
		}
		d, _ = Flush(d)
		d = Arm(d, r.Intn(6))
		touched := [4]bool{}
		for range 7 {
			at := r.Intn(3)
			next, err := Put(d, at, "loose")
			touched[at] = touched[at] || err == api.OK
			d = next
		}
		if !d.Down {
			t.Fatal("power behind more deeds than were left")
		}
		after := Start(d, anyCut(r))
		if !Right(after) {
			t.Fatal("a start that isn't right")
		}
		for at := range 4 {
			if !touched[at] {
				wantRead(t, "beside loose ones", after, at, full(strings.Repeat("s", 1+at)))
			}
		}
	}
}

// A flush that is refused makes nothing sure.
func TestRefusedFlushIsNotSure(t *testing.T) {
	d, _ := Put(Arm(made(1), 1), 0, "x")
	d, err := Flush(d)
	wantErr(t, "Flush", err, api.ErrDown)
	wantRead(t, "nothing stays", Start(d, api.Cut{Torn: -1}), 0, full("a"))
	wantRead(t, "all stays", Start(d, api.Cut{Stay: []bool{true}, Torn: -1}), 0, full("x"))
}

// Rules 3 to 6: what is handed in stays, and calls may be at once.

func TestHandedInStays(t *testing.T) {
	room := make([]api.Write, 2, 8)
	room[0], room[1] = write(0, "x"), write(1, "y")
	spare := room[:8]
	spare[2] = write(1, "spare")
	d := made(2)
	d.Loose = room
	stay := []bool{true, false}
	one, _ := Put(d, 0, "one")
	two, _ := Put(d, 0, "two")
	wantRead(t, "the first answer", one, 0, full("one"))
	wantRead(t, "the second answer", two, 0, full("two"))
	three, _ := Put(one, 1, "three")
	four, _ := Put(one, 1, "four")
	wantRead(t, "two behind one", three, 1, full("three"))
	wantRead(t, "two behind one", four, 1, full("four"))
	Flush(d)
	Arm(d, 3)
	Start(d, api.Cut{Stay: stay, Torn: 1, Bytes: 3})
	wantDisk(t, "handed in", d, loose(made(2), write(0, "x"), write(1, "y")))
	if spare[2] != write(1, "spare") || spare[3] != (api.Write{}) || !reflect.DeepEqual(stay, []bool{true, false}) {
		t.Error("spare room, or the cut, was changed")
	}
}

func TestManyAtOnce(t *testing.T) {
	d := loose(made(3), write(1, "x"))
	var wait sync.WaitGroup
	for i := range 8 {
		wait.Go(func() {
			mine := strings.Repeat("m", i)
			got, _ := Put(d, 2, mine)
			got, _ = Flush(got)
			wantRead(t, "at once", Start(got, api.Cut{}), 2, full(mine))
		})
	}
	wait.Wait()
}

// P1, rule 5: devices that aren't right are no harm.

func TestDevicesThatAreNotRight(t *testing.T) {
	d := api.Disk{Sectors: []string{"", "abc", strings.Repeat("l", 200)}, Left: -1}
	for _, at := range []int{-1, 3, math.MaxInt, math.MinInt} {
		d.Loose = append(d.Loose, api.Write{At: at, Data: "x"})
	}
	for at, data := range []string{"new", "z", strings.Repeat("n", 150)} {
		d.Loose = append(d.Loose, api.Write{At: at, Data: data})
	}
	wantRead(t, "own bytes", d, 0, "new")
	flushed, err := Flush(d)
	wantErr(t, "Flush", err, api.OK)
	wantDisk(t, "Flush", flushed, api.Disk{Sectors: []string{"new", "z", strings.Repeat("n", 150)}, Left: -1})
	torn := func(i, bytes int) api.Disk { return Start(d, api.Cut{Torn: i, Bytes: bytes}) }
	wantRead(t, "short old one", torn(4, 2), 0, "ne")
	wantRead(t, "short new one", torn(5, 128), 1, "zbc")
	wantRead(t, "long ones", torn(6, 500), 2, strings.Repeat("n", 128)+strings.Repeat("l", 72))
	for i := range 4 {
		wantDisk(t, "nowhere", torn(i, 9), api.Disk{Sectors: d.Sectors, Left: -1})
	}
	wantDisk(t, "all", Start(d, api.Cut{Stay: []bool{true}, Torn: -1}), flushed)
	put, err := Put(d, 0, "p")
	wantErr(t, "Put", err, api.OK)
	wantRead(t, "Put", put, 0, full("p"))
}
