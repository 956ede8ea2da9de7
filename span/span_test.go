package span

import (
	"errors"
	"math"
	"math/rand"
	"slices"
	"testing"

	"quitrent/api"
)

var allErrors = []error{
	api.ErrArg, api.ErrNil, api.ErrForm, api.ErrOver, api.ErrNone, api.ErrDup, api.ErrFull,
	api.ErrQuota, api.ErrCeil, api.ErrRoom, api.ErrBudget, api.ErrFunds, api.ErrState, api.ErrDown,
}

// last is the greatest tick, and the greatest window.
const last = 1 << 30

// below are numbers less than 0, and above are numbers beyond last; those that
// a narrower integer would take for valid ones are among them.
var (
	below = []int{-1, -2, -7, -999, -1000, -last, -1 << 32, 1 - 1<<32, math.MinInt + 1000, math.MinInt + 1, math.MinInt}
	above = []int{last + 1, last + 2, last + 1000, 1<<31 - 1, 1 << 31, 1 << 32, 1<<32 + 1, 1<<32 + 7, 1 << 40, 1<<62 + 5, math.MaxInt - 7, math.MaxInt - 1, math.MaxInt}
)

// lengths are valid lengths, and badLengths are others.
var (
	lengths    = []int{1, 2, 3, 7, 8, 10, 16, 64, 100, 255, 256, 257, 499, 500, 501, 512, 997, 998, 999, 1000}
	badLengths = slices.Concat([]int{0, 1001, 1002, 1024, 2000, 65537, last}, below, above)
)

// outside are numbers of no tick and no window.
func outside() []int { return slices.Concat(below, above) }

// inside are numbers of ticks and windows, the extremes among them, and those
// where one window of a length ends and another begins.
func inside() []int {
	list := []int{0, 1, 2, 5, 63, 64, 65, 999, 1000, 1001, 65535, 65536, 1073741, 1073742, last/2 - 1, last / 2, last/2 + 1, last - 2, last - 1, last}
	for _, length := range lengths {
		for _, n := range []int{1, 2, 1000, last/length - 1, last / length} {
			list = append(list, n*length-1, n*length)
			if n*length < last {
				list = append(list, n*length+1)
			}
		}
	}
	return list
}

// isOnly checks that err is want, no other error of package api, and no Fault.
func isOnly(t *testing.T, err, want error) {
	t.Helper()
	if (err == nil) != (want == nil) {
		t.Errorf("error %v: want %v", err, want)
	}
	for _, e := range allErrors {
		if errors.Is(err, e) != (e == want) {
			t.Errorf("error %v: want %v only", err, want)
		}
	}
	var f *api.Fault
	if errors.As(err, &f) {
		t.Errorf("error %v: has a Fault", err)
	}
}

// call is one of the functions of a number and a length.
type call struct {
	name string
	run  func(n, length int) (int, error)
}

func calls() []call {
	return []call{{"At", At}, {"First", First}, {"Left", Left}}
}

// is checks a call that succeeds.
func is(t *testing.T, c call, n, length, want int) {
	t.Helper()
	got, err := c.run(n, length)
	if got != want || err != nil {
		t.Fatalf("%s(%d, %d) is %d, %v; want %d", c.name, n, length, got, err, want)
	}
}

// fails checks a call that returns ErrArg, and 0 beside it.
func fails(t *testing.T, c call, n, length int) {
	t.Helper()
	got, err := c.run(n, length)
	isOnly(t, err, api.ErrArg)
	if got != 0 || t.Failed() {
		t.Fatalf("%s(%d, %d) is %d, %v", c.name, n, length, got, err)
	}
}

// P9.1

func TestAtAndLeft(t *testing.T) {
	for _, c := range []struct{ tick, length, window, left int }{
		{0, 1, 0, 1}, {1, 1, 1, 1}, {last, 1, last, 1},
		{0, 10, 0, 10}, {1, 10, 0, 9}, {9, 10, 0, 1}, {10, 10, 1, 10}, {19, 10, 1, 1}, {20, 10, 2, 10}, {25, 10, 2, 5},
		{0, 1000, 0, 1000}, {999, 1000, 0, 1}, {1000, 1000, 1, 1000}, {1001, 1000, 1, 999},
		{last, 2, last / 2, 2}, {last - 1, 2, last/2 - 1, 1},
		{last, 3, 357913941, 2}, {last, 1000, 1073741, 176}, {last - 824, 1000, 1073741, 1000}, {last - 825, 1000, 1073740, 1},
	} {
		is(t, call{"At", At}, c.tick, c.length, c.window)
		is(t, call{"Left", Left}, c.tick, c.length, c.left)
	}
}

func TestFirst(t *testing.T) {
	for _, c := range []struct{ window, length, tick int }{
		{0, 1, 0}, {0, 1000, 0}, {1, 1, 1}, {1, 1000, 1000}, {3, 7, 21}, {2, 10, 20},
		{last - 1, 1, last - 1}, {last, 1, last}, {last/2 - 1, 2, last - 2}, {last / 2, 2, last},
		{last / 512, 512, last}, {1073741, 1000, last - 824}, {357913941, 3, last - 1},
	} {
		is(t, call{"First", First}, c.window, c.length, c.tick)
	}
}

// TestFirstBeyondTheLastTick has windows that would begin behind the last tick.
func TestFirstBeyondTheLastTick(t *testing.T) {
	for _, length := range lengths {
		most := last / length
		is(t, call{"First", First}, most, length, most*length)
		for _, window := range []int{most + 1, most + 2, 2 * most, last - 1, last} {
			if window > most && window <= last {
				fails(t, call{"First", First}, window, length)
			}
		}
	}
}

// walk goes through all ticks of some windows, and counts.
func walk(t *testing.T, length, windows int) {
	t.Helper()
	tick := 0
	for window := range windows {
		is(t, call{"First", First}, window, length, tick)
		for left := length; left > 0; left-- {
			is(t, call{"At", At}, tick, length, window)
			is(t, call{"Left", Left}, tick, length, left)
			tick++
		}
	}
}

func TestWindowsOneByOne(t *testing.T) {
	for length := 1; length <= 1000; length++ {
		walk(t, length, 4)
	}
	walk(t, 1, 3000)
	walk(t, 7, 1000)
}

func TestBadArguments(t *testing.T) {
	for _, c := range calls() {
		for _, n := range outside() {
			for _, length := range lengths {
				fails(t, c, n, length)
			}
		}
		for _, length := range badLengths {
			for _, n := range slices.Concat(inside(), outside()) {
				fails(t, c, n, length)
			}
		}
	}
}

// P9.2

func TestOpen(t *testing.T) {
	for _, now := range []int{0, 1, 2, 5, 100, 65535, last / 2, last - 8, last - 7, last - 6, last - 1, last} {
		for d := -20; d <= 20; d++ {
			window := now + d
			want := d >= 0 && d <= 7 && window <= last
			if got := Open(window, now); got != want {
				t.Errorf("Open(%d, %d) is %t", window, now, got)
			}
		}
	}
}

// TestOpenOfOtherNumbers has numbers of no window that are as far apart as
// windows may be, and such that a difference wraps round.
func TestOpenOfOtherNumbers(t *testing.T) {
	for _, n := range outside() {
		for _, d := range []int{-8, -7, -1, 0, 1, 6, 7, 8} {
			if Open(n+d, n) || Open(n, n+d) {
				t.Errorf("open: %d and %d", n, n+d)
			}
		}
		for _, other := range slices.Concat(inside(), outside()) {
			if Open(n, other) || Open(other, n) {
				t.Errorf("open: %d and %d", n, other)
			}
		}
	}
	for d := 1; d <= 7; d++ {
		if Open(0, -d) || Open(7-d, -d) || Open(last+d, last) || Open(last+1, last+1-d) {
			t.Errorf("open beyond the windows there are, by %d", d)
		}
	}
}

func TestRow(t *testing.T) {
	for _, c := range []struct {
		now, n int
		want   []int
	}{
		{0, 1, []int{0}},
		{0, 8, []int{0, 1, 2, 3, 4, 5, 6, 7}},
		{5, 3, []int{5, 6, 7}},
		{99, 8, []int{99, 100, 101, 102, 103, 104, 105, 106}},
		{last, 1, []int{last}},
		{last - 1, 1, []int{last - 1}},
		{last - 1, 2, []int{last - 1, last}},
		{last - 7, 8, []int{last - 7, last - 6, last - 5, last - 4, last - 3, last - 2, last - 1, last}},
	} {
		if got, err := Row(c.now, c.n); err != nil || !slices.Equal(got, c.want) {
			t.Errorf("Row(%d, %d) is %v, %v; want %v", c.now, c.n, got, err, c.want)
		}
	}
}

// rowFails checks a Row that returns ErrArg, and no windows.
func rowFails(t *testing.T, now, n int) {
	t.Helper()
	list, err := Row(now, n)
	isOnly(t, err, api.ErrArg)
	if len(list) != 0 || t.Failed() {
		t.Fatalf("Row(%d, %d) is %v, %v", now, n, list, err)
	}
}

func TestRowFails(t *testing.T) {
	for _, now := range slices.Concat(inside(), outside()) {
		for _, n := range slices.Concat([]int{0, 9, 10, 16, 1000}, outside()) {
			rowFails(t, now, n)
		}
	}
	for n := 1; n <= 8; n++ {
		for _, now := range outside() {
			rowFails(t, now, n)
		}
		// The row would begin ahead of the first window, or end behind the last.
		for d := 1; d <= n; d++ {
			rowFails(t, -d, n)
			rowFails(t, last-n+1+d, n)
		}
	}
}

// TestRowIsWhatIsOpen checks that the longest row has just the open windows.
func TestRowIsWhatIsOpen(t *testing.T) {
	for _, now := range []int{0, 1, 50, last/2 + 3, last - 8, last - 7} {
		list, err := Row(now, api.MaxAhead)
		isOnly(t, err, nil)
		for window := now - 30; window <= now+30; window++ {
			if slices.Contains(list, window) != Open(window, now) {
				t.Errorf("window %d, while %d is now: row %v", window, now, list)
			}
		}
	}
}

// TestRowIsNew checks that no row shares memory with another.
func TestRowIsNew(t *testing.T) {
	for n := 1; n <= 8; n++ {
		list, err := Row(40, n)
		isOnly(t, err, nil)
		for range 2 {
			other, _ := Row(40, n)
			other = other[:cap(other)]
			for i := range other {
				other[i] = -7
			}
		}
		for i, window := range list {
			if window != 40+i {
				t.Errorf("row of %d: window %d is now %d", n, i, window)
			}
		}
	}
}

// P9.3

// isInOne checks that a tick is in its window, and that the windows beside
// that one begin behind it and end ahead of it.
func isInOne(t *testing.T, tick, length int) {
	t.Helper()
	window, errAt := At(tick, length)
	first, errFirst := First(window, length)
	left, errLeft := Left(tick, length)
	if errAt != nil || errFirst != nil || errLeft != nil {
		t.Fatalf("tick %d, length %d: %v, %v, %v", tick, length, errAt, errFirst, errLeft)
	}
	if first > tick || first+length <= tick || left < 1 || left > length || tick+left != first+length {
		t.Fatalf("tick %d, length %d: window %d begins at %d; %d are left", tick, length, window, first, left)
	}
	if next := first + length; next <= last {
		is(t, call{"First", First}, window+1, length, next)
		is(t, call{"At", At}, next, length, window+1)
		is(t, call{"At", At}, next-1, length, window)
	} else {
		fails(t, call{"First", First}, window+1, length)
		is(t, call{"At", At}, last, length, window)
	}
	if first > 0 {
		is(t, call{"First", First}, window-1, length, first-length)
		is(t, call{"At", At}, first-1, length, window-1)
		is(t, call{"Left", Left}, first-1, length, 1)
	}
}

func TestEachTickIsInOneWindow(t *testing.T) {
	for _, tick := range inside() {
		for length := 1; length <= 1000; length++ {
			isInOne(t, tick, length)
		}
	}
	r := rand.New(rand.NewSource(9))
	for range 100000 {
		isInOne(t, r.Intn(last+1), 1+r.Intn(1000))
	}
}

// The chapter's example.

func TestExample(t *testing.T) {
	is(t, call{"At", At}, 25, 10, 2)
	is(t, call{"Left", Left}, 25, 10, 5)
}
