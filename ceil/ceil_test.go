package ceil

import (
	"errors"
	"math"
	"math/rand"
	"testing"

	"quitrent/api"
)

var allErrors = []error{
	api.ErrArg, api.ErrNil, api.ErrForm, api.ErrOver, api.ErrNone, api.ErrDup, api.ErrFull,
	api.ErrQuota, api.ErrCeil, api.ErrRoom, api.ErrBudget, api.ErrFunds, api.ErrState, api.ErrDown,
}

// most is the greatest amount of a resource, told by a number of its own.
const most = 1099511627776

// badAmounts are numbers that are no amounts, some of them amounts if bits get
// lost, or once they are multiplied by a ratio.
var badAmounts = []int{
	-1, -2, -100, -most, -most - 1, most + 1, most + 2, 2 * most, 16 * most, 1<<32 - 1<<62, -1 << 32, 1 << 60, 1 << 62,
	math.MaxInt, math.MaxInt - 1, math.MinInt, math.MinInt + 1, math.MaxInt - most, math.MinInt + most,
}

// badRatios are numbers that are no ratios, some of them ratios if bits get lost.
var badRatios = []int{
	0, -1, -2, -15, -16, 17, 18, 32, 255, 256, 257, 65537, 1 << 32, 1<<32 + 1, 1<<62 + 5,
	math.MaxInt, math.MaxInt - 1, math.MinInt, math.MinInt + 1, math.MinInt + 16,
}

// all is n of each resource.
func all(n int) api.Vec { return api.Vec{n, n, n, n} }

// with returns v with another amount of one resource.
func with(v api.Vec, i, n int) api.Vec {
	v[i] = n
	return v
}

// isOnly checks that err is want, and no other error of package api.
func isOnly(t *testing.T, err, want error) {
	t.Helper()
	if (err == nil) != (want == nil) {
		t.Errorf("error %v: want %v", err, want)
	}
	for _, e := range allErrors {
		if errors.Is(err, e) != (e == want) {
			t.Errorf("error %v: want %v only", err, want)
		}
	}
}

// isPlain checks an error for which the chapter specifies no Fault, or nil.
func isPlain(t *testing.T, err, want error) {
	t.Helper()
	isOnly(t, err, want)
	var f *api.Fault
	if errors.As(err, &f) {
		t.Errorf("error %v: has a Fault", err)
	}
}

// isCeil checks an answer of May: a Fault at a resource, or nil if there is none.
func isCeil(t *testing.T, err error, at int) {
	t.Helper()
	if at < 0 {
		isPlain(t, err, nil)
		return
	}
	isOnly(t, err, api.ErrCeil)
	var f *api.Fault
	if !errors.As(err, &f) || f.Op != "ceil" || f.At != at || f.Err != api.ErrCeil {
		t.Errorf("error %v: want a Fault ceil %d", err, at)
	}
}

// isVec checks a call that succeeds.
func isVec(t *testing.T, v api.Vec, err error, want api.Vec) {
	t.Helper()
	isPlain(t, err, nil)
	if v != want {
		t.Errorf("got %v; want %v", v, want)
	}
}

// isBad checks that May returns ErrArg, whatever else is wrong: a sum that is not
// valid, or a ceiling.
func isBad(t *testing.T, issued, more, capacity api.Vec, ratio int) {
	t.Helper()
	isPlain(t, May(issued, more, capacity, ratio), api.ErrArg)
	if t.Failed() {
		t.Fatalf("May(%v, %v, %v, %d)", issued, more, capacity, ratio)
	}
}

// isNone checks a call that returns ErrArg, and no vector beside it.
func isNone(t *testing.T, v api.Vec, err error) {
	t.Helper()
	isPlain(t, err, api.ErrArg)
	if v != (api.Vec{}) {
		t.Errorf("result %v beside the error %v", v, err)
	}
}

// times is the ceiling for one amount, counted by additions.
func times(n, ratio int) int {
	sum := 0
	for range ratio {
		sum += n
	}
	if sum > most {
		return most
	}
	return sum
}

// P12.1

func TestTop(t *testing.T) {
	for _, c := range []struct {
		capacity api.Vec
		ratio    int
		want     api.Vec
	}{
		{api.Vec{}, 1, api.Vec{}},
		{api.Vec{}, 16, api.Vec{}},
		{api.Vec{1, 2, 3, 4}, 1, api.Vec{1, 2, 3, 4}},
		{api.Vec{1, 2, 3, 4}, 2, api.Vec{2, 4, 6, 8}},
		{api.Vec{1, 20, 300, 4000}, 16, api.Vec{16, 320, 4800, 64000}},
		{all(most), 1, all(most)},
		{all(most), 2, all(most)},
		{all(most), 16, all(most)},
		{api.Vec{most - 1, most, 0, 1}, 1, api.Vec{most - 1, most, 0, 1}},
		{api.Vec{most / 2, most/2 - 1, most/2 + 1, 5}, 2, api.Vec{most, most - 2, most, 10}},
		{api.Vec{most / 3, most/3 + 1, 7, most}, 3, api.Vec{most - 1, most, 21, most}},
		{api.Vec{most / 16, most/16 - 1, most/16 + 1, 1 << 32}, 16, api.Vec{most, most - 16, most, 1 << 36}},
	} {
		v, err := Top(c.capacity, c.ratio)
		isVec(t, v, err, c.want)
	}
}

// TestEachRatio checks each ratio on both sides of where the ceiling is MaxVal,
// each resource by itself.
func TestEachRatio(t *testing.T) {
	for ratio := 1; ratio <= 16; ratio++ {
		for i := range 4 {
			for _, n := range []int{0, 1, 1000, most/ratio - 1, most / ratio, min(most/ratio+1, most), most - 1, most} {
				capacity := with(api.Vec{9, 8, 7, 6}, i, n)
				want := with(api.Vec{9 * ratio, 8 * ratio, 7 * ratio, 6 * ratio}, i, times(n, ratio))
				v, err := Top(capacity, ratio)
				isVec(t, v, err, want)
				v, err = Room(api.Vec{}, capacity, ratio)
				isVec(t, v, err, want)
				v, err = Excess(all(most), capacity, ratio)
				isVec(t, v, err, api.Vec{most - want[0], most - want[1], most - want[2], most - want[3]})
			}
		}
	}
}

func TestExcessAndRoom(t *testing.T) {
	for _, c := range []struct {
		issued, capacity api.Vec
		ratio            int
		excess, room     api.Vec
	}{
		{api.Vec{}, api.Vec{}, 1, api.Vec{}, api.Vec{}},
		{api.Vec{}, api.Vec{1, 2, 3, 4}, 2, api.Vec{}, api.Vec{2, 4, 6, 8}},
		{api.Vec{1, 2, 3, 4}, api.Vec{}, 16, api.Vec{1, 2, 3, 4}, api.Vec{}},
		{api.Vec{2, 4, 6, 8}, api.Vec{1, 2, 3, 4}, 2, api.Vec{}, api.Vec{}},
		{api.Vec{1, 5, 6, 0}, api.Vec{1, 2, 3, 4}, 2, api.Vec{0, 1, 0, 0}, api.Vec{1, 0, 0, 8}},
		{api.Vec{120, 40, 10, 0}, api.Vec{100, 50, 10, most}, 1, api.Vec{20, 0, 0, 0}, api.Vec{0, 10, 0, most}},
		{api.Vec{9, 8, 7, 6}, api.Vec{1, 4, 3, 2}, 3, api.Vec{6, 0, 0, 0}, api.Vec{0, 4, 2, 0}},
		{all(most), api.Vec{most, most - 1, most/2 + 1, 0}, 1, api.Vec{0, 1, most/2 - 1, most}, api.Vec{}},
		{all(most), api.Vec{most, most / 2, most/16 + 1, most / 16}, 16, api.Vec{}, api.Vec{}},
		{all(most - 1), all(most), 16, api.Vec{}, all(1)},
		{all(1), all(most), 16, api.Vec{}, all(most - 1)},
	} {
		v, err := Excess(c.issued, c.capacity, c.ratio)
		isVec(t, v, err, c.excess)
		v, err = Room(c.issued, c.capacity, c.ratio)
		isVec(t, v, err, c.room)
	}
}

// TestBadVectors has one amount that can't be, in each vector in turn, beside
// amounts that are too great together or above the ceiling.
func TestBadVectors(t *testing.T) {
	for i := range 4 {
		for _, n := range badAmounts {
			for _, rest := range []api.Vec{{}, {1, 2, 3, 4}, all(most)} {
				bad := with(rest, i, n)
				for ratio := 1; ratio <= 16; ratio++ {
					v, err := Top(bad, ratio)
					isNone(t, v, err)
					for _, other := range []api.Vec{{}, {5, 5, 5, 5}, all(most)} {
						refuses(t, bad, other, ratio)
					}
				}
			}
		}
	}
}

// refuses checks calls with a vector that can't be, and one that can.
func refuses(t *testing.T, bad, other api.Vec, ratio int) {
	t.Helper()
	for _, pair := range [][2]api.Vec{{bad, other}, {other, bad}, {bad, bad}} {
		v, err := Excess(pair[0], pair[1], ratio)
		isNone(t, v, err)
		v, err = Room(pair[0], pair[1], ratio)
		isNone(t, v, err)
		isBad(t, pair[0], pair[1], other, ratio)
		isBad(t, pair[0], other, pair[1], ratio)
		isBad(t, other, pair[0], pair[1], ratio)
	}
	isBad(t, bad, bad, bad, ratio)
}

func TestBadRatios(t *testing.T) {
	vectors := []api.Vec{{}, {1, 2, 3, 4}, all(most), all(-1), all(math.MaxInt), all(math.MinInt)}
	for _, ratio := range badRatios {
		for _, a := range vectors {
			v, err := Top(a, ratio)
			isNone(t, v, err)
			for _, b := range vectors {
				refuses(t, a, b, ratio)
			}
		}
	}
}

// P12.2

func TestMay(t *testing.T) {
	const none = -1
	for _, c := range []struct {
		issued, more, capacity api.Vec
		ratio, at              int
	}{
		{api.Vec{}, api.Vec{}, api.Vec{}, 1, none},
		{api.Vec{}, api.Vec{1, 2, 3, 4}, api.Vec{1, 2, 3, 4}, 1, none},
		{api.Vec{}, api.Vec{16, 32, 48, 64}, api.Vec{1, 2, 3, 4}, 16, none},
		{api.Vec{7, 0, 2, 9}, api.Vec{3, 10, 8, 1}, all(5), 2, none},
		// Nothing may be given out where there is nothing.
		{api.Vec{}, api.Vec{0, 0, 1, 0}, api.Vec{9, 9, 0, 9}, 16, 2},
		// The first resource counts, however much there is too much of the others.
		{api.Vec{}, api.Vec{2, 2, 2, 2}, all(1), 1, 0},
		{api.Vec{}, api.Vec{1, 2, 3, 400}, all(1), 1, 1},
		{api.Vec{}, api.Vec{1, 1, 2, 400}, all(1), 1, 2},
		{api.Vec{}, api.Vec{1, 1, 1, 2}, all(1), 1, 3},
		// What is above the ceiling, but not asked for, does not count.
		{all(50), api.Vec{}, all(1), 1, none},
		{all(most), api.Vec{}, api.Vec{}, 1, none},
		{api.Vec{50, 1, 50, 1}, api.Vec{0, 1, 0, 1}, all(2), 1, none},
		{api.Vec{50, 1, 50, 1}, api.Vec{0, 1, 1, 9}, all(2), 1, 2},
		{api.Vec{50, 50, 50, 50}, api.Vec{0, 0, 0, 1}, all(2), 1, 3},
		// A ceiling of MaxVal.
		{api.Vec{}, all(most), all(most), 1, none},
		{all(most - 1), all(1), all(most), 16, none},
		{api.Vec{1, 2, 3, 4}, api.Vec{most - 1, most - 2, most - 3, most - 4}, all(most/16 + 1), 16, none},
		{all(most / 2), all(most / 2), all(most - 1), 1, 0},
	} {
		err := May(c.issued, c.more, c.capacity, c.ratio)
		isCeil(t, err, c.at)
		if t.Failed() {
			t.Fatalf("May(%v, %v, %v, %d) is %v", c.issued, c.more, c.capacity, c.ratio, err)
		}
	}
}

// TestMayAtEachCeiling gives out just so much that the ceiling is reached, and
// one more, of each resource by itself.
func TestMayAtEachCeiling(t *testing.T) {
	issued := api.Vec{3, 4, 0, 1}
	capacity := api.Vec{4, 5, 6, 7}
	for ratio := 1; ratio <= 16; ratio++ {
		for i := range 4 {
			room := capacity[i]*ratio - issued[i]
			for n := range 130 {
				at := i
				if n <= room {
					at = -1
				}
				isCeil(t, May(issued, with(api.Vec{}, i, n), capacity, ratio), at)
			}
		}
	}
}

// TestMayOfTooMuch checks that a sum that is not valid is told ahead of a
// ceiling, of whatever resource.
func TestMayOfTooMuch(t *testing.T) {
	for i := range 4 {
		for _, capacity := range []api.Vec{{}, all(1), all(most)} {
			for _, n := range []int{1, 2, 1000, most - 1, most} {
				isPlain(t, May(with(api.Vec{}, i, most), with(api.Vec{}, i, n), capacity, 1), api.ErrOver)
				isPlain(t, May(with(api.Vec{}, i, n), with(api.Vec{}, i, most), capacity, 16), api.ErrOver)
				isPlain(t, May(with(all(5), i, most), with(all(5), i, n), capacity, 4), api.ErrOver)
			}
			isPlain(t, May(with(api.Vec{}, i, most/2), with(api.Vec{}, i, most/2+1), capacity, 16), api.ErrOver)
			isPlain(t, May(all(most), with(api.Vec{}, i, 1), capacity, 16), api.ErrOver)
		}
	}
}

func TestTextOfFault(t *testing.T) {
	err := May(api.Vec{}, api.Vec{0, 0, 1}, api.Vec{}, 1)
	if err == nil || err.Error() != "ceil 2: "+api.ErrCeil.Error() {
		t.Errorf("the error is %v", err)
	}
}

// TestFaultsAreNew checks that what a caller does to a Fault is in no other.
func TestFaultsAreNew(t *testing.T) {
	var f *api.Fault
	if !errors.As(May(api.Vec{}, all(1), api.Vec{}, 1), &f) {
		t.Fatal("no Fault")
	}
	*f = api.Fault{Op: "other", At: 9, Err: api.ErrNil}
	isCeil(t, May(api.Vec{}, all(1), api.Vec{}, 1), 0)
}

// P12.3

// isConsistent checks what May answers against the ceiling that is counted here,
// and against what Excess and Room return ahead of it and behind it.
func isConsistent(t *testing.T, issued, more, capacity api.Vec, ratio int) error {
	t.Helper()
	err := May(issued, more, capacity, ratio)
	room, errRoom := Room(issued, capacity, ratio)
	before, errBefore := Excess(issued, capacity, ratio)
	if errRoom != nil || errBefore != nil {
		t.Fatalf("%v and %v", errRoom, errBefore)
	}
	var sum api.Vec
	over, at := false, -1
	for i := range sum {
		sum[i] = issued[i] + more[i]
		top := times(capacity[i], ratio)
		over = over || sum[i] > most
		if at < 0 && more[i] > room[i] {
			at = i
		}
		if issued[i]+room[i]-before[i] != top || room[i] < 0 || before[i] < 0 || room[i] != 0 && before[i] != 0 {
			t.Fatalf("issued %v, capacity %v, ratio %d: excess %v, room %v", issued, capacity, ratio, before, room)
		}
	}
	if over {
		isPlain(t, err, api.ErrOver)
		return err
	}
	isCeil(t, err, at)
	after, errAfter := Excess(sum, capacity, ratio)
	isPlain(t, errAfter, nil)
	if err == nil && after != before {
		t.Fatalf("issued %v, more %v, capacity %v, ratio %d: excess %v, then %v", issued, more, capacity, ratio, before, after)
	}
	return err
}

// TestSmallAmounts goes through all small amounts of two resources.
func TestSmallAmounts(t *testing.T) {
	for n := range 1 << 12 {
		two := func(shift int) api.Vec { return api.Vec{0, n >> shift & 3, 0, n >> (shift + 2) & 3} }
		for ratio := 1; ratio <= 3; ratio++ {
			isConsistent(t, two(0), two(4), two(8), ratio)
		}
	}
}

// TestAnyAmounts has amounts of all sizes, and those near the ceiling.
func TestAnyAmounts(t *testing.T) {
	r := rand.New(rand.NewSource(12))
	some := func() int { return min(r.Intn(1<<r.Intn(42)), most) }
	near := func(n int) int { return max(0, min(n+r.Intn(3)-1, most)) }
	count := map[error]int{}
	for range 200000 {
		var issued, more, capacity api.Vec
		ratio := 1 + r.Intn(16)
		for i := range capacity {
			capacity[i] = some()
			top := times(capacity[i], ratio)
			issued[i] = []int{0, some(), near(top), r.Intn(top + 1)}[r.Intn(4)]
			more[i] = []int{0, some(), near(top - issued[i]), near(0)}[r.Intn(4)]
		}
		err := isConsistent(t, issued, more, capacity, ratio)
		if t.Failed() {
			t.Fatalf("May(%v, %v, %v, %d) is %v", issued, more, capacity, ratio, err)
		}
		for _, e := range []error{nil, api.ErrOver, api.ErrCeil} {
			if errors.Is(err, e) {
				count[e]++
			}
		}
	}
	for _, e := range []error{nil, api.ErrOver, api.ErrCeil} {
		if count[e] < 1000 {
			t.Errorf("%v was answered only %d times", e, count[e])
		}
	}
}

// The chapter's example.

func TestExample(t *testing.T) {
	isCeil(t, May(all(28), all(2), all(10), 3), -1)
	isCeil(t, May(all(28), all(3), all(10), 3), 0)
	isCeil(t, May(all(28), api.Vec{2, 2, 3, 0}, all(10), 3), 2)
}
