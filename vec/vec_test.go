package vec

import (
	"errors"
	"math"
	"slices"
	"testing"

	"quitrent/api"
)

const top = api.MaxVal

var allErrors = []error{
	api.ErrArg, api.ErrNil, api.ErrForm, api.ErrOver, api.ErrNone, api.ErrDup, api.ErrFull,
	api.ErrQuota, api.ErrCeil, api.ErrRoom, api.ErrBudget, api.ErrFunds, api.ErrState, api.ErrDown,
}

// outside are amounts that no valid vector has.
var outside = []int{-1, top + 1, -top, math.MinInt, math.MinInt + 1, math.MaxInt, math.MaxInt - 1}

// with returns v with another amount of one resource.
func with(v api.Vec, i, n int) api.Vec {
	v[i] = n
	return v
}

// eachBad calls f with vectors of which a single amount, of each resource in
// turn, is outside the bounds.
func eachBad(f func(v api.Vec)) {
	for i := range (api.Vec{}) {
		for _, n := range outside {
			f(with(api.Vec{1, 2, 3, 4}, i, n))
			f(with(api.Vec{top, top, top, top}, i, n))
		}
	}
}

// isOnly checks that err is want, and no other error of package api.
func isOnly(t *testing.T, err, want error) {
	t.Helper()
	for _, e := range allErrors {
		if errors.Is(err, e) != (e == want) {
			t.Errorf("error %v: want %v only", err, want)
		}
	}
}

// isPlain checks a failure for which the chapter specifies no Fault.
func isPlain(t *testing.T, v api.Vec, err, want error) {
	t.Helper()
	isOnly(t, err, want)
	var f *api.Fault
	if errors.As(err, &f) {
		t.Errorf("error %v: has a Fault", err)
	}
	if v != (api.Vec{}) {
		t.Errorf("result %v beside the error %v", v, err)
	}
}

// isFault checks a failure of Sum.
func isFault(t *testing.T, v api.Vec, err error, at int, want error) {
	t.Helper()
	isOnly(t, err, want)
	var f *api.Fault
	if !errors.As(err, &f) || f.Op != "sum" || f.At != at || !errors.Is(f.Err, want) {
		t.Errorf("error %v: want a Fault sum %d: %v", err, at, want)
	}
	if v != (api.Vec{}) {
		t.Errorf("result %v beside the error %v", v, err)
	}
}

func isVec(t *testing.T, v api.Vec, err error, want api.Vec) {
	t.Helper()
	if err != nil || v != want {
		t.Errorf("got %v, %v; want %v", v, err, want)
	}
}

// P1.1

func TestGood(t *testing.T) {
	good := []api.Vec{{}, {1, 2, 3, 4}, {top, top, top, top}, {0, top, 0, top}, {top, 0, top - 1, 1}}
	for _, v := range good {
		if !Good(v) {
			t.Errorf("%v is valid", v)
		}
	}
	eachBad(func(v api.Vec) {
		if Good(v) {
			t.Errorf("%v is not valid", v)
		}
	})
}

func TestAdd(t *testing.T) {
	for _, c := range []struct{ a, b, want api.Vec }{
		{api.Vec{1, 2, 3, 4}, api.Vec{1, 1, 1, 1}, api.Vec{2, 3, 4, 5}},
		{api.Vec{1, 2, 3, 4}, api.Vec{40, 30, 20, 10}, api.Vec{41, 32, 23, 14}},
		{api.Vec{}, api.Vec{}, api.Vec{}},
		{api.Vec{top, top, top, top}, api.Vec{}, api.Vec{top, top, top, top}},
		{api.Vec{top - 1, 1, top / 2, 0}, api.Vec{1, top - 1, top / 2, top}, api.Vec{top, top, top, top}},
	} {
		v, err := Add(c.a, c.b)
		isVec(t, v, err, c.want)
		v, err = Add(c.b, c.a)
		isVec(t, v, err, c.want)
	}
}

func TestAddFails(t *testing.T) {
	ones := api.Vec{1, 1, 1, 1}
	full := api.Vec{top, top, top, top}
	eachBad(func(bad api.Vec) {
		for _, good := range []api.Vec{{}, ones, full} {
			v, err := Add(bad, good)
			isPlain(t, v, err, api.ErrArg)
			v, err = Add(good, bad)
			isPlain(t, v, err, api.ErrArg)
		}
		v, err := Add(bad, bad)
		isPlain(t, v, err, api.ErrArg)
	})
	// Both can't be, but their sum could.
	v, err := Add(api.Vec{-1, 5}, api.Vec{2, -5})
	isPlain(t, v, err, api.ErrArg)
	for i := range ones {
		v, err := Add(with(ones, i, top), ones)
		isPlain(t, v, err, api.ErrOver)
		v, err = Add(with(ones, i, top), with(ones, i, top))
		isPlain(t, v, err, api.ErrOver)
	}
}

func TestSub(t *testing.T) {
	for _, c := range []struct{ a, b, want api.Vec }{
		{api.Vec{2, 3, 4, 5}, api.Vec{1, 1, 1, 1}, api.Vec{1, 2, 3, 4}},
		{api.Vec{41, 32, 23, 14}, api.Vec{40, 30, 20, 10}, api.Vec{1, 2, 3, 4}},
		{api.Vec{}, api.Vec{}, api.Vec{}},
		{api.Vec{top, top, top, top}, api.Vec{top, top, top, top}, api.Vec{}},
		{api.Vec{top, top, 7, 7}, api.Vec{0, 1, 7, 0}, api.Vec{top, top - 1, 0, 7}},
	} {
		v, err := Sub(c.a, c.b)
		isVec(t, v, err, c.want)
	}
}

func TestSubFails(t *testing.T) {
	ones := api.Vec{1, 1, 1, 1}
	full := api.Vec{top, top, top, top}
	eachBad(func(bad api.Vec) {
		for _, good := range []api.Vec{{}, ones, full} {
			v, err := Sub(bad, good)
			isPlain(t, v, err, api.ErrArg)
			v, err = Sub(good, bad)
			isPlain(t, v, err, api.ErrArg)
		}
		v, err := Sub(bad, bad)
		isPlain(t, v, err, api.ErrArg)
	})
	for i := range ones {
		v, err := Sub(with(full, i, 0), ones)
		isPlain(t, v, err, api.ErrOver)
		v, err = Sub(with(full, i, 0), full)
		isPlain(t, v, err, api.ErrOver)
	}
}

func TestScale(t *testing.T) {
	for _, c := range []struct {
		v    api.Vec
		n    int
		want api.Vec
	}{
		{api.Vec{1, 2, 3, 4}, 3, api.Vec{3, 6, 9, 12}},
		{api.Vec{1, 2, 3, 4}, 1, api.Vec{1, 2, 3, 4}},
		{api.Vec{1, 2, 3, 4}, 0, api.Vec{}},
		{api.Vec{top, top, top, top}, 0, api.Vec{}},
		{api.Vec{top, top, top, top}, 1, api.Vec{top, top, top, top}},
		{api.Vec{}, 16, api.Vec{}},
		{api.Vec{top / 16, 1, 0, 5}, 16, api.Vec{top, 16, 0, 80}},
	} {
		v, err := Scale(c.v, c.n)
		isVec(t, v, err, c.want)
	}
}

func TestScaleFails(t *testing.T) {
	ones := api.Vec{1, 1, 1, 1}
	full := api.Vec{top, top, top, top}
	eachBad(func(bad api.Vec) {
		for _, n := range []int{0, 1, 16, 17, -1} {
			v, err := Scale(bad, n)
			isPlain(t, v, err, api.ErrArg)
		}
	})
	for _, n := range []int{-1, 17, math.MinInt, math.MaxInt} {
		for _, good := range []api.Vec{{}, ones, full} {
			v, err := Scale(good, n)
			isPlain(t, v, err, api.ErrArg)
		}
	}
	for i := range ones {
		v, err := Scale(with(ones, i, top/2+1), 2)
		isPlain(t, v, err, api.ErrOver)
		v, err = Scale(with(ones, i, top/16+1), 16)
		isPlain(t, v, err, api.ErrOver)
		v, err = Scale(with(ones, i, top), 16)
		isPlain(t, v, err, api.ErrOver)
	}
}

// P1.2

func TestSum(t *testing.T) {
	v, err := Sum()
	isVec(t, v, err, api.Vec{})
	v, err = Sum([]api.Vec{}...)
	isVec(t, v, err, api.Vec{})
	v, err = Sum(api.Vec{1, 2, 3, 4})
	isVec(t, v, err, api.Vec{1, 2, 3, 4})
	v, err = Sum(api.Vec{1, 2, 3, 4}, api.Vec{}, api.Vec{10, 20, 30, 40}, api.Vec{1, 1, 1, 1})
	isVec(t, v, err, api.Vec{12, 23, 34, 45})
	v, err = Sum(api.Vec{top - 2, 0, top, 0}, api.Vec{1, top}, api.Vec{1, 0, 0, top})
	isVec(t, v, err, api.Vec{top, top, top, top})
}

func TestSumFails(t *testing.T) {
	ones := api.Vec{1, 1, 1, 1}
	eachBad(func(bad api.Vec) {
		v, err := Sum(bad)
		isFault(t, v, err, 0, api.ErrArg)
		v, err = Sum(ones, ones, bad, bad)
		isFault(t, v, err, 2, api.ErrArg)
	})
	for i := range ones {
		v, err := Sum(with(ones, i, top), ones)
		isFault(t, v, err, 1, api.ErrOver)
		v, err = Sum(ones, ones, with(ones, i, top-1), ones)
		isFault(t, v, err, 2, api.ErrOver)
	}
}

func TestSumStopsAtFirstFailure(t *testing.T) {
	bad := api.Vec{-1}
	big := api.Vec{top}
	v, err := Sum(big, big, bad)
	isFault(t, v, err, 1, api.ErrOver)
	v, err = Sum(big, bad, big)
	isFault(t, v, err, 1, api.ErrArg)
	// A vector that can't be is told ahead of the sum that it makes too great.
	v, err = Sum(big, api.Vec{top + 1})
	isFault(t, v, err, 1, api.ErrArg)
	// The sum of all would be valid.
	v, err = Sum(api.Vec{5}, bad, api.Vec{1})
	isFault(t, v, err, 1, api.ErrArg)
}

func TestSumLeavesList(t *testing.T) {
	list := []api.Vec{{1, 2, 3, 4}, {5, 6, 7, 8}, {9, 9, 9, 9}}
	before := slices.Clone(list)
	v, err := Sum(list[:2]...)
	isVec(t, v, err, api.Vec{6, 8, 10, 12})
	if !slices.Equal(list, before) {
		t.Errorf("list is %v, was %v", list, before)
	}
}

// P1.3

func TestFits(t *testing.T) {
	base := api.Vec{5, 6, 7, 8}
	if !Fits(base, base) || !Fits(api.Vec{}, base) || !Fits(api.Vec{1, 1}, api.Vec{1, 2}) {
		t.Error("fits")
	}
	if Fits(base, api.Vec{}) || Fits(api.Vec{1, 3}, api.Vec{2, 2}) {
		t.Error("does not fit")
	}
	for i, n := range base {
		if more := with(base, i, n+1); Fits(more, base) || !Fits(base, more) {
			t.Errorf("resource %d", i)
		}
	}
}

func TestLess(t *testing.T) {
	base := api.Vec{5, 6, 7, 8}
	if Less(base, base) || Less(api.Vec{}, api.Vec{}) {
		t.Error("equal vectors")
	}
	for i, n := range base {
		more := with(base, i, n+1)
		if !Less(base, more) || Less(more, base) {
			t.Errorf("resource %d", i)
		}
		// What comes behind the first difference does not count.
		for j := i + 1; j < len(base); j++ {
			if small := with(more, j, 0); !Less(base, small) || Less(small, base) {
				t.Errorf("resources %d and %d", i, j)
			}
		}
	}
}

func TestNone(t *testing.T) {
	if !None(api.Vec{}) {
		t.Error("all amounts are 0")
	}
	for i := range (api.Vec{}) {
		for _, n := range []int{1, -1, top, math.MinInt, math.MaxInt} {
			if v := with(api.Vec{}, i, n); None(v) {
				t.Errorf("%v has something", v)
			}
		}
	}
	if None(api.Vec{1, -1}) || None(api.Vec{math.MinInt, math.MinInt}) {
		t.Error("amounts that come to 0 are not 0")
	}
}

func TestComparisonsOfInvalidVectors(t *testing.T) {
	for i := range (api.Vec{}) {
		low := with(api.Vec{}, i, math.MinInt)
		high := with(api.Vec{}, i, math.MaxInt)
		if !Fits(low, high) || Fits(high, low) || !Fits(low, low) || !Fits(high, high) {
			t.Errorf("Fits, resource %d", i)
		}
		if !Less(low, high) || Less(high, low) || Less(low, low) || Less(high, high) {
			t.Errorf("Less, resource %d", i)
		}
		if !Fits(low, api.Vec{}) || !Less(low, api.Vec{}) || Fits(api.Vec{}, low) || Less(api.Vec{}, low) {
			t.Errorf("below nothing, resource %d", i)
		}
	}
}

// P1.4

// orders calls f with each order of list.
func orders(list []api.Vec, f func([]api.Vec)) {
	var place func(k int)
	place = func(k int) {
		if k == len(list) {
			f(list)
			return
		}
		for i := k; i < len(list); i++ {
			list[k], list[i] = list[i], list[k]
			place(k + 1)
			list[k], list[i] = list[i], list[k]
		}
	}
	place(0)
}

func TestOrderOfAdditionDoesNotMatter(t *testing.T) {
	list := []api.Vec{{1, 2, 3, 4}, {}, {top / 2, 0, 17, 1000}, {top/2 - 1, top - 2, 0, 5}, {0, 0, 9, top / 4}}
	want := api.Vec{top, top, 29, top/4 + 1009}
	count := 0
	orders(list, func(list []api.Vec) {
		count++
		v, err := Sum(list...)
		isVec(t, v, err, want)
		// The same, put together from the last one on.
		var back api.Vec
		for i := len(list) - 1; i >= 0; i-- {
			if back, err = Add(list[i], back); err != nil {
				t.Fatal(err)
			}
		}
		isVec(t, back, err, want)
	})
	if count != 120 {
		t.Errorf("%d orders", count)
	}
}

func TestAddedCanBeSubtracted(t *testing.T) {
	amounts := []int{0, 1, 999, top / 2, top - 1, top}
	tried := 0
	for i, x := range amounts {
		for j, y := range amounts {
			a := api.Vec{x, amounts[j], 3, 0}
			b := api.Vec{y, amounts[i], 0, 4}
			sum, err := Add(a, b)
			if x+y > top {
				isPlain(t, sum, err, api.ErrOver)
				continue
			}
			tried++
			isVec(t, sum, err, api.Vec{x + y, x + y, 3, 4})
			v, err := Sub(sum, b)
			isVec(t, v, err, a)
			v, err = Sub(sum, a)
			isVec(t, v, err, b)
		}
	}
	if tried == 0 {
		t.Error("no sum was valid")
	}
}
