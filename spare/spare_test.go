package spare

import (
	"errors"
	"math"
	"math/rand"
	"slices"
	"testing"

	"quitrent/api"
)

var allErrors = []error{
	api.ErrArg, api.ErrNil, api.ErrForm, api.ErrOver, api.ErrNone, api.ErrDup, api.ErrFull,
	api.ErrQuota, api.ErrCeil, api.ErrRoom, api.ErrBudget, api.ErrFunds, api.ErrState, api.ErrDown,
}

// numbers are jobs and windows from the whole range, ascending; some of them are
// the same if bits get lost.
var numbers = []int{
	math.MinInt, math.MinInt + 1, -1<<32 - 1, -1 << 32, -257, -256, -2, -1, 0, 1, 2, 3, 32, 255, 256, 257, 258, 999, 1000,
	65535, 65536, 65537, 1 << 30, 1<<31 - 1, 1 << 31, 1<<32 - 1, 1 << 32, 1<<32 + 1, 1<<62 + 1, math.MaxInt - 1, math.MaxInt,
}

// budgets are numbers from the whole range.
var budgets = append([]int{4, 5, 6, 7, 8, 99, 100, 101, -3, -100, math.MinInt + 2, math.MinInt + 100, math.MaxInt - 2}, numbers...)

// isOnly checks that err is want, no other error of package api, and no Fault.
func isOnly(t *testing.T, err, want error) {
	t.Helper()
	if (err == nil) != (want == nil) {
		t.Errorf("error %v: want %v", err, want)
	}
	for _, e := range allErrors {
		if errors.Is(err, e) != (e == want) {
			t.Errorf("error %v: want %v only", err, want)
		}
	}
	var f *api.Fault
	if errors.As(err, &f) {
		t.Errorf("error %v: has a Fault", err)
	}
}

// eviction is one of a task of a job, in a window.
type eviction struct {
	job, window int
	forced      bool
}

// plan is what a book must tell, by plain rules: the evictions that are not
// forgotten, as they came.
type plan []eviction

func (p plan) of(job, window int) Count {
	c := Count{Job: job, Window: window}
	for _, e := range p {
		switch {
		case e.job != job || e.window != window:
		case e.forced:
			c.Forced++
		default:
			c.Free++
		}
	}
	return c
}

// left tells what is left of a budget: each eviction for others takes one, until
// nothing is left.
func (p plan) left(job, window, budget int) int {
	if budget <= 0 {
		return 0
	}
	for _, e := range p {
		if e.job == job && e.window == window && !e.forced && budget > 0 {
			budget--
		}
	}
	return budget
}

// list tells the counts: each is as far behind as there are lesser ones.
func (p plan) list() []Count {
	var counts []Count
	for _, e := range p {
		if c := p.of(e.job, e.window); !slices.Contains(counts, c) {
			counts = append(counts, c)
		}
	}
	list := make([]Count, len(counts))
	for _, c := range counts {
		place := 0
		for _, other := range counts {
			if other.Job < c.Job || other.Job == c.Job && other.Window < c.Window {
				place++
			}
		}
		list[place] = c
	}
	return list
}

// without tells what is left if evictions are forgotten.
func (p plan) without(is func(e eviction) bool) plan {
	return slices.DeleteFunc(slices.Clone(p), is)
}

func (p plan) expire(window int) plan {
	return p.without(func(e eviction) bool { return e.window < window })
}

func (p plan) drop(job int) plan {
	return p.without(func(e eviction) bool { return e.job == job })
}

// adds makes evictions known to a book.
func adds(t *testing.T, b *Book, list ...eviction) {
	t.Helper()
	for _, e := range list {
		isOnly(t, b.Add(e.job, e.window, e.forced), nil)
	}
}

// isCount checks what a book tells of a job in a window.
func isCount(t *testing.T, b *Book, p plan, job, window int) {
	t.Helper()
	if got, want := b.Of(job, window), p.of(job, window); got != want {
		t.Errorf("the count is %v; want %v", got, want)
	}
	for _, budget := range []int{0, 1, 2, 3, 10, 100, -1, math.MinInt, math.MaxInt} {
		if got, want := b.Left(job, window, budget), p.left(job, window, budget); got != want {
			t.Errorf("of budget %d of job %d in window %d, %d is left; want %d", budget, job, window, got, want)
		}
	}
}

// isBook checks all that a book tells.
func isBook(t *testing.T, b *Book, p plan) {
	t.Helper()
	list := p.list()
	if got := b.List(); !slices.Equal(got, list) {
		t.Errorf("the counts are %v; want %v", got, list)
	}
	for _, c := range list {
		isCount(t, b, p, c.Job, c.Window)
		// Beside it, and with job and window the other way round.
		isCount(t, b, p, c.Job, c.Window+1)
		isCount(t, b, p, c.Job+1, c.Window)
		isCount(t, b, p, c.Window, c.Job)
	}
	for _, job := range []int{0, 1, -1, 256, math.MinInt, math.MaxInt} {
		for _, window := range []int{0, 1, 2, math.MinInt, math.MaxInt} {
			isCount(t, b, p, job, window)
		}
	}
}

// some returns a book in which jobs were evicted by force, for others, and both.
func some(t *testing.T) (*Book, plan) {
	t.Helper()
	p := plan{
		{3, 5, false}, {3, 5, false}, {3, 5, true}, {3, 6, true}, {3, 4, false}, {7, 5, true}, {7, 5, true}, {7, 6, false},
		{-2, 5, false}, {-2, -5, true}, {999, 0, false}, {1, 7, false}, {1, 7, false}, {1, 7, false}, {3, 7, true},
	}
	b := New()
	adds(t, b, p...)
	return b, p
}

// P19.1

func TestNew(t *testing.T) {
	b := New()
	isBook(t, b, nil)
	for _, job := range numbers {
		for _, window := range numbers {
			isCount(t, b, nil, job, window)
		}
	}
}

// TestAdd checks that an eviction counts for its job, in its window, as what it is.
func TestAdd(t *testing.T) {
	for _, forced := range []bool{false, true} {
		for _, job := range numbers {
			for _, window := range numbers {
				b := New()
				p := plan{{job, window, forced}}
				adds(t, b, p...)
				isBook(t, b, p)
			}
		}
	}
}

func TestAddTells(t *testing.T) {
	b := New()
	is := func(free, forced int) {
		t.Helper()
		want := Count{Job: 4, Window: 9, Free: free, Forced: forced}
		if got := b.Of(4, 9); got != want {
			t.Errorf("the count is %v; want %v", got, want)
		}
		if got := b.List(); free+forced > 0 && (len(got) != 1 || got[0] != want) {
			t.Errorf("the counts are %v; want %v", got, want)
		}
	}
	is(0, 0)
	adds(t, b, eviction{4, 9, false})
	is(1, 0)
	adds(t, b, eviction{4, 9, true})
	is(1, 1)
	adds(t, b, eviction{4, 9, true})
	is(1, 2)
	adds(t, b, eviction{4, 9, false}, eviction{4, 9, false})
	is(3, 2)
}

// TestAddApart checks that each job has a count of its own in each window.
func TestAddApart(t *testing.T) {
	b := New()
	var p plan
	for i, job := range numbers {
		for k, window := range numbers {
			p = append(p, eviction{job, window, (i+k)%2 == 0})
			if (i+k)%3 == 0 {
				p = append(p, eviction{job, window, i%2 == 0})
			}
		}
	}
	adds(t, b, p...)
	list := b.List()
	if len(list) != len(numbers)*len(numbers) {
		t.Fatalf("there are %d counts", len(list))
	}
	for i, job := range numbers {
		for k, window := range numbers {
			want := p.of(job, window)
			if got := b.Of(job, window); got != want || list[i*len(numbers)+k] != want {
				t.Fatalf("the counts are %v, %v; want %v", got, list[i*len(numbers)+k], want)
			}
		}
	}
}

// TestAddMany checks that no count has a limit, and that each counts on.
func TestAddMany(t *testing.T) {
	const many = 70000
	b := New()
	for i := range many {
		isOnly(t, errors.Join(b.Add(1, 2, false), b.Add(3, 2, true)), nil)
		if got := b.Of(1, 2).Free; got != i+1 {
			t.Fatalf("%d evictions are counted; want %d", got, i+1)
		}
	}
	want := []Count{{Job: 1, Window: 2, Free: many}, {Job: 3, Window: 2, Forced: many}}
	if got := b.List(); !slices.Equal(got, want) {
		t.Errorf("the counts are %v; want %v", got, want)
	}
	for budget, left := range map[int]int{many - 1: 0, many: 0, many + 1: 1, math.MaxInt: math.MaxInt - many, math.MinInt: 0} {
		if got := b.Left(1, 2, budget); got != left {
			t.Errorf("of %d, %d is left; want %d", budget, got, left)
		}
	}
	if got := b.Left(3, 2, 100); got != 100 {
		t.Errorf("%d is left", got)
	}
}

// TestAddManyJobs checks that a book has room for more jobs and windows than there
// can be at one time.
func TestAddManyJobs(t *testing.T) {
	b := New()
	for job := range 1000 {
		for window := range 20 {
			adds(t, b, eviction{job, window, false})
		}
	}
	list := b.List()
	if len(list) != 20000 {
		t.Fatalf("there are %d counts", len(list))
	}
	for i, c := range list {
		if c != (Count{Job: i / 20, Window: i % 20, Free: 1}) {
			t.Fatalf("count %d is %v", i, c)
		}
	}
}

func TestLeft(t *testing.T) {
	for used := range 9 {
		b := New()
		for range used {
			adds(t, b, eviction{6, 2, false})
		}
		for _, budget := range budgets {
			want := 0
			if budget > used {
				want = budget - used
			}
			if got := b.Left(6, 2, budget); got != want {
				t.Errorf("of %d, %d is left behind %d evictions; want %d", budget, got, used, want)
			}
			if got := b.Left(6, 3, budget); got != max(budget, 0) {
				t.Errorf("of %d, %d is left in another window", budget, got)
			}
			if got := b.Left(2, 6, budget); got != max(budget, 0) {
				t.Errorf("of %d, %d is left for another job", budget, got)
			}
		}
	}
}

// TestAsking checks that questions count nothing.
func TestAsking(t *testing.T) {
	b, p := some(t)
	for _, job := range numbers {
		for _, window := range numbers {
			b.Of(job, window)
			b.Left(job, window, 3)
		}
	}
	b.List()
	isBook(t, b, p)
}

func TestNil(t *testing.T) {
	var b *Book
	for _, job := range numbers {
		for _, window := range numbers {
			isOnly(t, b.Add(job, window, false), api.ErrNil)
			isOnly(t, b.Add(job, window, true), api.ErrNil)
			if got := b.Of(job, window); got != (Count{Job: job, Window: window}) {
				t.Errorf("the count is %v", got)
			}
		}
		for _, budget := range budgets {
			if got := b.Left(job, 1, budget); got != max(budget, 0) {
				t.Errorf("of %d, %d is left", budget, got)
			}
		}
		b.Expire(job)
		b.Drop(job)
		if got := b.List(); len(got) != 0 {
			t.Errorf("the counts are %v", got)
		}
	}
}

func TestBooksAreApart(t *testing.T) {
	a, b := New(), New()
	adds(t, a, eviction{1, 2, false})
	adds(t, b, eviction{1, 2, true}, eviction{1, 3, false})
	isBook(t, a, plan{{1, 2, false}})
	isBook(t, b, plan{{1, 2, true}, {1, 3, false}})
	b.Drop(1)
	isBook(t, a, plan{{1, 2, false}})
	isBook(t, b, nil)
	isBook(t, New(), nil)
}

// P19.2

func TestExpire(t *testing.T) {
	for _, window := range append([]int{4, 5, 6, 7, 8, -4, -5, -6}, numbers...) {
		b, p := some(t)
		b.Expire(window)
		isBook(t, b, p.expire(window))
		b.Expire(window)
		isBook(t, b, p.expire(window))
	}
}

// TestExpireEnds checks both sides of each window of the whole range.
func TestExpireEnds(t *testing.T) {
	var p plan
	for i, window := range numbers {
		p = append(p, eviction{i % 3, window, i%2 == 0}, eviction{4, window, i%2 == 1})
	}
	b := New()
	adds(t, b, p...)
	for _, window := range numbers {
		b.Expire(window)
		p = p.expire(window)
		isBook(t, b, p)
		b.Expire(math.MinInt)
		isBook(t, b, p)
	}
	if got := b.List(); len(got) != 2 || got[0].Window != math.MaxInt || got[1].Window != math.MaxInt {
		t.Errorf("the counts are %v", got)
	}
}

// TestExpireTells checks one Expire by numbers.
func TestExpireTells(t *testing.T) {
	b, _ := some(t)
	b.Expire(6)
	want := []Count{{1, 7, 3, 0}, {3, 6, 0, 1}, {3, 7, 0, 1}, {7, 6, 1, 0}}
	if got := b.List(); !slices.Equal(got, want) {
		t.Errorf("the counts are %v; want %v", got, want)
	}
	if b.Of(3, 5) != (Count{Job: 3, Window: 5}) || b.Left(3, 5, 2) != 2 || b.Left(1, 7, 2) != 0 {
		t.Errorf("told is %v", b.Of(3, 5))
	}
}

func TestDrop(t *testing.T) {
	for _, job := range append([]int{3, 7, 5, 999, -2, 259}, numbers...) {
		b, p := some(t)
		b.Drop(job)
		isBook(t, b, p.drop(job))
		b.Drop(job)
		isBook(t, b, p.drop(job))
	}
}

// TestDropEnds checks each job of the whole range, in every window.
func TestDropEnds(t *testing.T) {
	var p plan
	for i, job := range numbers {
		p = append(p, eviction{job, i % 3, i%2 == 0}, eviction{job, -i, i%2 == 1}, eviction{job, math.MaxInt - i, true})
	}
	b := New()
	adds(t, b, p...)
	for i := range numbers {
		// Neither from the one end nor from the other.
		job := numbers[i*7%len(numbers)]
		b.Drop(job)
		p = p.drop(job)
		isBook(t, b, p)
	}
	isBook(t, b, nil)
}

func TestDropTells(t *testing.T) {
	b, _ := some(t)
	b.Drop(3)
	want := []Count{{-2, -5, 0, 1}, {-2, 5, 1, 0}, {1, 7, 3, 0}, {7, 5, 0, 2}, {7, 6, 1, 0}, {999, 0, 1, 0}}
	if got := b.List(); !slices.Equal(got, want) {
		t.Errorf("the counts are %v; want %v", got, want)
	}
	if b.Of(3, 5) != (Count{Job: 3, Window: 5}) || b.Left(3, 5, 2) != 2 {
		t.Errorf("told is %v", b.Of(3, 5))
	}
}

// TestCountAgain checks that what was forgotten is counted from nothing again, in
// a window that has ended, too.
func TestCountAgain(t *testing.T) {
	forgets := []func(b *Book){func(b *Book) { b.Expire(6) }, func(b *Book) { b.Drop(3) }}
	for _, forget := range forgets {
		b := New()
		adds(t, b, eviction{3, 5, false}, eviction{3, 5, false}, eviction{3, 5, true})
		forget(b)
		isBook(t, b, nil)
		adds(t, b, eviction{3, 5, false})
		isBook(t, b, plan{{3, 5, false}})
		adds(t, b, eviction{3, 5, true}, eviction{3, 6, true})
		isBook(t, b, plan{{3, 5, false}, {3, 5, true}, {3, 6, true}})
	}
}

// TestList checks that counts are told in order, in whichever order they came.
func TestList(t *testing.T) {
	var want []Count
	for _, job := range []int{math.MinInt, -256, -1, 0, 1, 2, 10, 1 << 32, math.MaxInt} {
		for _, window := range []int{math.MinInt, -3, 0, 1, 9, 10, 1 << 33, math.MaxInt} {
			// Counts descend where jobs ascend, so that they don't give the order.
			want = append(want, Count{Job: job, Window: window, Free: (80 - len(want)) % 3, Forced: 1 + (80-len(want))%4})
		}
	}
	for seed := range 30 {
		r := rand.New(rand.NewSource(int64(seed)))
		b := New()
		for _, i := range r.Perm(len(want)) {
			for range want[i].Forced {
				adds(t, b, eviction{want[i].Job, want[i].Window, true})
			}
			for range want[i].Free {
				adds(t, b, eviction{want[i].Job, want[i].Window, false})
			}
		}
		if got := b.List(); !slices.Equal(got, want) {
			t.Fatalf("seed %d: the counts are %v", seed, got)
		}
	}
}

func TestListTells(t *testing.T) {
	b, _ := some(t)
	want := []Count{
		{-2, -5, 0, 1}, {-2, 5, 1, 0}, {1, 7, 3, 0}, {3, 4, 1, 0}, {3, 5, 2, 1}, {3, 6, 0, 1}, {3, 7, 0, 1},
		{7, 5, 0, 2}, {7, 6, 1, 0}, {999, 0, 1, 0},
	}
	if got := b.List(); !slices.Equal(got, want) {
		t.Errorf("the counts are %v; want %v", got, want)
	}
}

// TestAnswersAreNew checks that an answer shares no memory with the book or with
// another answer, and isn't changed by calls behind it.
func TestAnswersAreNew(t *testing.T) {
	b, p := some(t)
	list, one := b.List(), b.Of(3, 5)
	want := slices.Clone(list)
	for range 2 {
		other := b.List()
		other = other[:cap(other)]
		for i := range other {
			other[i] = Count{77, 77, 77, 77}
		}
		isBook(t, b, p)
	}
	changed := b.Of(3, 5)
	changed.Job, changed.Window, changed.Free, changed.Forced = 1, 1, 1, 1
	isBook(t, b, p)
	adds(t, b, eviction{3, 5, false}, eviction{-9, 5, true})
	b.Expire(6)
	b.Drop(7)
	if !slices.Equal(list, want) || one != (Count{Job: 3, Window: 5, Free: 2, Forced: 1}) {
		t.Errorf("the answers are now %v, %v", list, one)
	}
}

// P19.3

// TestForced checks that evictions by force leave every budget as it was, whether
// others came before or come behind.
func TestForced(t *testing.T) {
	b, p := some(t)
	for _, e := range p {
		for _, budget := range budgets {
			before := b.Left(e.job, e.window, budget)
			adds(t, b, eviction{e.job, e.window, true})
			if got := b.Left(e.job, e.window, budget); got != before {
				t.Errorf("of %d, %d is left; want %d", budget, got, before)
			}
		}
	}
	adds(t, b, eviction{3, 5, false})
	if got := b.Left(3, 5, 10); got != 7 {
		t.Errorf("%d is left; want 7", got)
	}
}

// P19.1 to P19.3, with random calls.

func TestRandom(t *testing.T) {
	forgotten := 0
	for seed := range 80 {
		r := rand.New(rand.NewSource(int64(seed)))
		b, p := New(), plan(nil)
		// Few jobs and windows meet often; many make long lists.
		jobs, windows := 1+r.Intn(6), 1+r.Intn(8)
		for step := range 250 {
			job, window := r.Intn(jobs)-1, r.Intn(windows)-1
			before := len(p)
			switch r.Intn(40) {
			case 0:
				b.Expire(window)
				p = p.expire(window)
			case 1:
				b.Drop(job)
				p = p.drop(job)
			default:
				e := eviction{job, window, r.Intn(2) == 0}
				adds(t, b, e)
				p = append(p, e)
			}
			forgotten += max(before-len(p), 0)
			isBook(t, b, p)
			if t.Failed() {
				t.Fatalf("seed %d, step %d", seed, step)
			}
		}
	}
	if forgotten < 1000 {
		t.Errorf("only %d evictions were forgotten", forgotten)
	}
}

// The chapter's example.

func TestExample(t *testing.T) {
	b := New()
	adds(t, b, eviction{1, 0, false}, eviction{1, 0, false})
	if got := b.Left(1, 0, 3); got != 1 {
		t.Errorf("%d is left; want 1", got)
	}
}
