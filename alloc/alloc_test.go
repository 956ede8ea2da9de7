package alloc

import (
	"errors"
	"math"
	"math/rand"
	"slices"
	"testing"

	"quitrent/api"
	"quitrent/fit"
)

var allErrors = []error{
	api.ErrArg, api.ErrNil, api.ErrForm, api.ErrOver, api.ErrNone, api.ErrDup, api.ErrFull,
	api.ErrQuota, api.ErrCeil, api.ErrRoom, api.ErrBudget, api.ErrFunds, api.ErrState, api.ErrDown,
}

// The limits, told by numbers of their own.
const (
	topSet  = 999
	topN    = 8
	topSets = 8
	most    = 1099511627776
)

// badSets, badNs, badAts and badAmounts are numbers that can't be, some of them
// numbers that can if bits get lost. No envelope has an index of badAts.
var (
	badSets = []int{
		0, -1, -2, -4, -999, -1000, 1000, 1001, 1003, 65537, 1 << 32, 1<<32 + 1, 1<<32 + 4, -1 << 32,
		math.MaxInt, math.MaxInt - 1, math.MinInt, math.MinInt + 1, math.MinInt + 4,
	}
	badNs = []int{
		0, -1, -2, -8, 9, 10, 16, 257, 65537, 1 << 32, 1<<32 + 1, 1<<32 + 8, -1 << 32,
		math.MaxInt, math.MaxInt - 1, math.MinInt, math.MinInt + 1, math.MinInt + 8,
	}
	badAts = []int{
		-1, -2, -8, 8, 9, 16, 256, 257, 65536, 1 << 32, 1<<32 + 1, 1<<32 + 7, -1 << 32,
		math.MaxInt, math.MaxInt - 1, math.MinInt, math.MinInt + 1, math.MinInt + 2,
	}
	badAmounts = []int{
		-1, -2, -100, -most, -most - 1, most + 1, most + 2, 2 * most, -1 << 32,
		math.MaxInt, math.MaxInt - 1, math.MinInt, math.MinInt + 1, math.MaxInt - most, math.MinInt + most,
	}
)

// extremes are numbers from the whole range, ascending.
var extremes = []int{
	math.MinInt, math.MinInt + 1, -1 << 32, -1000, -1, 0, 1, 2, 7, 1000, 1 << 32, 1<<32 + 1, math.MaxInt - 1, math.MaxInt,
}

// isOnly checks that err is want, no other error of package api, and no Fault.
func isOnly(t *testing.T, err, want error) {
	t.Helper()
	if (err == nil) != (want == nil) {
		t.Errorf("error %v: want %v", err, want)
	}
	for _, e := range allErrors {
		if errors.Is(err, e) != (e == want) {
			t.Errorf("error %v: want %v only", err, want)
		}
	}
	var f *api.Fault
	if errors.As(err, &f) {
		t.Errorf("error %v: has a Fault", err)
	}
}

// done checks calls that must be answered without an error.
func done(t *testing.T, errs ...error) {
	t.Helper()
	for _, err := range errs {
		isOnly(t, err, nil)
	}
}

// task is a task, by its numbers.
func task(job, at int) api.Task { return api.Task{Job: job, At: at} }

// all is n of each resource.
func all(n int) api.Vec { return api.Vec{n, n, n, n} }

// only is n of one resource.
func only(resource, n int) api.Vec {
	var v api.Vec
	v[resource] = n
	return v
}

// with is the vector with another amount of one resource.
func with(v api.Vec, resource, n int) api.Vec {
	v[resource] = n
	return v
}

// within reports whether no amount is below 0 or above what top has.
func within(v, top api.Vec) bool {
	for i, n := range v {
		if n < 0 || n > top[i] {
			return false
		}
	}
	return true
}

// group is what is known of a set.
type group struct {
	set int
	n   int
	has api.Vec
	up  [topN]bool
}

// guest is what is known of a task inside an envelope.
type guest struct {
	t    api.Task
	set  int
	at   int
	need api.Vec
}

// plan is what a book must tell, by plain rules: its sets and their tasks as they
// came.
type plan struct {
	groups []group
	guests []guest
}

// group returns where a set is; the number of sets if there is none.
func (p plan) group(set int) int {
	for i, g := range p.groups {
		if g.set == set {
			return i
		}
	}
	return len(p.groups)
}

// guest returns where a task is; the number of tasks if it is inside no envelope.
func (p plan) guest(t api.Task) int {
	for i, g := range p.guests {
		if g.t == t {
			return i
		}
	}
	return len(p.guests)
}

// precedes reports whether x is ahead of y.
func precedes(x, y api.Task) bool {
	if x.Job == y.Job {
		return x.At < y.At
	}
	return x.Job < y.Job
}

// inside returns the tasks inside an envelope: each is as far behind as tasks
// precede it.
func (p plan) inside(set, at int) []api.Task {
	var list []api.Task
	for _, g := range p.guests {
		if g.set == set && g.at == at {
			list = append(list, g.t)
		}
	}
	sorted := make([]api.Task, len(list))
	for _, t := range list {
		place := 0
		for _, other := range list {
			if precedes(other, t) {
				place++
			}
		}
		sorted[place] = t
	}
	return sorted
}

// left returns what an envelope has, less the demands of the tasks inside.
func (p plan) left(g group, at int) api.Vec {
	v := g.has
	for _, one := range p.guests {
		for i := range v {
			if one.set == g.set && one.at == at {
				v[i] -= one.need[i]
			}
		}
	}
	return v
}

// spots returns the envelopes of a set that are up.
func (p plan) spots(set int) []fit.Spot {
	spots := []fit.Spot{}
	if i := p.group(set); i < len(p.groups) {
		for at := range p.groups[i].n {
			if p.groups[i].up[at] {
				spots = append(spots, fit.Spot{Id: at, Left: p.left(p.groups[i], at)})
			}
		}
	}
	return spots
}

// sets returns each number from the least to the greatest, if there is such a set.
func (p plan) sets() []int {
	list := []int{}
	for set := 1; set <= topSet; set++ {
		if p.group(set) < len(p.groups) {
			list = append(list, set)
		}
	}
	return list
}

// call is a call of one of the methods that change a book.
type call struct {
	kind int
	set  int
	at   int // of Open: the number of envelopes
	v    api.Vec
	t    api.Task
}

const (
	open = iota
	shut
	raise
	fall
	put
	take
	kinds
)

// on makes the call on a book.
func (c call) on(b *Book) ([]api.Task, error) {
	switch c.kind {
	case open:
		return nil, b.Open(c.set, c.at, c.v)
	case shut:
		return nil, b.Close(c.set)
	case raise:
		return nil, b.Raise(c.set, c.at)
	case fall:
		return b.Fall(c.set, c.at)
	case put:
		return nil, b.Put(c.t, c.set, c.at, c.v)
	}
	return nil, b.Take(c.t)
}

// enter enters the call, or tells what is wrong with it.
func (p *plan) enter(c call) ([]api.Task, error) {
	if err := p.wrong(c); err != nil {
		return nil, err
	}
	p.groups, p.guests = slices.Clone(p.groups), slices.Clone(p.guests)
	i, j := p.group(c.set), p.guest(c.t)
	switch c.kind {
	case open:
		p.groups = append(p.groups, group{set: c.set, n: c.at, has: c.v})
	case shut:
		p.groups = slices.Delete(p.groups, i, i+1)
	case raise:
		p.groups[i].up[c.at] = true
	case fall:
		gone := p.inside(c.set, c.at)
		p.groups[i].up[c.at] = false
		p.guests = slices.DeleteFunc(p.guests, func(g guest) bool { return g.set == c.set && g.at == c.at })
		return gone, nil
	case put:
		p.guests = append(p.guests, guest{c.t, c.set, c.at, c.v})
	case take:
		p.guests = slices.Delete(p.guests, j, j+1)
	}
	return nil, nil
}

// wrong tells what is wrong with a call.
func (p plan) wrong(c call) error {
	i, j := p.group(c.set), p.guest(c.t)
	switch {
	case c.kind == open:
		return p.wrongOpen(c)
	case c.kind == take && j == len(p.guests):
		return api.ErrNone
	case c.kind == take:
		return nil
	case i == len(p.groups):
		return api.ErrNone
	}
	g := p.groups[i]
	used := slices.ContainsFunc(p.guests, func(one guest) bool { return one.set == g.set })
	switch {
	case c.kind == shut && used:
		return api.ErrState
	case c.kind == shut:
		return nil
	case c.at < 0 || c.at >= g.n:
		return api.ErrArg
	case c.kind == put && !within(c.v, all(most)):
		return api.ErrArg
	case g.up[c.at] == (c.kind == raise):
		return api.ErrState
	case c.kind == put && j < len(p.guests):
		return api.ErrDup
	case c.kind == put && !within(c.v, p.left(g, c.at)):
		return api.ErrRoom
	}
	return nil
}

// wrongOpen tells what is wrong with a set that is to come.
func (p plan) wrongOpen(c call) error {
	switch {
	case c.set < 1 || c.set > topSet || c.at < 1 || c.at > topN || !within(c.v, all(most)):
		return api.ErrArg
	case p.group(c.set) < len(p.groups):
		return api.ErrDup
	case len(p.groups) == topSets:
		return api.ErrFull
	}
	return nil
}

// isBook checks all that a book tells.
func isBook(t *testing.T, b *Book, p plan) {
	t.Helper()
	sets := p.sets()
	if got := b.Sets(); !slices.Equal(got, sets) {
		t.Errorf("the sets are %v; want %v", got, sets)
	}
	for _, set := range slices.Concat(sets, []int{1, 2, 5, 500, 999}, badSets) {
		if got := b.Spots(set); !slices.Equal(got, p.spots(set)) {
			t.Errorf("set %d has spots %v; want %v", set, got, p.spots(set))
		}
		for _, at := range append([]int{0, 1, 2, 3, 4, 5, 6, 7}, badAts...) {
			if got, want := b.Inside(set, at), p.inside(set, at); !slices.Equal(got, want) {
				t.Errorf("inside envelope %d of set %d are %v; want %v", at, set, got, want)
			}
		}
	}
	for _, g := range p.guests {
		if set, at, ok := b.Where(g.t); set != g.set || at != g.at || !ok {
			t.Errorf("task %v is inside %d %d %v; want %v", g.t, set, at, ok, g)
		}
	}
	for _, n := range extremes {
		for _, one := range []api.Task{task(n, 0), task(n, 1), task(1, n), task(n, n)} {
			if set, at, ok := b.Where(one); p.guest(one) == len(p.guests) && (ok || set != 0 || at != 0) {
				t.Errorf("task %v is inside %d %d %v; want none", one, set, at, ok)
			}
		}
	}
}

// makes makes a call on a book and on its plan, and checks the answers.
func makes(t *testing.T, b *Book, p *plan, c call) {
	t.Helper()
	gone, err := c.on(b)
	wantGone, want := p.enter(c)
	isOnly(t, err, want)
	if !slices.Equal(gone, wantGone) {
		t.Errorf("gone are %v; want %v", gone, wantGone)
	}
	isBook(t, b, *p)
	if t.Failed() {
		t.Fatalf("call %v", c)
	}
}

// does makes calls that must be answered without an error.
func does(t *testing.T, b *Book, p *plan, calls ...call) {
	t.Helper()
	for _, c := range calls {
		if err := p.wrong(c); err != nil {
			t.Fatalf("call %v: %v", c, err)
		}
		makes(t, b, p, c)
	}
}

// fails checks a call that fails, and that it changes nothing.
func fails(t *testing.T, b *Book, p plan, c call, want error) {
	t.Helper()
	gone, err := c.on(b)
	isOnly(t, err, want)
	if len(gone) != 0 {
		t.Errorf("gone are %v beside an error", gone)
	}
	isBook(t, b, p)
	if t.Failed() {
		t.Fatalf("call %v", c)
	}
}

// The calls, each with what it takes.

func opens(set, n int, has api.Vec) call { return call{kind: open, set: set, at: n, v: has} }

func shuts(set int) call { return call{kind: shut, set: set} }

func raises(set, at int) call { return call{kind: raise, set: set, at: at} }

func falls(set, at int) call { return call{kind: fall, set: set, at: at} }

func puts(t api.Task, set, at int, need api.Vec) call { return call{put, set, at, need, t} }

func takes(t api.Task) call { return call{kind: take, t: t} }

// filled returns a book on which calls were made, and its plan.
func filled(t *testing.T, calls ...call) (*Book, plan) {
	t.Helper()
	b, p := New(), plan{}
	does(t, b, &p, calls...)
	return b, p
}

// some returns a book with sets that are empty, and ones with tasks: envelopes 0
// and 2 of set 4 have some, envelope 1 is up and empty, envelope 3 is down. Set 9
// has an envelope 0 with tasks, too, set 999 is up and empty, set 1 is down.
func some(t *testing.T) (*Book, plan) {
	t.Helper()
	return filled(t,
		opens(4, 4, api.Vec{10, 20, 30, 40}), opens(999, 1, all(most)), opens(9, 8, all(7)), opens(1, 2, all(0)),
		raises(4, 2), raises(4, 0), raises(4, 1), raises(9, 0), raises(9, 7), raises(999, 0),
		puts(task(6, 1), 4, 2, api.Vec{1, 2, 3, 4}), puts(task(5, 7), 4, 2, api.Vec{0, 9, 0, 1}), puts(task(6, 0), 4, 2, all(0)),
		puts(task(5, 0), 4, 0, api.Vec{10, 0, 30, 0}), puts(task(-3, 5), 9, 0, all(2)), puts(task(8, -2), 9, 0, all(3)),
	)
}

// full returns a book with as many sets as can be, the numbers 101 and up.
func full(t *testing.T) (*Book, plan) {
	t.Helper()
	b, p := New(), plan{}
	for i := range topSets {
		does(t, b, &p, opens(101+i*3%topSets, 1+i, api.Vec{i, 5, 2 * i, 1000}), raises(101+i*3%topSets, i))
	}
	return b, p
}

// P17.1

func TestNew(t *testing.T) {
	b := New()
	isBook(t, b, plan{})
	for set := -20; set <= 1100; set++ {
		if spots := b.Spots(set); len(spots) != 0 {
			t.Errorf("set %d has %v", set, spots)
		}
	}
}

func TestLimits(t *testing.T) {
	if api.MaxSets != topSets || api.MaxTasks != topN || api.MaxVal != most {
		t.Error("a limit is another")
	}
}

func TestOpen(t *testing.T) {
	b, p := New(), plan{}
	does(t, b, &p,
		opens(7, 2, api.Vec{1, 2, 3, 4}), opens(1, 8, all(most)), opens(999, 1, all(0)), opens(8, 3, only(0, most)),
		opens(998, 8, only(1, most)), opens(2, 7, only(2, most)), opens(500, 1, only(3, most)), opens(6, 4, all(1)),
	)
	if got := b.Sets(); !slices.Equal(got, []int{1, 2, 6, 7, 8, 500, 998, 999}) {
		t.Errorf("the sets are %v", got)
	}
}

// TestOpenOfEachNumber checks that each set has as many envelopes as asked for,
// that they are all down, and that each has the capacity when it is up.
func TestOpenOfEachNumber(t *testing.T) {
	for set := 1; set <= topSet; set++ {
		b, n, has := New(), 1+set%topN, api.Vec{set, 1, 0, most}
		done(t, b.Open(set, n, has))
		if spots, sets := b.Spots(set), b.Sets(); len(spots) != 0 || !slices.Equal(sets, []int{set}) {
			t.Errorf("set %d has %v; the sets are %v", set, spots, sets)
		}
		for at := range n {
			_, err := b.Fall(set, at)
			isOnly(t, err, api.ErrState)
			done(t, b.Raise(set, at))
			spots := b.Spots(set)
			if len(spots) != at+1 || spots[at] != (fit.Spot{Id: at, Left: has}) {
				t.Errorf("set %d has %v", set, spots)
			}
		}
		isOnly(t, b.Raise(set, n), api.ErrArg)
	}
}

// badOpens are sets that are not valid, each for one of its numbers or for all.
func badOpens() []call {
	var list []call
	for _, n := range badSets {
		list = append(list, opens(n, 1, all(0)), opens(n, 8, all(most)), opens(n, 2, api.Vec{1, 2, 3, 4}))
	}
	for _, n := range badNs {
		list = append(list, opens(9, n, all(0)), opens(1, n, all(most)), opens(999, n, api.Vec{1, 2, 3, 4}), opens(101, n, all(1)))
	}
	for _, n := range badAmounts {
		for i := range (api.Vec{}) {
			list = append(list, opens(9, 1, only(i, n)), opens(999, 8, with(all(most), i, n)), opens(101, 2, with(all(1), i, n)))
		}
		list = append(list, opens(1, 1, all(n)), opens(n, n, all(n)))
	}
	return list
}

// TestBadOpens checks that ErrArg is told ahead of ErrDup and ErrFull.
func TestBadOpens(t *testing.T) {
	b, p := some(t)
	fullBook, fullPlan := full(t)
	for _, c := range badOpens() {
		fails(t, New(), plan{}, c, api.ErrArg)
		fails(t, b, p, c, api.ErrArg)
		fails(t, fullBook, fullPlan, c, api.ErrArg)
	}
	does(t, b, &p, opens(101, 1, all(1)))
}

// TestOpenDup checks that a number is taken until the set is closed, and that
// ErrDup is told ahead of ErrFull.
func TestOpenDup(t *testing.T) {
	b, p := some(t)
	fullBook, fullPlan := full(t)
	for _, c := range []call{opens(0, 1, all(0)), opens(0, 8, all(most)), opens(0, 4, api.Vec{10, 20, 30, 40}), opens(0, 2, all(3))} {
		for _, g := range p.groups {
			c.set = g.set
			fails(t, b, p, c, api.ErrDup)
		}
		for _, g := range fullPlan.groups {
			c.set = g.set
			fails(t, fullBook, fullPlan, c, api.ErrDup)
		}
	}
	does(t, b, &p, shuts(1), opens(1, 3, all(5)))
	fails(t, b, p, opens(1, 3, all(5)), api.ErrDup)
}

func TestOpenFull(t *testing.T) {
	b, p := full(t)
	for _, set := range []int{1, 100, 109, 999} {
		fails(t, b, p, opens(set, 1, all(0)), api.ErrFull)
		fails(t, b, p, opens(set, 8, all(most)), api.ErrFull)
	}
	for i, set := range []int{105, 101, 108} {
		does(t, b, &p, shuts(set), opens(1+i, 1, all(1)))
		fails(t, b, p, opens(set, 1, all(1)), api.ErrFull)
	}
}

// TestClose checks that envelopes that are up or down don't matter, and that
// tasks do, in whichever envelope they are.
func TestClose(t *testing.T) {
	b, p := some(t)
	fails(t, b, p, shuts(4), api.ErrState)
	fails(t, b, p, shuts(9), api.ErrState)
	does(t, b, &p, shuts(999))
	fails(t, b, p, shuts(999), api.ErrNone)
	does(t, b, &p, shuts(1), falls(4, 2))
	fails(t, b, p, shuts(4), api.ErrState)
	does(t, b, &p, takes(task(5, 0)), shuts(4))
	fails(t, b, p, shuts(4), api.ErrNone)
	does(t, b, &p, takes(task(-3, 5)))
	fails(t, b, p, shuts(9), api.ErrState)
	does(t, b, &p, takes(task(8, -2)), shuts(9))
	isBook(t, b, plan{})
}

// TestCloseOfOneTask checks each envelope that can hold the only task of a set.
func TestCloseOfOneTask(t *testing.T) {
	for at := range topN {
		b, p := filled(t, opens(5, topN, all(3)), opens(6, topN, all(3)), raises(5, at), raises(6, at), puts(task(1, 1), 5, at, all(0)))
		fails(t, b, p, shuts(5), api.ErrState)
		does(t, b, &p, shuts(6), falls(5, at), shuts(5))
	}
}

// TestClosedLeavesNothing checks that a set that comes again is down and empty,
// with what it has then.
func TestClosedLeavesNothing(t *testing.T) {
	b, p := filled(t, opens(5, 3, all(9)), raises(5, 0), raises(5, 2), puts(task(1, 1), 5, 2, all(4)), takes(task(1, 1)), shuts(5))
	for _, at := range []int{0, 1, 2} {
		fails(t, b, p, raises(5, at), api.ErrNone)
		fails(t, b, p, falls(5, at), api.ErrNone)
		fails(t, b, p, puts(task(1, 1), 5, at, all(0)), api.ErrNone)
	}
	does(t, b, &p, opens(5, 2, all(6)))
	fails(t, b, p, falls(5, 0), api.ErrState)
	fails(t, b, p, raises(5, 2), api.ErrArg)
	does(t, b, &p, raises(5, 0))
	fails(t, b, p, puts(task(1, 1), 5, 0, all(7)), api.ErrRoom)
	does(t, b, &p, puts(task(1, 1), 5, 0, all(6)))
}

func TestRaise(t *testing.T) {
	for n := 1; n <= topN; n++ {
		for at := range n {
			b, p := filled(t, opens(5, n, api.Vec{1, 2, 3, 4}), opens(6, n, all(9)))
			does(t, b, &p, raises(5, at))
			fails(t, b, p, raises(5, at), api.ErrState)
			if spots := b.Spots(5); !slices.Equal(spots, []fit.Spot{{Id: at, Left: api.Vec{1, 2, 3, 4}}}) {
				t.Errorf("set 5 has %v", spots)
			}
			fails(t, b, p, falls(6, at), api.ErrState)
			does(t, b, &p, falls(5, at))
			fails(t, b, p, falls(5, at), api.ErrState)
			does(t, b, &p, raises(5, at))
		}
	}
}

// TestRaiseOfTasks checks that an envelope with tasks is up already, and that a
// call which says so leaves them inside.
func TestRaiseOfTasks(t *testing.T) {
	b, p := some(t)
	for _, c := range []call{raises(4, 0), raises(4, 1), raises(4, 2), raises(9, 0), raises(9, 7), raises(999, 0)} {
		fails(t, b, p, c, api.ErrState)
	}
	for _, c := range []call{falls(4, 3), falls(9, 1), falls(9, 6), falls(1, 0), falls(1, 1)} {
		fails(t, b, p, c, api.ErrState)
	}
}

// TestFall checks that the tasks of one envelope leave, in order, and no others.
func TestFall(t *testing.T) {
	b, p := some(t)
	gone, err := b.Fall(4, 2)
	if want := []api.Task{task(5, 7), task(6, 0), task(6, 1)}; !slices.Equal(gone, want) || err != nil {
		t.Errorf("gone are %v %v; want %v", gone, err, want)
	}
	if want, err := p.enter(falls(4, 2)); !slices.Equal(gone, want) || err != nil {
		t.Errorf("gone are %v; want %v", gone, want)
	}
	isBook(t, b, p)
	for _, one := range gone {
		fails(t, b, p, takes(one), api.ErrNone)
	}
	fails(t, b, p, puts(task(6, 1), 4, 2, all(0)), api.ErrState)
	does(t, b, &p, falls(9, 0), falls(4, 1), falls(999, 0), falls(9, 7), raises(4, 2), puts(task(6, 1), 4, 2, api.Vec{10, 20, 30, 40}))
	does(t, b, &p, puts(task(8, -2), 4, 0, all(0)), falls(4, 0), falls(4, 2), shuts(4), shuts(9))
}

// TestFallenIsEmpty checks that the whole capacity is there again.
func TestFallenIsEmpty(t *testing.T) {
	for i := range (api.Vec{}) {
		has := with(all(5), i, most)
		b, p := filled(t, opens(5, 2, has), raises(5, 0), raises(5, 1), puts(task(1, 1), 5, 1, has), puts(task(2, 1), 5, 0, only(i, 1)))
		does(t, b, &p, falls(5, 1), raises(5, 1), puts(task(1, 1), 5, 1, only(i, most-3)), puts(task(0, 1), 5, 1, only(i, 3)))
		does(t, b, &p, falls(5, 1), raises(5, 1), puts(task(0, 1), 5, 1, has))
	}
}

// TestNoSuchSet checks that ErrNone is told ahead of all else.
func TestNoSuchSet(t *testing.T) {
	b, p := some(t)
	for _, set := range append([]int{2, 3, 5, 8, 10, 998}, badSets...) {
		fails(t, b, p, shuts(set), api.ErrNone)
		fails(t, New(), plan{}, shuts(set), api.ErrNone)
		for _, at := range []int{0, 1, 2, 3, 7, 8, -1, math.MinInt, math.MaxInt} {
			for _, c := range []call{
				raises(set, at), falls(set, at), puts(task(1, 1), set, at, all(0)), puts(task(6, 1), set, at, all(1)),
				puts(task(1, 1), set, at, all(most)), puts(task(6, 1), set, at, all(-1)), puts(task(1, 1), set, at, all(math.MaxInt)),
			} {
				fails(t, b, p, c, api.ErrNone)
				fails(t, New(), plan{}, c, api.ErrNone)
			}
		}
	}
}

// TestNoSuchEnvelope checks that ErrArg is told ahead of ErrState and ErrDup.
func TestNoSuchEnvelope(t *testing.T) {
	b, p := some(t)
	for _, g := range p.groups {
		for _, at := range append([]int{g.n, g.n + 1}, badAts...) {
			for _, c := range []call{
				raises(g.set, at), falls(g.set, at), puts(task(1, 1), g.set, at, all(0)), puts(task(6, 1), g.set, at, all(0)),
				puts(task(1, 1), g.set, at, all(most)), puts(task(6, 1), g.set, at, all(-1)),
			} {
				fails(t, b, p, c, api.ErrArg)
			}
		}
	}
}

func TestNil(t *testing.T) {
	var b *Book
	isBook(t, b, plan{})
	for _, c := range append(badOpens(), opens(1, 1, all(1)), opens(999, 8, all(most)), opens(4, 2, all(0))) {
		for kind := range kinds {
			for _, one := range []api.Task{{}, task(6, 1), task(math.MinInt, math.MaxInt)} {
				c.kind, c.t = kind, one
				fails(t, b, plan{}, c, api.ErrNil)
			}
		}
	}
}

func TestBooksAreApart(t *testing.T) {
	b, p := some(t)
	c, q := full(t)
	does(t, b, &p, opens(101, 1, all(1)), raises(101, 0), puts(task(1, 1), 101, 0, all(1)))
	does(t, c, &q, puts(task(1, 1), 101, 0, only(3, 4)), shuts(103), opens(4, 1, all(1)), raises(4, 0), puts(task(6, 1), 4, 0, all(0)))
	isBook(t, b, p)
	isBook(t, New(), plan{})
	does(t, b, &p, takes(task(1, 1)), takes(task(6, 1)))
	isBook(t, c, q)
}

// P17.2

// TestPut checks that a task can have any numbers.
func TestPut(t *testing.T) {
	b, p := filled(t, opens(3, 2, all(most)), raises(3, 1), opens(4, 1, all(0)), raises(4, 0))
	for i, job := range extremes {
		for j, at := range extremes {
			c := puts(task(job, at), 3, 1, api.Vec{i, j, 0, 1})
			if i%2 == 1 {
				c = puts(task(job, at), 4, 0, all(0))
			}
			gone, err := c.on(b)
			if len(gone) != 0 || err != nil {
				t.Fatalf("put %v: %v", c, err)
			}
			p.enter(c)
		}
	}
	isBook(t, b, p)
	for _, job := range extremes {
		does(t, b, &p, takes(task(job, job)))
		fails(t, b, p, takes(task(job, job)), api.ErrNone)
	}
	does(t, b, &p, falls(3, 1), falls(4, 0))
}

// TestPutRoom checks both sides of what is left, for each resource, with tasks
// inside and without.
func TestPutRoom(t *testing.T) {
	for i := range (api.Vec{}) {
		for _, n := range []int{0, 1, 2, 1000, most - 1, most} {
			for _, used := range []int{0, n / 3, n / 2, n} {
				b, p := filled(t, opens(5, 3, with(all(6), i, n)), raises(5, 1), raises(5, 2))
				does(t, b, &p, puts(task(9, 9), 5, 1, with(all(2), i, used)), puts(task(9, 8), 5, 2, with(all(6), i, n)))
				left := with(all(4), i, n-used)
				for _, over := range []api.Vec{with(left, i, n-used+1), only(i, n-used+1), with(left, i, most), all(most), with(left, 3-i, 5)} {
					if within(over, all(most)) && !within(over, left) {
						fails(t, b, p, puts(task(1, 1), 5, 1, over), api.ErrRoom)
					}
				}
				does(t, b, &p, puts(task(1, 1), 5, 1, left))
				fails(t, b, p, puts(task(1, 2), 5, 1, only(i, 1)), api.ErrRoom)
				does(t, b, &p, puts(task(1, 2), 5, 1, all(0)))
			}
		}
	}
}

// TestBadNeeds checks that ErrArg is told ahead of ErrState, ErrDup and ErrRoom.
func TestBadNeeds(t *testing.T) {
	b, p := some(t)
	for _, n := range badAmounts {
		for i := range (api.Vec{}) {
			for _, need := range []api.Vec{only(i, n), with(all(1), i, n), with(all(most), i, n), all(n)} {
				for _, one := range []api.Task{task(1, 1), task(6, 1), task(5, 0)} {
					fails(t, b, p, puts(one, 4, 2, need), api.ErrArg)
					fails(t, b, p, puts(one, 4, 3, need), api.ErrArg)
					fails(t, b, p, puts(one, 999, 0, need), api.ErrArg)
				}
			}
		}
	}
	does(t, b, &p, puts(task(1, 1), 999, 0, all(most)))
}

// TestPutDown checks that ErrState is told ahead of ErrDup and ErrRoom.
func TestPutDown(t *testing.T) {
	b, p := some(t)
	for _, at := range []call{{set: 4, at: 3}, {set: 9, at: 1}, {set: 9, at: 6}, {set: 1, at: 0}, {set: 1, at: 1}} {
		for _, need := range []api.Vec{all(0), all(1), all(7), all(8), all(most)} {
			fails(t, b, p, puts(task(1, 1), at.set, at.at, need), api.ErrState)
			fails(t, b, p, puts(task(6, 1), at.set, at.at, need), api.ErrState)
		}
	}
}

// TestPutDup checks that a task is inside one envelope of all sets at most, and
// that ErrDup is told ahead of ErrRoom.
func TestPutDup(t *testing.T) {
	b, p := some(t)
	for _, one := range p.guests {
		for _, at := range []call{{set: 4, at: 0}, {set: 4, at: 1}, {set: 4, at: 2}, {set: 9, at: 0}, {set: 9, at: 7}, {set: 999, at: 0}} {
			for _, need := range []api.Vec{all(0), one.need, all(1), all(100), all(most)} {
				fails(t, b, p, puts(one.t, at.set, at.at, need), api.ErrDup)
			}
		}
	}
	for _, one := range p.guests {
		does(t, b, &p, takes(one.t), puts(one.t, 999, 0, all(1)))
		fails(t, b, p, puts(one.t, one.set, one.at, one.need), api.ErrDup)
	}
}

// TestTake checks that what a task needed is there again, and nothing else.
func TestTake(t *testing.T) {
	_, list := some(t)
	for _, one := range list.guests {
		b, p := some(t)
		does(t, b, &p, takes(one.t))
		fails(t, b, p, takes(one.t), api.ErrNone)
		fails(t, b, p, falls(4, 3), api.ErrState)
		does(t, b, &p, puts(one.t, one.set, one.at, one.need))
		does(t, b, &p, takes(one.t), puts(one.t, 4, 1, one.need), takes(one.t))
	}
}

// TestNoSuchTask checks tasks near to those inside.
func TestNoSuchTask(t *testing.T) {
	b, p := some(t)
	for _, n := range extremes {
		for _, one := range []api.Task{task(n, 3), task(3, n), task(6, n), task(n, 7), task(n, n)} {
			if p.guest(one) == len(p.guests) {
				fails(t, b, p, takes(one), api.ErrNone)
				fails(t, New(), plan{}, takes(one), api.ErrNone)
			}
		}
	}
	for _, one := range []api.Task{task(1, 6), task(7, 5), task(5, 1), task(6, 7), task(-2, 8), task(5, -3)} {
		fails(t, b, p, takes(one), api.ErrNone)
	}
}

func TestTold(t *testing.T) {
	b, _ := some(t)
	for set, want := range map[int][]fit.Spot{
		1: nil, 2: nil, 999: {{Id: 0, Left: all(most)}}, 9: {{Id: 0, Left: all(2)}, {Id: 7, Left: all(7)}},
		4: {{Id: 0, Left: api.Vec{0, 20, 0, 40}}, {Id: 1, Left: api.Vec{10, 20, 30, 40}}, {Id: 2, Left: api.Vec{9, 9, 27, 35}}},
	} {
		if got := b.Spots(set); !slices.Equal(got, want) {
			t.Errorf("set %d has %v; want %v", set, got, want)
		}
	}
	if got := b.Inside(4, 2); !slices.Equal(got, []api.Task{task(5, 7), task(6, 0), task(6, 1)}) {
		t.Errorf("inside are %v", got)
	}
	if got := b.Inside(9, 0); !slices.Equal(got, []api.Task{task(-3, 5), task(8, -2)}) {
		t.Errorf("inside are %v", got)
	}
	if got := b.Sets(); !slices.Equal(got, []int{1, 4, 9, 999}) {
		t.Errorf("the sets are %v", got)
	}
	if set, at, ok := b.Where(task(6, 0)); set != 4 || at != 2 || !ok {
		t.Errorf("the task is inside %d %d %v", set, at, ok)
	}
}

// TestOrder checks that tasks are told in order, among numbers from the whole
// range, in whichever order they came.
func TestOrder(t *testing.T) {
	for seed := range 20 {
		var want []api.Task
		for _, job := range extremes {
			for _, at := range extremes {
				want = append(want, task(job, at))
			}
		}
		b := New()
		done(t, b.Open(3, 2, all(0)), b.Raise(3, 1))
		for _, i := range rand.New(rand.NewSource(int64(seed))).Perm(len(want)) {
			done(t, b.Put(want[i], 3, 1, all(0)))
		}
		if got := b.Inside(3, 1); !slices.Equal(got, want) {
			t.Fatalf("seed %d: inside are %v", seed, got)
		}
		if got, err := b.Fall(3, 1); !slices.Equal(got, want) || err != nil {
			t.Fatalf("seed %d: gone are %v %v", seed, got, err)
		}
	}
}

// spoil writes over a list, and over the memory behind it.
func spoil[T any](list []T, v T) {
	list = list[:cap(list)]
	for i := range list {
		list[i] = v
	}
}

// TestAnswersAreNew checks that an answer shares no memory with the book or with
// another answer, and isn't changed by calls behind it.
func TestAnswersAreNew(t *testing.T) {
	b, p := some(t)
	spots, tasks, sets := b.Spots(4), b.Inside(4, 2), b.Sets()
	wantSpots, wantTasks, wantSets := slices.Clone(spots), slices.Clone(tasks), slices.Clone(sets)
	for range 2 {
		spoil(b.Spots(4), fit.Spot{Id: 77, Left: all(7)})
		spoil(b.Inside(4, 2), task(77, 7))
		spoil(b.Sets(), 77)
		isBook(t, b, p)
	}
	gone, err := b.Fall(4, 2)
	p.enter(falls(4, 2))
	if !slices.Equal(gone, wantTasks) || err != nil {
		t.Errorf("gone are %v %v", gone, err)
	}
	spoil(gone, task(77, 7))
	isBook(t, b, p)
	does(t, b, &p, takes(task(5, 0)), raises(4, 2), puts(task(5, 7), 4, 2, all(5)), shuts(1), shuts(999), opens(3, 1, all(3)))
	if !slices.Equal(spots, wantSpots) || !slices.Equal(tasks, wantTasks) || !slices.Equal(sets, wantSets) {
		t.Errorf("the answers are now %v, %v, %v", spots, tasks, sets)
	}
}

// P17.1 to P17.3, with random calls.

// drawn is a vector of random amounts; a few of them can't be.
func drawn(r *rand.Rand, top int) api.Vec {
	var v api.Vec
	for i := range v {
		v[i] = r.Intn(top + 1)
		if r.Intn(100) == 0 {
			v[i] = badAmounts[r.Intn(len(badAmounts))]
		}
	}
	return v
}

// TestRandom makes random calls on a book and on a plan of it. The plan works out
// what is left from the demands, so that it is checked as P17.3 has it.
func TestRandom(t *testing.T) {
	counts := map[error]int{}
	for seed := range 60 {
		r := rand.New(rand.NewSource(int64(seed)))
		b, p := New(), plan{}
		// Few numbers bring calls to sets and tasks that are there; many fill the book.
		sets, tasks := []int{2, 5, 14}[seed%3], []int{2, 4, 7}[seed/3%3]
		top := []int{1, 6, 1000, most}[seed%4]
		for range 500 {
			c := call{r.Intn(kinds), r.Intn(sets + 1), r.Intn(6) - 1, drawn(r, top/3), task(r.Intn(tasks), r.Intn(tasks))}
			switch n := r.Intn(10); {
			case n < 4:
				c.kind = put
			case n < 5:
				c.kind = raise
			case n < 6:
				c.kind = open
			}
			if c.kind == open {
				c.at, c.v = r.Intn(topN+3)-1, drawn(r, top)
			}
			counts[p.wrong(c)]++
			makes(t, b, &p, c)
			once(t, b, p)
			if t.Failed() {
				t.Fatalf("seed %d: call %v", seed, c)
			}
		}
	}
	for _, err := range []error{nil, api.ErrArg, api.ErrNone, api.ErrDup, api.ErrFull, api.ErrState, api.ErrRoom} {
		if counts[err] < 100 {
			t.Errorf("only %d calls were answered with %v", counts[err], err)
		}
	}
}

// once checks that no task is told twice, and that what is left and the demands of
// the tasks inside are the capacity together.
func once(t *testing.T, b *Book, p plan) {
	t.Helper()
	told := map[api.Task]int{}
	for _, g := range p.groups {
		for _, s := range b.Spots(g.set) {
			sum := s.Left
			for _, one := range b.Inside(g.set, s.Id) {
				told[one]++
				for i, n := range p.guests[p.guest(one)].need {
					sum[i] += n
				}
			}
			if sum != g.has || !within(s.Left, g.has) {
				t.Errorf("envelope %d of set %d: left are %v, together %v; want %v", s.Id, g.set, s.Left, sum, g.has)
			}
		}
	}
	for one, n := range told {
		if n != 1 {
			t.Errorf("task %v is told %d times", one, n)
		}
	}
	if len(told) != len(p.guests) {
		t.Errorf("%d tasks are told; want %d", len(told), len(p.guests))
	}
}

// TestMany checks an envelope with many tasks.
func TestMany(t *testing.T) {
	const n = 20000
	b := New()
	done(t, b.Open(1, 2, all(n)), b.Raise(1, 0), b.Raise(1, 1))
	var want []api.Task
	for i := range n {
		done(t, b.Put(task(n-i, i), 1, i%2, api.Vec{1, 0, 2, 0}))
		want = append(want, task(i+1, n-i-1))
	}
	odd := slices.DeleteFunc(slices.Clone(want), func(one api.Task) bool { return one.At%2 == 0 })
	if got := b.Inside(1, 1); !slices.Equal(got, odd) {
		t.Errorf("inside are %d tasks; want %d", len(got), len(odd))
	}
	isOnly(t, b.Put(task(0, 0), 1, 0, only(2, 1)), api.ErrRoom)
	for _, one := range odd {
		done(t, b.Take(one))
	}
	if got := b.Spots(1); !slices.Equal(got, []fit.Spot{{Id: 0, Left: api.Vec{n / 2, n, 0, n}}, {Id: 1, Left: all(n)}}) {
		t.Errorf("left are %v", got)
	}
	if gone, err := b.Fall(1, 0); len(gone) != n/2 || err != nil {
		t.Errorf("gone are %d %v", len(gone), err)
	}
	done(t, b.Close(1))
}

// The chapter's example.

func TestExample(t *testing.T) {
	b := New()
	done(t, b.Open(3, 2, api.Vec{8}), b.Raise(3, 0), b.Put(task(1, 0), 3, 0, api.Vec{5}))
	if got := b.Spots(3); !slices.Equal(got, []fit.Spot{{Id: 0, Left: api.Vec{3}}}) {
		t.Errorf("left are %v", got)
	}
}
