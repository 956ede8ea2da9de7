package victim

import (
	"errors"
	"math"
	"math/rand"
	"slices"
	"testing"

	"quitrent/api"
)

var allErrors = []error{
	api.ErrArg, api.ErrNil, api.ErrForm, api.ErrOver, api.ErrNone, api.ErrDup, api.ErrFull,
	api.ErrQuota, api.ErrCeil, api.ErrRoom, api.ErrBudget, api.ErrFunds, api.ErrState, api.ErrDown,
}

// most is the greatest amount of a resource, told by a number of its own.
const most = 1099511627776

// badAmounts are numbers that are no amounts, some of them amounts if bits get
// lost.
var badAmounts = []int{
	-1, -2, -100, -most, -most - 1, most + 1, most + 2, 2 * most, 1<<62 + 5, -1 << 32,
	math.MaxInt, math.MaxInt - 1, math.MinInt, math.MinInt + 1, math.MaxInt - most, math.MinInt + most,
}

// extremes are numbers from the whole range, ascending; some of them are the same
// if bits get lost, and some have a difference that wraps round.
var extremes = []int{
	math.MinInt, math.MinInt + 1, -1 << 32, -256, -2, -1, 0, 1, 2, 3, 255, 256, 257, 1 << 31, 1 << 32, 1<<32 + 1,
	math.MaxInt - 1, math.MaxInt,
}

// vecOf is n of each resource.
func vecOf(n int) api.Vec { return api.Vec{n, n, n, n} }

// with returns v with another amount of one resource.
func with(v api.Vec, resource, n int) api.Vec {
	v[resource] = n
	return v
}

// guest is a task that is no envelope.
func guest(job, at, band int, need api.Vec) Guest {
	return Guest{Task: api.Task{Job: job, At: at}, Band: band, Need: need}
}

// envelope is a task that is one.
func envelope(job, at, band int, need api.Vec) Guest {
	return Guest{Task: api.Task{Job: job, At: at}, Band: band, Env: true, Need: need}
}

// task is one of a job's.
func task(job, at int) api.Task { return api.Task{Job: job, At: at} }

// much is an allowance of 99 for each of some jobs.
func much(jobs ...int) []Spare {
	var list []Spare
	for _, job := range jobs {
		list = append(list, Spare{job, 99})
	}
	return list
}

// isOnly checks that err is want, and no other error of package api.
func isOnly(t *testing.T, err, want error) {
	t.Helper()
	if (err == nil) != (want == nil) {
		t.Errorf("error %v: want %v", err, want)
	}
	for _, e := range allErrors {
		if errors.Is(err, e) != (e == want) {
			t.Errorf("error %v: want %v only", err, want)
		}
	}
}

// isPlain checks an error for which the chapter specifies no Fault, or nil.
func isPlain(t *testing.T, err, want error) {
	t.Helper()
	isOnly(t, err, want)
	var f *api.Fault
	if errors.As(err, &f) {
		t.Errorf("error %v: has a Fault", err)
	}
}

// isFault checks an error of All: a Fault at a demand.
func isFault(t *testing.T, err error, at int, want error) {
	t.Helper()
	isOnly(t, err, want)
	var f *api.Fault
	if !errors.As(err, &f) || f.Op != "place" || f.At != at || !errors.Is(f.Err, want) {
		t.Errorf("error %v: want a Fault place %d", err, at)
	}
}

// state is what the hosts and the allowances are, told by plain rules.
type state struct {
	hosts []Host
	spare []Spare
}

// copied returns a state that shares no memory with the arguments.
func copied(hosts []Host, spare []Spare) *state {
	s := &state{slices.Clone(hosts), slices.Clone(spare)}
	for i := range s.hosts {
		s.hosts[i].On = slices.Clone(s.hosts[i].On)
	}
	return s
}

// before reports whether a guest goes ahead of another one.
func before(a, b Guest) bool {
	if a.Band != b.Band {
		return a.Band > b.Band
	}
	if a.Task.Job != b.Task.Job {
		return a.Task.Job > b.Task.Job
	}
	return a.Task.At > b.Task.At
}

// line returns where the candidates of a host are: each time the first of those
// that no other one goes ahead of.
func line(h Host, band int) []int {
	var places []int
	for {
		next := -1
		for i, g := range h.On {
			can := g.Band > band && !g.Env && !slices.Contains(places, i)
			if can && (next < 0 || before(g, h.On[next])) {
				next = i
			}
		}
		if next < 0 {
			return places
		}
		places = append(places, next)
	}
}

// fits reports whether each amount of a demand is there.
func fits(need, left api.Vec) bool {
	for i := range need {
		if need[i] > left[i] {
			return false
		}
	}
	return true
}

// plus returns the sum of two vectors, at most what a vector can have.
func plus(a, b api.Vec) api.Vec {
	for i := range a {
		a[i] += b[i]
		if a[i] > most {
			a[i] = most
		}
	}
	return a
}

// minus returns a less b.
func minus(a, b api.Vec) api.Vec {
	for i := range a {
		a[i] -= b[i]
	}
	return a
}

// isVec reports whether each amount can be.
func isVec(v api.Vec) bool { return slices.Min(v[:]) >= 0 && slices.Max(v[:]) <= most }

// allowance returns how many tasks of a job may go.
func (s *state) allowance(job int) int {
	for _, one := range s.spare {
		if one.Job == job {
			return max(one.Left, 0)
		}
	}
	return 0
}

// victims returns where the victims of a host are; false if there are too few.
func (s *state) victims(h Host, need api.Vec, band int) ([]int, bool) {
	var out []int
	for _, i := range line(h, band) {
		if fits(need, h.Left) {
			break
		}
		job, same := h.On[i].Task.Job, 0
		for _, k := range out {
			if h.On[k].Task.Job == job {
				same++
			}
		}
		if same < s.allowance(job) {
			out = append(out, i)
			h.Left = plus(h.Left, h.On[i].Need)
		}
	}
	return out, fits(need, h.Left)
}

// good reports whether the hosts are valid.
func (s *state) good() bool {
	for i, h := range s.hosts {
		for _, other := range s.hosts[:i] {
			if other.Id == h.Id {
				return false
			}
		}
		for _, g := range h.On {
			if !isVec(g.Need) {
				return false
			}
		}
		if !isVec(h.Left) {
			return false
		}
	}
	return true
}

// pick returns the index of the host that is chosen, and where its victims are.
func (s *state) pick(need api.Vec, band int) (int, []int, error) {
	if !s.good() || !isVec(need) {
		return -1, nil, api.ErrArg
	}
	at := -1
	for i, h := range s.hosts {
		if !fits(need, h.Left) {
			continue
		}
		if at < 0 {
			at = i
			continue
		}
		mine, other := minus(h.Left, need), minus(s.hosts[at].Left, need)
		if c := slices.Compare(mine[:], other[:]); c < 0 || c == 0 && h.Id < s.hosts[at].Id {
			at = i
		}
	}
	if at >= 0 {
		return at, nil, nil
	}
	return s.evict(need, band)
}

// evict returns the same where the demand fits on no host as it is.
func (s *state) evict(need api.Vec, band int) (int, []int, error) {
	at, least, err := -1, []int(nil), api.ErrRoom
	for i, h := range s.hosts {
		all := h.Left
		for _, k := range line(h, band) {
			all = plus(all, h.On[k].Need)
		}
		if fits(need, all) {
			err = api.ErrBudget
		}
		out, ok := s.victims(h, need, band)
		if !ok {
			continue
		}
		if at < 0 || len(out) < len(least) || len(out) == len(least) && h.Id < s.hosts[at].Id {
			at, least = i, out
		}
	}
	if at >= 0 {
		return at, least, nil
	}
	return -1, nil, err
}

// choice returns the choice that an answer of pick is.
func (s *state) choice(at int, out []int) Choice {
	c := Choice{Host: s.hosts[at].Id}
	for _, i := range out {
		c.Out = append(c.Out, s.hosts[at].On[i].Task)
	}
	return c
}

// apply lets the victims go, and the demand come.
func (s *state) apply(at int, out []int, need api.Vec) {
	h := &s.hosts[at]
	var on []Guest
	for i, g := range h.On {
		if !slices.Contains(out, i) {
			on = append(on, g)
			continue
		}
		h.Left = plus(h.Left, g.Need)
		first := slices.IndexFunc(s.spare, func(one Spare) bool { return one.Job == g.Task.Job })
		s.spare[first].Left--
	}
	h.On = on
	h.Left = minus(h.Left, need)
}

// all returns the choices and -1; the index and the error of the first demand that
// can't be placed, if there is one.
func (s *state) all(needs []api.Vec, band int) ([]Choice, int, error) {
	var list []Choice
	for i, need := range needs {
		at, out, err := s.pick(need, band)
		if err != nil {
			return nil, i, err
		}
		list = append(list, s.choice(at, out))
		s.apply(at, out, need)
	}
	return list, -1, nil
}

// same reports whether two choices are the same; an empty list is as good as nil.
func same(a, b Choice) bool { return a.Host == b.Host && slices.Equal(a.Out, b.Out) }

// marked returns a copy of a list with more behind it.
func marked[T any](list []T, mark T) []T {
	return slices.Concat(list, []T{mark, mark, mark})[:len(list)]
}

var (
	markGuest = guest(77, 77, 77, vecOf(77))
	markHost  = Host{Id: 77, Left: vecOf(77)}
	markSpare = Spare{77, 77}
	markNeed  = vecOf(77)
)

// loan is arguments that are copies with more behind each list.
type loan struct {
	hosts []Host
	needs []api.Vec
	spare []Spare
}

// lent returns arguments to call with.
func lent(hosts []Host, needs []api.Vec, spare []Spare) loan {
	l := loan{marked(hosts, markHost), marked(needs, markNeed), marked(spare, markSpare)}
	for i := range l.hosts {
		l.hosts[i].On = marked(l.hosts[i].On, markGuest)
	}
	return l
}

// isUntouched checks that none of a loan was changed.
func (l loan) isUntouched(t *testing.T, hosts []Host, needs []api.Vec, spare []Spare) {
	t.Helper()
	ok := isMarked(l.needs, needs, markNeed) && isMarked(l.spare, spare, markSpare) && len(l.hosts) == len(hosts)
	for i, h := range l.hosts {
		was := hosts[i]
		ok = ok && h.Id == was.Id && h.Left == was.Left && isMarked(h.On, was.On, markGuest)
	}
	for _, h := range l.hosts[:len(hosts)+3][len(hosts):] {
		ok = ok && h.Id == markHost.Id && h.Left == markHost.Left && h.On == nil
	}
	if !ok {
		t.Errorf("the arguments are now %v, %v, %v; were %v, %v, %v", l.hosts, l.needs, l.spare, hosts, needs, spare)
	}
}

// isMarked reports whether a copy with more behind it is as it was.
func isMarked[T comparable](list, was []T, mark T) bool {
	return slices.Equal(list[:len(was)+3], slices.Concat(was, []T{mark, mark, mark}))
}

// isLine checks an answer of Line.
func isLine(t *testing.T, h Host, band int) {
	t.Helper()
	l := lent([]Host{h}, nil, nil)
	got := Line(l.hosts[0], band)
	l.isUntouched(t, []Host{h}, nil, nil)
	var want []Guest
	for _, i := range line(h, band) {
		want = append(want, h.On[i])
	}
	if !slices.Equal(got, want) {
		t.Errorf("the line of %v for %d is %v; want %v", h, band, got, want)
	}
}

// isPick checks an answer of Pick, and returns its error.
func isPick(t *testing.T, hosts []Host, need api.Vec, band int, spare []Spare) error {
	t.Helper()
	l := lent(hosts, nil, spare)
	got, err := Pick(l.hosts, need, band, l.spare)
	l.isUntouched(t, hosts, nil, spare)
	s := copied(hosts, spare)
	at, out, wantErr := s.pick(need, band)
	want := Choice{}
	if wantErr == nil {
		want = s.choice(at, out)
	}
	isPlain(t, err, wantErr)
	if !same(got, want) {
		t.Errorf("the choice is %v; want %v", got, want)
	}
	if t.Failed() {
		t.Fatalf("Pick(%v, %v, %d, %v)", hosts, need, band, spare)
	}
	return err
}

// isAll checks an answer of All, and returns the choices.
func isAll(t *testing.T, hosts []Host, needs []api.Vec, band int, spare []Spare) []Choice {
	t.Helper()
	l := lent(hosts, needs, spare)
	got, err := All(l.hosts, l.needs, band, l.spare)
	l.isUntouched(t, hosts, needs, spare)
	want, at, wantErr := copied(hosts, spare).all(needs, band)
	if wantErr == nil {
		isPlain(t, err, nil)
	} else {
		isFault(t, err, at, wantErr)
	}
	if !slices.EqualFunc(got, want, same) {
		t.Errorf("the choices are %v; want %v", got, want)
	}
	if t.Failed() {
		t.Fatalf("All(%v, %v, %d, %v)", hosts, needs, band, spare)
	}
	return got
}

// isEach checks all three functions with the same arguments.
func isEach(t *testing.T, hosts []Host, needs []api.Vec, band int, spare []Spare) {
	t.Helper()
	for _, h := range hosts {
		isLine(t, h, band)
	}
	for _, need := range needs {
		isPick(t, hosts, need, band, spare)
	}
	isAll(t, hosts, needs, band, spare)
}

// chosen checks that Pick chooses a host and victims, told by numbers.
func chosen(t *testing.T, hosts []Host, need api.Vec, band int, spare []Spare, host int, out ...api.Task) {
	t.Helper()
	got, err := Pick(hosts, need, band, spare)
	isPlain(t, err, nil)
	if want := (Choice{host, out}); !same(got, want) {
		t.Errorf("the choice for %v is %v; want %v", need, got, want)
	}
	isEach(t, hosts, []api.Vec{need}, band, spare)
}

// refused checks that Pick and All return an error, and nothing beside it.
func refused(t *testing.T, hosts []Host, need api.Vec, band int, spare []Spare, want error) {
	t.Helper()
	got, err := Pick(hosts, need, band, spare)
	isPlain(t, err, want)
	if got.Host != 0 || got.Out != nil {
		t.Errorf("the choice is %v beside the error %v", got, err)
	}
	list, err := All(hosts, []api.Vec{need, need}, band, spare)
	isFault(t, err, 0, want)
	if len(list) != 0 {
		t.Errorf("the choices are %v beside the error %v", list, err)
	}
	if t.Failed() {
		t.Fatalf("Pick(%v, %v, %d, %v)", hosts, need, band, spare)
	}
}

// some returns hosts, not ascending, with guests of all kinds.
func some() []Host {
	return []Host{
		{9, api.Vec{1, 1, 0, 0}, []Guest{
			guest(5, 0, 1, api.Vec{3, 1, 0, 0}), guest(6, 1, 2, api.Vec{1, 1, 0, 0}), guest(4, 0, 0, api.Vec{9, 9, 0, 0}),
			guest(6, 0, 2, api.Vec{1, 0, 0, 0}), guest(5, 3, 1, api.Vec{2, 2, 0, 0}),
		}},
		{3, api.Vec{2, 0, 0, 0}, []Guest{
			envelope(8, 0, 2, vecOf(9)), guest(7, 1, 1, api.Vec{3, 3, 0, 0}), guest(6, 2, 2, api.Vec{0, 0, 0, 0}),
		}},
		{-4, vecOf(0), nil},
		{7, vecOf(4), []Guest{envelope(8, 1, 1, vecOf(4))}},
	}
}

// P20.1

func TestLine(t *testing.T) {
	h := some()[0]
	for band, want := range map[int][]api.Task{
		-1: {task(6, 1), task(6, 0), task(5, 3), task(5, 0), task(4, 0)},
		0:  {task(6, 1), task(6, 0), task(5, 3), task(5, 0)},
		1:  {task(6, 1), task(6, 0)},
		2:  nil,
		3:  nil,
	} {
		var got []api.Task
		for _, g := range Line(h, band) {
			got = append(got, g.Task)
		}
		if !slices.Equal(got, want) {
			t.Errorf("the line for %d is %v; want %v", band, got, want)
		}
	}
	for _, h := range append(some(), Host{}, Host{Id: 1, On: []Guest{}}) {
		for _, band := range extremes {
			isLine(t, h, band)
		}
	}
}

// TestLineOrder checks that the greater band, job and place in a job go first, in
// that order, for numbers from the whole range and however the guests stand.
func TestLineOrder(t *testing.T) {
	var want []Guest
	for _, band := range slices.Backward(extremes[1:]) {
		for _, job := range slices.Backward(extremes) {
			for _, at := range slices.Backward(extremes) {
				want = append(want, guest(job, at, band, vecOf(1)))
			}
		}
	}
	r := rand.New(rand.NewSource(1))
	for range 3 {
		var on []Guest
		for _, i := range r.Perm(len(want)) {
			on = append(on, want[i])
		}
		if got := Line(Host{On: on}, math.MinInt); !slices.Equal(got, want) {
			t.Error("the line is not in order")
		}
	}
}

// TestLineTies checks that guests with the same band and task stay in order, also
// where there are many, and keep what they need.
func TestLineTies(t *testing.T) {
	var on, want []Guest
	for i := range 300 {
		on = append(on, guest(i%3, 0, 1, vecOf(i)), envelope(2, 0, 1, vecOf(i)))
	}
	for _, job := range []int{2, 1, 0} {
		for i := job; i < 300; i += 3 {
			want = append(want, guest(job, 0, 1, vecOf(i)))
		}
	}
	if got := Line(Host{On: on}, 0); !slices.Equal(got, want) {
		t.Errorf("the line is %v", got)
	}
}

// TestLineBands checks both sides of each band.
func TestLineBands(t *testing.T) {
	for _, band := range extremes {
		for _, other := range extremes {
			h := Host{On: []Guest{guest(1, 0, other, vecOf(1)), envelope(1, 1, other, vecOf(1))}}
			if got := Line(h, band); (len(got) == 1) != (other > band) || len(got) > 1 {
				t.Errorf("the line of %v for %d is %v", h, band, got)
			}
		}
	}
}

// TestLineOfAnyHost checks that the line asks for no valid amounts.
func TestLineOfAnyHost(t *testing.T) {
	for _, n := range badAmounts {
		g := guest(1, 0, 1, vecOf(n))
		if got := Line(Host{n, vecOf(n), []Guest{g}}, 0); !slices.Equal(got, []Guest{g}) {
			t.Errorf("the line is %v", got)
		}
	}
}

// TestNobodyGoes checks that a task for which there is room evicts nobody, and goes
// where the least remains.
func TestNobodyGoes(t *testing.T) {
	hosts, spare := some(), much(4, 5, 6, 7, 8)
	chosen(t, hosts, api.Vec{1, 0, 0, 0}, 0, spare, 9)
	chosen(t, hosts, api.Vec{0, 0, 0, 0}, 0, spare, -4)
	chosen(t, hosts, api.Vec{2, 0, 0, 0}, 0, spare, 3)
	chosen(t, hosts, api.Vec{2, 1, 0, 0}, 0, spare, 7)
	chosen(t, hosts, vecOf(4), 0, spare, 7)
	chosen(t, hosts, vecOf(4), math.MinInt, spare, 7)
	chosen(t, hosts, vecOf(4), math.MaxInt, nil, 7)
	// Of the same room, the lowest Id.
	for _, ids := range [][]int{{5, 2, 8}, {2, 5, 8}, {8, 5, 2}, {8, 2, 5}} {
		var hosts []Host
		for _, id := range ids {
			hosts = append(hosts, Host{id, vecOf(3), []Guest{guest(1, id, 1, vecOf(5))}})
		}
		chosen(t, hosts, vecOf(3), 0, much(1), 2)
		chosen(t, append(hosts, Host{9, api.Vec{3, 3, 3, 2}, nil}), api.Vec{3, 3, 3, 1}, 0, much(1), 9)
	}
}

// TestFewest checks that the host where the fewest go is chosen, and of these the
// one with the lowest Id.
func TestFewest(t *testing.T) {
	hosts, spare := some(), much(4, 5, 6, 7, 8)
	chosen(t, hosts, api.Vec{5, 0, 0, 0}, 0, spare, 3, task(6, 2), task(7, 1))
	chosen(t, hosts, api.Vec{5, 1, 0, 0}, 0, spare, 3, task(6, 2), task(7, 1))
	chosen(t, hosts, api.Vec{5, 4, 0, 0}, 0, spare, 9, task(6, 1), task(6, 0), task(5, 3))
	chosen(t, hosts, api.Vec{6, 0, 0, 0}, 0, spare, 9, task(6, 1), task(6, 0), task(5, 3), task(5, 0))
	chosen(t, hosts, api.Vec{6, 0, 0, 0}, -1, spare, 9, task(6, 1), task(6, 0), task(5, 3), task(5, 0))
	for i, ids := range [][]int{{5, 2, 8}, {2, 5, 8}, {8, 5, 2}, {8, 2, 5}, {math.MaxInt, math.MinInt, -1}} {
		var hosts []Host
		for _, id := range ids {
			hosts = append(hosts, Host{id, api.Vec{1, 0, 0, 0}, []Guest{guest(1, id, 1, vecOf(5))}})
		}
		chosen(t, hosts, vecOf(4), 0, much(1), slices.Min(ids), task(1, slices.Min(ids)))
		// More of them go where the least would remain, and the lowest Id is.
		low := Host{math.MinInt + 1, vecOf(1), []Guest{guest(1, 0, 1, vecOf(1)), guest(1, 1, 1, vecOf(2))}}
		if i < 4 {
			chosen(t, slices.Insert(hosts, i%4, low), vecOf(4), 0, much(1), 2, task(1, 2))
		}
	}
}

// TestOnlyAsMany checks that nobody goes behind the one who made room enough, and
// that those who make no room go, too, if it is their turn.
func TestOnlyAsMany(t *testing.T) {
	var on []Guest
	for i := range 6 {
		on = append(on, guest(1, i, 1, vecOf(1)))
	}
	hosts := []Host{{2, vecOf(0), on}}
	var out []api.Task
	for n := range 6 {
		chosen(t, hosts, vecOf(n), 0, much(1), 2, out...)
		out = append(out, task(1, 5-n))
	}
	for i := range (api.Vec{}) {
		need := with(vecOf(0), i, 1)
		on := []Guest{guest(1, 9, 1, vecOf(0)), guest(1, 8, 1, with(vecOf(9), i, 0)), guest(1, 7, 1, need), guest(1, 6, 1, need)}
		chosen(t, []Host{{2, vecOf(0), on}}, need, 0, much(1), 2, task(1, 9), task(1, 8), task(1, 7))
	}
}

// TestPassedOver checks that those whose job has no allowance left are passed over,
// and that others go in their place.
func TestPassedOver(t *testing.T) {
	on := []Guest{
		guest(5, 0, 1, vecOf(2)), guest(5, 1, 1, vecOf(2)), guest(6, 0, 1, vecOf(2)), guest(6, 1, 1, vecOf(2)),
		guest(6, 2, 2, vecOf(2)), guest(7, 0, 1, vecOf(2)),
	}
	hosts := []Host{{1, vecOf(0), on}}
	for _, c := range []struct {
		spare []Spare
		need  int
		out   []api.Task
	}{
		{much(6, 7), 8, []api.Task{task(6, 2), task(7, 0), task(6, 1), task(6, 0)}},
		{[]Spare{{6, 1}, {7, 1}, {5, 2}}, 8, []api.Task{task(6, 2), task(7, 0), task(5, 1), task(5, 0)}},
		{[]Spare{{6, 2}, {7, 0}, {5, 2}}, 8, []api.Task{task(6, 2), task(6, 1), task(5, 1), task(5, 0)}},
		{[]Spare{{7, 1}, {6, 0}, {5, 1}}, 4, []api.Task{task(7, 0), task(5, 1)}},
		{[]Spare{{5, 1}}, 2, []api.Task{task(5, 1)}},
		{[]Spare{{7, math.MaxInt}, {5, 1}}, 4, []api.Task{task(7, 0), task(5, 1)}},
	} {
		chosen(t, hosts, vecOf(c.need), 0, c.spare, 1, c.out...)
		refused(t, hosts, vecOf(c.need), 0, c.spare[1:], api.ErrBudget)
		refused(t, hosts, vecOf(13), 0, c.spare, api.ErrRoom)
	}
}

// TestAllowance checks that the first element with a job counts, and that below 0,
// and without one, nobody of it may go.
func TestAllowance(t *testing.T) {
	hosts := []Host{{1, vecOf(0), []Guest{guest(5, 0, 1, vecOf(2)), guest(5, 1, 1, vecOf(2))}}}
	for _, left := range extremes {
		for _, spare := range [][]Spare{
			{{5, left}}, {{5, left}, {5, 9}}, {{5, left}, {5, 0}}, {{5, left}, {5, -1}, {5, 3}}, {{4, 7}, {6, 0}, {5, left}, {5, 1}},
			{{5 + 1<<32, 7}, {-5, 0}, {5, left}, {5, 1}, {4, 9}},
		} {
			if left >= 1 {
				chosen(t, hosts, vecOf(2), 0, spare, 1, task(5, 1))
			} else {
				refused(t, hosts, vecOf(2), 0, spare, api.ErrBudget)
			}
			if left >= 2 {
				chosen(t, hosts, vecOf(4), 0, spare, 1, task(5, 1), task(5, 0))
			} else {
				refused(t, hosts, vecOf(4), 0, spare, api.ErrBudget)
			}
			refused(t, hosts, vecOf(5), 0, spare, api.ErrRoom)
		}
	}
	for _, spare := range [][]Spare{nil, {}, {{4, 9}}, {{6, 9}, {-5, 9}, {5 + 1<<32, 9}}} {
		refused(t, hosts, vecOf(2), 0, spare, api.ErrBudget)
		refused(t, hosts, vecOf(5), 0, spare, api.ErrRoom)
		chosen(t, hosts, vecOf(0), 0, spare, 1)
	}
}

// TestAllowanceOfAnyJob checks that each number is a job of its own.
func TestAllowanceOfAnyJob(t *testing.T) {
	for i, job := range extremes {
		for k, other := range extremes {
			hosts := []Host{{1, vecOf(0), []Guest{guest(job, other, 1, vecOf(2))}}}
			if i == k {
				chosen(t, hosts, vecOf(2), 0, []Spare{{other, 1}}, 1, task(job, other))
			} else {
				refused(t, hosts, vecOf(2), 0, []Spare{{other, 1}}, api.ErrBudget)
			}
		}
	}
}

// TestAllowanceOfAHost checks that victims count for each host apart, as only one
// is chosen.
func TestAllowanceOfAHost(t *testing.T) {
	hosts := []Host{
		{1, vecOf(0), []Guest{guest(5, 0, 1, vecOf(1)), guest(5, 1, 1, vecOf(1))}},
		{2, vecOf(0), []Guest{guest(5, 2, 1, vecOf(1)), guest(5, 3, 1, vecOf(1))}},
		{3, vecOf(1), []Guest{guest(5, 4, 1, vecOf(1)), guest(5, 5, 1, vecOf(1))}},
	}
	chosen(t, hosts, vecOf(3), 0, []Spare{{5, 2}}, 3, task(5, 5), task(5, 4))
	chosen(t, hosts, vecOf(2), 0, []Spare{{5, 2}}, 3, task(5, 5))
	chosen(t, hosts[:2], vecOf(2), 0, []Spare{{5, 2}}, 1, task(5, 1), task(5, 0))
	refused(t, hosts, vecOf(3), 0, []Spare{{5, 1}}, api.ErrBudget)
}

// TestNoRoom checks that there is no room where only those who may never go are in
// the way: guests of the same or a higher band, and envelopes.
func TestNoRoom(t *testing.T) {
	hosts := []Host{{1, vecOf(0), []Guest{guest(5, 0, 1, vecOf(9)), envelope(6, 0, 2, vecOf(9))}}, {2, vecOf(1), nil}}
	chosen(t, hosts, vecOf(9), 0, much(5, 6), 1, task(5, 0))
	refused(t, hosts, vecOf(9), 0, much(6), api.ErrBudget)
	for _, spare := range [][]Spare{nil, much(5, 6)} {
		refused(t, hosts, vecOf(10), 0, spare, api.ErrRoom)
		for _, band := range []int{1, 2, 3, math.MaxInt} {
			refused(t, hosts, vecOf(2), band, spare, api.ErrRoom)
			chosen(t, hosts, vecOf(1), band, spare, 2)
		}
		for _, none := range [][]Host{nil, {}} {
			refused(t, none, vecOf(0), 0, spare, api.ErrRoom)
			refused(t, none, vecOf(-1), 0, spare, api.ErrArg)
		}
	}
}

// TestBudgetOfOneHost checks that one host with room but for the allowances is
// enough for ErrBudget, wherever it stands.
func TestBudgetOfOneHost(t *testing.T) {
	full := Host{1, vecOf(2), []Guest{guest(5, 0, 0, vecOf(9))}}
	could := Host{2, vecOf(2), []Guest{guest(6, 0, 1, vecOf(1)), guest(6, 1, 1, vecOf(1))}}
	small := Host{3, vecOf(0), []Guest{guest(7, 0, 1, vecOf(3))}}
	for _, hosts := range [][]Host{{full, could, small}, {could, small, full}, {small, full, could}} {
		refused(t, hosts, vecOf(4), 0, []Spare{{6, 1}, {7, 9}}, api.ErrBudget)
		refused(t, hosts, vecOf(5), 0, []Spare{{6, 1}, {7, 9}}, api.ErrRoom)
		chosen(t, hosts, vecOf(4), 0, []Spare{{6, 2}, {7, 9}}, 2, task(6, 1), task(6, 0))
		chosen(t, hosts, vecOf(3), 0, []Spare{{6, 2}, {7, 9}}, 2, task(6, 1))
		chosen(t, hosts, vecOf(3), 0, []Spare{{7, 1}}, 3, task(7, 0))
	}
}

// TestBounds checks both sides of what is there with the victims, for each
// resource.
func TestBounds(t *testing.T) {
	for _, left := range []api.Vec{vecOf(0), {1, 2, 3, 4}, {most - 9, 0, most - 9, 0}} {
		on := []Guest{guest(1, 2, 1, api.Vec{4, 0, 3, 1}), guest(1, 1, 1, api.Vec{1, 1, 0, 2}), envelope(1, 3, 1, vecOf(9))}
		hosts := []Host{{6, left, on}}
		both := plus(left, api.Vec{5, 1, 3, 3})
		chosen(t, hosts, both, 0, much(1), 6, task(1, 2), task(1, 1))
		refused(t, hosts, both, 0, []Spare{{1, 1}}, api.ErrBudget)
		for i := range (api.Vec{}) {
			refused(t, hosts, with(both, i, both[i]+1), 0, much(1), api.ErrRoom)
			refused(t, hosts, with(vecOf(0), i, both[i]+1), 0, much(1), api.ErrRoom)
			isEach(t, hosts, []api.Vec{with(vecOf(0), i, left[i]), with(vecOf(0), i, left[i]+1), with(vecOf(0), i, both[i])}, 0, much(1))
		}
	}
}

// TestBadAmounts checks amounts that can't be: of the demand, of what is left, and
// of what any guest needs, whether it could go or not.
func TestBadAmounts(t *testing.T) {
	for _, n := range badAmounts {
		for i := range (api.Vec{}) {
			for _, bad := range []api.Vec{with(vecOf(0), i, n), with(api.Vec{1, 2, 3, 4}, i, n), vecOf(n)} {
				refused(t, some(), bad, 0, much(4, 5, 6, 7), api.ErrArg)
				refused(t, nil, bad, 0, nil, api.ErrArg)
				for at := range some() {
					hosts := some()
					hosts[at].Left = bad
					isBad(t, hosts)
				}
				for _, g := range []Guest{guest(5, 0, 1, bad), guest(5, 0, 0, bad), envelope(5, 0, 2, bad), envelope(5, 0, 0, bad)} {
					isBad(t, withGuest(g, 0, 0))
					isBad(t, withGuest(g, 0, 5))
					isBad(t, withGuest(g, 2, 0))
					isBad(t, withGuest(g, 3, 1))
				}
			}
		}
	}
}

// withGuest returns hosts with one more guest on one of them.
func withGuest(g Guest, host, at int) []Host {
	hosts := some()
	hosts[host].On = slices.Insert(hosts[host].On, at, g)
	return hosts
}

// isBad checks that hosts are not valid, whether the demand fits there or not, and
// whether it is valid.
func isBad(t *testing.T, hosts []Host) {
	t.Helper()
	for _, need := range []api.Vec{vecOf(0), vecOf(1), vecOf(5), vecOf(most), vecOf(-1)} {
		refused(t, hosts, need, 0, much(4, 5, 6, 7), api.ErrArg)
		refused(t, hosts, need, 5, nil, api.ErrArg)
	}
}

// TestGreatest checks that the greatest amounts are valid, together with 0.
func TestGreatest(t *testing.T) {
	hosts := []Host{{1, vecOf(most), []Guest{guest(2, 0, 1, vecOf(most))}}, {2, vecOf(0), []Guest{guest(2, 1, 1, vecOf(most))}}}
	chosen(t, hosts, vecOf(most), 0, nil, 1)
	chosen(t, hosts[1:], vecOf(most), 0, much(2), 2, task(2, 1))
	if list := isAll(t, hosts, []api.Vec{vecOf(most), vecOf(most), vecOf(most)}, 0, much(2)); len(list) != 3 {
		t.Errorf("the choices are %v", list)
	}
}

// TestSameIds checks that hosts with one Id are not valid, wherever they stand.
func TestSameIds(t *testing.T) {
	for _, id := range extremes {
		for i := range 4 {
			for k := range i {
				hosts := []Host{{11, vecOf(1), nil}, {22, vecOf(2), nil}, {33, vecOf(3), nil}, {44, vecOf(4), nil}}
				hosts[i].Id, hosts[k].Id = id, id
				isBad(t, hosts)
			}
		}
	}
}

// TestIds checks that each Id can be chosen, without and with victims.
func TestIds(t *testing.T) {
	for i, id := range extremes {
		hosts := []Host{{id, vecOf(1), []Guest{guest(1, 1, 1, vecOf(3))}}}
		chosen(t, hosts, vecOf(1), 0, much(1), id)
		chosen(t, hosts, vecOf(4), 0, much(1), id, task(1, 1))
		if i == 0 {
			continue
		}
		hosts = append(hosts, Host{extremes[i-1], vecOf(1), []Guest{guest(1, 2, 1, vecOf(3))}})
		chosen(t, hosts, vecOf(1), 0, much(1), extremes[i-1])
		chosen(t, hosts, vecOf(4), 0, much(1), extremes[i-1], task(1, 2))
	}
}

// P20.2

// TestNoNeeds checks that without demands there are no choices and no error, since
// nothing is picked.
func TestNoNeeds(t *testing.T) {
	for _, hosts := range [][]Host{nil, some(), append(some(), some()...), {{1, vecOf(-1), nil}}} {
		for _, needs := range [][]api.Vec{nil, {}} {
			list, err := All(hosts, needs, 0, much(5))
			isPlain(t, err, nil)
			if len(list) != 0 {
				t.Errorf("the choices are %v", list)
			}
		}
	}
}

// placed checks that All chooses hosts and victims, told by numbers.
func placed(t *testing.T, hosts []Host, needs []api.Vec, spare []Spare, want ...Choice) {
	t.Helper()
	if got := isAll(t, hosts, needs, 0, spare); !slices.EqualFunc(got, want, same) {
		t.Errorf("the choices for %v are %v; want %v", needs, got, want)
	}
}

// failed checks that All returns a Fault, told by numbers.
func failed(t *testing.T, hosts []Host, needs []api.Vec, spare []Spare, at int, want error) {
	t.Helper()
	list, err := All(hosts, needs, 0, spare)
	isFault(t, err, at, want)
	if len(list) != 0 {
		t.Errorf("the choices are %v beside the error %v", list, err)
	}
	isAll(t, hosts, needs, 0, spare)
}

func TestAll(t *testing.T) {
	hosts, spare := some(), much(4, 5, 6, 7, 8)
	placed(t, hosts, []api.Vec{{1, 0, 0, 0}, {1, 0, 0, 0}, {1, 0, 0, 0}}, spare, Choice{Host: 9}, Choice{Host: 3}, Choice{Host: 3})
	placed(t, hosts, []api.Vec{{5, 0, 0, 0}, {5, 0, 0, 0}}, spare,
		Choice{3, []api.Task{task(6, 2), task(7, 1)}},
		Choice{9, []api.Task{task(6, 1), task(6, 0), task(5, 3)}})
	failed(t, hosts, []api.Vec{{5, 0, 0, 0}, {5, 0, 0, 0}, {5, 0, 0, 0}}, spare, 2, api.ErrRoom)
	placed(t, hosts, []api.Vec{{5, 0, 0, 0}, {5, 0, 0, 0}}, []Spare{{6, 2}, {7, 1}, {5, 2}},
		Choice{3, []api.Task{task(6, 2), task(7, 1)}},
		Choice{9, []api.Task{task(6, 1), task(5, 3), task(5, 0)}})
	failed(t, hosts, []api.Vec{{5, 0, 0, 0}, {5, 0, 0, 0}}, []Spare{{6, 2}, {7, 1}, {5, 1}}, 1, api.ErrBudget)
	failed(t, hosts, []api.Vec{{1, 0, 0, 0}, {2, 0, 0, 0}, vecOf(-1), vecOf(most + 1)}, spare, 2, api.ErrArg)
}

// TestLeftBehind checks what is left of a host behind a choice: what its victims
// needed comes, and the demand goes.
func TestLeftBehind(t *testing.T) {
	hosts := []Host{{1, api.Vec{2, 3, 1, 0}, []Guest{guest(5, 1, 1, api.Vec{4, 1, 0, 2}), guest(5, 0, 1, api.Vec{1, 1, 1, 1})}}}
	first := api.Vec{3, 1, 1, 1} // {3 3 0 1} are left behind it.
	for i, left := range (api.Vec{3, 3, 0, 1}) {
		placed(t, hosts, []api.Vec{first, with(vecOf(0), i, left)}, much(5), Choice{1, []api.Task{task(5, 1)}}, Choice{Host: 1})
		placed(t, hosts, []api.Vec{first, with(vecOf(0), i, left+1)}, much(5),
			Choice{1, []api.Task{task(5, 1)}}, Choice{1, []api.Task{task(5, 0)}})
		failed(t, hosts, []api.Vec{first, with(vecOf(0), i, left+2)}, much(5), 1, api.ErrRoom)
	}
	placed(t, hosts, []api.Vec{first, {3, 3, 0, 1}, {0, 0, 0, 0}, {1, 1, 1, 1}, {0, 0, 0, 0}}, much(5),
		Choice{1, []api.Task{task(5, 1)}}, Choice{Host: 1}, Choice{Host: 1}, Choice{1, []api.Task{task(5, 0)}}, Choice{Host: 1})
}

// TestTasksThatCame checks that a task that was placed is no guest: it doesn't go
// for a later one, and fills its room.
func TestTasksThatCame(t *testing.T) {
	hosts := []Host{{1, vecOf(4), []Guest{guest(5, 0, 1, vecOf(1))}}}
	for _, band := range []int{math.MinInt, -1, 0} {
		list, err := All(hosts, []api.Vec{vecOf(4), vecOf(1), vecOf(1)}, band, much(0, 1, 5))
		isFault(t, err, 2, api.ErrRoom)
		if len(list) != 0 {
			t.Errorf("the choices are %v", list)
		}
	}
	// It is the best host then that has the least room left behind the choices.
	hosts = []Host{{1, vecOf(9), nil}, {2, vecOf(8), nil}, {3, vecOf(20), nil}}
	placed(t, hosts, []api.Vec{vecOf(9), vecOf(9), vecOf(8), vecOf(8)}, nil, Choice{Host: 1}, Choice{Host: 3}, Choice{Host: 2}, Choice{Host: 3})
}

// TestMoreThanAVector checks that what comes beyond the greatest amount is lost.
func TestMoreThanAVector(t *testing.T) {
	for i := range (api.Vec{}) {
		other := (i + 1) % 4
		left := with(vecOf(0), i, most-1)
		need := with(with(vecOf(0), i, 5), other, 3)
		hosts := []Host{{1, left, []Guest{guest(5, 1, 1, need), guest(5, 0, 1, need)}}}
		one, two := Choice{1, []api.Task{task(5, 1)}}, Choice{1, []api.Task{task(5, 1), task(5, 0)}}
		most3, most6 := with(with(vecOf(0), i, most), other, 3), with(with(vecOf(0), i, most), other, 6)
		chosen(t, hosts, most3, 0, much(5), 1, one.Out...)
		chosen(t, hosts, most6, 0, much(5), 1, two.Out...)
		failed(t, hosts, []api.Vec{most6, with(vecOf(0), i, 1)}, much(5), 1, api.ErrRoom)
		placed(t, hosts, []api.Vec{most6, vecOf(0)}, much(5), two, Choice{Host: 1})
		// Only what the second victim needed has come behind the first choice.
		placed(t, hosts, []api.Vec{most3, with(vecOf(0), i, 5)}, much(5), one, Choice{1, []api.Task{task(5, 0)}})
		failed(t, hosts, []api.Vec{most3, with(vecOf(0), i, 6)}, much(5), 1, api.ErrRoom)
		failed(t, hosts, []api.Vec{with(most3, i, 0), with(vecOf(0), i, most), vecOf(0), with(vecOf(0), i, 6)}, much(5), 3, api.ErrRoom)
	}
}

// TestExactlyTheChosen checks that just the guests that were chosen are gone, not
// others with their task: on other hosts, of other bands, in other places.
func TestExactlyTheChosen(t *testing.T) {
	out := Choice{1, []api.Task{task(5, 0)}}
	twice := []Host{{1, vecOf(0), []Guest{guest(5, 0, 1, vecOf(3)), guest(5, 0, 1, vecOf(4))}}}
	placed(t, twice, []api.Vec{vecOf(3), vecOf(4)}, much(5), out, out)
	failed(t, twice, []api.Vec{vecOf(3), vecOf(5)}, much(5), 1, api.ErrRoom)
	failed(t, twice, []api.Vec{vecOf(3), vecOf(4), vecOf(1)}, much(5), 2, api.ErrRoom)

	// The first two stay, as they could never go.
	stay := []Host{{1, vecOf(0), []Guest{guest(5, 0, 0, vecOf(9)), envelope(5, 0, 2, vecOf(9)), guest(5, 0, 1, vecOf(3)), guest(5, 0, 2, vecOf(2))}}}
	placed(t, stay, []api.Vec{vecOf(2), vecOf(3)}, much(5), out, out)
	failed(t, stay, []api.Vec{vecOf(2), vecOf(3), vecOf(1)}, much(5), 2, api.ErrRoom)
	failed(t, stay, []api.Vec{vecOf(2), vecOf(4)}, much(5), 1, api.ErrRoom)

	// The one in the middle is passed over by its job alone, and may go later.
	mixed := []Host{{1, vecOf(0), []Guest{guest(6, 0, 1, vecOf(1)), guest(5, 0, 1, vecOf(1)), guest(6, 1, 1, vecOf(1)), guest(4, 0, 1, vecOf(1))}}}
	placed(t, mixed, []api.Vec{vecOf(2), vecOf(1)}, []Spare{{6, 1}, {5, 1}, {4, 1}},
		Choice{1, []api.Task{task(6, 1), task(5, 0)}}, Choice{1, []api.Task{task(4, 0)}})
	failed(t, mixed, []api.Vec{vecOf(2), vecOf(1), vecOf(1)}, []Spare{{6, 1}, {5, 1}, {4, 1}}, 2, api.ErrBudget)
	failed(t, mixed, []api.Vec{vecOf(2), vecOf(1), vecOf(2)}, []Spare{{6, 1}, {5, 1}, {4, 1}}, 2, api.ErrRoom)

	// The same task on two hosts counts as two.
	hosts := []Host{{1, vecOf(0), []Guest{guest(5, 0, 1, vecOf(3))}}, {2, vecOf(0), []Guest{guest(5, 0, 1, vecOf(3))}}}
	placed(t, hosts, []api.Vec{vecOf(3), vecOf(3)}, much(5), out, Choice{2, []api.Task{task(5, 0)}})
	failed(t, hosts, []api.Vec{vecOf(3), vecOf(3)}, []Spare{{5, 1}}, 1, api.ErrBudget)
}

// TestAllowanceIsUsedUp checks that the allowance of a job falls by each victim,
// on whichever host, and only that of the first element.
func TestAllowanceIsUsedUp(t *testing.T) {
	var hosts []Host
	for id := range 6 {
		hosts = append(hosts, Host{id, vecOf(0), []Guest{guest(5, id, 2, vecOf(1)), guest(6, id, 1, vecOf(1))}})
	}
	for five := range 5 {
		for six := range 5 {
			spare := []Spare{{6, six}, {5, five}, {5, 99}, {6, 99}}
			needs := slices.Repeat([]api.Vec{vecOf(1)}, five+six)
			list := isAll(t, hosts, needs, 0, spare)
			if len(list) != five+six {
				t.Errorf("the choices are %v", list)
			}
			for _, c := range list {
				if len(c.Out) != 1 {
					t.Errorf("the choice is %v", c)
				}
			}
			failed(t, hosts, append(needs, vecOf(1)), spare, five+six, api.ErrBudget)
			failed(t, hosts, append(needs, vecOf(3)), spare, five+six, api.ErrRoom)
			// Two of one host at a time.
			both := min(five, six)
			needs = slices.Repeat([]api.Vec{vecOf(2)}, both)
			if list := isAll(t, hosts, needs, 0, spare); len(list) != both {
				t.Errorf("the choices are %v", list)
			}
			failed(t, hosts, append(needs, vecOf(2)), spare, both, api.ErrBudget)
		}
	}
}

// TestInOrder checks that demands aren't placed in another order, where that would
// place more of them.
func TestInOrder(t *testing.T) {
	hosts := []Host{{1, vecOf(5), nil}, {2, vecOf(0), []Guest{guest(5, 0, 1, vecOf(3))}}}
	failed(t, hosts, []api.Vec{vecOf(3), vecOf(5)}, much(5), 1, api.ErrRoom)
	placed(t, hosts, []api.Vec{vecOf(5), vecOf(3)}, much(5), Choice{Host: 1}, Choice{2, []api.Task{task(5, 0)}})
}

// TestFirstFault checks that each index can be told, with each error, and that the
// first demand that can't be placed counts.
func TestFirstFault(t *testing.T) {
	hosts := []Host{{1, vecOf(100), nil}, {2, vecOf(0), []Guest{guest(5, 0, 1, vecOf(200))}}}
	for n := range 60 {
		needs := slices.Repeat([]api.Vec{vecOf(1)}, n)
		for _, last := range [][]api.Vec{{vecOf(-1)}, {vecOf(-1), vecOf(200)}, {vecOf(most + 1), vecOf(300)}} {
			failed(t, hosts, slices.Concat(needs, last), nil, n, api.ErrArg)
		}
		for _, last := range [][]api.Vec{{vecOf(200)}, {vecOf(200), vecOf(300)}, {vecOf(200), vecOf(-1)}} {
			failed(t, hosts, slices.Concat(needs, last), nil, n, api.ErrBudget)
		}
		for _, last := range [][]api.Vec{{vecOf(300)}, {vecOf(300), vecOf(200)}, {vecOf(300), vecOf(-1)}} {
			failed(t, hosts, slices.Concat(needs, last), nil, n, api.ErrRoom)
		}
	}
}

// TestAnswersAreNew checks that an answer shares no memory with an argument or with
// another list of an answer.
func TestAnswersAreNew(t *testing.T) {
	hosts, spare := some(), much(4, 5, 6, 7)
	needs := []api.Vec{{5, 0, 0, 0}, {4, 0, 0, 0}, {5, 0, 0, 0}, {0, 0, 0, 0}}
	for range 2 {
		list := isAll(t, hosts, needs, 0, spare)
		want, _, _ := copied(hosts, spare).all(needs, 0)
		for i := range list {
			for k := i; k < len(list); k++ {
				if !same(list[k], want[k]) {
					t.Errorf("choice %d is now %v; want %v", k, list[k], want[k])
				}
			}
			out := list[i].Out
			for k := range out[:cap(out)] {
				out[:cap(out)][k] = task(77, 77)
			}
		}
		for _, h := range hosts {
			l := Line(h, -1)
			l = l[:cap(l)]
			for i := range l {
				l[i] = markGuest
			}
		}
		one, err := Pick(hosts, api.Vec{5, 0, 0, 0}, 0, spare)
		isPlain(t, err, nil)
		for i := range one.Out[:cap(one.Out)] {
			one.Out[:cap(one.Out)][i] = task(77, 77)
		}
		l := lent(some(), needs, much(4, 5, 6, 7))
		l.isUntouched(t, hosts, needs, spare)
	}
}

// P20.1 to P20.3, with random arguments.

// drawn is a vector of random amounts, of which very few are not valid.
func drawn(r *rand.Rand, top int) api.Vec {
	var v api.Vec
	for i := range v {
		v[i] = r.Intn(top + 1)
		if r.Intn(3000) == 0 {
			v[i] = badAmounts[r.Intn(len(badAmounts))]
		}
	}
	return v
}

// drawnHosts are random hosts; few have the same Id, and many guests the same task.
func drawnHosts(r *rand.Rand, top int) []Host {
	var hosts []Host
	for _, id := range r.Perm(1 + r.Intn(6)) {
		h := Host{Id: id - 2, Left: drawn(r, top/4)}
		if r.Intn(100) == 0 {
			h.Id = 0
		}
		for range r.Intn(9) {
			g := guest(r.Intn(5), r.Intn(4), r.Intn(4)-1, drawn(r, top/2))
			g.Env = r.Intn(6) == 0
			h.On = append(h.On, g)
		}
		hosts = append(hosts, h)
	}
	return hosts
}

// drawnSpare are random allowances, some of one job twice.
func drawnSpare(r *rand.Rand) []Spare {
	var spare []Spare
	for range r.Intn(9) {
		spare = append(spare, Spare{r.Intn(6) - 1, r.Intn(7) - 1})
	}
	return spare
}

func TestRandom(t *testing.T) {
	seen := map[error]int{}
	victims := 0
	for seed := range 12000 {
		r := rand.New(rand.NewSource(int64(seed)))
		top := []int{3, 8, 20, 1000, most}[seed%5]
		hosts, spare := drawnHosts(r, top), drawnSpare(r)
		band := r.Intn(4) - 2
		var needs []api.Vec
		for range r.Intn(7) {
			needs = append(needs, drawn(r, top/(1+r.Intn(4))))
		}
		isEach(t, hosts, needs, band, spare)
		for n, need := range needs {
			seen[isPick(t, hosts, need, band, spare)]++
			list := isAll(t, hosts, needs[:n+1], band, spare)
			for _, c := range list {
				victims += len(c.Out)
			}
			isSafe(t, hosts, band, spare, list)
			isSpared(t, hosts, needs, list)
		}
	}
	if seen[nil] < 1000 || seen[api.ErrArg] < 100 || seen[api.ErrRoom] < 1000 || seen[api.ErrBudget] < 1000 || victims < 10000 {
		t.Errorf("seen are %v, and %d victims", seen, victims)
	}
}

// P20.3

// isSafe checks what follows from the promises, from the choices alone: who goes,
// and how many of a job.
func isSafe(t *testing.T, hosts []Host, band int, spare []Spare, list []Choice) {
	t.Helper()
	type seat struct {
		host int
		task api.Task
	}
	can, may := map[seat]int{}, map[int]int{}
	for _, h := range hosts {
		for _, g := range h.On {
			may[g.Task.Job] = copied(nil, spare).allowance(g.Task.Job)
			if g.Band > band && !g.Env {
				can[seat{h.Id, g.Task}]++
			}
		}
	}
	for _, c := range list {
		for _, v := range c.Out {
			can[seat{c.Host, v}]--
			may[v.Job]--
			if can[seat{c.Host, v}] < 0 || may[v.Job] < 0 {
				t.Errorf("%v may not go in %v", v, c)
			}
		}
	}
}

// isSpared checks that nobody goes where there is room, and somebody where there is
// none, up to the first choice that evicts.
func isSpared(t *testing.T, hosts []Host, needs []api.Vec, list []Choice) {
	t.Helper()
	left := map[int]api.Vec{}
	for _, h := range hosts {
		left[h.Id] = h.Left
	}
	for i, c := range list {
		room := false
		for _, v := range left {
			room = room || fits(needs[i], v)
		}
		if room == (len(c.Out) > 0) {
			t.Errorf("choice %d is %v; left are %v", i, c, left)
		}
		if !room {
			// What comes with the victims isn't told by their tasks alone.
			return
		}
		left[c.Host] = minus(left[c.Host], needs[i])
	}
}

// TestMany checks many hosts with many guests, and many demands.
func TestMany(t *testing.T) {
	const hostCount, guestCount = 200, 100
	var hosts []Host
	var want []Choice
	for id := range hostCount {
		h := Host{Id: hostCount - id, Left: vecOf(0)}
		for at := range guestCount {
			h.On = append(h.On, guest(h.Id, at, 2, vecOf(1)))
		}
		hosts = append(hosts, h)
	}
	var spare []Spare
	for id := 1; id <= hostCount; id++ {
		spare = append(spare, Spare{id, 2})
		want = append(want, Choice{id, []api.Task{task(id, guestCount-1), task(id, guestCount-2)}})
	}
	needs := slices.Repeat([]api.Vec{vecOf(2)}, hostCount)
	list, err := All(hosts, needs, 1, spare)
	isPlain(t, err, nil)
	if !slices.EqualFunc(list, want, same) {
		t.Errorf("the choices are %v", list)
	}
	_, err = All(hosts, append(needs, vecOf(1)), 1, spare)
	isFault(t, err, hostCount, api.ErrBudget)
	_, err = All(hosts, append(needs, vecOf(guestCount-1)), 1, spare)
	isFault(t, err, hostCount, api.ErrRoom)
}

// The chapter's example.

func TestExample(t *testing.T) {
	hosts := []Host{{Id: 1, On: []Guest{guest(5, 0, 2, api.Vec{4, 1})}}}
	chosen(t, hosts, api.Vec{4, 1}, 0, much(5), 1, task(5, 0))
	chosen(t, hosts, api.Vec{3, 0}, 0, much(5), 1, task(5, 0))
}
