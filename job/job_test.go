package job

import (
	"errors"
	"math"
	"math/rand"
	"slices"
	"testing"

	"quitrent/api"
	"quitrent/vec"
)

var allErrors = []error{
	api.ErrArg, api.ErrNil, api.ErrForm, api.ErrOver, api.ErrNone, api.ErrDup, api.ErrFull,
	api.ErrQuota, api.ErrCeil, api.ErrRoom, api.ErrBudget, api.ErrFunds, api.ErrState, api.ErrDown,
}

// The limits, told by numbers of their own.
const (
	topID      = 999
	topCell    = 4
	topBand    = 2
	topTasks   = 8
	topTick    = 1073741824
	topWindows = 8
	topBudget  = 100
	topJobs    = 32
	topScale   = 16
	most       = 1099511627776
)

// field is a number of a job, with its bounds.
type field struct {
	name      string
	low, high int
	set       func(j *Job, n int)
}

// fields are the numbers of a job that have bounds of their own, whatever the
// others are. Set has them, too, if it is not 0, and so has Need, with its tasks.
func fields() []field {
	return []field{
		{"Id", 1, topID, func(j *Job, n int) { j.Id = n }},
		{"Tenant", 1, topID, func(j *Job, n int) { j.Tenant = n }},
		{"Cell", 1, topCell, func(j *Job, n int) { j.Cell = n }},
		{"Band", 0, topBand, func(j *Job, n int) { j.Band = n }},
		{"Tasks", 1, topTasks, func(j *Job, n int) { j.Tasks = n }},
		{"First", 0, topTick, func(j *Job, n int) { j.First = n }},
		{"Windows", 1, topWindows, func(j *Job, n int) { j.Windows = n }},
		{"Budget", 0, topBudget, func(j *Job, n int) { j.Budget = n }},
	}
}

// outside returns numbers that are not from low to high, some of them numbers that
// are if bits get lost.
func outside(low, high int) []int {
	list := []int{
		low - 1, low - 2, low - high, -high, high + 1, high + 2, 2*high + 1, -1, -2, -1 << 32,
		math.MaxInt, math.MaxInt - 1, math.MinInt, math.MinInt + 1, math.MinInt + low, math.MinInt + high,
	}
	for _, n := range []int{low, low + 1, high} {
		list = append(list, n+256, n+65536, n+1<<32, n-1<<32, n+1<<62)
	}
	return slices.DeleteFunc(list, func(n int) bool { return n >= low && n <= high })
}

// places are numbers that a place can have, ascending; badPlaces are ones that none
// has.
var (
	places    = []int{0, 1, 2, 7, 23, 999, 1000, 1 << 31, 1 << 32, 1<<32 + 1, math.MaxInt - 1, math.MaxInt}
	badPlaces = []int{-1, -2, -3, -8, -999, -1 << 31, -1 << 32, math.MinInt, math.MinInt + 1, math.MinInt + 7}
)

// isOnly checks that err is want, no other error of package api, and no Fault.
func isOnly(t *testing.T, err, want error) {
	t.Helper()
	if (err == nil) != (want == nil) {
		t.Errorf("error %v: want %v", err, want)
	}
	for _, e := range allErrors {
		if errors.Is(err, e) != (e == want) {
			t.Errorf("error %v: want %v only", err, want)
		}
	}
	var f *api.Fault
	if errors.As(err, &f) {
		t.Errorf("error %v: has a Fault", err)
	}
}

// done checks calls that must be answered without an error.
func done(t *testing.T, errs ...error) {
	t.Helper()
	for _, err := range errs {
		isOnly(t, err, nil)
	}
}

// task is a task, by its numbers.
func task(job, at int) api.Task { return api.Task{Job: job, At: at} }

// all is n of each resource.
func all(n int) api.Vec { return api.Vec{n, n, n, n} }

// only is n of one resource.
func only(resource, n int) api.Vec { return with(api.Vec{}, resource, n) }

// with is the vector with another amount of one resource.
func with(v api.Vec, resource, n int) api.Vec {
	v[resource] = n
	return v
}

// small is a valid job with some tasks, on machines.
func small(id, tasks int) Job {
	return Job{Id: id, Tenant: 2, Cell: 3, Band: 1, Tasks: tasks, Need: api.Vec{1, 2, 3, 4}, First: 5, Windows: 2, Budget: 1}
}

// in returns the job within a set.
func (j Job) in(set int) Job {
	j.Set = set
	return j
}

// envelopes returns the job with tasks that are envelopes.
func (j Job) envelopes() Job {
	j.Env = true
	return j
}

// seat is a task and its place.
type seat struct {
	k     api.Task
	place int
}

// plan is what a table must tell, by plain rules: its jobs, and its tasks that have
// a place, as they came.
type plan struct {
	jobs  []Job
	seats []seat
}

// job returns where a job is; the number of jobs if there is none.
func (p plan) job(id int) int {
	for i, j := range p.jobs {
		if j.Id == id {
			return i
		}
	}
	return len(p.jobs)
}

// seat returns where a task is that has a place; the number of such tasks if it has
// none.
func (p plan) seat(k api.Task) int {
	for i, s := range p.seats {
		if s.k == k {
			return i
		}
	}
	return len(p.seats)
}

// where returns the place of a task, or -1.
func (p plan) where(k api.Task) int {
	if i := p.seat(k); i < len(p.seats) {
		return p.seats[i].place
	}
	return -1
}

// sorted returns the jobs: each is as far behind as jobs have lesser numbers.
func (p plan) sorted() []Job {
	list := make([]Job, len(p.jobs))
	for _, j := range p.jobs {
		place := 0
		for _, other := range p.jobs {
			if other.Id < j.Id {
				place++
			}
		}
		list[place] = j
	}
	return list
}

// waiting returns the tasks without a place.
func (p plan) waiting() []api.Task {
	list := []api.Task{}
	for _, j := range p.sorted() {
		for at := range j.Tasks {
			if k := task(j.Id, at); p.seat(k) == len(p.seats) {
				list = append(list, k)
			}
		}
	}
	return list
}

// at returns the tasks on a machine.
func (p plan) at(place int) []api.Task {
	list := []api.Task{}
	for _, j := range p.sorted() {
		for at := range j.Tasks {
			if k := task(j.Id, at); j.Set == 0 && place >= 0 && p.where(k) == place {
				list = append(list, k)
			}
		}
	}
	return list
}

// good reports whether a job is valid.
func good(j Job) bool {
	for _, n := range j.Need {
		if n < 0 || n > most || j.Tasks < 1 || j.Tasks > topTasks || n*j.Tasks > most {
			return false
		}
	}
	set := j.Set >= 1 && j.Set <= topID
	return j.Id >= 1 && j.Id <= topID && j.Tenant >= 1 && j.Tenant <= topID &&
		j.Cell >= 1 && j.Cell <= topCell && j.Band >= 0 && j.Band <= topBand &&
		j.First >= 0 && j.First <= topTick && j.Windows >= 1 && j.Windows <= topWindows &&
		j.Budget >= 0 && j.Budget <= topBudget && (j.Set == 0 || set && !j.Env)
}

// call is a call of one of the methods that change a table.
type call struct {
	kind  int
	j     Job // Drop takes its Id
	k     api.Task
	place int
}

const (
	add = iota
	drop
	put
	wait
	kinds
)

// on makes the call on a table.
func (c call) on(t *Table) error {
	switch c.kind {
	case add:
		return t.Add(c.j)
	case drop:
		return t.Drop(c.j.Id)
	case put:
		return t.Put(c.k, c.place)
	}
	return t.Wait(c.k)
}

// The calls, each with what it takes.

func adds(j Job) call { return call{kind: add, j: j} }

func drops(id int) call { return call{kind: drop, j: Job{Id: id}} }

func puts(job, at, place int) call { return call{kind: put, k: task(job, at), place: place} }

func waits(job, at int) call { return call{kind: wait, k: task(job, at)} }

// enter enters the call, or tells what is wrong with it.
func (p *plan) enter(c call) error {
	if err := p.wrong(c); err != nil {
		return err
	}
	p.jobs, p.seats = slices.Clone(p.jobs), slices.Clone(p.seats)
	switch c.kind {
	case add:
		p.jobs = append(p.jobs, c.j)
	case drop:
		i := p.job(c.j.Id)
		p.jobs = slices.Delete(p.jobs, i, i+1)
		p.seats = slices.DeleteFunc(p.seats, func(s seat) bool { return s.k.Job == c.j.Id })
	case put:
		p.seats = append(p.seats, seat{c.k, c.place})
	case wait:
		i := p.seat(c.k)
		p.seats = slices.Delete(p.seats, i, i+1)
	}
	return nil
}

// wrong tells what is wrong with a call.
func (p plan) wrong(c call) error {
	switch c.kind {
	case add:
		return p.wrongAdd(c.j)
	case drop:
		if p.job(c.j.Id) == len(p.jobs) {
			return api.ErrNone
		}
		return nil
	}
	i, placed := p.job(c.k.Job), p.seat(c.k) < len(p.seats)
	switch {
	case i == len(p.jobs):
		return api.ErrNone
	case c.k.At < 0 || c.k.At >= p.jobs[i].Tasks || c.kind == put && c.place < 0:
		return api.ErrArg
	case placed == (c.kind == put):
		return api.ErrState
	}
	return nil
}

// wrongAdd tells what is wrong with a job that is to come.
func (p plan) wrongAdd(j Job) error {
	switch {
	case !good(j):
		return api.ErrArg
	case p.job(j.Id) < len(p.jobs):
		return api.ErrDup
	case len(p.jobs) == topJobs:
		return api.ErrFull
	}
	return nil
}

// isTable checks all that a table tells.
func isTable(t *testing.T, b *Table, p plan) {
	t.Helper()
	if got := b.Jobs(); !slices.Equal(got, p.sorted()) {
		t.Errorf("the jobs are %v; want %v", got, p.sorted())
	}
	if got := b.Waiting(); !slices.Equal(got, p.waiting()) {
		t.Errorf("waiting are %v; want %v", got, p.waiting())
	}
	asked := slices.Concat(places, badPlaces)
	for _, s := range p.seats {
		asked = append(asked, s.place)
	}
	for _, place := range asked {
		if got := b.At(place); !slices.Equal(got, p.at(place)) {
			t.Errorf("at %d are %v; want %v", place, got, p.at(place))
		}
	}
	for _, j := range p.jobs {
		if got, ok := b.Of(j.Id); got != j || !ok {
			t.Errorf("job %d is %v %v; want %v", j.Id, got, ok, j)
		}
	}
	for _, id := range []int{1, 2, 5, 500, 999, 0, 1000, -1, 1 << 32, 1<<32 + 5, -1 << 32, math.MaxInt, math.MinInt, math.MinInt + 5} {
		if got, ok := b.Of(id); p.job(id) == len(p.jobs) && (ok || got != (Job{})) {
			t.Errorf("job %d is %v %v; want none", id, got, ok)
		}
	}
	isWhere(t, b, p)
}

// isWhere checks the place of each task, and that there are no others.
func isWhere(t *testing.T, b *Table, p plan) {
	t.Helper()
	ids := []int{1, 2, 5, 500, 999, 0, -1, math.MaxInt, math.MinInt}
	for _, j := range p.jobs {
		ids = append(ids, j.Id)
	}
	for _, id := range ids {
		for _, at := range []int{0, 1, 2, 3, 4, 5, 6, 7, 8, 9, -1, -2, 1 << 32, 1<<32 + 1, math.MaxInt, math.MinInt, math.MinInt + 1} {
			if got, want := b.Where(task(id, at)), p.where(task(id, at)); got != want {
				t.Errorf("task %d of job %d is at %d; want %d", at, id, got, want)
			}
		}
	}
}

// makes makes a call on a table and on its plan, and checks the answers.
func makes(t *testing.T, b *Table, p *plan, c call) {
	t.Helper()
	isOnly(t, c.on(b), p.enter(c))
	isTable(t, b, *p)
	if t.Failed() {
		t.Fatalf("call %v", c)
	}
}

// does makes calls that must be answered without an error.
func does(t *testing.T, b *Table, p *plan, calls ...call) {
	t.Helper()
	for _, c := range calls {
		if err := p.wrong(c); err != nil {
			t.Fatalf("call %v: %v", c, err)
		}
		makes(t, b, p, c)
	}
}

// fails checks a call that fails, and that it changes nothing.
func fails(t *testing.T, b *Table, p plan, c call, want error) {
	t.Helper()
	isOnly(t, c.on(b), want)
	isTable(t, b, p)
	if t.Failed() {
		t.Fatalf("call %v", c)
	}
}

// filled returns a table on which calls were made, and its plan.
func filled(t *testing.T, calls ...call) (*Table, plan) {
	t.Helper()
	b, p := New(), plan{}
	does(t, b, &p, calls...)
	return b, p
}

// some returns a table with jobs of which all, some and no tasks have places: jobs
// 5, 6 and 9 are on machines, job 9 with tasks that are envelopes, jobs 4 and 999
// within its set.
func some(t *testing.T) (*Table, plan) {
	t.Helper()
	return filled(t,
		adds(small(9, 3).envelopes()), adds(small(5, 8)), adds(small(999, 2).in(9)), adds(small(4, 4).in(9)), adds(small(6, 1)), adds(small(1, 2)),
		puts(9, 1, 7), puts(5, 7, 7), puts(4, 3, 2), puts(5, 0, 0), puts(999, 0, 0), puts(999, 1, 7), puts(6, 0, 7), puts(5, 3, 2), puts(4, 0, 7),
	)
}

// full returns a table with as many jobs as can be, the numbers 101 and up.
func full(t *testing.T) (*Table, plan) {
	t.Helper()
	b, p := New(), plan{}
	for i := range topJobs {
		j := small(101+i*5%topJobs, 1+i%topTasks)
		done(t, b.Add(j), b.Put(task(j.Id, j.Tasks-1), i%3))
		p.enter(adds(j))
		p.enter(puts(j.Id, j.Tasks-1, i%3))
	}
	isTable(t, b, p)
	return b, p
}

// P18.1

func TestNew(t *testing.T) {
	b := New()
	isTable(t, b, plan{})
	for id := -20; id <= 1100; id++ {
		if j, ok := b.Of(id); ok || j != (Job{}) || b.Where(task(id, 0)) != -1 {
			t.Errorf("job %d is %v %v", id, j, ok)
		}
	}
}

func TestLimits(t *testing.T) {
	if Nowhere != -1 {
		t.Errorf("nowhere is %d", Nowhere)
	}
	if api.MaxCells != topCell || api.MaxBands-1 != topBand || api.MaxTasks != topTasks || api.MaxTick != topTick ||
		api.MaxAhead != topWindows || api.MaxJobs != topJobs || api.MaxRatio != topScale || api.MaxVal != most {
		t.Error("a limit is another")
	}
}

// isGood checks a job that is valid, and that a table takes it as it is.
func isGood(t *testing.T, j Job) {
	t.Helper()
	b := New()
	if err := b.Add(j); !Good(j) || err != nil {
		t.Errorf("job %v: %v", j, err)
	}
	if got, ok := b.Of(j.Id); got != j || !ok {
		t.Errorf("job %v is %v %v", j, got, ok)
	}
	if got := b.Waiting(); len(got) != j.Tasks || got[j.Tasks-1] != task(j.Id, j.Tasks-1) {
		t.Errorf("of job %v wait %v", j, got)
	}
}

// hosts are valid jobs of different kinds, among them ones with each number as low
// and as high as can be.
func hosts() []Job {
	low := Job{Id: 1, Tenant: 1, Cell: 1, Tasks: 1, Windows: 1}
	high := Job{Id: topID, Tenant: topID, Cell: topCell, Band: topBand, Tasks: topTasks, Need: all(most / topTasks), First: topTick, Windows: topWindows, Budget: topBudget}
	return []Job{small(5, 3), small(5, 3).in(4), small(5, 3).envelopes(), low, low.in(1), low.envelopes(), high, high.in(topID), high.envelopes()}
}

// TestGood checks both ends of each number, in jobs of all kinds.
func TestGood(t *testing.T) {
	for _, j := range hosts() {
		isGood(t, j)
		for _, f := range fields() {
			for _, n := range []int{f.low, f.low + 1, (f.low + f.high) / 2, f.high - 1, f.high} {
				one := j
				f.set(&one, n)
				isGood(t, one)
			}
		}
	}
}

// TestGoodNumbers checks each number that a job, a tenant and a set can have.
func TestGoodNumbers(t *testing.T) {
	for n := 1; n <= topID; n++ {
		j := small(n, 1+n%topTasks)
		j.Tenant = topID + 1 - n
		isGood(t, j)
		isGood(t, j.in(n))
		isGood(t, j.envelopes())
	}
}

// badJobs are jobs that are not valid, each for one of its numbers alone.
func badJobs() []Job {
	var list []Job
	for _, j := range hosts() {
		for _, f := range fields() {
			for _, n := range outside(f.low, f.high) {
				one := j
				f.set(&one, n)
				list = append(list, one)
			}
		}
		for i := range j.Need {
			for _, n := range append(outside(0, most), most/j.Tasks+1) {
				one := j
				one.Need[i] = n
				list = append(list, one)
			}
		}
		j.Env = false
		for _, n := range outside(0, topID) {
			list = append(list, j.in(n))
		}
	}
	return list
}

// TestBadJobs checks that ErrArg is told ahead of ErrDup and ErrFull.
func TestBadJobs(t *testing.T) {
	b, p := some(t)
	fullTable, fullPlan := full(t)
	for i, j := range badJobs() {
		if Good(j) {
			t.Errorf("job %v is not valid", j)
		}
		for _, table := range []*Table{New(), b, fullTable} {
			isOnly(t, table.Add(j), api.ErrArg)
		}
		// All that a table tells is checked now and then: there are many bad jobs.
		if i%97 == 0 {
			isTable(t, b, p)
			isTable(t, fullTable, fullPlan)
		}
		if t.Failed() {
			t.Fatalf("job %v", j)
		}
	}
	isTable(t, b, p)
	isTable(t, fullTable, fullPlan)
	does(t, b, &p, adds(small(7, 1)))
}

// TestBadExtremes checks jobs with each number at an end of the whole range.
func TestBadExtremes(t *testing.T) {
	for _, n := range []int{math.MinInt, math.MaxInt, -1, -1 << 32, 1 << 32} {
		j := Job{Id: n, Tenant: n, Cell: n, Band: n, Tasks: n, Need: all(n), First: n, Windows: n, Budget: n, Set: n}
		if Good(j) || Good(j.envelopes()) {
			t.Errorf("job %v is not valid", j)
		}
		fails(t, New(), plan{}, adds(j), api.ErrArg)
	}
	if Good(Job{}) {
		t.Error("the zero job is not valid")
	}
}

// TestSetOfEnvelopes checks that a job of envelopes is within no set.
func TestSetOfEnvelopes(t *testing.T) {
	b, p := some(t)
	for _, set := range append(outside(0, topID), 1, 2, 5, 9, 500, topID-1, topID) {
		j := small(7, 2).in(set).envelopes()
		if Good(j) {
			t.Errorf("job %v is not valid", j)
		}
		fails(t, b, p, adds(j), api.ErrArg)
		fails(t, b, p, adds(small(5, 2).in(set).envelopes()), api.ErrArg)
	}
	isGood(t, small(7, 2).envelopes())
}

// isTotal checks the total of a job: what adding up its tasks gives, or the error
// of vec.Scale.
func isTotal(t *testing.T, j Job) {
	t.Helper()
	got, err := Total(j)
	want, wantErr := vec.Scale(j.Need, j.Tasks)
	isOnly(t, err, wantErr)
	if got != want {
		t.Errorf("the total of %v is %v; want %v", j, got, want)
	}
	if err == nil && j.Tasks <= topScale {
		var sum api.Vec
		for range j.Tasks {
			for i, n := range j.Need {
				sum[i] += n
			}
		}
		if got != sum {
			t.Errorf("the total of %v is %v; want %v", j, got, sum)
		}
	}
}

// TestTotal checks both sides of the greatest total, for each number of tasks and
// each resource, and that a job which is not valid for other reasons has a total.
func TestTotal(t *testing.T) {
	for _, j := range hosts() {
		isTotal(t, j)
	}
	for tasks := 1; tasks <= topScale; tasks++ {
		for i := range (api.Vec{}) {
			j := Job{Id: -1, Cell: 99, Tasks: tasks, Need: with(api.Vec{1, 2, 3, 4}, i, most/tasks)}
			isTotal(t, j)
			if got, err := Total(j); err != nil || got[i] != most/tasks*tasks || got[(i+1)%4] != j.Need[(i+1)%4]*tasks {
				t.Errorf("the total of %v is %v %v", j, got, err)
			}
			if tasks > 1 {
				j.Need[i]++
				got, err := Total(j)
				isOnly(t, err, api.ErrOver)
				if got != (api.Vec{}) {
					t.Errorf("the total is %v beside an error", got)
				}
			}
		}
	}
}

// TestTotalOfOddTasks checks numbers of tasks that no valid job has.
func TestTotalOfOddTasks(t *testing.T) {
	for _, need := range []api.Vec{{}, {1, 2, 3, 4}, all(1), all(most)} {
		if got, err := Total(Job{Need: need}); got != (api.Vec{}) || err != nil {
			t.Errorf("the total of no tasks is %v %v", got, err)
		}
		for _, n := range outside(0, topScale) {
			got, err := Total(Job{Id: 1, Tasks: n, Need: need})
			isOnly(t, err, api.ErrArg)
			if got != (api.Vec{}) {
				t.Errorf("the total is %v beside an error", got)
			}
		}
	}
	if got, err := Total(Job{Tasks: 16, Need: api.Vec{1, 2, 3, most / 16}}); got != (api.Vec{16, 32, 48, most}) || err != nil {
		t.Errorf("the total is %v %v", got, err)
	}
}

// TestTotalOfBadNeeds checks that a Need that is not valid is told ahead of a total
// that is not.
func TestTotalOfBadNeeds(t *testing.T) {
	for _, tasks := range []int{0, 1, 2, 8, 16, 17, -1} {
		for i := range (api.Vec{}) {
			for _, n := range outside(0, most) {
				got, err := Total(Job{Id: 1, Tasks: tasks, Need: with(all(most), i, n)})
				isOnly(t, err, api.ErrArg)
				if got != (api.Vec{}) {
					t.Errorf("the total is %v beside an error", got)
				}
			}
		}
	}
}

func TestAdd(t *testing.T) {
	b, p := New(), plan{}
	for i, j := range []Job{small(7, 3), small(1, 8).in(7), small(999, 1).envelopes(), small(6, 2), small(8, 5).in(999), small(998, 1)} {
		j.Need, j.Band, j.Budget = all(i), i%3, 10*i
		does(t, b, &p, adds(j))
		for at := range j.Tasks {
			if got := b.Where(task(j.Id, at)); got != Nowhere {
				t.Errorf("task %d of job %d is at %d", at, j.Id, got)
			}
		}
	}
	if list := b.Jobs(); len(list) != 6 || list[0].Id != 1 || list[2].Id != 7 || list[5].Id != 999 {
		t.Errorf("the jobs are %v", list)
	}
}

// TestAddDup checks that a number is taken until the job is dropped, and that
// ErrDup is told ahead of ErrFull.
func TestAddDup(t *testing.T) {
	b, p := some(t)
	fullTable, fullPlan := full(t)
	for _, j := range hosts() {
		for _, one := range p.jobs {
			j.Id = one.Id
			fails(t, b, p, adds(j), api.ErrDup)
		}
		for _, one := range fullPlan.jobs {
			j.Id = one.Id
			fails(t, fullTable, fullPlan, adds(j), api.ErrDup)
		}
	}
	for _, one := range p.jobs {
		fails(t, b, p, adds(one), api.ErrDup)
		does(t, b, &p, drops(one.Id), adds(one))
		fails(t, b, p, adds(one), api.ErrDup)
	}
}

func TestAddFull(t *testing.T) {
	b, p := full(t)
	for _, id := range []int{1, 100, 133, 999} {
		for _, j := range hosts() {
			j.Id = id
			fails(t, b, p, adds(j), api.ErrFull)
		}
	}
	for i, id := range []int{105, 101, 132} {
		does(t, b, &p, drops(id), adds(small(1+i, 8)))
		fails(t, b, p, adds(small(id, 1)), api.ErrFull)
	}
}

// TestFullTasks checks that all tasks of all jobs have places.
func TestFullTasks(t *testing.T) {
	b := New()
	var want []api.Task
	for id := 1; id <= topJobs; id++ {
		done(t, b.Add(small(id, topTasks)))
		for at := range topTasks {
			want = append(want, task(id, at))
		}
	}
	if got := b.Waiting(); !slices.Equal(got, want) {
		t.Errorf("waiting are %v", got)
	}
	for _, k := range want {
		done(t, b.Put(k, math.MaxInt))
	}
	if got := b.At(math.MaxInt); !slices.Equal(got, want) || len(b.Waiting()) != 0 {
		t.Errorf("at the place are %v", got)
	}
}

// TestDrop checks that a job leaves with all its tasks, wherever they are, and that
// no other does.
func TestDrop(t *testing.T) {
	_, list := some(t)
	for _, j := range list.jobs {
		b, p := some(t)
		does(t, b, &p, drops(j.Id))
		fails(t, b, p, drops(j.Id), api.ErrNone)
		for at := range j.Tasks {
			fails(t, b, p, waits(j.Id, at), api.ErrNone)
			fails(t, b, p, puts(j.Id, at, 7), api.ErrNone)
		}
	}
	b, p := some(t)
	for _, j := range list.jobs {
		does(t, b, &p, drops(j.Id))
	}
	isTable(t, b, plan{})
}

// TestDroppedLeavesNothing checks that the tasks of a job that comes again wait, and
// that it is as it is then.
func TestDroppedLeavesNothing(t *testing.T) {
	b, p := filled(t, adds(small(5, 3)), puts(5, 0, 7), puts(5, 2, 7), drops(5), adds(small(5, 4).in(9)))
	if got := b.Waiting(); len(got) != 4 {
		t.Errorf("waiting are %v", got)
	}
	does(t, b, &p, puts(5, 3, 7), puts(5, 0, 7))
	if got := b.At(7); len(got) != 0 {
		t.Errorf("at 7 are %v", got)
	}
	does(t, b, &p, drops(5), adds(small(5, 1)))
	fails(t, b, p, puts(5, 3, 7), api.ErrArg)
	does(t, b, &p, puts(5, 0, 0))
}

// TestNoSuchJob checks that ErrNone is told ahead of all else.
func TestNoSuchJob(t *testing.T) {
	b, p := some(t)
	for _, id := range append([]int{2, 3, 7, 8, 10, 500, 998}, outside(1, topID)...) {
		list := []call{drops(id)}
		for _, at := range []int{0, 1, 2, 7, 8, -1, math.MinInt, math.MaxInt} {
			list = append(list, waits(id, at), puts(id, at, 0), puts(id, at, 7), puts(id, at, -1), puts(id, at, math.MinInt), puts(id, at, math.MaxInt))
		}
		for _, c := range list {
			fails(t, b, p, c, api.ErrNone)
			isOnly(t, c.on(New()), api.ErrNone)
		}
	}
}

func TestNil(t *testing.T) {
	var b *Table
	isTable(t, b, plan{})
	for _, j := range append(hosts(), Job{}, Job{Id: -1}, Job{Id: math.MinInt, Set: math.MaxInt}) {
		for _, k := range []api.Task{{}, task(5, 0), task(5, -1), task(math.MinInt, math.MaxInt)} {
			for _, place := range []int{0, 7, -1, math.MinInt, math.MaxInt} {
				for kind := range kinds {
					fails(t, b, plan{}, call{kind, j, k, place}, api.ErrNil)
				}
				if b.Where(k) != Nowhere || b.At(place) != nil || b.Waiting() != nil || b.Jobs() != nil {
					t.Error("a nil table has a task")
				}
			}
		}
	}
}

func TestTablesAreApart(t *testing.T) {
	b, p := some(t)
	c, q := full(t)
	does(t, b, &p, adds(small(101, 2)), puts(101, 0, 3), puts(101, 1, 3))
	does(t, c, &q, waits(101, 0), puts(101, 0, 5), drops(102), adds(small(9, 3)), puts(9, 2, 7))
	isTable(t, b, p)
	isTable(t, New(), plan{})
	does(t, b, &p, drops(101), waits(9, 1))
	isTable(t, c, q)
}

// P18.2

// TestPut checks that a place can have any number from 0 on, and be that of many
// tasks.
func TestPut(t *testing.T) {
	for _, place := range places {
		b, p := filled(t, adds(small(5, 8)), adds(small(3, 2).envelopes()), adds(small(4, 2).in(3)))
		does(t, b, &p, puts(5, 7, place), puts(5, 0, place), puts(3, 1, place), puts(4, 1, place), puts(5, 4, place/2))
		does(t, b, &p, waits(5, 7), waits(3, 1), puts(5, 7, place/3), puts(3, 1, place), waits(4, 1))
		if got := b.Where(task(3, 1)); got != place {
			t.Errorf("the task is at %d; want %d", got, place)
		}
	}
}

// TestPutOfEachTask checks that a Put moves one task alone.
func TestPutOfEachTask(t *testing.T) {
	for tasks := 1; tasks <= topTasks; tasks++ {
		for at := range tasks {
			b, p := filled(t, adds(small(5, tasks)), adds(small(6, topTasks)))
			does(t, b, &p, puts(5, at, 3))
			if got := b.Waiting(); len(got) != tasks-1+topTasks || slices.Contains(got, task(5, at)) {
				t.Errorf("waiting are %v", got)
			}
			fails(t, b, p, puts(5, at, 3), api.ErrState)
			does(t, b, &p, waits(5, at))
			fails(t, b, p, waits(5, at), api.ErrState)
		}
	}
}

// TestNoSuchTask checks that ErrArg is told ahead of ErrState, whether the job's
// other tasks have places or wait.
func TestNoSuchTask(t *testing.T) {
	b, p := some(t)
	for _, j := range p.jobs {
		for _, at := range append([]int{j.Tasks, j.Tasks + 1}, outside(0, topTasks-1)...) {
			fails(t, b, p, waits(j.Id, at), api.ErrArg)
			for _, place := range []int{0, 7, math.MaxInt, -1, math.MinInt} {
				fails(t, b, p, puts(j.Id, at, place), api.ErrArg)
			}
		}
	}
}

// TestBadPlaces checks that ErrArg is told ahead of ErrState, and that a task can't
// be sent to wait by a Put.
func TestBadPlaces(t *testing.T) {
	b, p := some(t)
	for _, j := range p.jobs {
		for at := range j.Tasks {
			for _, place := range badPlaces {
				fails(t, b, p, puts(j.Id, at, place), api.ErrArg)
			}
		}
	}
}

// TestPutTwice checks that a task that has a place takes no other, nor the same one
// again, until it waits.
func TestPutTwice(t *testing.T) {
	b, p := some(t)
	for _, s := range p.seats {
		for _, place := range append([]int{s.place, s.place + 1}, places...) {
			fails(t, b, p, puts(s.k.Job, s.k.At, place), api.ErrState)
		}
	}
	for _, s := range p.seats {
		does(t, b, &p, waits(s.k.Job, s.k.At), puts(s.k.Job, s.k.At, s.place+1))
		fails(t, b, p, puts(s.k.Job, s.k.At, s.place), api.ErrState)
	}
}

// TestWait checks that one task leaves its place, and that a task that waits can't
// leave.
func TestWait(t *testing.T) {
	_, list := some(t)
	for _, s := range list.seats {
		b, p := some(t)
		does(t, b, &p, waits(s.k.Job, s.k.At))
		fails(t, b, p, waits(s.k.Job, s.k.At), api.ErrState)
		does(t, b, &p, puts(s.k.Job, s.k.At, s.place))
	}
	b, p := some(t)
	for _, k := range p.waiting() {
		fails(t, b, p, waits(k.Job, k.At), api.ErrState)
	}
	for _, s := range list.seats {
		does(t, b, &p, waits(s.k.Job, s.k.At))
	}
	if got := b.Waiting(); len(got) != 20 {
		t.Errorf("waiting are %v", got)
	}
}

func TestTold(t *testing.T) {
	b, _ := some(t)
	for place, want := range map[int][]api.Task{
		0: {task(5, 0)}, 1: nil, 2: {task(5, 3)}, 3: nil, 7: {task(5, 7), task(6, 0), task(9, 1)}, 8: nil, -1: nil, -2: nil, math.MinInt: nil, math.MaxInt: nil,
	} {
		if got := b.At(place); !slices.Equal(got, want) {
			t.Errorf("at %d are %v; want %v", place, got, want)
		}
	}
	want := []api.Task{
		task(1, 0), task(1, 1), task(4, 1), task(4, 2), task(5, 1), task(5, 2), task(5, 4), task(5, 5), task(5, 6), task(9, 0), task(9, 2),
	}
	if got := b.Waiting(); !slices.Equal(got, want) {
		t.Errorf("waiting are %v; want %v", got, want)
	}
	for k, want := range map[api.Task]int{
		task(4, 3): 2, task(999, 0): 0, task(999, 1): 7, task(9, 1): 7, task(9, 0): -1, task(9, 3): -1, task(9, -1): -1, task(2, 0): -1,
	} {
		if got := b.Where(k); got != want {
			t.Errorf("task %v is at %d; want %d", k, got, want)
		}
	}
	jobs := []Job{small(1, 2), small(4, 4).in(9), small(5, 8), small(6, 1), small(9, 3).envelopes(), small(999, 2).in(9)}
	if got := b.Jobs(); !slices.Equal(got, jobs) {
		t.Errorf("the jobs are %v; want %v", got, jobs)
	}
}

// TestOrder checks that jobs and tasks are told in order, in whichever order they
// came.
func TestOrder(t *testing.T) {
	for seed := range 20 {
		r := rand.New(rand.NewSource(int64(seed)))
		b := New()
		var jobs []Job
		var tasks []api.Task
		for i := range topJobs {
			jobs = append(jobs, small(1+31*i+r.Intn(31), topTasks))
			for at := range topTasks {
				tasks = append(tasks, task(jobs[i].Id, at))
			}
		}
		for _, i := range r.Perm(len(jobs)) {
			done(t, b.Add(jobs[i]))
		}
		if got := b.Waiting(); !slices.Equal(got, tasks) || !slices.Equal(b.Jobs(), jobs) {
			t.Fatalf("seed %d: waiting are %v", seed, got)
		}
		for _, i := range r.Perm(len(tasks)) {
			done(t, b.Put(tasks[i], 7))
		}
		if got := b.At(7); !slices.Equal(got, tasks) || len(b.Waiting()) != 0 {
			t.Fatalf("seed %d: at the place are %v", seed, got)
		}
		for _, i := range r.Perm(len(tasks)) {
			done(t, b.Wait(tasks[i]))
		}
		if got := b.Waiting(); !slices.Equal(got, tasks) {
			t.Fatalf("seed %d: waiting are %v", seed, got)
		}
	}
}

// spoil writes over a list, and over the memory behind it.
func spoil[T any](list []T, v T) {
	list = list[:cap(list)]
	for i := range list {
		list[i] = v
	}
}

// TestAnswersAreNew checks that an answer shares no memory with the table or with
// another answer, and isn't changed by calls behind it.
func TestAnswersAreNew(t *testing.T) {
	b, p := some(t)
	waiting, at, jobs := b.Waiting(), b.At(7), b.Jobs()
	wantWaiting, wantAt, wantJobs := slices.Clone(waiting), slices.Clone(at), slices.Clone(jobs)
	for range 2 {
		spoil(b.Waiting(), task(77, 7))
		spoil(b.At(7), task(77, 7))
		spoil(b.Jobs(), small(77, 7))
		isTable(t, b, p)
	}
	one, _ := b.Of(5)
	one.Tasks, one.Set, one.Need[0] = 1, 3, 99
	isTable(t, b, p)
	does(t, b, &p, waits(5, 7), drops(6), puts(1, 1, 7), adds(small(2, 3)), waits(9, 1), puts(9, 0, 7), drops(999))
	if !slices.Equal(waiting, wantWaiting) || !slices.Equal(at, wantAt) || !slices.Equal(jobs, wantJobs) {
		t.Errorf("the answers are now %v, %v, %v", waiting, at, jobs)
	}
}

// P18.1 to P18.3, with random calls.

// drawn is a random job; a few can't be.
func drawn(r *rand.Rand, ids int) Job {
	j := small(r.Intn(ids+1), 1+r.Intn(topTasks))
	for _, f := range fields()[1:] {
		f.set(&j, f.low+r.Intn(f.high-f.low+1))
	}
	for i := range j.Need {
		j.Need[i] = r.Intn(most/j.Tasks + 1)
	}
	j.Env = r.Intn(3) == 0
	if r.Intn(2) == 0 && !j.Env {
		j.Set = 1 + r.Intn(topID)
	}
	switch r.Intn(20) {
	case 0:
		f := fields()[r.Intn(len(fields()))]
		bad := outside(f.low, f.high)
		f.set(&j, bad[r.Intn(len(bad))])
	case 1:
		j.Need[r.Intn(len(j.Need))] += most / topTasks
	case 2:
		j.Env, j.Set = true, 1
	}
	return j
}

// TestRandom makes random calls on a table and on a plan of it.
func TestRandom(t *testing.T) {
	counts := map[error]int{}
	for seed := range 60 {
		r := rand.New(rand.NewSource(int64(seed)))
		b, p := New(), plan{}
		// Few numbers bring calls to jobs that are there; many fill the table.
		ids, seats := []int{3, 10, 60}[seed%3], []int{1, 3, 12}[seed/3%3]
		for range 300 {
			j := drawn(r, ids)
			if Good(j) != good(j) {
				t.Fatalf("seed %d: job %v is good: %v", seed, j, Good(j))
			}
			isTotal(t, j)
			c := call{r.Intn(kinds), j, task(r.Intn(ids+1), r.Intn(topTasks+2)-1), places[r.Intn(seats)]}
			switch {
			case c.kind == drop && r.Intn(4) > 0:
				c.kind = put
			case r.Intn(40) == 0:
				c.place = badPlaces[r.Intn(len(badPlaces))]
			}
			counts[p.wrong(c)]++
			makes(t, b, &p, c)
			once(t, b, p)
			if t.Failed() {
				t.Fatalf("seed %d: call %v", seed, c)
			}
		}
	}
	for _, err := range []error{nil, api.ErrArg, api.ErrDup, api.ErrFull, api.ErrNone, api.ErrState} {
		if counts[err] < 50 {
			t.Errorf("only %d calls were answered with %v", counts[err], err)
		}
	}
}

// once checks that each task of each job is told once: it waits, or it is at a
// place, where it is listed if its job is on machines.
func once(t *testing.T, b *Table, p plan) {
	t.Helper()
	told := map[api.Task]int{}
	for _, k := range b.Waiting() {
		told[k]++
	}
	for _, place := range places {
		for _, k := range b.At(place) {
			told[k]++
		}
	}
	tasks := 0
	for _, j := range p.jobs {
		tasks += j.Tasks
		for at := range j.Tasks {
			k := task(j.Id, at)
			if j.Set != 0 && b.Where(k) != Nowhere {
				told[k]++
			}
			if told[k] != 1 {
				t.Errorf("task %v is told %d times", k, told[k])
			}
		}
	}
	if len(told) != tasks {
		t.Errorf("%d tasks are told; want %d", len(told), tasks)
	}
}

// The chapter's example.

func TestExample(t *testing.T) {
	b := New()
	done(t, b.Add(small(5, 2)), b.Put(task(5, 0), 7))
	if got := b.Waiting(); !slices.Equal(got, []api.Task{task(5, 1)}) {
		t.Errorf("waiting are %v", got)
	}
}
