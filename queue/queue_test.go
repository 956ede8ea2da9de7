package queue

import (
	"errors"
	"math"
	"math/rand"
	"slices"
	"testing"

	"quitrent/api"
)

var allErrors = []error{
	api.ErrArg, api.ErrNil, api.ErrForm, api.ErrOver, api.ErrNone, api.ErrDup, api.ErrFull,
	api.ErrQuota, api.ErrCeil, api.ErrRoom, api.ErrBudget, api.ErrFunds, api.ErrState, api.ErrDown,
}

// numbers are jobs and their tasks' places from the whole range; some of them are
// the same if bits get lost.
var numbers = []int{
	math.MinInt, math.MinInt + 1, -1<<32 - 1, -1 << 32, -257, -256, -2, -1, 0, 1, 2, 3, 7, 8, 32, 255, 256, 257, 999, 1000,
	65535, 65536, 65537, 1 << 30, 1<<31 - 1, 1 << 31, 1<<32 - 1, 1 << 32, 1<<32 + 1, 1<<62 + 1, math.MaxInt - 1, math.MaxInt,
}

// bands are all that there are.
var bands = []int{api.Prod, api.Batch, api.Free}

// wrongBands are none; some of them would be one if bits got lost.
var wrongBands = []int{
	-1, -2, -3, -255, -256, 3, 4, 5, 255, 256, 257, 258, 65536, 1 << 31, 1 << 32, 1<<32 + 1, 1<<32 + 2, -1 << 32, 2 - 1<<32,
	1 << 62, math.MinInt, math.MinInt + 1, math.MaxInt - 1, math.MaxInt,
}

// isOnly checks that err is want, no other error of package api, and no Fault.
func isOnly(t *testing.T, err, want error) {
	t.Helper()
	if (err == nil) != (want == nil) {
		t.Errorf("error %v: want %v", err, want)
	}
	for _, e := range allErrors {
		if errors.Is(err, e) != (e == want) {
			t.Errorf("error %v: want %v only", err, want)
		}
	}
	var f *api.Fault
	if errors.As(err, &f) {
		t.Errorf("error %v: has a Fault", err)
	}
}

// arrival is a task that came, with a band.
type arrival struct {
	task api.Task
	band int
}

// plan is what a queue must tell, by plain rules: the tasks that wait, of all
// bands, as they came.
type plan []arrival

// list tells the tasks: each is behind those of lesser bands, and behind those of
// its own band that came before.
func (p plan) list() []api.Task {
	list := make([]api.Task, len(p))
	for i, a := range p {
		ahead := 0
		for k, other := range p {
			if other.band < a.band || other.band == a.band && k < i {
				ahead++
			}
		}
		list[ahead] = a.task
	}
	return list
}

func (p plan) has(task api.Task) bool {
	for _, a := range p {
		if a.task == task {
			return true
		}
	}
	return false
}

// without tells what is left if tasks wait no more.
func (p plan) without(is func(task api.Task) bool) plan {
	var left plan
	for _, a := range p {
		if !is(a.task) {
			left = append(left, a)
		}
	}
	return left
}

func (p plan) drop(task api.Task) plan {
	return p.without(func(other api.Task) bool { return other == task })
}

func (p plan) dropJob(job int) plan {
	return p.without(func(task api.Task) bool { return task.Job == job })
}

// of tells how many tasks of a job wait.
func (p plan) of(job int) int { return len(p) - len(p.dropJob(job)) }

// pushes lets tasks come.
func pushes(t *testing.T, q *Queue, list ...arrival) {
	t.Helper()
	for _, a := range list {
		isOnly(t, q.Push(a.task, a.band), nil)
	}
}

// isQueue checks all that a queue tells.
func isQueue(t *testing.T, q *Queue, p plan) {
	t.Helper()
	if got, want := q.List(), p.list(); !slices.Equal(got, want) {
		t.Errorf("the tasks are %v; want %v", got, want)
	}
	if got := q.Len(); got != len(p) {
		t.Errorf("there are %d tasks; want %d", got, len(p))
	}
	for _, a := range p {
		// Itself, beside it, with job and place the other way round.
		j, at := a.task.Job, a.task.At
		for _, task := range []api.Task{{Job: j, At: at}, {Job: j + 1, At: at}, {Job: j, At: at + 1}, {Job: at, At: j}} {
			if got, want := q.Is(task), p.has(task); got != want {
				t.Errorf("%v waits: %v; want %v", task, got, want)
			}
		}
	}
	for _, task := range []api.Task{{}, {Job: 1}, {At: 1}, {Job: -1, At: -1}, {Job: math.MaxInt, At: math.MinInt}} {
		if got, want := q.Is(task), p.has(task); got != want {
			t.Errorf("%v waits: %v; want %v", task, got, want)
		}
	}
}

// some returns a queue in which tasks of several jobs wait, some of one job in
// several bands.
func some(t *testing.T) (*Queue, plan) {
	t.Helper()
	p := plan{
		{api.Task{Job: 5, At: 1}, api.Free}, {api.Task{Job: 3, At: 0}, api.Batch}, {api.Task{Job: 5, At: 0}, api.Free},
		{api.Task{Job: 9, At: 2}, api.Prod}, {api.Task{Job: 3, At: 2}, api.Free}, {api.Task{Job: 1, At: 5}, api.Batch},
		{api.Task{Job: 9, At: 0}, api.Prod}, {api.Task{Job: 5, At: 7}, api.Prod}, {api.Task{Job: 3, At: 1}, api.Batch},
		{api.Task{Job: 0, At: 0}, api.Free}, {api.Task{Job: -4, At: -9}, api.Batch}, {api.Task{Job: 2, At: 5}, api.Prod},
	}
	q := New()
	pushes(t, q, p...)
	return q, p
}

// P21.1

func TestNew(t *testing.T) {
	q := New()
	if q == nil {
		t.Fatal("there is no queue")
	}
	isQueue(t, q, nil)
	for _, job := range numbers {
		for _, at := range numbers {
			task := api.Task{Job: job, At: at}
			if q.Is(task) {
				t.Errorf("%v waits", task)
			}
			isOnly(t, q.Drop(task), api.ErrNone)
		}
		if n := q.DropJob(job); n != 0 {
			t.Errorf("%d tasks of job %d waited", n, job)
		}
	}
	isQueue(t, q, nil)
}

// TestPush checks that a task of any numbers can wait, in every band.
func TestPush(t *testing.T) {
	for _, band := range bands {
		for _, job := range numbers {
			for _, at := range numbers {
				q := New()
				p := plan{{api.Task{Job: job, At: at}, band}}
				pushes(t, q, p...)
				isQueue(t, q, p)
			}
		}
	}
}

func TestPushTells(t *testing.T) {
	q := New()
	is := func(want ...api.Task) {
		t.Helper()
		if got := q.List(); !slices.Equal(got, want) || q.Len() != len(want) {
			t.Errorf("the tasks are %v; want %v", got, want)
		}
	}
	a, b, c, d, e := api.Task{Job: 4, At: 1}, api.Task{Job: 4, At: 0}, api.Task{Job: 2, At: 0}, api.Task{Job: 9, At: 3}, api.Task{Job: 1, At: 0}
	is()
	pushes(t, q, arrival{a, 1})
	is(a)
	pushes(t, q, arrival{b, 1})
	is(a, b)
	pushes(t, q, arrival{c, 2})
	is(a, b, c)
	pushes(t, q, arrival{d, 0})
	is(d, a, b, c)
	pushes(t, q, arrival{e, 1})
	is(d, a, b, e, c)
}

// TestPushWrongBand checks that a band that can't be is told, whether the task
// waits or not.
func TestPushWrongBand(t *testing.T) {
	q, p := some(t)
	for _, band := range wrongBands {
		isOnly(t, New().Push(api.Task{Job: 1, At: 0}, band), api.ErrArg)
		isOnly(t, q.Push(api.Task{Job: 77, At: 0}, band), api.ErrArg)
		for _, a := range p {
			isOnly(t, q.Push(a.task, band), api.ErrArg)
		}
		isQueue(t, q, p)
	}
}

// TestPushAgain checks that a task that waits can't come again, in whichever band,
// and stays where it was.
func TestPushAgain(t *testing.T) {
	q, p := some(t)
	for _, a := range p {
		for _, band := range bands {
			isOnly(t, q.Push(a.task, band), api.ErrDup)
			isQueue(t, q, p)
		}
	}
}

// TestPushApart checks that tasks are the same only if both numbers are, all in
// one queue.
func TestPushApart(t *testing.T) {
	q := New()
	var p plan
	for i, job := range numbers {
		for k, at := range numbers {
			p = append(p, arrival{api.Task{Job: job, At: at}, (i + k) % 3})
		}
	}
	pushes(t, q, p...)
	isQueue(t, q, p)
	for _, a := range p {
		isOnly(t, q.Push(a.task, api.Prod), api.ErrDup)
	}
	isQueue(t, q, p)
}

// TestPushMany checks that a queue has room for more tasks than there can be at
// one time, and drops them all.
func TestPushMany(t *testing.T) {
	const jobs, tasks = 600, 10
	q := New()
	var want [api.MaxBands][]api.Task
	for at := range tasks {
		for job := range jobs {
			task, band := api.Task{Job: job, At: at}, (job+at)%api.MaxBands
			pushes(t, q, arrival{task, band})
			want[band] = append(want[band], task)
		}
	}
	list := slices.Concat(want[0], want[1], want[2])
	if got := q.List(); !slices.Equal(got, list) || q.Len() != jobs*tasks {
		t.Fatalf("there are %d tasks, or their order isn't theirs", len(got))
	}
	for job := range jobs {
		if n := q.DropJob(job); n != tasks {
			t.Fatalf("%d tasks of job %d waited; want %d", n, job, tasks)
		}
	}
	isQueue(t, q, nil)
}

func TestDrop(t *testing.T) {
	_, all := some(t)
	for _, a := range all {
		q, p := some(t)
		isOnly(t, q.Drop(a.task), nil)
		p = p.drop(a.task)
		isQueue(t, q, p)
		isOnly(t, q.Drop(a.task), api.ErrNone)
		isQueue(t, q, p)
	}
}

// TestDropNone checks that what doesn't wait can't be dropped: tasks of no job,
// tasks beside one that waits, and with job and place the other way round.
func TestDropNone(t *testing.T) {
	q, p := some(t)
	isNone := func(task api.Task) {
		if !p.has(task) {
			isOnly(t, q.Drop(task), api.ErrNone)
		}
	}
	for _, a := range p {
		j, at := a.task.Job, a.task.At
		for _, n := range []int{1, -1, 256, 1 << 32, -1 << 32, math.MinInt} {
			isNone(api.Task{Job: j + n, At: at})
			isNone(api.Task{Job: j, At: at + n})
		}
		isNone(api.Task{Job: at, At: j})
	}
	for _, job := range numbers {
		for _, at := range numbers {
			isNone(api.Task{Job: job, At: at})
		}
	}
	isQueue(t, q, p)
}

// TestDropEnds checks tasks of the whole range, dropped neither from the one end
// nor from the other.
func TestDropEnds(t *testing.T) {
	q := New()
	var p plan
	for i, n := range numbers {
		p = append(p, arrival{api.Task{Job: n, At: i % 2}, i % 3}, arrival{api.Task{Job: 5, At: n}, i / 3 % 3})
	}
	pushes(t, q, p...)
	for i := range numbers {
		n := i * 7 % len(numbers)
		for _, task := range []api.Task{{Job: numbers[n], At: n % 2}, {Job: 5, At: numbers[n]}} {
			isOnly(t, q.Drop(task), nil)
			p = p.drop(task)
			isQueue(t, q, p)
		}
	}
	isQueue(t, q, nil)
}

func TestDropJob(t *testing.T) {
	for _, job := range append([]int{5, 9, 4, 6, -4, 261, 5 + 1<<32}, numbers...) {
		q, p := some(t)
		if got, want := q.DropJob(job), p.of(job); got != want {
			t.Errorf("%d tasks of job %d waited; want %d", got, job, want)
		}
		p = p.dropJob(job)
		isQueue(t, q, p)
		if n := q.DropJob(job); n != 0 {
			t.Errorf("%d tasks of job %d waited", n, job)
		}
		isQueue(t, q, p)
	}
}

// TestDropJobEnds checks jobs of the whole range, each with tasks in several bands,
// and as many as no other beside it.
func TestDropJobEnds(t *testing.T) {
	q := New()
	var p plan
	for i, job := range numbers {
		for at := range 1 + i%5 {
			p = append(p, arrival{api.Task{Job: job, At: at * (1 - 2*(i%2))}, (i + at) % 3})
		}
	}
	pushes(t, q, p...)
	for i := range numbers {
		job := numbers[i*7%len(numbers)]
		if got, want := q.DropJob(job), 1+i*7%len(numbers)%5; got != want {
			t.Errorf("%d tasks of job %d waited; want %d", got, job, want)
		}
		p = p.dropJob(job)
		isQueue(t, q, p)
	}
	isQueue(t, q, nil)
}

// TestDropJobTells checks one DropJob by numbers: the job's tasks wait in two
// bands, with others between them.
func TestDropJobTells(t *testing.T) {
	q, _ := some(t)
	if n := q.DropJob(5); n != 3 {
		t.Errorf("%d tasks waited; want 3", n)
	}
	want := []api.Task{
		{Job: 9, At: 2}, {Job: 9, At: 0}, {Job: 2, At: 5},
		{Job: 3, At: 0}, {Job: 1, At: 5}, {Job: 3, At: 1}, {Job: -4, At: -9},
		{Job: 3, At: 2}, {Job: 0, At: 0},
	}
	if got := q.List(); !slices.Equal(got, want) || q.Len() != 9 {
		t.Errorf("the tasks are %v; want %v", got, want)
	}
	if q.Is(api.Task{Job: 5, At: 0}) || q.Is(api.Task{Job: 5, At: 1}) || q.Is(api.Task{Job: 5, At: 7}) {
		t.Error("a task of the job waits")
	}
}

// TestPushBehindDrop checks that a task that was dropped comes behind those that
// wait, and that its band may be another then.
func TestPushBehindDrop(t *testing.T) {
	_, all := some(t)
	drops := []func(q *Queue, p plan, task api.Task) plan{
		func(q *Queue, p plan, task api.Task) plan {
			isOnly(t, q.Drop(task), nil)
			return p.drop(task)
		},
		func(q *Queue, p plan, task api.Task) plan {
			q.DropJob(task.Job)
			return p.dropJob(task.Job)
		},
	}
	for _, drop := range drops {
		for _, a := range all {
			for _, band := range bands {
				q, p := some(t)
				p = drop(q, p, a.task)
				again := arrival{a.task, band}
				pushes(t, q, again)
				isQueue(t, q, append(p, again))
			}
		}
	}
}

func TestNil(t *testing.T) {
	var q *Queue
	for _, job := range numbers {
		for _, at := range numbers {
			task := api.Task{Job: job, At: at}
			for _, band := range append(wrongBands, bands...) {
				isOnly(t, q.Push(task, band), api.ErrNil)
			}
			isOnly(t, q.Drop(task), api.ErrNil)
			if q.Is(task) {
				t.Errorf("%v waits", task)
			}
		}
		if n := q.DropJob(job); n != 0 {
			t.Errorf("%d tasks of job %d waited", n, job)
		}
	}
	if list := q.List(); len(list) != 0 || q.Len() != 0 {
		t.Errorf("there are %d tasks: %v", q.Len(), list)
	}
}

func TestQueuesAreApart(t *testing.T) {
	a, b := New(), New()
	task := api.Task{Job: 1, At: 2}
	pushes(t, a, arrival{task, 0})
	isQueue(t, b, nil)
	pushes(t, b, arrival{task, 2}, arrival{api.Task{Job: 1, At: 0}, 1})
	isQueue(t, a, plan{{task, 0}})
	if n := b.DropJob(1); n != 2 {
		t.Errorf("%d tasks waited; want 2", n)
	}
	isQueue(t, a, plan{{task, 0}})
	isQueue(t, b, nil)
	isQueue(t, New(), nil)
}

// P21.2

// TestListTells checks one List by numbers.
func TestListTells(t *testing.T) {
	q, _ := some(t)
	want := []api.Task{
		{Job: 9, At: 2}, {Job: 9, At: 0}, {Job: 5, At: 7}, {Job: 2, At: 5},
		{Job: 3, At: 0}, {Job: 1, At: 5}, {Job: 3, At: 1}, {Job: -4, At: -9},
		{Job: 5, At: 1}, {Job: 5, At: 0}, {Job: 3, At: 2}, {Job: 0, At: 0},
	}
	if got := q.List(); !slices.Equal(got, want) || q.Len() != 12 {
		t.Errorf("the tasks are %v; want %v", got, want)
	}
}

// TestList checks that tasks are told as they came, and not by their numbers, in
// whichever order and bands they came.
func TestList(t *testing.T) {
	for seed := range 60 {
		r := rand.New(rand.NewSource(int64(seed)))
		q := New()
		var p plan
		for _, i := range r.Perm(len(numbers)) {
			p = append(p, arrival{api.Task{Job: numbers[i], At: r.Intn(3)}, r.Intn(3)})
			p = append(p, arrival{api.Task{Job: 4, At: numbers[i]}, r.Intn(3)})
		}
		pushes(t, q, p...)
		isQueue(t, q, p)
		if t.Failed() {
			t.Fatalf("seed %d", seed)
		}
	}
}

// TestAsking checks that questions, and calls that fail, change nothing.
func TestAsking(t *testing.T) {
	q, p := some(t)
	for _, job := range numbers {
		for _, at := range numbers {
			q.Is(api.Task{Job: job, At: at})
		}
	}
	q.List()
	q.Len()
	isOnly(t, q.Push(api.Task{Job: 9, At: 2}, 1), api.ErrDup)
	isOnly(t, q.Push(api.Task{Job: 8, At: 2}, 3), api.ErrArg)
	isOnly(t, q.Drop(api.Task{Job: 8, At: 2}), api.ErrNone)
	isQueue(t, q, p)
}

// TestAnswersAreNew checks that an answer shares no memory with the queue or with
// another answer, and isn't changed by calls behind it.
func TestAnswersAreNew(t *testing.T) {
	for _, bandsOf := range []func(band int) int{
		func(band int) int { return band },
		// All in one band, so that an answer could be the band's own memory.
		func(int) int { return 0 },
		func(int) int { return 1 },
		func(int) int { return 2 },
	} {
		_, all := some(t)
		var p plan
		for _, a := range all {
			p = append(p, arrival{a.task, bandsOf(a.band)})
		}
		q := New()
		pushes(t, q, p...)
		list := q.List()
		want := slices.Clone(list)
		for range 2 {
			other := q.List()
			other = other[:cap(other)]
			for i := range other {
				other[i] = api.Task{Job: 77, At: 77}
			}
			isQueue(t, q, p)
		}
		more := []arrival{{api.Task{Job: 8, At: 8}, 0}, {api.Task{Job: 8, At: 9}, 1}, {api.Task{Job: 8, At: 7}, 2}}
		pushes(t, q, more...)
		isOnly(t, q.Drop(p[0].task), nil)
		q.DropJob(9)
		isQueue(t, q, append(p, more...).drop(p[0].task).dropJob(9))
		if !slices.Equal(list, want) {
			t.Errorf("the answer is now %v; want %v", list, want)
		}
	}
}

// P21.3

// others tells a list without some tasks.
func others(list []api.Task, is func(task api.Task) bool) []api.Task {
	return slices.DeleteFunc(slices.Clone(list), is)
}

// TestOrderStays checks that tasks keep their order whichever other comes or goes.
func TestOrderStays(t *testing.T) {
	_, all := some(t)
	for _, a := range all {
		isIt := func(task api.Task) bool { return task == a.task }
		isOfJob := func(task api.Task) bool { return task.Job == a.task.Job }
		q, _ := some(t)
		before := q.List()
		isOnly(t, q.Drop(a.task), nil)
		if got, want := q.List(), others(before, isIt); !slices.Equal(got, want) {
			t.Errorf("behind Drop, the tasks are %v; want %v", got, want)
		}
		for _, band := range bands {
			pushes(t, q, arrival{a.task, band})
			if got, want := others(q.List(), isIt), others(before, isIt); !slices.Equal(got, want) {
				t.Errorf("behind Push, the others are %v; want %v", got, want)
			}
			isOnly(t, q.Drop(a.task), nil)
		}
		q.DropJob(a.task.Job)
		if got, want := q.List(), others(before, isOfJob); !slices.Equal(got, want) {
			t.Errorf("behind DropJob, the tasks are %v; want %v", got, want)
		}
	}
}

// P21.1 to P21.3, with random calls.

func TestRandom(t *testing.T) {
	dropped, again := 0, 0
	for seed := range 80 {
		r := rand.New(rand.NewSource(int64(seed)))
		q, p := New(), plan(nil)
		// Few jobs and tasks meet often; many make long lists.
		jobs, tasks := 1+r.Intn(8), 1+r.Intn(8)
		for step := range 300 {
			a := arrival{api.Task{Job: r.Intn(jobs) - 1, At: r.Intn(tasks) - 1}, r.Intn(4)}
			before := len(p)
			switch waits := p.has(a.task); r.Intn(12) {
			case 0:
				if got, want := q.DropJob(a.task.Job), p.of(a.task.Job); got != want {
					t.Errorf("%d tasks of job %d waited; want %d", got, a.task.Job, want)
				}
				p = p.dropJob(a.task.Job)
			case 1, 2, 3:
				want := api.ErrNone
				if waits {
					want = nil
				}
				isOnly(t, q.Drop(a.task), want)
				p = p.drop(a.task)
			default:
				switch {
				case a.band == 3:
					isOnly(t, q.Push(a.task, a.band), api.ErrArg)
				case waits:
					again++
					isOnly(t, q.Push(a.task, a.band), api.ErrDup)
				default:
					pushes(t, q, a)
					p = append(p, a)
				}
			}
			dropped += max(before-len(p), 0)
			isQueue(t, q, p)
			if t.Failed() {
				t.Fatalf("seed %d, step %d", seed, step)
			}
		}
	}
	if dropped < 1000 || again < 1000 {
		t.Errorf("only %d tasks were dropped, only %d came again", dropped, again)
	}
}

// The chapter's example.

func TestExample(t *testing.T) {
	q := New()
	second, first := api.Task{Job: 1, At: 0}, api.Task{Job: 2, At: 0}
	pushes(t, q, arrival{second, 2}, arrival{first, 0})
	if got := q.List(); !slices.Equal(got, []api.Task{first, second}) {
		t.Errorf("the tasks are %v", got)
	}
}
