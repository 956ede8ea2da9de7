package park

import (
	"errors"
	"math"
	"math/rand"
	"slices"
	"testing"

	"quitrent/api"
)

var allErrors = []error{
	api.ErrArg, api.ErrNil, api.ErrForm, api.ErrOver, api.ErrNone, api.ErrDup, api.ErrFull,
	api.ErrQuota, api.ErrCeil, api.ErrRoom, api.ErrBudget, api.ErrFunds, api.ErrState, api.ErrDown,
}

// The limits, told by numbers of their own.
const (
	topID    = 999
	topCell  = 4
	most     = 1099511627776
	machines = 24
)

// badIDs, badCells, badAmounts and badStates are numbers that can't be, some of
// them numbers that can if bits get lost.
var (
	badIDs = []int{
		0, -1, -2, -999, -1000, 1000, 1001, 1007, 65537, 1 << 32, 1<<32 + 1, 1<<32 + 7, -1 << 32,
		math.MaxInt, math.MaxInt - 1, math.MinInt, math.MinInt + 1, math.MinInt + 7,
	}
	badCells = []int{
		0, -1, -2, -4, 5, 6, 7, 8, 257, 65537, 1 << 32, 1<<32 + 1, 1<<32 + 4, -1 << 32,
		math.MaxInt, math.MaxInt - 1, math.MinInt, math.MinInt + 1, math.MinInt + 4,
	}
	badAmounts = []int{
		-1, -2, -100, -most, -most - 1, most + 1, most + 2, 2 * most, -1 << 32,
		math.MaxInt, math.MaxInt - 1, math.MinInt, math.MinInt + 1, math.MaxInt - most, math.MinInt + most,
	}
	badStates = []int{
		-1, -2, -3, 3, 4, 5, 256, 257, 258, 65536, 1 << 32, 1<<32 + 1, 1<<32 + 2, -1 << 32,
		math.MaxInt, math.MaxInt - 1, math.MinInt, math.MinInt + 1, math.MinInt + 2,
	}
)

// isOnly checks that err is want, no other error of package api, and no Fault.
func isOnly(t *testing.T, err, want error) {
	t.Helper()
	if (err == nil) != (want == nil) {
		t.Errorf("error %v: want %v", err, want)
	}
	for _, e := range allErrors {
		if errors.Is(err, e) != (e == want) {
			t.Errorf("error %v: want %v only", err, want)
		}
	}
	var f *api.Fault
	if errors.As(err, &f) {
		t.Errorf("error %v: has a Fault", err)
	}
}

// done checks calls that must be answered without an error.
func done(t *testing.T, errs ...error) {
	t.Helper()
	for _, err := range errs {
		isOnly(t, err, nil)
	}
}

// all is n of each resource.
func all(n int) api.Vec { return api.Vec{n, n, n, n} }

// only is n of one resource.
func only(resource, n int) api.Vec {
	var v api.Vec
	v[resource] = n
	return v
}

// plan is what a park must tell: its machines as they came, told by plain rules.
type plan []Machine

// at returns where a machine is; the number of machines if there is none.
func (p plan) at(id int) int {
	for i, m := range p {
		if m.Id == id {
			return i
		}
	}
	return len(p)
}

// list returns the machines of some cells: each number from the least to the
// greatest, if there is a machine with it.
func (p plan) list(cells ...int) []Machine {
	list := []Machine{}
	for id := 1; id <= topID; id++ {
		if i := p.at(id); i < len(p) && slices.Contains(cells, p[i].Cell) {
			list = append(list, p[i])
		}
	}
	return list
}

// sum returns what the machines of a cell have that are in one of some states.
func (p plan) sum(cell int, states ...int) api.Vec {
	var v api.Vec
	for _, m := range p {
		for i := range v {
			if m.Cell == cell && slices.Contains(states, m.State) {
				v[i] += m.Has[i]
			}
		}
	}
	return v
}

// within reports whether no amount is below low or above top.
func within(v api.Vec, low, top int) bool { return slices.Min(v[:]) >= low && slices.Max(v[:]) <= top }

// call is a call of one of the methods that change a park.
type call struct {
	kind int
	m    Machine // Drop takes its Id, Set its Id and State
}

const (
	add = iota
	drop
	set
	kinds
)

// on makes the call on a park.
func (c call) on(p *Park) error {
	switch c.kind {
	case add:
		return p.Add(c.m.Id, c.m.Cell, c.m.Has)
	case drop:
		return p.Drop(c.m.Id)
	}
	return p.Set(c.m.Id, c.m.State)
}

// enter enters the call, or tells what is wrong with it.
func (p *plan) enter(c call) error {
	i := p.at(c.m.Id)
	if c.kind == add {
		if err := p.wrongAdd(c.m); err != nil {
			return err
		}
		c.m.State = 0
		*p = append(slices.Clone(*p), c.m)
		return nil
	}
	switch {
	case i == len(*p):
		return api.ErrNone
	case c.kind == drop:
		*p = slices.Concat((*p)[:i], (*p)[i+1:])
		return nil
	case c.m.State < 0 || c.m.State > 2:
		return api.ErrArg
	case c.m.State == (*p)[i].State:
		return api.ErrState
	}
	*p = slices.Clone(*p)
	(*p)[i].State = c.m.State
	return nil
}

// wrongAdd tells what is wrong with a machine that is to come.
func (p plan) wrongAdd(m Machine) error {
	switch {
	case m.Id < 1 || m.Id > topID || m.Cell < 1 || m.Cell > topCell || !within(m.Has, 0, most):
		return api.ErrArg
	case p.at(m.Id) < len(p):
		return api.ErrDup
	case len(p) == machines:
		return api.ErrFull
	}
	total := p.sum(m.Cell, 0, 1, 2)
	for i := range total {
		if total[i]+m.Has[i] > most {
			return api.ErrOver
		}
	}
	return nil
}

// isPark checks all that a park tells.
func isPark(t *testing.T, p *Park, want plan) {
	t.Helper()
	if got := p.All(); !slices.Equal(got, want.list(1, 2, 3, 4)) {
		t.Errorf("all are %v; want %v", got, want.list(1, 2, 3, 4))
	}
	for _, cell := range append([]int{1, 2, 3, 4}, badCells...) {
		if got := p.List(cell); !slices.Equal(got, want.list(cell)) {
			t.Errorf("cell %d has %v; want %v", cell, got, want.list(cell))
		}
		if got := p.Live(cell); got != want.sum(cell, 0) {
			t.Errorf("live in cell %d are %v; want %v", cell, got, want.sum(cell, 0))
		}
	}
	for _, m := range want {
		if got, ok := p.Of(m.Id); got != m || !ok {
			t.Errorf("machine %d is %v %v; want %v", m.Id, got, ok, m)
		}
	}
	for _, id := range append([]int{1, 2, 3, 7, 8, 100, 500, 998, 999}, badIDs...) {
		if got, ok := p.Of(id); want.at(id) == len(want) && (ok || got != (Machine{})) {
			t.Errorf("machine %d is %v %v; want none", id, got, ok)
		}
	}
}

// makes makes a call on a park and on its plan, and checks the answers.
func makes(t *testing.T, p *Park, want *plan, c call) {
	t.Helper()
	isOnly(t, c.on(p), want.enter(c))
	isPark(t, p, *want)
	if t.Failed() {
		t.Fatalf("call %v", c)
	}
}

// fails checks a call that fails, and that it changes nothing.
func fails(t *testing.T, p *Park, now plan, c call, want error) {
	t.Helper()
	isOnly(t, c.on(p), want)
	isPark(t, p, now)
	if t.Failed() {
		t.Fatalf("call %v", c)
	}
}

// box is a machine that is up.
func box(id, cell int, has api.Vec) Machine { return Machine{Id: id, Cell: cell, Has: has} }

// as returns the machine in another state.
func (m Machine) as(state int) Machine {
	m.State = state
	return m
}

// filled returns a park of some machines, and its plan.
func filled(t *testing.T, list ...Machine) (*Park, plan) {
	t.Helper()
	p, want := New(), plan{}
	for _, m := range list {
		done(t, p.Add(m.Id, m.Cell, m.Has))
		if m.State != Up {
			done(t, p.Set(m.Id, m.State))
		}
		want = append(want, m)
	}
	isPark(t, p, want)
	return p, want
}

// some returns a park with machines in all states and in three of the cells.
func some(t *testing.T) (*Park, plan) {
	t.Helper()
	return filled(t,
		box(9, 2, api.Vec{4, 8, 16, 2}), box(5, 1, api.Vec{1, 2, 3, 4}).as(Lost), box(999, 2, api.Vec{4, 0, 1, 0}).as(Drained),
		box(1, 4, api.Vec{0, 0, 0, 7}), box(300, 2, api.Vec{1, 1, 1, 1}), box(4, 1, api.Vec{5, 5, 5, 5}), box(6, 4, api.Vec{}),
	)
}

// full returns a park with as many machines as can be, the numbers 101 and up.
func full(t *testing.T) (*Park, plan) {
	t.Helper()
	var list []Machine
	for i := range machines {
		list = append(list, box(101+i*7%machines, 1+i%topCell, api.Vec{i, 2 * i, 3, 40 - i}).as(i%3))
	}
	return filled(t, list...)
}

// P15.1

func TestNew(t *testing.T) {
	p := New()
	isPark(t, p, plan{})
	for id := -20; id <= 1100; id++ {
		if m, ok := p.Of(id); ok || m != (Machine{}) {
			t.Errorf("machine %d is %v %v", id, m, ok)
		}
	}
}

func TestStates(t *testing.T) {
	if Up != 0 || Drained != 1 || Lost != 2 {
		t.Errorf("the states are %d, %d and %d", Up, Drained, Lost)
	}
	if api.MaxMachines != machines || api.MaxCells != topCell || api.MaxVal != most {
		t.Error("a limit is another")
	}
}

func TestAdd(t *testing.T) {
	p, want := New(), plan{}
	for _, m := range []Machine{
		box(7, 2, api.Vec{1, 2, 3, 4}), box(1, 1, all(most)), box(999, 4, all(0)), box(8, 2, api.Vec{5, 0, 0, 9}), box(2, 4, all(most)),
		box(998, 3, only(0, most)), box(6, 3, only(1, most)), box(3, 3, only(2, most)), box(500, 3, only(3, most)), box(501, 3, all(0)),
	} {
		makes(t, p, &want, call{add, m})
		if got, ok := p.Of(m.Id); !ok || got != (Machine{Id: m.Id, Cell: m.Cell, Has: m.Has, State: 0}) {
			t.Errorf("the machine is %v %v", got, ok)
		}
	}
}

func TestAddOfEachNumber(t *testing.T) {
	for id := 1; id <= topID; id++ {
		for cell := 1; cell <= topCell; cell++ {
			p := New()
			done(t, p.Add(id, cell, api.Vec{id, cell, 0, most}))
			if list := p.List(cell); len(list) != 1 || list[0] != box(id, cell, api.Vec{id, cell, 0, most}) {
				t.Errorf("cell %d has %v", cell, list)
			}
		}
	}
}

// badMachines are machines that are not valid, each for one of its numbers or for
// all.
func badMachines() []Machine {
	var list []Machine
	for _, n := range badIDs {
		list = append(list, box(n, 1, all(0)), box(n, 4, all(most)), box(n, 2, api.Vec{1, 2, 3, 4}))
	}
	for _, n := range badCells {
		list = append(list, box(9, n, all(0)), box(1, n, all(most)), box(999, n, api.Vec{1, 2, 3, 4}), box(77, n, all(1)))
	}
	for _, n := range badAmounts {
		for i := range (api.Vec{}) {
			list = append(list, box(9, 1, only(i, n)), box(999, 4, only(i, n)), box(77, 2, only(i, n)))
		}
		list = append(list, box(1, 1, all(n)), box(n, n, all(n)))
	}
	return list
}

func TestBadMachines(t *testing.T) {
	p, want := some(t)
	fullPark, fullPlan := full(t)
	for _, m := range badMachines() {
		fails(t, New(), plan{}, call{add, m}, api.ErrArg)
		fails(t, p, want, call{add, m}, api.ErrArg)
		fails(t, fullPark, fullPlan, call{add, m}, api.ErrArg)
		if m.Id == 9 {
			// One of which there is one, too.
			m.Id = 101
			fails(t, fullPark, fullPlan, call{add, m}, api.ErrArg)
		}
	}
	makes(t, p, &want, call{add, box(77, 3, all(1))})
}

// TestAddDup checks that a number is taken in whichever cell and state the
// machine is, and that ErrDup is told ahead of ErrOver.
func TestAddDup(t *testing.T) {
	p, want := some(t)
	for _, m := range want {
		for cell := 1; cell <= topCell; cell++ {
			for _, has := range []api.Vec{{}, m.Has, all(1), all(most)} {
				fails(t, p, want, call{add, box(m.Id, cell, has)}, api.ErrDup)
			}
		}
	}
	for _, id := range []int{9, 5, 999} {
		makes(t, p, &want, call{drop, box(id, 0, all(0))})
		makes(t, p, &want, call{add, box(id, 3, all(2))})
		fails(t, p, want, call{add, box(id, 3, all(2))}, api.ErrDup)
	}
}

// TestAddFull checks that machines of all cells and states count, that ErrDup is
// told ahead of ErrFull, and ErrFull ahead of ErrOver.
func TestAddFull(t *testing.T) {
	for cell := 1; cell <= topCell; cell++ {
		p, want := New(), plan{}
		for i := range machines {
			makes(t, p, &want, call{add, box(500-i, cell, all(1))})
		}
		for other := 1; other <= topCell; other++ {
			fails(t, p, want, call{add, box(1, other, all(0))}, api.ErrFull)
		}
	}
	p, want := full(t)
	for _, has := range []api.Vec{{}, all(1), all(most)} {
		fails(t, p, want, call{add, box(1, 1, has)}, api.ErrFull)
		for _, m := range want {
			fails(t, p, want, call{add, box(m.Id, 1, has)}, api.ErrDup)
		}
	}
	makes(t, p, &want, call{drop, box(110, 0, all(0))})
	fails(t, p, want, call{add, box(1, 1, all(most))}, api.ErrOver)
	makes(t, p, &want, call{add, box(1, 1, all(1))})
	fails(t, p, want, call{add, box(110, 1, all(1))}, api.ErrFull)
}

// TestAddOver checks both sides of the limit, for each resource and with machines
// in each state.
func TestAddOver(t *testing.T) {
	for state := range 3 {
		for i := range (api.Vec{}) {
			for _, n := range []int{0, 1, 2, 1000, most / 2, most - 1, most} {
				has := all(3)
				has[i] = n
				p, want := filled(t, box(5, 2, has).as(state), box(6, 1, all(most)).as(state), box(4, 3, all(most)))
				fits := all(4)
				fits[i] = most - n
				over := fits
				over[i]++
				if n > 0 {
					fails(t, p, want, call{add, box(7, 2, over)}, api.ErrOver)
				}
				makes(t, p, &want, call{add, box(7, 2, fits)})
				fails(t, p, want, call{add, box(8, 2, only(i, 1))}, api.ErrOver)
				makes(t, p, &want, call{add, box(8, 2, all(0))})
				makes(t, p, &want, call{add, box(9, 4, all(most))})
			}
		}
	}
}

// TestAddOverOfMany checks a cell of as many machines as can be.
func TestAddOverOfMany(t *testing.T) {
	p, want := New(), plan{}
	for i := range machines - 1 {
		makes(t, p, &want, call{add, box(100+i, 3, all(most/machines-i))})
	}
	left := most - 1 - want.sum(3, 0)[0]
	for i := range (api.Vec{}) {
		over := all(left)
		over[i] += 2
		fails(t, p, want, call{add, box(1, 3, over)}, api.ErrOver)
	}
	makes(t, p, &want, call{set, box(104, 0, all(0)).as(Lost)})
	makes(t, p, &want, call{set, box(105, 0, all(0)).as(Drained)})
	fails(t, p, want, call{add, box(1, 3, all(left+2))}, api.ErrOver)
	makes(t, p, &want, call{add, box(1, 3, all(left))})
	if got := want.sum(3, 0, 1, 2); got != all(most-1) {
		t.Errorf("together they have %v", got)
	}
	makes(t, p, &want, call{set, box(104, 0, all(0)).as(Up)})
	makes(t, p, &want, call{set, box(105, 0, all(0)).as(Up)})
	if got := p.Live(3); got != all(most-1) {
		t.Errorf("live are %v", got)
	}
}

func TestDrop(t *testing.T) {
	_, list := some(t)
	for _, m := range list {
		p, want := some(t)
		makes(t, p, &want, call{drop, m})
		fails(t, p, want, call{drop, m}, api.ErrNone)
		fails(t, p, want, call{set, m.as(Lost)}, api.ErrNone)
		fails(t, p, want, call{set, m.as(Up)}, api.ErrNone)
	}
}

func TestDropAll(t *testing.T) {
	p, want := full(t)
	for _, i := range rand.New(rand.NewSource(1)).Perm(machines) {
		makes(t, p, &want, call{drop, box(101+i, 0, all(0))})
	}
	isPark(t, p, plan{})
}

// TestDroppedLeavesNothing checks that a machine that comes again is up, and that
// what it had doesn't count any more.
func TestDroppedLeavesNothing(t *testing.T) {
	for _, state := range []int{Up, Drained, Lost} {
		p, want := filled(t, box(5, 2, all(most)).as(state))
		makes(t, p, &want, call{drop, box(5, 0, all(0))})
		makes(t, p, &want, call{add, box(5, 2, all(most-1))})
		makes(t, p, &want, call{add, box(6, 2, all(1))})
	}
}

func TestSet(t *testing.T) {
	for from := range 3 {
		for to := range 3 {
			for id := 4; id <= 6; id++ {
				p, want := filled(t, box(5, 2, all(3)).as(from), box(4, 2, all(20)).as(from), box(6, 2, all(100)).as(from))
				if from == to {
					fails(t, p, want, call{set, box(id, 0, all(0)).as(to)}, api.ErrState)
					continue
				}
				makes(t, p, &want, call{set, box(id, 0, all(0)).as(to)})
				fails(t, p, want, call{set, box(id, 0, all(0)).as(to)}, api.ErrState)
				makes(t, p, &want, call{set, box(id, 0, all(0)).as(from)})
			}
		}
	}
}

func TestBadStates(t *testing.T) {
	p, want := some(t)
	for _, n := range badStates {
		for _, m := range want {
			fails(t, p, want, call{set, m.as(n)}, api.ErrArg)
		}
	}
}

// TestNoSuchMachine checks that ErrNone is told ahead of ErrArg.
func TestNoSuchMachine(t *testing.T) {
	p, want := some(t)
	for _, id := range append([]int{2, 3, 7, 8, 10, 299, 301, 998}, badIDs...) {
		fails(t, p, want, call{drop, box(id, 0, all(0))}, api.ErrNone)
		fails(t, New(), plan{}, call{drop, box(id, 0, all(0))}, api.ErrNone)
		for _, state := range append([]int{Up, Drained, Lost}, badStates...) {
			fails(t, p, want, call{set, box(id, 0, all(0)).as(state)}, api.ErrNone)
			fails(t, New(), plan{}, call{set, box(id, 0, all(0)).as(state)}, api.ErrNone)
		}
	}
}

func TestNil(t *testing.T) {
	var p *Park
	isPark(t, p, plan{})
	for _, m := range append(badMachines(), box(1, 1, all(1)), box(999, 4, all(most))) {
		for kind := range kinds {
			for _, state := range append([]int{Up, Drained, Lost}, badStates...) {
				isOnly(t, call{kind, m.as(state)}.on(p), api.ErrNil)
			}
		}
	}
	isPark(t, p, plan{})
}

func TestParksAreApart(t *testing.T) {
	p, wantP := some(t)
	q, wantQ := full(t)
	makes(t, p, &wantP, call{add, box(101, 1, all(1))})
	makes(t, q, &wantQ, call{drop, box(101, 0, all(0))})
	isPark(t, p, wantP)
	isPark(t, New(), plan{})
	r, wantR := New(), plan{}
	makes(t, r, &wantR, call{add, box(101, 1, all(most))})
	isPark(t, q, wantQ)
}

// P15.2

func TestList(t *testing.T) {
	p, _ := some(t)
	second := []Machine{box(9, 2, api.Vec{4, 8, 16, 2}), box(300, 2, api.Vec{1, 1, 1, 1}), box(999, 2, api.Vec{4, 0, 1, 0}).as(Drained)}
	if got := p.List(2); !slices.Equal(got, second) {
		t.Errorf("cell 2 has %v", got)
	}
	if got := p.List(3); len(got) != 0 {
		t.Errorf("cell 3 has %v", got)
	}
	ids := []int{}
	for _, m := range p.All() {
		ids = append(ids, m.Id)
	}
	if want := []int{1, 4, 5, 6, 9, 300, 999}; !slices.Equal(ids, want) {
		t.Errorf("all are %v; want %v", ids, want)
	}
	if m, ok := p.Of(5); !ok || m != box(5, 1, api.Vec{1, 2, 3, 4}).as(Lost) {
		t.Errorf("machine 5 is %v %v", m, ok)
	}
}

func TestLive(t *testing.T) {
	p, _ := some(t)
	for cell, want := range map[int]api.Vec{1: all(5), 2: {5, 9, 17, 3}, 3: {}, 4: {0, 0, 0, 7}} {
		if got := p.Live(cell); got != want {
			t.Errorf("live in cell %d are %v; want %v", cell, got, want)
		}
	}
}

// TestListIsNew checks that a list shares no memory with the park or another
// list, and isn't changed by calls behind it.
func TestListIsNew(t *testing.T) {
	p, want := some(t)
	lists := func() [][]Machine { return [][]Machine{p.All(), p.List(1), p.List(2), p.List(3), p.List(4)} }
	first, kept := lists(), lists()
	for range 2 {
		for _, list := range lists() {
			list = list[:cap(list)]
			for i := range list {
				list[i] = box(77, 7, all(7)).as(1)
			}
			isPark(t, p, want)
		}
	}
	makes(t, p, &want, call{set, box(9, 0, all(0)).as(Lost)})
	makes(t, p, &want, call{drop, box(4, 0, all(0))})
	makes(t, p, &want, call{add, box(2, 1, all(1))})
	for i, list := range first {
		if !slices.Equal(list, kept[i]) {
			t.Errorf("list %d is now %v", i, list)
		}
	}
}

// P15.3

// TestLiveChangesBySteps makes random calls on a park and on a plan of it, and
// checks by how much each changes what is live.
func TestLiveChangesBySteps(t *testing.T) {
	for seed := range 60 {
		r := rand.New(rand.NewSource(int64(seed)))
		p, want := New(), plan{}
		// Few numbers bring calls to machines that are there; many fill the park.
		ids := []int{3, 12, 40}[seed%3]
		amount := []int{2, 1000, most / 4, most + 1}[seed%4]
		for range 400 {
			m := Machine{r.Intn(ids + 2), r.Intn(6), api.Vec{}, r.Intn(5) - 1}
			for i := range m.Has {
				m.Has[i] = r.Intn(amount + 1)
			}
			c := call{r.Intn(kinds), m}
			if r.Intn(3) == 0 {
				c.kind = add
			}
			was, _ := p.Of(c.m.Id)
			before := lives(p)
			makes(t, p, &want, c)
			is, _ := p.Of(c.m.Id)
			changes(t, before, lives(p), was, is)
			if t.Failed() {
				t.Fatalf("seed %d: call %v", seed, c)
			}
		}
	}
}

// lives returns what is live in each cell.
func lives(p *Park) [topCell + 1]api.Vec {
	var list [topCell + 1]api.Vec
	for cell := range list {
		list[cell] = p.Live(cell)
	}
	return list
}

// changes checks that what is live changed by what the machine has that was
// something else before a call, and by nothing else. No machine is in cell 0.
func changes(t *testing.T, before, now [topCell + 1]api.Vec, was, is Machine) {
	t.Helper()
	for i := range (api.Vec{}) {
		if was.State == Up {
			before[was.Cell][i] -= was.Has[i]
		}
		if is.State == Up {
			before[is.Cell][i] += is.Has[i]
		}
	}
	if now != before {
		t.Errorf("live are %v; want %v", now, before)
	}
}

// TestLiveStays checks calls that must leave what is live as it is.
func TestLiveStays(t *testing.T) {
	p, want := filled(t, box(5, 2, all(5)), box(6, 2, all(30)), box(7, 2, all(100)).as(Lost), box(8, 1, all(2)).as(Drained))
	for _, m := range []Machine{box(7, 0, all(0)).as(Drained), box(8, 0, all(0)).as(Lost), box(7, 0, all(0)).as(Lost)} {
		makes(t, p, &want, call{set, m})
		if p.Live(2) != all(35) || p.Live(1) != all(0) {
			t.Errorf("live are %v and %v", p.Live(2), p.Live(1))
		}
	}
	makes(t, p, &want, call{drop, box(7, 0, all(0))})
	makes(t, p, &want, call{drop, box(8, 0, all(0))})
	if p.Live(2) != all(35) || p.Live(1) != all(0) {
		t.Errorf("live are %v and %v", p.Live(2), p.Live(1))
	}
}

// The chapter's example.

func TestExample(t *testing.T) {
	p := New()
	done(t, p.Add(1, 1, only(0, 4)), p.Add(2, 1, only(0, 4)), p.Set(2, Drained))
	if got := p.Live(1); got != only(0, 4) {
		t.Errorf("live are %v", got)
	}
}
