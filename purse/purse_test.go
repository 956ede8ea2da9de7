package purse

import (
	"errors"
	"math"
	"math/rand"
	"slices"
	"testing"

	"quitrent/api"
)

var allErrors = []error{
	api.ErrArg, api.ErrNil, api.ErrForm, api.ErrOver, api.ErrNone, api.ErrDup, api.ErrFull,
	api.ErrQuota, api.ErrCeil, api.ErrRoom, api.ErrBudget, api.ErrFunds, api.ErrState, api.ErrDown,
}

// most is the most credit that there can be, told by a number of its own.
const most = 1125899906842624

// badAmounts are numbers that are no amounts, some of them amounts if bits get lost.
var badAmounts = []int{
	-1, -2, -100, -most, -most - 1, most + 1, most + 2, 2 * most, 1<<32 - 1<<62, -1 << 32,
	math.MaxInt, math.MaxInt - 1, math.MinInt, math.MinInt + 1, math.MinInt + 10,
	math.MaxInt - most, math.MinInt + most,
}

// tenants are numbers from the whole range, ascending.
var tenants = []int{
	math.MinInt, math.MinInt + 1, -1 << 32, -1000, -1, 0, 1, 2, 3, 16, 17, 999, 1000, 1 << 32, 1<<32 + 1,
	math.MaxInt - 1, math.MaxInt,
}

// isOnly checks that err is want, no other error of package api, and no Fault.
func isOnly(t *testing.T, err, want error) {
	t.Helper()
	if (err == nil) != (want == nil) {
		t.Errorf("error %v: want %v", err, want)
	}
	for _, e := range allErrors {
		if errors.Is(err, e) != (e == want) {
			t.Errorf("error %v: want %v only", err, want)
		}
	}
	var f *api.Fault
	if errors.As(err, &f) {
		t.Errorf("error %v: has a Fault", err)
	}
}

// done checks calls that must be answered without an error.
func done(t *testing.T, errs ...error) {
	t.Helper()
	for _, err := range errs {
		isOnly(t, err, nil)
	}
}

// entry is what one call adds to what a tenant has.
type entry struct{ tenant, free, held int }

// plan is what a book must tell: all entries ever made, told by plain rules.
type plan []entry

func (p plan) of(tenant int) Purse {
	var sum Purse
	for _, e := range p {
		if e.tenant == tenant {
			sum.Free += e.free
			sum.Held += e.held
		}
	}
	return sum
}

func (p plan) total() int {
	sum := 0
	for _, e := range p {
		sum += e.free + e.held
	}
	return sum
}

func (p plan) owners() []int {
	var list []int
	for _, e := range p {
		if p.of(e.tenant) != (Purse{}) && !slices.Contains(list, e.tenant) {
			list = append(list, e.tenant)
		}
	}
	slices.Sort(list)
	return list
}

// call is a call of one of the methods that change a book.
type call struct {
	kind       int
	tenant, to int
	n          int
	want       error
}

const (
	give = iota
	take
	hold
	unhold
	pay
	kinds
)

// on makes the call on a book.
func (c call) on(b *Book) error {
	switch c.kind {
	case give:
		return b.Give(c.tenant, c.n)
	case take:
		return b.Take(c.tenant, c.n)
	case hold:
		return b.Hold(c.tenant, c.n)
	case unhold:
		return b.Unhold(c.tenant, c.n)
	}
	return b.Pay(c.tenant, c.to, c.n)
}

// enter enters the call, or tells what is wrong with it.
func (p *plan) enter(c call) error {
	has := p.of(c.tenant)
	if c.n < 0 || c.n > most {
		return api.ErrArg
	}
	switch c.kind {
	case give:
		if p.total() > most-c.n {
			return api.ErrOver
		}
		*p = append(*p, entry{c.tenant, c.n, 0})
	case take:
		if c.n > has.Free {
			return api.ErrFunds
		}
		*p = append(*p, entry{c.tenant, -c.n, 0})
	case hold:
		if c.n > has.Free {
			return api.ErrFunds
		}
		*p = append(*p, entry{c.tenant, -c.n, c.n})
	case unhold:
		if c.n > has.Held {
			return api.ErrState
		}
		*p = append(*p, entry{c.tenant, c.n, -c.n})
	case pay:
		if c.n > has.Held {
			return api.ErrState
		}
		*p = append(*p, entry{c.tenant, 0, -c.n}, entry{c.to, c.n, 0})
	}
	return nil
}

// isBook checks all that a book tells.
func isBook(t *testing.T, b *Book, p plan) {
	t.Helper()
	for _, tenant := range append(p.owners(), tenants...) {
		if got := b.Of(tenant); got != p.of(tenant) {
			t.Errorf("the purse of %d is %v; want %v", tenant, got, p.of(tenant))
		}
	}
	if got := b.Total(); got != p.total() {
		t.Errorf("the total is %d; want %d", got, p.total())
	}
	if got := b.Owners(); !slices.Equal(got, p.owners()) {
		t.Errorf("the owners are %v; want %v", got, p.owners())
	}
}

// fails checks calls that fail, and that they change nothing.
func fails(t *testing.T, b *Book, p plan, list []call) {
	t.Helper()
	for _, c := range list {
		isOnly(t, c.on(b), c.want)
		if t.Failed() {
			t.Fatalf("call %v", c)
		}
	}
	isBook(t, b, p)
}

// some returns a book in which purses have free credit, held credit, and both.
func some(t *testing.T) (*Book, plan) {
	t.Helper()
	b := New()
	done(t, b.Give(3, 10), b.Hold(3, 4), b.Give(7, 5), b.Give(-2, 8), b.Hold(-2, 8))
	return b, plan{{3, 6, 4}, {7, 5, 0}, {-2, 0, 8}}
}

// P10.1

func TestNew(t *testing.T) {
	b := New()
	isBook(t, b, nil)
	for tenant := -20; tenant <= 1100; tenant++ {
		if got := b.Of(tenant); got != (Purse{}) {
			t.Errorf("the purse of %d is %v", tenant, got)
		}
	}
}

func TestGive(t *testing.T) {
	for _, tenant := range tenants {
		b := New()
		done(t, b.Give(tenant, 7))
		isBook(t, b, plan{{tenant, 7, 0}})
		done(t, b.Give(tenant, 0), b.Give(tenant, 1), b.Give(tenant, 1<<40))
		isBook(t, b, plan{{tenant, 1<<40 + 8, 0}})
		done(t, b.Hold(tenant, 5), b.Give(tenant, 2))
		isBook(t, b, plan{{tenant, 1<<40 + 5, 5}})
	}
}

func TestGiveToTheLimit(t *testing.T) {
	if api.MaxCredit != most {
		t.Errorf("the limit is %d", api.MaxCredit)
	}
	b := New()
	done(t, b.Give(1, most))
	isBook(t, b, plan{{1, most, 0}})
	over := []call{{give, 1, 0, 1, api.ErrOver}, {give, 2, 0, 1, api.ErrOver}, {give, 2, 0, most, api.ErrOver}, {give, 1, 0, most, api.ErrOver}}
	fails(t, b, plan{{1, most, 0}}, over)
	done(t, b.Give(1, 0), b.Give(2, 0))
	done(t, b.Hold(1, most))
	fails(t, b, plan{{1, 0, most}}, over)
	done(t, b.Pay(1, 5, most-3))
	fails(t, b, plan{{1, 0, 3}, {5, most - 3, 0}}, over)
	done(t, b.Take(5, 1), b.Give(2, 1))
	fails(t, b, plan{{1, 0, 3}, {5, most - 4, 0}, {2, 1, 0}}, over)
}

// TestGiveCountsAllPurses checks that ErrOver is about all purses together.
func TestGiveCountsAllPurses(t *testing.T) {
	b := New()
	var p plan
	for _, tenant := range tenants {
		done(t, b.Give(tenant, most/32), b.Hold(tenant, most/64))
		p = append(p, entry{tenant, most / 64, most / 64})
	}
	left := most - len(tenants)*(most/32)
	fails(t, b, p, []call{{give, 1, 0, left + 1, api.ErrOver}, {give, 50, 0, left + 1, api.ErrOver}, {give, 50, 0, most, api.ErrOver}})
	done(t, b.Give(50, left))
	fails(t, b, append(p, entry{50, left, 0}), []call{{give, 50, 0, 1, api.ErrOver}, {give, 1, 0, 1, api.ErrOver}})
}

func TestTake(t *testing.T) {
	b, p := some(t)
	fails(t, b, p, []call{
		{take, 3, 0, 7, api.ErrFunds}, {take, 3, 0, 10, api.ErrFunds}, {take, 3, 0, 11, api.ErrFunds}, {take, 3, 0, most, api.ErrFunds},
		{take, 7, 0, 6, api.ErrFunds}, {take, -2, 0, 1, api.ErrFunds}, {take, 50, 0, 1, api.ErrFunds}, {take, 50, 0, most, api.ErrFunds},
	})
	done(t, b.Take(3, 1), b.Take(7, 5), b.Take(-2, 0), b.Take(50, 0))
	isBook(t, b, plan{{3, 5, 4}, {-2, 0, 8}})
	done(t, b.Take(3, 5))
	isBook(t, b, plan{{3, 0, 4}, {-2, 0, 8}})
	fails(t, b, plan{{3, 0, 4}, {-2, 0, 8}}, []call{{take, 3, 0, 1, api.ErrFunds}, {take, 7, 0, 1, api.ErrFunds}})
}

func TestHold(t *testing.T) {
	b, p := some(t)
	fails(t, b, p, []call{
		{hold, 3, 0, 7, api.ErrFunds}, {hold, 3, 0, 10, api.ErrFunds}, {hold, 3, 0, most, api.ErrFunds},
		{hold, 7, 0, 6, api.ErrFunds}, {hold, -2, 0, 1, api.ErrFunds}, {hold, 50, 0, 1, api.ErrFunds},
	})
	done(t, b.Hold(3, 2), b.Hold(7, 5), b.Hold(-2, 0), b.Hold(50, 0))
	isBook(t, b, plan{{3, 4, 6}, {7, 0, 5}, {-2, 0, 8}})
	done(t, b.Hold(3, 4))
	isBook(t, b, plan{{3, 0, 10}, {7, 0, 5}, {-2, 0, 8}})
	fails(t, b, plan{{3, 0, 10}, {7, 0, 5}, {-2, 0, 8}}, []call{{hold, 3, 0, 1, api.ErrFunds}, {hold, 7, 0, 5, api.ErrFunds}})
}

func TestUnhold(t *testing.T) {
	b, p := some(t)
	fails(t, b, p, []call{
		{unhold, 3, 0, 5, api.ErrState}, {unhold, 3, 0, 10, api.ErrState}, {unhold, 3, 0, most, api.ErrState},
		{unhold, 7, 0, 1, api.ErrState}, {unhold, -2, 0, 9, api.ErrState}, {unhold, 50, 0, 1, api.ErrState},
	})
	done(t, b.Unhold(3, 1), b.Unhold(7, 0), b.Unhold(-2, 8), b.Unhold(50, 0))
	isBook(t, b, plan{{3, 7, 3}, {7, 5, 0}, {-2, 8, 0}})
	done(t, b.Unhold(3, 3))
	isBook(t, b, plan{{3, 10, 0}, {7, 5, 0}, {-2, 8, 0}})
	fails(t, b, plan{{3, 10, 0}, {7, 5, 0}, {-2, 8, 0}}, []call{{unhold, 3, 0, 1, api.ErrState}, {unhold, -2, 0, 8, api.ErrState}})
}

func TestPay(t *testing.T) {
	b, p := some(t)
	fails(t, b, p, []call{
		{pay, 3, 7, 5, api.ErrState}, {pay, 3, -2, 5, api.ErrState}, {pay, 3, 50, most, api.ErrState},
		{pay, 7, 3, 1, api.ErrState}, {pay, 7, -2, 5, api.ErrState}, {pay, -2, 3, 9, api.ErrState}, {pay, 50, 3, 1, api.ErrState},
	})
	done(t, b.Pay(3, 7, 1), b.Pay(-2, 3, 2), b.Pay(-2, 50, 1), b.Pay(60, 70, 0), b.Pay(3, 70, 0), b.Pay(7, 3, 0))
	isBook(t, b, plan{{3, 8, 3}, {7, 6, 0}, {-2, 0, 5}, {50, 1, 0}})
	done(t, b.Pay(-2, 7, 5), b.Pay(3, 3, 0))
	isBook(t, b, plan{{3, 8, 3}, {7, 11, 0}, {50, 1, 0}})
	fails(t, b, plan{{3, 8, 3}, {7, 11, 0}, {50, 1, 0}}, []call{{pay, -2, 7, 1, api.ErrState}, {pay, 7, -2, 1, api.ErrState}})
}

func TestPayOneself(t *testing.T) {
	b, p := some(t)
	fails(t, b, p, []call{{pay, 3, 3, 5, api.ErrState}, {pay, 7, 7, 1, api.ErrState}, {pay, -2, -2, 9, api.ErrState}, {pay, 50, 50, 1, api.ErrState}})
	done(t, b.Pay(3, 3, 3), b.Pay(-2, -2, 8), b.Pay(7, 7, 0), b.Pay(50, 50, 0))
	isBook(t, b, plan{{3, 9, 1}, {7, 5, 0}, {-2, 8, 0}})
}

// TestPayAll checks that the greatest amount moves through all kinds of credit.
func TestPayAll(t *testing.T) {
	b := New()
	done(t, b.Give(tenants[0], most))
	for i, tenant := range tenants[1:] {
		done(t, b.Hold(tenants[i], most))
		isBook(t, b, plan{{tenants[i], 0, most}})
		done(t, b.Unhold(tenants[i], most), b.Hold(tenants[i], most), b.Pay(tenants[i], tenant, most))
		isBook(t, b, plan{{tenant, most, 0}})
	}
	done(t, b.Take(tenants[len(tenants)-1], most))
	isBook(t, b, nil)
}

// TestBadAmounts checks that ErrArg is told ahead of what else is wrong.
func TestBadAmounts(t *testing.T) {
	var list []call
	for _, n := range badAmounts {
		for kind := range kinds {
			for _, tenant := range []int{3, 7, -2, 50, 0, math.MinInt, math.MaxInt} {
				list = append(list, call{kind, tenant, 7, n, api.ErrArg}, call{kind, tenant, tenant, n, api.ErrArg})
			}
		}
	}
	b, p := some(t)
	fails(t, b, p, list)
	fails(t, New(), nil, list)
	done(t, b.Give(7, most-b.Total()))
	fails(t, b, plan{{3, 6, 4}, {7, most - 18, 0}, {-2, 0, 8}}, list)
}

func TestNil(t *testing.T) {
	var b *Book
	for _, n := range append([]int{0, 1, most}, badAmounts...) {
		for kind := range kinds {
			for _, tenant := range tenants {
				isOnly(t, call{kind, tenant, 1, n, nil}.on(b), api.ErrNil)
				isOnly(t, call{kind, tenant, tenant, n, nil}.on(b), api.ErrNil)
			}
		}
	}
	isBook(t, b, nil)
}

func TestBooksAreApart(t *testing.T) {
	a, b := New(), New()
	done(t, a.Give(1, most), b.Give(1, 5), b.Hold(1, 5))
	isBook(t, a, plan{{1, most, 0}})
	isBook(t, b, plan{{1, 0, 5}})
	done(t, b.Pay(1, 2, 5))
	isBook(t, a, plan{{1, most, 0}})
	isBook(t, New(), nil)
}

// TestPurseStays checks that a purse that was told is the caller's own.
func TestPurseStays(t *testing.T) {
	b, p := some(t)
	one := b.Of(3)
	one.Free, one.Held = 100, 100
	isBook(t, b, p)
	one = b.Of(3)
	done(t, b.Take(3, 6))
	if one != (Purse{Free: 6, Held: 4}) {
		t.Errorf("the purse is now %v", one)
	}
}

// P10.2

func TestTotal(t *testing.T) {
	b := New()
	if got := b.Total(); got != 0 {
		t.Errorf("the total of nothing is %d", got)
	}
	sum := 0
	for i, tenant := range tenants {
		done(t, b.Give(tenant, 100+i), b.Hold(tenant, i))
		sum += 100 + i
		if got := b.Total(); got != sum {
			t.Errorf("the total is %d; want %d", got, sum)
		}
	}
}

func TestOwners(t *testing.T) {
	for _, order := range [][]int{{3, 1, 2}, {1, 2, 3}, {3, 2, 1}, {-1, 0, -2, 5}, tenants, backwards(tenants)} {
		b := New()
		for i, tenant := range order {
			done(t, b.Give(tenant, 1+i))
		}
		want := slices.Clone(order)
		slices.Sort(want)
		if got := b.Owners(); !slices.Equal(got, want) {
			t.Errorf("the owners are %v; want %v", got, want)
		}
		for i, tenant := range order {
			done(t, b.Take(tenant, 1+i))
			want = slices.DeleteFunc(want, func(id int) bool { return id == tenant })
			if got := b.Owners(); !slices.Equal(got, want) {
				t.Errorf("the owners are %v; want %v", got, want)
			}
		}
	}
}

// backwards returns a list with its last element first.
func backwards(list []int) []int {
	list = slices.Clone(list)
	slices.Reverse(list)
	return list
}

// TestOwnersHaveCredit checks who is an owner: who has any credit, free or held,
// and not who was only named in a call.
func TestOwnersHaveCredit(t *testing.T) {
	b := New()
	is := func(want ...int) {
		t.Helper()
		if got := b.Owners(); !slices.Equal(got, want) {
			t.Errorf("the owners are %v; want %v", got, want)
		}
	}
	for kind := range kinds {
		done(t, call{kind, kind, kind + 10, 0, nil}.on(b))
		is()
	}
	for kind := take; kind < kinds; kind++ {
		call{kind, kind, kind + 10, 1, nil}.on(b)
		is()
	}
	b.Of(9)
	is()
	done(t, b.Give(6, 2))
	is(6)
	done(t, b.Hold(6, 1))
	is(6)
	done(t, b.Hold(6, 1))
	is(6)
	done(t, b.Pay(6, 4, 1))
	is(4, 6)
	done(t, b.Pay(6, 4, 1))
	is(4)
	done(t, b.Hold(4, 2), b.Pay(4, 6, 2))
	is(6)
	done(t, b.Take(6, 1))
	is(6)
	done(t, b.Take(6, 1))
	is()
}

// TestOwnersAreNew checks that a list shares no memory with the book or another
// list, and isn't changed by calls behind it.
func TestOwnersAreNew(t *testing.T) {
	b, p := some(t)
	first := b.Owners()
	for range 2 {
		list := b.Owners()
		list = list[:cap(list)]
		for i := range list {
			list[i] = 77
		}
		isBook(t, b, p)
	}
	done(t, b.Take(7, 5), b.Give(1, 1))
	if !slices.Equal(first, []int{-2, 3, 7}) {
		t.Errorf("the list is now %v", first)
	}
}

// P10.3

// TestAnyCalls makes random calls on a book and on a plan of it, and checks what
// each may change.
func TestAnyCalls(t *testing.T) {
	for seed := range 60 {
		r := rand.New(rand.NewSource(int64(seed)))
		b := New()
		var p plan
		// Few tenants and small amounts meet often; great ones meet the limit.
		who := 1 + r.Intn(6)
		top := []int{5, 100, most / 3, most}[seed%4]
		for range 300 {
			c := call{r.Intn(kinds), r.Intn(who) - 1, r.Intn(who) - 1, r.Intn(top+2) - 1, nil}
			before := b.Total()
			err := c.on(b)
			isOnly(t, err, p.enter(c))
			isBook(t, b, p)
			changesTotal(t, c, err, b.Total()-before)
			isNeverNegative(t, b)
			if t.Failed() {
				t.Fatalf("seed %d: call %v", seed, c)
			}
		}
	}
}

// changesTotal checks that a call changed the total as its kind does.
func changesTotal(t *testing.T, c call, err error, change int) {
	t.Helper()
	want := 0
	switch {
	case err == nil && c.kind == give:
		want = c.n
	case err == nil && c.kind == take:
		want = -c.n
	}
	if change != want {
		t.Errorf("the total changed by %d; want %d", change, want)
	}
}

// isNeverNegative checks each owner's credit, and that the owners have all of it.
func isNeverNegative(t *testing.T, b *Book) {
	t.Helper()
	sum := 0
	for _, tenant := range b.Owners() {
		one := b.Of(tenant)
		if one.Free < 0 || one.Held < 0 || one == (Purse{}) {
			t.Errorf("the purse of %d is %v", tenant, one)
		}
		sum += one.Free + one.Held
	}
	if sum != b.Total() || sum < 0 || sum > most {
		t.Errorf("the owners have %d; the total is %d", sum, b.Total())
	}
}

// The chapter's example.

func TestExample(t *testing.T) {
	b := New()
	done(t, b.Give(1, 10), b.Hold(1, 4), b.Pay(1, 2, 3))
	if got := b.Of(1); got != (Purse{Free: 6, Held: 1}) {
		t.Errorf("the first purse is %v", got)
	}
	if got := b.Of(2); got != (Purse{Free: 3}) {
		t.Errorf("the other purse is %v", got)
	}
}
