package grant

import (
	"errors"
	"math"
	"math/rand"
	"slices"
	"testing"

	"quitrent/api"
)

var allErrors = []error{
	api.ErrArg, api.ErrNil, api.ErrForm, api.ErrOver, api.ErrNone, api.ErrDup, api.ErrFull,
	api.ErrQuota, api.ErrCeil, api.ErrRoom, api.ErrBudget, api.ErrFunds, api.ErrState, api.ErrDown,
}

// most is the greatest amount of a resource, told by a number of its own.
const most = 1099511627776

// badAmounts are numbers that are no amounts, some of them amounts if bits get lost.
var badAmounts = []int{
	-1, -2, -100, -most, -most - 1, most + 1, most + 2, 2 * most, 1<<32 - 1<<62, -1 << 32,
	math.MaxInt, math.MaxInt - 1, math.MinInt, math.MinInt + 1, math.MaxInt - most, math.MinInt + most,
}

// extremes are numbers from the whole range, ascending.
var extremes = []int{
	math.MinInt, math.MinInt + 1, -1 << 32, -1000, -1, 0, 1, 2, 3, 17, 1000, 1 << 32, 1<<32 + 1,
	math.MaxInt - 1, math.MaxInt,
}

// isOnly checks that err is want, no other error of package api, and no Fault.
func isOnly(t *testing.T, err, want error) {
	t.Helper()
	if (err == nil) != (want == nil) {
		t.Errorf("error %v: want %v", err, want)
	}
	for _, e := range allErrors {
		if errors.Is(err, e) != (e == want) {
			t.Errorf("error %v: want %v only", err, want)
		}
	}
	var f *api.Fault
	if errors.As(err, &f) {
		t.Errorf("error %v: has a Fault", err)
	}
}

// done checks calls that must be answered without an error.
func done(t *testing.T, errs ...error) {
	t.Helper()
	for _, err := range errs {
		isOnly(t, err, nil)
	}
}

// key is an account, by its numbers in the order in which accounts are compared.
func key(tenant, cell, band, window int) api.Key {
	return api.Key{Tenant: tenant, Place: api.Place{Cell: cell, Band: band, Window: window}}
}

// fields are the numbers of an account in that order.
func fields(k api.Key) []int {
	return []int{k.Tenant, k.Place.Cell, k.Place.Band, k.Place.Window}
}

// of is the account of another tenant at the place of k.
func of(tenant int, k api.Key) api.Key { return api.Key{Tenant: tenant, Place: k.Place} }

// all is n of each resource.
func all(n int) api.Vec { return api.Vec{n, n, n, n} }

// only is n of one resource.
func only(resource, n int) api.Vec {
	var v api.Vec
	v[resource] = n
	return v
}

// plus and minus are told by plain rules; the numbers of this file are too small
// to wrap round.
func plus(list ...api.Vec) api.Vec {
	var sum api.Vec
	for _, v := range list {
		for i := range sum {
			sum[i] += v[i]
		}
	}
	return sum
}

func minus(a, b api.Vec) api.Vec {
	return api.Vec{a[0] - b[0], a[1] - b[1], a[2] - b[2], a[3] - b[3]}
}

func isValid(v api.Vec) bool { return slices.Min(v[:]) >= 0 && slices.Max(v[:]) <= most }

// isWithin reports whether a valid v can be taken from another vector.
func isWithin(v, from api.Vec) bool {
	left := minus(from, v)
	return slices.Min(left[:]) >= 0
}

// row is what a book must tell of one account.
type row struct {
	k api.Key
	a Account
}

// plan is what a book must tell: a row for each account ever named.
type plan []row

func (p plan) of(k api.Key) Account {
	for _, r := range p {
		if r.k == k {
			return r.a
		}
	}
	return Account{}
}

func (p plan) issued(at api.Place) api.Vec {
	var sum api.Vec
	for _, r := range p {
		if r.k.Place == at {
			sum = plus(sum, r.a.Free, r.a.Charged, r.a.Held)
		}
	}
	return sum
}

// keys returns the accounts that are not empty, in order.
func (p plan) keys() []api.Key {
	var list []api.Key
	for _, r := range p {
		if r.a != (Account{}) {
			list = append(list, r.k)
		}
	}
	slices.SortFunc(list, func(a, b api.Key) int { return slices.Compare(fields(a), fields(b)) })
	return list
}

// at returns the account of k, to be changed.
func (p *plan) at(k api.Key) *Account {
	for i := range *p {
		if (*p)[i].k == k {
			return &(*p)[i].a
		}
	}
	*p = append(*p, row{k, Account{}})
	return &(*p)[len(*p)-1].a
}

// expire empties accounts, and returns those that were not empty, in order.
func (p plan) expire(window int) []api.Key {
	var gone []api.Key
	for _, k := range p.keys() {
		if k.Place.Window < window {
			gone = append(gone, k)
			*p.at(k) = Account{}
		}
	}
	return gone
}

// call is a call of one of the methods that move quota.
type call struct {
	kind int
	k    api.Key
	to   int
	v    api.Vec
	want error
}

const (
	give = iota
	take
	charge
	uncharge
	hold
	unhold
	move
	pass
	kinds
)

// on makes the call on a book.
func (c call) on(b *Book) error {
	switch c.kind {
	case give:
		return b.Give(c.k, c.v)
	case take:
		return b.Take(c.k, c.v)
	case charge:
		return b.Charge(c.k, c.v)
	case uncharge:
		return b.Uncharge(c.k, c.v)
	case hold:
		return b.Hold(c.k, c.v)
	case unhold:
		return b.Unhold(c.k, c.v)
	case move:
		return b.Move(c.k, c.to, c.v)
	}
	return b.Pass(c.k, c.to, c.v)
}

// enter enters the call, or tells what is wrong with it.
func (p *plan) enter(c call) error {
	has := p.of(c.k)
	switch {
	case !isValid(c.v):
		return api.ErrArg
	case c.kind == give && !isValid(plus(p.issued(c.k.Place), c.v)):
		return api.ErrOver
	case (c.kind == take || c.kind == charge || c.kind == hold || c.kind == move) && !isWithin(c.v, has.Free):
		return api.ErrQuota
	case c.kind == uncharge && !isWithin(c.v, has.Charged):
		return api.ErrState
	case (c.kind == unhold || c.kind == pass) && !isWithin(c.v, has.Held):
		return api.ErrState
	}
	one := p.at(c.k)
	switch c.kind {
	case take, charge, hold, move:
		one.Free = minus(one.Free, c.v)
	case uncharge:
		one.Charged = minus(one.Charged, c.v)
	case unhold, pass:
		one.Held = minus(one.Held, c.v)
	}
	switch c.kind {
	case give, uncharge, unhold:
		one.Free = plus(one.Free, c.v)
	case charge:
		one.Charged = plus(one.Charged, c.v)
	case hold:
		one.Held = plus(one.Held, c.v)
	case move, pass:
		other := p.at(of(c.to, c.k))
		other.Free = plus(other.Free, c.v)
	}
	return nil
}

// isBook checks all that a book tells.
func isBook(t *testing.T, b *Book, p plan) {
	t.Helper()
	for _, k := range append(p.keys(), near(key(3, 2, 1, 9))...) {
		if got := b.Of(k); got != p.of(k) {
			t.Errorf("the account of %v is %v; want %v", k, got, p.of(k))
		}
		if got := b.Issued(k.Place); got != p.issued(k.Place) {
			t.Errorf("%v is issued at %v; want %v", got, k.Place, p.issued(k.Place))
		}
	}
	for _, r := range p {
		if got := b.Of(r.k); got != r.a {
			t.Errorf("the account of %v is %v; want %v", r.k, got, r.a)
		}
	}
	if got := b.Keys(); !slices.Equal(got, p.keys()) {
		t.Errorf("the keys are %v; want %v", got, p.keys())
	}
}

// near is an account and all that differ from it in one field.
func near(k api.Key) []api.Key {
	list := []api.Key{k}
	for _, n := range extremes {
		list = append(list,
			key(n, k.Place.Cell, k.Place.Band, k.Place.Window),
			key(k.Tenant, n, k.Place.Band, k.Place.Window),
			key(k.Tenant, k.Place.Cell, n, k.Place.Window),
			key(k.Tenant, k.Place.Cell, k.Place.Band, n))
	}
	return list
}

// distinct is near without what is in it twice.
func distinct(k api.Key) []api.Key {
	var list []api.Key
	for _, one := range near(k) {
		if !slices.Contains(list, one) {
			list = append(list, one)
		}
	}
	return list
}

// fails checks calls that fail, and that they change nothing.
func fails(t *testing.T, b *Book, p plan, list []call) {
	t.Helper()
	for _, c := range list {
		isOnly(t, c.on(b), c.want)
		if t.Failed() {
			t.Fatalf("call %v", c)
		}
	}
	isBook(t, b, p)
}

// one, two and three are accounts with quota, nobody is one without, all at one
// place; elsewhere is an account of the same tenant as one, at another place.
var (
	one       = key(3, 2, 1, 9)
	two       = key(4, 2, 1, 9)
	three     = key(-5, 2, 1, 9)
	nobody    = key(6, 2, 1, 9)
	elsewhere = key(3, 2, 1, 8)
)

// some returns a book in which accounts have quota of all three sorts.
func some(t *testing.T) (*Book, plan) {
	t.Helper()
	b := New()
	done(t,
		b.Give(one, api.Vec{20, 21, 22, 23}), b.Charge(one, api.Vec{5, 6, 7, 8}), b.Hold(one, api.Vec{1, 2, 3, 4}),
		b.Give(two, all(10)), b.Charge(two, all(10)), b.Give(three, all(10)), b.Hold(three, all(10)),
		b.Give(elsewhere, all(9)))
	return b, plan{
		{one, Account{api.Vec{14, 13, 12, 11}, api.Vec{5, 6, 7, 8}, api.Vec{1, 2, 3, 4}}},
		{two, Account{Charged: all(10)}}, {three, Account{Held: all(10)}}, {elsewhere, Account{Free: all(9)}},
	}
}

// beyond are calls of one kind for more of each resource than an account has.
func beyond(kind int, k api.Key, has api.Vec, want error) []call {
	var list []call
	for i := range has {
		over := has
		over[i]++
		for _, v := range []api.Vec{over, only(i, has[i]+1), only(i, most), all(most)} {
			for _, to := range []int{k.Tenant, one.Tenant, two.Tenant, 50} {
				list = append(list, call{kind, k, to, v, want})
			}
		}
	}
	return list
}

// outOfFree checks a kind of call that takes what is free: more than that is
// ErrQuota, whatever is charged or held.
func outOfFree(t *testing.T, kind int) {
	t.Helper()
	b, p := some(t)
	fails(t, b, p, beyond(kind, one, api.Vec{14, 13, 12, 11}, api.ErrQuota))
	for _, k := range []api.Key{two, three, nobody, key(3, 2, 1, 10), key(3, 2, 0, 9), key(3, 1, 1, 9)} {
		fails(t, b, p, beyond(kind, k, all(0), api.ErrQuota))
	}
	fails(t, b, p, beyond(kind, elsewhere, all(9), api.ErrQuota))
}

// P11.1

func TestNew(t *testing.T) {
	b := New()
	isBook(t, b, nil)
	for _, n := range extremes {
		if got := b.Of(key(n, n, n, n)); got != (Account{}) {
			t.Errorf("the account of %d is %v", n, got)
		}
	}
}

func TestGive(t *testing.T) {
	for _, k := range append(distinct(key(3, 2, 1, 9)), distinct(key(0, 0, 0, 0))...) {
		b := New()
		done(t, b.Give(k, api.Vec{1, 2, 3, 4}))
		isBook(t, b, plan{{k, Account{Free: api.Vec{1, 2, 3, 4}}}})
		done(t, b.Give(k, all(0)), b.Give(k, api.Vec{10, 0, 1 << 39, 1}))
		isBook(t, b, plan{{k, Account{Free: api.Vec{11, 2, 1<<39 + 3, 5}}}})
		done(t, b.Charge(k, all(1)), b.Hold(k, all(1)), b.Give(k, all(2)))
		isBook(t, b, plan{{k, Account{api.Vec{11, 2, 1<<39 + 3, 5}, all(1), all(1)}}})
	}
}

// TestAccountsAreApart gives something else to each of many accounts that differ
// in one field.
func TestAccountsAreApart(t *testing.T) {
	b := New()
	var p plan
	for i, k := range distinct(one) {
		v := api.Vec{1 + i, i, 2 * i, 1000 - i}
		done(t, b.Give(k, v))
		p = append(p, row{k, Account{Free: v}})
	}
	isBook(t, b, p)
	for i := range p {
		done(t, b.Take(p[i].k, only(0, 1)), b.Hold(p[i].k, only(3, 9)))
		p[i].a.Free = minus(p[i].a.Free, api.Vec{1, 0, 0, 9})
		p[i].a.Held = only(3, 9)
	}
	isBook(t, b, p)
}

func TestGiveToTheLimit(t *testing.T) {
	if api.MaxVal != most {
		t.Errorf("the limit is %d", api.MaxVal)
	}
	for i := range 4 {
		full := only(i, most)
		over := []call{
			{give, one, 0, only(i, 1), api.ErrOver}, {give, two, 0, only(i, 1), api.ErrOver}, {give, nobody, 0, full, api.ErrOver},
			{give, one, 0, full, api.ErrOver}, {give, two, 0, all(1), api.ErrOver}, {give, nobody, 0, all(most), api.ErrOver},
		}
		b := New()
		done(t, b.Give(one, full))
		fails(t, b, plan{{one, Account{Free: full}}}, over)
		done(t, b.Give(one, all(0)), b.Give(two, all(0)))
		done(t, b.Charge(one, full))
		fails(t, b, plan{{one, Account{Charged: full}}}, over)
		done(t, b.Uncharge(one, full), b.Hold(one, full))
		fails(t, b, plan{{one, Account{Held: full}}}, over)
		done(t, b.Pass(one, three.Tenant, only(i, most-3)))
		fails(t, b, plan{{one, Account{Held: only(i, 3)}}, {three, Account{Free: only(i, most-3)}}}, over)
		done(t, b.Take(three, only(i, 1)), b.Give(two, only(i, 1)))
		p := plan{{one, Account{Held: only(i, 3)}}, {three, Account{Free: only(i, most-4)}}, {two, Account{Free: only(i, 1)}}}
		fails(t, b, p, over)
		rest := all(most)
		rest[i] = 0
		done(t, b.Give(two, rest), b.Give(elsewhere, all(most)))
		p[2].a.Free = plus(only(i, 1), rest)
		fails(t, b, append(p, row{elsewhere, Account{Free: all(most)}}), over)
	}
}

// TestGiveCountsThePlace checks that ErrOver is about all sorts of quota of all
// tenants at the place, and about nothing else.
func TestGiveCountsThePlace(t *testing.T) {
	b := New()
	var p plan
	part := all(most / 64)
	for _, tenant := range extremes {
		k := of(tenant, one)
		done(t, b.Give(k, all(most/16)), b.Charge(k, part), b.Hold(k, part))
		p = append(p, row{k, Account{minus(all(most/16), plus(part, part)), part, part}})
	}
	left := most - len(extremes)*(most/16)
	for i := range 4 {
		for _, k := range []api.Key{one, two, nobody, of(math.MinInt, one)} {
			fails(t, b, p, []call{
				{give, k, 0, only(i, left+1), api.ErrOver}, {give, k, 0, only(i, most), api.ErrOver},
				{give, k, 0, plus(all(left), only(i, 1)), api.ErrOver}, {give, k, 0, all(most), api.ErrOver},
			})
		}
	}
	for _, k := range []api.Key{key(3, 2, 1, 8), key(3, 2, 0, 9), key(3, 1, 1, 9), key(50, 2, 1, 10)} {
		done(t, b.Give(k, all(most)))
		p = append(p, row{k, Account{Free: all(most)}})
	}
	done(t, b.Give(of(50, one), all(left)))
	p = append(p, row{of(50, one), Account{Free: all(left)}})
	fails(t, b, p, []call{{give, one, 0, only(0, 1), api.ErrOver}, {give, of(50, one), 0, only(3, 1), api.ErrOver}})
}

func TestTake(t *testing.T) {
	outOfFree(t, take)
	b, p := some(t)
	done(t, b.Take(one, api.Vec{1, 2, 3, 4}), b.Take(two, all(0)), b.Take(nobody, all(0)), b.Take(elsewhere, all(9)))
	p[0].a.Free, p[3].a = api.Vec{13, 11, 9, 7}, Account{}
	isBook(t, b, p)
	done(t, b.Take(one, api.Vec{13, 11, 9, 7}))
	p[0].a.Free = api.Vec{}
	fails(t, b, p, append(beyond(take, one, all(0), api.ErrQuota), beyond(take, elsewhere, all(0), api.ErrQuota)...))
}

func TestCharge(t *testing.T) {
	outOfFree(t, charge)
	b, p := some(t)
	done(t, b.Charge(one, api.Vec{1, 2, 3, 4}), b.Charge(two, all(0)), b.Charge(nobody, all(0)), b.Charge(elsewhere, all(9)))
	p[0].a.Free, p[0].a.Charged, p[3].a = api.Vec{13, 11, 9, 7}, api.Vec{6, 8, 10, 12}, Account{Charged: all(9)}
	isBook(t, b, p)
	done(t, b.Charge(one, api.Vec{13, 11, 9, 7}))
	p[0].a.Free, p[0].a.Charged = api.Vec{}, all(19)
	fails(t, b, p, beyond(charge, one, all(0), api.ErrQuota))
}

func TestHold(t *testing.T) {
	outOfFree(t, hold)
	b, p := some(t)
	done(t, b.Hold(one, api.Vec{1, 2, 3, 4}), b.Hold(two, all(0)), b.Hold(nobody, all(0)), b.Hold(elsewhere, all(9)))
	p[0].a.Free, p[0].a.Held, p[3].a = api.Vec{13, 11, 9, 7}, api.Vec{2, 4, 6, 8}, Account{Held: all(9)}
	isBook(t, b, p)
	done(t, b.Hold(one, api.Vec{13, 11, 9, 7}))
	p[0].a.Free, p[0].a.Held = api.Vec{}, all(15)
	fails(t, b, p, beyond(hold, one, all(0), api.ErrQuota))
}

func TestMove(t *testing.T) {
	outOfFree(t, move)
	b, p := some(t)
	done(t, b.Move(one, two.Tenant, api.Vec{1, 2, 3, 4}), b.Move(one, 50, all(1)), b.Move(two, 50, all(0)), b.Move(nobody, 60, all(0)))
	p[0].a.Free, p[1].a.Free = api.Vec{12, 10, 8, 6}, api.Vec{1, 2, 3, 4}
	p = append(p, row{of(50, one), Account{Free: all(1)}})
	isBook(t, b, p)
	done(t, b.Move(elsewhere, two.Tenant, all(9)), b.Move(one, three.Tenant, api.Vec{12, 10, 8, 6}))
	p[0].a.Free, p[2].a.Free, p[3].a = api.Vec{}, api.Vec{12, 10, 8, 6}, Account{}
	p = append(p, row{of(two.Tenant, elsewhere), Account{Free: all(9)}})
	fails(t, b, p, beyond(move, one, all(0), api.ErrQuota))
	for _, tenant := range extremes {
		done(t, b.Move(three, tenant, all(0)))
	}
	isBook(t, b, p)
}

func TestUncharge(t *testing.T) {
	b, p := some(t)
	fails(t, b, p, beyond(uncharge, one, api.Vec{5, 6, 7, 8}, api.ErrState))
	fails(t, b, p, beyond(uncharge, two, all(10), api.ErrState))
	for _, k := range []api.Key{three, nobody, elsewhere} {
		fails(t, b, p, beyond(uncharge, k, all(0), api.ErrState))
	}
	done(t, b.Uncharge(one, api.Vec{1, 2, 3, 4}), b.Uncharge(two, all(10)), b.Uncharge(three, all(0)), b.Uncharge(nobody, all(0)))
	p[0].a.Free, p[0].a.Charged, p[1].a = all(15), all(4), Account{Free: all(10)}
	isBook(t, b, p)
	done(t, b.Uncharge(one, all(4)))
	p[0].a.Free, p[0].a.Charged = all(19), api.Vec{}
	fails(t, b, p, append(beyond(uncharge, one, all(0), api.ErrState), beyond(uncharge, two, all(0), api.ErrState)...))
}

func TestUnhold(t *testing.T) {
	b, p := some(t)
	fails(t, b, p, beyond(unhold, one, api.Vec{1, 2, 3, 4}, api.ErrState))
	fails(t, b, p, beyond(unhold, three, all(10), api.ErrState))
	for _, k := range []api.Key{two, nobody, elsewhere} {
		fails(t, b, p, beyond(unhold, k, all(0), api.ErrState))
	}
	done(t, b.Unhold(one, api.Vec{0, 1, 2, 3}), b.Unhold(two, all(0)), b.Unhold(three, all(10)), b.Unhold(nobody, all(0)))
	p[0].a.Free, p[0].a.Held, p[2].a = all(14), all(1), Account{Free: all(10)}
	isBook(t, b, p)
	done(t, b.Unhold(one, all(1)))
	p[0].a.Free, p[0].a.Held = all(15), api.Vec{}
	fails(t, b, p, append(beyond(unhold, one, all(0), api.ErrState), beyond(unhold, three, all(0), api.ErrState)...))
}

func TestPass(t *testing.T) {
	b, p := some(t)
	fails(t, b, p, beyond(pass, one, api.Vec{1, 2, 3, 4}, api.ErrState))
	fails(t, b, p, beyond(pass, three, all(10), api.ErrState))
	for _, k := range []api.Key{two, nobody, elsewhere} {
		fails(t, b, p, beyond(pass, k, all(0), api.ErrState))
	}
	done(t, b.Pass(one, two.Tenant, api.Vec{0, 1, 2, 3}), b.Pass(three, 50, all(1)), b.Pass(two, 50, all(0)), b.Pass(nobody, 60, all(0)))
	p[0].a.Held, p[1].a.Free, p[2].a.Held = all(1), api.Vec{0, 1, 2, 3}, all(9)
	p = append(p, row{of(50, one), Account{Free: all(1)}})
	isBook(t, b, p)
	done(t, b.Pass(three, one.Tenant, all(9)), b.Pass(one, three.Tenant, all(1)))
	p[0].a.Free, p[0].a.Held, p[2].a = api.Vec{23, 22, 21, 20}, api.Vec{}, Account{Free: all(1)}
	fails(t, b, p, append(beyond(pass, one, all(0), api.ErrState), beyond(pass, three, all(0), api.ErrState)...))
}

func TestToOneself(t *testing.T) {
	b, p := some(t)
	done(t, b.Move(one, one.Tenant, api.Vec{14, 13, 12, 11}), b.Move(one, one.Tenant, all(1)), b.Move(nobody, nobody.Tenant, all(0)))
	isBook(t, b, p)
	done(t, b.Pass(one, one.Tenant, api.Vec{0, 1, 2, 3}), b.Pass(three, three.Tenant, all(10)), b.Pass(two, two.Tenant, all(0)))
	p[0].a.Free, p[0].a.Held, p[2].a = all(14), all(1), Account{Free: all(10)}
	isBook(t, b, p)
	full := New()
	done(t, full.Give(one, all(most)), full.Move(one, one.Tenant, all(most)))
	isBook(t, full, plan{{one, Account{Free: all(most)}}})
	done(t, full.Hold(one, all(most)), full.Pass(one, one.Tenant, all(most)))
	isBook(t, full, plan{{one, Account{Free: all(most)}}})
}

// TestAllOfIt checks that the greatest amounts move through all sorts of quota,
// from tenant to tenant.
func TestAllOfIt(t *testing.T) {
	b, full := New(), all(most)
	k := of(extremes[0], one)
	done(t, b.Give(k, full))
	for _, tenant := range extremes[1:] {
		done(t, b.Charge(k, full))
		isBook(t, b, plan{{k, Account{Charged: full}}})
		done(t, b.Uncharge(k, full), b.Hold(k, full))
		isBook(t, b, plan{{k, Account{Held: full}}})
		done(t, b.Unhold(k, full))
		isBook(t, b, plan{{k, Account{Free: full}}})
		done(t, b.Move(k, 50, full), b.Hold(of(50, k), full), b.Pass(of(50, k), tenant, full))
		k = of(tenant, k)
		isBook(t, b, plan{{k, Account{Free: full}}})
	}
	done(t, b.Take(k, full))
	isBook(t, b, nil)
}

// badVectors are vectors of which one amount can't be, among others that can.
func badVectors() []api.Vec {
	var list []api.Vec
	for i := range 4 {
		for _, n := range badAmounts {
			for _, rest := range []api.Vec{{}, {1, 1, 1, 1}, {20, 30, 40, 50}, {most, most, most, most}} {
				rest[i] = n
				list = append(list, rest)
			}
		}
	}
	return append(list, all(-1), all(most+1), all(math.MinInt), all(math.MaxInt))
}

// TestBadVectors checks that ErrArg is told ahead of what else is wrong.
func TestBadVectors(t *testing.T) {
	var list []call
	for _, v := range badVectors() {
		for kind := range kinds {
			for _, k := range []api.Key{one, two, three, nobody, elsewhere, key(math.MinInt, -1, 1<<40, math.MaxInt)} {
				list = append(list, call{kind, k, two.Tenant, v, api.ErrArg}, call{kind, k, k.Tenant, v, api.ErrArg})
			}
		}
	}
	b, p := some(t)
	fails(t, b, p, list)
	fails(t, New(), nil, list)
	full := New()
	done(t, full.Give(one, all(most)))
	fails(t, full, plan{{one, Account{Free: all(most)}}}, list)
}

func TestNil(t *testing.T) {
	var b *Book
	for _, v := range append([]api.Vec{{}, all(1), all(most)}, badVectors()...) {
		for kind := range kinds {
			for _, k := range []api.Key{one, nobody, {}, key(math.MinInt, -1, 1<<40, math.MaxInt)} {
				isOnly(t, call{kind, k, 1, v, nil}.on(b), api.ErrNil)
				isOnly(t, call{kind, k, k.Tenant, v, nil}.on(b), api.ErrNil)
			}
		}
	}
	for _, window := range extremes {
		if got := b.Expire(window); len(got) != 0 {
			t.Errorf("Expire(%d) of nothing is %v", window, got)
		}
	}
	isBook(t, b, nil)
}

func TestBooksAreApart(t *testing.T) {
	a, b := New(), New()
	done(t, a.Give(one, all(most)), b.Give(one, all(5)), b.Hold(one, all(5)))
	isBook(t, a, plan{{one, Account{Free: all(most)}}})
	isBook(t, b, plan{{one, Account{Held: all(5)}}})
	done(t, b.Pass(one, two.Tenant, all(5)))
	isBook(t, a, plan{{one, Account{Free: all(most)}}})
	a.Expire(math.MaxInt)
	isBook(t, b, plan{{two, Account{Free: all(5)}}})
	isBook(t, New(), nil)
}

// TestAccountStays checks that an account that was told is the caller's own.
func TestAccountStays(t *testing.T) {
	b, p := some(t)
	a := b.Of(elsewhere)
	a.Free, a.Charged[0], a.Held[3] = all(100), 100, 100
	isBook(t, b, p)
	a = b.Of(elsewhere)
	done(t, b.Charge(elsewhere, all(4)))
	if a != (Account{Free: all(9)}) {
		t.Errorf("the account is now %v", a)
	}
}

// P11.2

func TestIssued(t *testing.T) {
	b := New()
	sum := api.Vec{}
	for i, tenant := range extremes {
		k := of(tenant, one)
		v := api.Vec{100 + i, 200 + i, 300 + i, 1 << 35}
		done(t, b.Give(k, v), b.Hold(k, api.Vec{i, 0, 7, 1}), b.Charge(k, api.Vec{1, i, 7, 1 << 34}), b.Give(of(tenant, elsewhere), all(3)))
		sum = plus(sum, v)
		if got := b.Issued(one.Place); got != sum {
			t.Errorf("%v is issued; want %v", got, sum)
		}
		if got := b.Issued(elsewhere.Place); got != all(3*(i+1)) {
			t.Errorf("elsewhere %v is issued; want %d", got, 3*(i+1))
		}
	}
	for _, k := range near(one) {
		if got := b.Issued(k.Place); k.Place != one.Place && k.Place != elsewhere.Place && got != (api.Vec{}) {
			t.Errorf("%v is issued at %v", got, k.Place)
		}
	}
}

func TestKeys(t *testing.T) {
	list := distinct(one)
	list = append(list, key(3, 1, 2, 10), key(2, 3, 2, 10), key(4, 1, 0, 0), key(3, 2, 0, 10), key(3, 3, 0, 0))
	want := slices.Clone(list)
	slices.SortFunc(want, func(a, b api.Key) int { return slices.Compare(fields(a), fields(b)) })
	r := rand.New(rand.NewSource(11))
	for range 20 {
		r.Shuffle(len(list), func(i, j int) { list[i], list[j] = list[j], list[i] })
		b := New()
		for i, k := range list {
			done(t, b.Give(k, only(i%4, 1)))
		}
		if got := b.Keys(); !slices.Equal(got, want) {
			t.Errorf("the keys are %v; want %v", got, want)
		}
	}
}

// TestOrder has accounts whose later fields are in the opposite order.
func TestOrder(t *testing.T) {
	want := []api.Key{
		key(-1, 9, 9, 9), key(1, -2, 9, 9), key(1, 2, -3, 9), key(1, 2, 3, -4), key(1, 2, 3, 4), key(1, 2, 4, -9),
		key(1, 3, -9, -9), key(2, -9, -9, -9), key(10, -10, -10, -10),
	}
	b := New()
	for i := range want {
		done(t, b.Give(want[len(want)-1-i], all(1)))
	}
	if got := b.Keys(); !slices.Equal(got, want) {
		t.Errorf("the keys are %v; want %v", got, want)
	}
	if got := b.Expire(10); !slices.Equal(got, want) {
		t.Errorf("%v expired; want %v", got, want)
	}
}

// TestEmptyAccounts checks when an account is not empty: as long as there is any
// amount of any resource, free, charged or held.
func TestEmptyAccounts(t *testing.T) {
	b := New()
	is := func(want ...api.Key) {
		t.Helper()
		if got := b.Keys(); !slices.Equal(got, want) {
			t.Errorf("the keys are %v; want %v", got, want)
		}
	}
	for kind := range kinds {
		done(t, call{kind, one, two.Tenant, api.Vec{}, nil}.on(b))
		is()
	}
	for kind := take; kind < kinds; kind++ {
		call{kind, one, two.Tenant, all(1), nil}.on(b)
		is()
	}
	b.Of(one)
	b.Issued(one.Place)
	is()
	for i := range 4 {
		v := only(i, 1)
		done(t, b.Give(one, v))
		is(one)
		done(t, b.Charge(one, v))
		is(one)
		done(t, b.Uncharge(one, v), b.Hold(one, v))
		is(one)
		done(t, b.Pass(one, two.Tenant, v))
		is(two)
		done(t, b.Move(two, one.Tenant, v))
		is(one)
		done(t, b.Take(one, v))
		is()
	}
}

func TestExpire(t *testing.T) {
	for _, window := range append([]int{7, 8, 9, 10}, extremes...) {
		b := New()
		var p plan
		for i, k := range append(distinct(one), distinct(key(7, 2, 0, 8))...) {
			v := only(i%4, 2)
			done(t, b.Give(k, v))
			p = append(p, row{k, Account{Free: v}})
			if i%3 == 1 {
				done(t, b.Charge(k, v))
				p[i].a = Account{Charged: v}
			} else if i%3 == 2 {
				done(t, b.Hold(k, v))
				p[i].a = Account{Held: v}
			}
		}
		if got, want := b.Expire(window), p.expire(window); !slices.Equal(got, want) {
			t.Errorf("%v expired; want %v", got, want)
		}
		isBook(t, b, p)
		if got := b.Expire(window); len(got) != 0 {
			t.Errorf("%v expired twice", got)
		}
		isBook(t, b, p)
	}
}

// TestExpired checks that nothing is left of what expired, and that the account
// can have quota again.
func TestExpired(t *testing.T) {
	b, p := some(t)
	done(t, b.Give(nobody, all(1)), b.Take(nobody, all(1)))
	if got := b.Expire(9); !slices.Equal(got, []api.Key{elsewhere}) {
		t.Errorf("%v expired", got)
	}
	p = p[:3]
	isBook(t, b, p)
	if got := b.Expire(10); !slices.Equal(got, []api.Key{three, one, two}) {
		t.Errorf("%v expired", got)
	}
	p = nil
	for kind := take; kind < kinds; kind++ {
		want := api.ErrQuota
		if kind == uncharge || kind == unhold || kind == pass {
			want = api.ErrState
		}
		for _, k := range []api.Key{one, two, three, elsewhere} {
			fails(t, b, p, beyond(kind, k, all(0), want))
		}
	}
	done(t, b.Give(two, all(most)))
	isBook(t, b, plan{{two, Account{Free: all(most)}}})
}

// TestListsAreNew checks that a list shares no memory with the book or another
// list, and isn't changed by calls behind it.
func TestListsAreNew(t *testing.T) {
	b, p := some(t)
	first := b.Keys()
	for range 2 {
		list := b.Keys()
		list = list[:cap(list)]
		for i := range list {
			list[i] = key(7, 7, 7, 7)
		}
		isBook(t, b, p)
	}
	gone := b.Expire(9)
	gone = gone[:cap(gone)]
	for i := range gone {
		gone[i] = key(7, 7, 7, 7)
	}
	isBook(t, b, p[:3])
	gone = b.Expire(10)
	done(t, b.Give(elsewhere, all(1)), b.Give(nobody, all(1)))
	b.Expire(11)
	if !slices.Equal(first, []api.Key{three, elsewhere, one, two}) || !slices.Equal(gone, []api.Key{three, one, two}) {
		t.Errorf("the lists are now %v and %v", first, gone)
	}
}

// P11.3

// TestAnyCalls makes random calls on a book and on a plan of it, and checks what
// each may change.
func TestAnyCalls(t *testing.T) {
	for seed := range 60 {
		r := rand.New(rand.NewSource(int64(seed)))
		b := New()
		var p plan
		// Few accounts and small amounts meet often; great ones meet the limit.
		who := 1 + r.Intn(4)
		top := []int{5, 100, most / 3, most}[seed%4]
		for range 300 {
			if r.Intn(40) == 0 {
				expires(t, b, p, r.Intn(4))
				continue
			}
			c := call{kind: r.Intn(kinds), k: key(r.Intn(who), r.Intn(2), r.Intn(2), r.Intn(3)), to: r.Intn(who)}
			for i := range c.v {
				c.v[i] = max(r.Intn(top+2)-1, r.Intn(30)-1)
			}
			before := p.issued(c.k.Place)
			err := c.on(b)
			isOnly(t, err, p.enter(c))
			isBook(t, b, p)
			changesIssued(t, c, err, before, b.Issued(c.k.Place))
			isAlwaysValid(t, b)
			if t.Failed() {
				t.Fatalf("seed %d: call %v", seed, c)
			}
		}
	}
}

// expires lets windows end, and checks that what is gone is all that was there,
// and what is left is as it was.
func expires(t *testing.T, b *Book, p plan, window int) {
	t.Helper()
	if got, want := b.Expire(window), p.expire(window); !slices.Equal(got, want) {
		t.Fatalf("%v expired; want %v", got, want)
	}
	isBook(t, b, p)
	for _, k := range b.Keys() {
		if k.Place.Window < window {
			t.Errorf("%v is there behind window %d", k, window)
		}
	}
}

// changesIssued checks that a call changed the quota of its place as its kind does.
func changesIssued(t *testing.T, c call, err error, before, after api.Vec) {
	t.Helper()
	want := before
	switch {
	case err == nil && c.kind == give:
		want = plus(before, c.v)
	case err == nil && c.kind == take:
		want = minus(before, c.v)
	}
	if after != want {
		t.Errorf("%v is issued after %v; want %v", after, before, want)
	}
}

// isAlwaysValid checks the vectors of each account, and those of each place.
func isAlwaysValid(t *testing.T, b *Book) {
	t.Helper()
	for _, k := range b.Keys() {
		a := b.Of(k)
		if !isValid(a.Free) || !isValid(a.Charged) || !isValid(a.Held) || !isValid(b.Issued(k.Place)) {
			t.Errorf("the account of %v is %v; %v is issued", k, a, b.Issued(k.Place))
		}
	}
}

// The chapter's example.

func TestExample(t *testing.T) {
	b := New()
	done(t, b.Give(one, all(5)), b.Charge(one, all(3)), b.Hold(one, all(2)))
	if got := b.Of(one); got != (Account{Charged: all(3), Held: all(2)}) {
		t.Errorf("the account is %v", got)
	}
	if got := b.Issued(one.Place); got != all(5) {
		t.Errorf("%v is issued", got)
	}
}
