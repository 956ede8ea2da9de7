package deal

import (
	"errors"
	"math"
	"math/rand"
	"slices"
	"testing"

	"quitrent/api"
	"quitrent/book"
)

var allErrors = []error{
	api.ErrArg, api.ErrNil, api.ErrForm, api.ErrOver, api.ErrNone, api.ErrDup, api.ErrFull,
	api.ErrQuota, api.ErrCeil, api.ErrRoom, api.ErrBudget, api.ErrFunds, api.ErrState, api.ErrDown,
}

// The limits, told by numbers of their own.
const (
	topID     = 1073741824
	topPrice  = 1000000
	topLots   = 1000
	topOrders = 32
)

// extremes are numbers from the whole range.
var extremes = []int{
	math.MinInt, math.MinInt + 1, -1 << 32, -1000, -1, 0, 1, 2, 999, 1 << 31, 1 << 32, math.MaxInt - 1, math.MaxInt,
}

// badFor returns numbers that are not between 1 and top, some of them numbers
// that are if bits get lost.
func badFor(top int) []int {
	return []int{
		0, -1, -2, -top, top + 1, 2 * top, 1 << 32, 1<<32 + 1, 1<<32 + top, 1<<62 + 5, -1 << 32,
		math.MaxInt, math.MaxInt - 1, math.MinInt, math.MinInt + 1, math.MinInt + top, math.MaxInt - top,
	}
}

// isOnly checks that err is want, no other error of package api, and no Fault.
func isOnly(t *testing.T, err, want error) {
	t.Helper()
	if (err == nil) != (want == nil) {
		t.Errorf("error %v: want %v", err, want)
	}
	for _, e := range allErrors {
		if errors.Is(err, e) != (e == want) {
			t.Errorf("error %v: want %v only", err, want)
		}
	}
	var f *api.Fault
	if errors.As(err, &f) {
		t.Errorf("error %v: has a Fault", err)
	}
}

// done checks calls that must be answered without an error.
func done(t *testing.T, errs ...error) {
	t.Helper()
	for _, err := range errs {
		isOnly(t, err, nil)
	}
}

// offer is an order to sell; its tenant is ten times its number.
func offer(id, price, lots int) book.Order {
	return book.Order{Id: id, Tenant: 10 * id, Sell: true, Price: price, Lots: lots}
}

// bid is an order to buy; its tenant is ten times its number.
func bid(id, price, lots int) book.Order {
	return book.Order{Id: id, Tenant: 10 * id, Price: price, Lots: lots}
}

// of returns an order with another tenant.
func of(tenant int, o book.Order) book.Order {
	o.Tenant = tenant
	return o
}

// turned returns an order of the other side: what sold buys at the price that is
// as far from the other end.
func turned(o book.Order) book.Order {
	o.Sell = !o.Sell
	o.Price = topPrice + 1 - o.Price
	return o
}

// plan is what a book must tell after deals: its orders as they came, told by
// plain rules.
type plan struct {
	orders []book.Order
	added  int
}

// at returns where an order is; the number of orders if there is none.
func (p plan) at(id int) int {
	for i, o := range p.orders {
		if o.Id == id {
			return i
		}
	}
	return len(p.orders)
}

// precedes reports whether x counts ahead of y, both on one side.
func precedes(x, y book.Order) bool {
	if x.Price == y.Price {
		return x.Seq < y.Seq
	}
	return (x.Price < y.Price) == x.Sell
}

// best returns where the best order of a side is; below 0 if there is none.
func (p plan) best(sell bool) int {
	best := -1
	for i, o := range p.orders {
		if o.Sell == sell && (best < 0 || precedes(o, p.orders[best])) {
			best = i
		}
	}
	return best
}

// list returns a side as it counts.
func (p plan) list(sell bool) []book.Order {
	var list []book.Order
	rest := plan{orders: slices.Clone(p.orders)}
	for i := rest.best(sell); i >= 0; i = rest.best(sell) {
		list = append(list, rest.orders[i])
		rest.orders = slices.Delete(rest.orders, i, i+1)
	}
	return list
}

// between reports whether n is between 1 and top.
func between(n, top int) bool { return 0 < n && n < top+1 }

// add enters an order as it is, or tells what is wrong with it.
func (p *plan) add(o book.Order) error {
	if err := p.bad(o); err != nil {
		return err
	}
	p.added++
	o.Seq = p.added
	p.orders = append(slices.Clone(p.orders), o)
	return nil
}

// bad tells what is wrong with an order that comes.
func (p plan) bad(o book.Order) error {
	switch {
	case !between(o.Id, topID) || !between(o.Price, topPrice) || !between(o.Lots, topLots):
		return api.ErrArg
	case p.at(o.Id) < len(p.orders):
		return api.ErrDup
	case len(p.orders) == topOrders:
		return api.ErrFull
	}
	return nil
}

// match trades an order lot by lot, and tells the lots of one trade as one fill.
func (p *plan) match(o book.Order) ([]Fill, int, error) {
	if err := p.bad(o); err != nil {
		return nil, 0, err
	}
	orders := slices.Clone(p.orders)
	p.orders = orders
	var fills []Fill
	last := 0
	for range o.Lots {
		i := p.best(!o.Sell)
		if i < 0 || o.Sell && o.Price > p.orders[i].Price || !o.Sell && o.Price < p.orders[i].Price {
			break
		}
		other := p.orders[i]
		if last != other.Id {
			last = other.Id
			fills = append(fills, fillOf(o, other))
		}
		fills[len(fills)-1].Lots++
		o.Lots--
		p.orders[i].Lots--
		if p.orders[i].Lots == 0 {
			p.orders = slices.Delete(p.orders, i, i+1)
		}
	}
	if o.Lots > 0 {
		p.add(o)
	}
	return fills, o.Lots, nil
}

// fillOf returns a fill of no lots yet.
func fillOf(o, other book.Order) Fill {
	if o.Sell {
		return Fill{Ask: o.Id, Seller: o.Tenant, Bid: other.Id, Buyer: other.Tenant, Price: other.Price}
	}
	return Fill{Ask: other.Id, Seller: other.Tenant, Bid: o.Id, Buyer: o.Tenant, Price: other.Price}
}

// isBook checks all that a book tells.
func isBook(t *testing.T, b *book.Book, p plan) {
	t.Helper()
	for _, sell := range []bool{true, false} {
		if got, want := b.List(sell), p.list(sell); !slices.Equal(got, want) {
			t.Errorf("the list of %v is %v; want %v", sell, got, want)
		}
	}
	if got := b.Len(); got != len(p.orders) {
		t.Errorf("there are %d; want %d", got, len(p.orders))
	}
}

// matches lets an order come to a book and to its plan, and checks the answers.
func matches(t *testing.T, b *book.Book, p *plan, o book.Order) []Fill {
	t.Helper()
	fills, left, err := Match(b, o)
	want, wantLeft, wantErr := p.match(o)
	isOnly(t, err, wantErr)
	if !slices.Equal(fills, want) || left != wantLeft {
		t.Errorf("got %v and %d left; want %v and %d", fills, left, want, wantLeft)
	}
	isBook(t, b, *p)
	if t.Failed() {
		t.Fatalf("order %v", o)
	}
	return fills
}

// is checks what an order that comes to a book trades, told outright.
func is(t *testing.T, b *book.Book, o book.Order, left int, want ...Fill) {
	t.Helper()
	fills, n, err := Match(b, o)
	isOnly(t, err, nil)
	if !slices.Equal(fills, want) || n != left {
		t.Errorf("order %v trades %v and leaves %d; want %v and %d", o, fills, n, want, left)
	}
}

// fails checks an order that can't come, and that nothing changes.
func fails(t *testing.T, b *book.Book, p plan, o book.Order, want error) {
	t.Helper()
	fills, left, err := Match(b, o)
	isOnly(t, err, want)
	if len(fills) != 0 || left != 0 {
		t.Errorf("got %v and %d beside an error", fills, left)
	}
	isBook(t, b, p)
	if t.Failed() {
		t.Fatalf("order %v", o)
	}
}

// filled returns a book to which orders were added as they are, and its plan.
func filled(t *testing.T, orders ...book.Order) (*book.Book, plan) {
	t.Helper()
	b := book.New()
	var p plan
	for _, o := range orders {
		done(t, b.Add(o), p.add(o))
	}
	isBook(t, b, p)
	return b, p
}

// lists checks the orders of a side, without their numbers of coming.
func lists(t *testing.T, b *book.Book, sell bool, want ...book.Order) {
	t.Helper()
	list := b.List(sell)
	for i := range list {
		list[i].Seq = 0
	}
	if !slices.Equal(list, want) {
		t.Errorf("the list of %v is %v; want %v", sell, list, want)
	}
}

// full returns a book with as many orders as can be, the numbers 101 and up: odd
// ones sell at 60 and more, even ones buy at 40 and less.
func full(t *testing.T) (*book.Book, plan) {
	t.Helper()
	var list []book.Order
	for i := range topOrders {
		if i%2 == 0 {
			list = append(list, offer(101+i, 60+i%5, 1+i%4))
		} else {
			list = append(list, bid(101+i, 40-i%5, 1+i%4))
		}
	}
	return filled(t, list...)
}

// P14.1

func TestMeets(t *testing.T) {
	prices := append([]int{3, 4, 5, 999999, 1000000, 1000001}, extremes...)
	for _, x := range prices {
		for _, y := range prices {
			if got := Meets(offer(1, x, 1), bid(2, y, 1)); got != (x <= y) {
				t.Errorf("an offer at %d and a bid at %d: %v", x, y, got)
			}
			for _, two := range [][2]book.Order{
				{bid(1, x, 1), offer(2, y, 1)}, {bid(1, x, 1), bid(2, y, 1)}, {offer(1, x, 1), offer(2, y, 1)},
			} {
				if Meets(two[0], two[1]) {
					t.Errorf("%v and %v meet", two[0], two[1])
				}
			}
		}
	}
}

// TestMeetsAsksForNothingElse checks that the other fields don't count, not even
// where an order is not valid.
func TestMeetsAsksForNothingElse(t *testing.T) {
	for _, n := range extremes {
		for _, m := range extremes {
			sell := book.Order{Id: n, Tenant: m, Sell: true, Price: 5, Lots: n, Seq: m}
			buy := book.Order{Id: m, Tenant: n, Price: 5, Lots: m, Seq: n}
			if !Meets(sell, buy) {
				t.Errorf("%v and %v don't meet", sell, buy)
			}
			buy.Price = 4
			if Meets(sell, buy) {
				t.Errorf("%v and %v meet", sell, buy)
			}
		}
	}
	if Meets(book.Order{}, book.Order{}) {
		t.Error("orders without anything meet")
	}
}

func TestWorth(t *testing.T) {
	for _, c := range []struct {
		want int
		list []Fill
	}{
		{0, nil}, {0, []Fill{}}, {12, []Fill{{Price: 3, Lots: 4}}}, {0, []Fill{{Price: 3}, {Lots: 4}}},
		{26, []Fill{{Price: 3, Lots: 4}, {Price: 7, Lots: 2}}}, {1000000000, []Fill{{Price: 1000000, Lots: 1000}}},
		{17, []Fill{{Ask: 1, Bid: 2, Seller: 3, Buyer: 4, Price: 5, Lots: 1}, {Ask: 9, Bid: 9, Seller: 9, Buyer: 9, Price: 4, Lots: 3}}},
		{9, []Fill{{math.MinInt, math.MaxInt, -1, math.MinInt, 3, 3}}},
	} {
		was := slices.Clone(c.list)
		if got := Worth(c.list); got != c.want {
			t.Errorf("%v are worth %d; want %d", c.list, got, c.want)
		}
		if !slices.Equal(c.list, was) {
			t.Errorf("%v were %v", c.list, was)
		}
	}
}

// TestWorthOfMany checks as many fills as can be, at the greatest prices, too.
func TestWorthOfMany(t *testing.T) {
	dear := make([]Fill, 1000)
	mixed := make([]Fill, 1000)
	want := 0
	for i := range dear {
		dear[i] = Fill{Price: 1000000, Lots: 1000}
		mixed[i] = Fill{Price: i * 1001, Lots: 1000 - i}
		for range 1000 - i {
			want += i * 1001
		}
	}
	if got := Worth(dear); got != 1000000000000 {
		t.Errorf("the dearest fills are worth %d", got)
	}
	if got := Worth(mixed); got != want {
		t.Errorf("the fills are worth %d; want %d", got, want)
	}
}

// TestWorthOfAnything checks that a call ends, whatever it is given.
func TestWorthOfAnything(t *testing.T) {
	var list []Fill
	for _, n := range extremes {
		for _, m := range extremes {
			list = append(list, Fill{n, m, n, m, n, m})
		}
	}
	Worth(list)
}

// P14.2

func TestNilBook(t *testing.T) {
	orders := []book.Order{offer(1, 1, 1), bid(1, 1, 1), {}, bid(0, 0, 0), offer(1, 0, 1)}
	for _, n := range extremes {
		orders = append(orders, book.Order{Id: n, Tenant: n, Price: n, Lots: n, Seq: n})
	}
	for _, o := range orders {
		fills, left, err := Match(nil, o)
		isOnly(t, err, api.ErrNil)
		if len(fills) != 0 || left != 0 {
			t.Errorf("got %v and %d", fills, left)
		}
	}
}

func TestBadOrders(t *testing.T) {
	b, p := filled(t, offer(1, 10, 5), bid(2, 8, 5), offer(3, 11, 5), bid(4, 7, 5))
	fullBook, fullPlan := full(t)
	bad := func(o book.Order) {
		t.Helper()
		for _, sell := range []bool{true, false} {
			o.Sell = sell
			fails(t, b, p, o, api.ErrArg)
			fails(t, fullBook, fullPlan, o, api.ErrArg)
			fails(t, book.New(), plan{}, o, api.ErrArg)
		}
	}
	for _, n := range badFor(topID) {
		bad(book.Order{Id: n, Price: 9, Lots: 1})
		bad(book.Order{Id: n, Tenant: 5, Price: topPrice, Lots: topLots})
	}
	for _, n := range badFor(topPrice) {
		// The numbers 1 and 101 stand in a book: what is invalid is told first.
		for _, id := range []int{1, 9, 101} {
			bad(book.Order{Id: id, Price: n, Lots: 2})
		}
	}
	for _, n := range badFor(topLots) {
		for _, id := range []int{1, 9, 101} {
			bad(book.Order{Id: id, Price: 9, Lots: n})
		}
	}
	for _, n := range extremes[:6] {
		bad(book.Order{Id: n, Tenant: n, Price: n, Lots: n, Seq: n})
	}
}

// TestDup checks that a number that stands can't come, on neither side, even if
// all its lots could be traded, and even with the very order that has it.
func TestDup(t *testing.T) {
	b, p := filled(t, offer(1, 10, 5), bid(2, 8, 5))
	fullBook, fullPlan := full(t)
	for _, lots := range []int{1, 5, 6, topLots} {
		for _, price := range []int{1, 8, 9, 10, topPrice} {
			for _, id := range []int{1, 2} {
				fails(t, b, p, offer(id, price, lots), api.ErrDup)
				fails(t, b, p, bid(id, price, lots), api.ErrDup)
			}
			for _, id := range []int{101, 102, 132} {
				fails(t, fullBook, fullPlan, offer(id, price, lots), api.ErrDup)
				fails(t, fullBook, fullPlan, bid(id, price, lots), api.ErrDup)
			}
		}
	}
}

// TestFull checks that no order comes to a full book, even if all its lots could
// be traded and room would be made.
func TestFull(t *testing.T) {
	b, p := full(t)
	for _, lots := range []int{1, 2, 100, topLots} {
		for _, price := range []int{1, 40, 50, 64, topPrice} {
			fails(t, b, p, offer(1, price, lots), api.ErrFull)
			fails(t, b, p, bid(133, price, lots), api.ErrFull)
		}
	}
	_, err := b.Drop(132)
	done(t, err)
	p.orders = slices.Delete(slices.Clone(p.orders), topOrders-1, topOrders)
	matches(t, b, &p, bid(200, 50, 7))
	fails(t, b, p, offer(201, 50, 7), api.ErrFull)
}

// TestLastPlace checks that the last place of a book is enough, both for what is
// traded and for what is left.
func TestLastPlace(t *testing.T) {
	for _, o := range []book.Order{
		bid(1, 50, 3), offer(1, 50, 3), bid(1, 60, 1), bid(1, topPrice, topLots), offer(1, 1, topLots), offer(1, 40, 1),
	} {
		b, p := full(t)
		_, err := b.Drop(131)
		done(t, err)
		p.orders = slices.Delete(slices.Clone(p.orders), topOrders-2, topOrders-1)
		matches(t, b, &p, o)
	}
}

// TestFailedOrdersDontCount checks that only orders that came to stand in the
// book have been numbered.
func TestFailedOrdersDontCount(t *testing.T) {
	b := book.New()
	is(t, b, offer(1, 10, 5), 5)
	is(t, b, bid(2, 10, 2), 0, Fill{1, 2, 10, 20, 10, 2})
	for _, o := range []book.Order{offer(1, 10, 1), offer(3, 0, 1), bid(1, 1, 1), bid(0, 1, 1)} {
		if _, _, err := Match(b, o); err == nil {
			t.Errorf("order %v came", o)
		}
	}
	is(t, b, bid(3, 9, 4), 4)
	is(t, b, bid(4, 11, 9), 6, Fill{1, 4, 10, 40, 10, 3})
	list := b.List(false)
	if len(list) != 2 || list[0].Seq != 3 || list[1].Seq != 2 {
		t.Errorf("the bids are %v", list)
	}
}

// TestNoneMeets checks orders that meet nothing: they stand as they came.
func TestNoneMeets(t *testing.T) {
	b := book.New()
	is(t, b, bid(1, 5, 4), 4)
	is(t, b, bid(2, topPrice, topLots), topLots)
	is(t, b, bid(topID, 1, 1), 1)
	lists(t, b, false, bid(2, topPrice, topLots), bid(1, 5, 4), bid(topID, 1, 1))
	b = book.New()
	is(t, b, offer(1, 5, 4), 4)
	is(t, b, bid(2, 4, 4), 4)
	is(t, b, offer(3, 5, 1), 1)
	is(t, b, offer(4, topPrice, 2), 2)
	lists(t, b, true, offer(1, 5, 4), offer(3, 5, 1), offer(4, topPrice, 2))
	lists(t, b, false, bid(2, 4, 4))
}

// TestPriceOfTheBook checks that the order that stands tells the price, on either
// side, and that equal prices meet.
func TestPriceOfTheBook(t *testing.T) {
	for _, price := range []int{5, 6, 7, topPrice} {
		b, p := filled(t, offer(1, 5, 2))
		is(t, b, bid(2, price, 2), 0, Fill{1, 2, 10, 20, 5, 2})
		p.orders = nil
		isBook(t, b, p)
	}
	for _, price := range []int{5, 4, 1} {
		b, p := filled(t, bid(1, 5, 2))
		is(t, b, offer(2, price, 2), 0, Fill{2, 1, 20, 10, 5, 2})
		p.orders = nil
		isBook(t, b, p)
	}
}

// TestLots checks trades of all numbers of lots on both sides of equal.
func TestLots(t *testing.T) {
	for _, stands := range []int{1, 2, 3, 999, topLots} {
		for _, comes := range []int{1, 2, 3, 999, topLots} {
			lots := min(stands, comes)
			b, _ := filled(t, offer(1, 5, stands))
			is(t, b, bid(2, 6, comes), comes-lots, Fill{1, 2, 10, 20, 5, lots})
			if stands > lots {
				lists(t, b, true, offer(1, 5, stands-lots))
			} else {
				lists(t, b, true)
			}
			if comes > lots {
				lists(t, b, false, bid(2, 6, comes-lots))
			} else {
				lists(t, b, false)
			}
		}
	}
}

// TestPriceAndTime checks that the better price goes first, then who came first,
// and that an order stops where the next one doesn't meet it.
func TestPriceAndTime(t *testing.T) {
	orders := []book.Order{offer(1, 6, 1), offer(2, 5, 2), offer(3, 7, 3), offer(4, 5, 4), offer(5, 6, 5), bid(9, 2, 7)}
	b, _ := filled(t, orders...)
	is(t, b, bid(6, 6, 20), 8,
		Fill{2, 6, 20, 60, 5, 2}, Fill{4, 6, 40, 60, 5, 4}, Fill{1, 6, 10, 60, 6, 1}, Fill{5, 6, 50, 60, 6, 5})
	lists(t, b, true, offer(3, 7, 3))
	lists(t, b, false, bid(6, 6, 8), bid(9, 2, 7))
	b, _ = filled(t, orders...)
	is(t, b, bid(6, 7, 7), 0, Fill{2, 6, 20, 60, 5, 2}, Fill{4, 6, 40, 60, 5, 4}, Fill{1, 6, 10, 60, 6, 1})
	lists(t, b, true, offer(5, 6, 5), offer(3, 7, 3))
	lists(t, b, false, bid(9, 2, 7))
	b, _ = filled(t, bid(1, 6, 1), bid(2, 7, 2), bid(3, 5, 3), bid(4, 7, 4), bid(5, 6, 5), offer(9, 9, 7))
	is(t, b, offer(6, 6, 9), 0,
		Fill{6, 2, 60, 20, 7, 2}, Fill{6, 4, 60, 40, 7, 4}, Fill{6, 1, 60, 10, 6, 1}, Fill{6, 5, 60, 50, 6, 2})
	lists(t, b, false, bid(5, 6, 3), bid(3, 5, 3))
	lists(t, b, true, offer(9, 9, 7))
}

// TestRestKeepsItsPlace checks that an order of which a part was traded is still
// the first at its price, and that what is left of one that comes is the last.
func TestRestKeepsItsPlace(t *testing.T) {
	b, _ := filled(t, offer(1, 5, 3), offer(2, 5, 3))
	is(t, b, bid(3, 5, 1), 0, Fill{1, 3, 10, 30, 5, 1})
	is(t, b, bid(4, 5, 3), 0, Fill{1, 4, 10, 40, 5, 2}, Fill{2, 4, 20, 40, 5, 1})
	is(t, b, bid(5, 5, 3), 1, Fill{2, 5, 20, 50, 5, 2})
	is(t, b, bid(6, 5, 1), 1)
	is(t, b, offer(7, 1, 2), 0, Fill{7, 5, 70, 50, 5, 1}, Fill{7, 6, 70, 60, 5, 1})
	isBook(t, b, plan{})
}

// TestTenants checks that a tenant may be any number, and may trade with itself.
func TestTenants(t *testing.T) {
	for _, n := range extremes {
		for _, m := range extremes {
			b, _ := filled(t, of(n, offer(1, 5, 4)))
			is(t, b, of(m, bid(2, 5, 2)), 0, Fill{1, 2, n, m, 5, 2})
			is(t, b, of(m, bid(3, 5, 3)), 1, Fill{1, 3, n, m, 5, 2})
			lists(t, b, false, of(m, bid(3, 5, 1)))
			is(t, b, of(n, offer(4, 4, 1)), 0, Fill{4, 3, n, m, 5, 1})
		}
	}
}

// TestSeqIsIgnored checks that an order's own number of coming doesn't count.
func TestSeqIsIgnored(t *testing.T) {
	for _, n := range extremes {
		b, p := filled(t, bid(1, 5, 3), bid(2, 5, 3))
		o := bid(3, 5, 2)
		o.Seq = n
		matches(t, b, &p, o)
		o = offer(4, 5, 7)
		o.Seq = n
		matches(t, b, &p, o)
		o.Id, o.Lots = 5, 4
		matches(t, b, &p, o)
		if o, ok := b.Of(5); !ok || o.Seq != 4 {
			t.Errorf("what is left is %v %v; want number 4", o, ok)
		}
	}
}

// TestNumbersComeAgain checks that the number of an order that is gone may come
// again.
func TestNumbersComeAgain(t *testing.T) {
	b, _ := filled(t, offer(1, 5, 1))
	is(t, b, bid(2, 5, 1), 0, Fill{1, 2, 10, 20, 5, 1})
	is(t, b, bid(1, 5, 2), 2)
	is(t, b, offer(2, 5, 1), 0, Fill{2, 1, 20, 10, 5, 1})
	is(t, b, offer(2, 5, 1), 0, Fill{2, 1, 20, 10, 5, 1})
	isBook(t, b, plan{})
}

// TestMany checks as many fills as one order can have.
func TestMany(t *testing.T) {
	b := book.New()
	var p plan
	for i := range topOrders - 1 {
		matches(t, b, &p, offer(1+i, 1+(i*7)%10, 1+i))
	}
	fills := matches(t, b, &p, bid(topID, topPrice, topLots))
	if len(fills) != topOrders-1 || b.Len() != 1 {
		t.Errorf("%d fills, %d orders left", len(fills), b.Len())
	}
}

// TestOrdersThatMeetAlready checks a book to which orders were added that meet:
// only what comes trades.
func TestOrdersThatMeetAlready(t *testing.T) {
	orders := []book.Order{offer(1, 3, 2), bid(2, 9, 2), offer(3, 5, 1), bid(4, 6, 1)}
	b, p := filled(t, orders...)
	matches(t, b, &p, bid(5, 2, 1))
	matches(t, b, &p, offer(6, 10, 1))
	isBook(t, b, p)
	matches(t, b, &p, bid(7, 4, 9))
	lists(t, b, true, offer(3, 5, 1), offer(6, 10, 1))
	matches(t, b, &p, offer(8, 6, 9))
	lists(t, b, false, bid(7, 4, 7), bid(5, 2, 1))
}

// TestFillsAreNew checks that fills share no memory with the book or with each
// other.
func TestFillsAreNew(t *testing.T) {
	b, p := filled(t, offer(1, 5, 2), offer(2, 5, 2), offer(3, 6, 9))
	first := matches(t, b, &p, bid(4, 9, 3))
	second := matches(t, b, &p, bid(5, 9, 4))
	was := slices.Clone(second)
	first = first[:cap(first)]
	for i := range first {
		first[i] = Fill{9, 9, 9, 9, 9, 9}
	}
	if !slices.Equal(second, was) {
		t.Errorf("the fills are %v; were %v", second, was)
	}
	isBook(t, b, p)
}

// TestBooksApart checks that two books know nothing of each other.
func TestBooksApart(t *testing.T) {
	one, p := filled(t, offer(1, 5, 2))
	two, q := filled(t)
	matches(t, two, &q, bid(1, 9, 2))
	isBook(t, one, p)
	matches(t, one, &p, bid(2, 9, 2))
	isBook(t, two, q)
	matches(t, two, &q, offer(2, 3, 3))
}

// P14.3

// apart checks that no offer of a book meets a bid of it.
func apart(t *testing.T, b *book.Book) {
	t.Helper()
	for _, sell := range b.List(true) {
		for _, buy := range b.List(false) {
			if sell.Price <= buy.Price || Meets(sell, buy) {
				t.Errorf("%v and %v meet", sell, buy)
			}
		}
	}
}

// lotsOf returns the lots of a side.
func lotsOf(b *book.Book, sell bool) int {
	n := 0
	for _, o := range b.List(sell) {
		n += o.Lots
	}
	return n
}

// kept checks that the fills of an order that came suit it and all whom they name,
// and that no lots got lost: was and n are the lots of its side and of the other.
func kept(t *testing.T, b *book.Book, o book.Order, fills []Fill, stood map[int]book.Order, was, n int) {
	t.Helper()
	traded := 0
	for _, f := range fills {
		own, other, ownTenant, otherTenant := f.Bid, f.Ask, f.Buyer, f.Seller
		if o.Sell {
			own, other, ownTenant, otherTenant = f.Ask, f.Bid, f.Seller, f.Buyer
		}
		with := stood[other]
		if own != o.Id || ownTenant != o.Tenant || with.Id != other || otherTenant != with.Tenant || with.Sell == o.Sell {
			t.Errorf("fill %v: order %v with %v", f, o, with)
		}
		if f.Price != with.Price || o.Sell && f.Price < o.Price || !o.Sell && f.Price > o.Price {
			t.Errorf("fill %v: its price doesn't suit %v and %v", f, o, with)
		}
		if f.Lots < 1 || f.Lots > with.Lots {
			t.Errorf("fill %v: %v has not so many lots", f, with)
		}
		traded += f.Lots
	}
	if lotsOf(b, o.Sell) != was+o.Lots-traded || lotsOf(b, !o.Sell) != n-traded {
		t.Errorf("order %v: %d lots of %d and %d; now %d and %d", o, traded, was, n, lotsOf(b, o.Sell), lotsOf(b, !o.Sell))
	}
}

// randomOrder returns an order, some of them out of bounds or of a number that
// stands.
func randomOrder(r *rand.Rand, width int) book.Order {
	o := book.Order{
		Id: 1 + r.Intn(60), Tenant: r.Intn(4), Sell: r.Intn(2) == 0,
		Price: 1 + r.Intn(width), Lots: 1 + r.Intn(5), Seq: r.Intn(9),
	}
	switch r.Intn(40) {
	case 0:
		o.Price = 0
	case 1:
		o.Lots = topLots + 1
	case 2:
		o.Lots = topLots
	case 3:
		o.Id = 0
	case 4:
		o.Price = topPrice
	}
	return o
}

// TestRandom makes random calls against the plan.
func TestRandom(t *testing.T) {
	for seed := range int64(300) {
		r := rand.New(rand.NewSource(seed))
		width := 2 + r.Intn(12)
		b := book.New()
		var p plan
		for range 60 {
			o := randomOrder(r, width)
			// Prices of the two sides that lie apart let a book fill.
			if o.Sell && o.Price > 0 && o.Price < topPrice && r.Intn(3) > 0 {
				o.Price += width
			}
			stood := map[int]book.Order{}
			for _, sell := range []bool{true, false} {
				for _, x := range b.List(sell) {
					stood[x.Id] = x
				}
			}
			was, n := lotsOf(b, o.Sell), lotsOf(b, !o.Sell)
			bad := p.bad(o)
			fills := matches(t, b, &p, o)
			if bad == nil {
				kept(t, b, o, fills, stood, was, n)
			}
			apart(t, b)
			if t.Failed() {
				t.Fatalf("seed %d: order %v", seed, o)
			}
		}
	}
}

// TestTurned checks that the two sides are treated alike: orders turned around
// trade the same lots.
func TestTurned(t *testing.T) {
	for seed := range int64(100) {
		r := rand.New(rand.NewSource(seed))
		b, other := book.New(), book.New()
		for range 50 {
			o := randomOrder(r, 5)
			o.Price = max(1, o.Price)
			fills, left, err := Match(b, o)
			turnedFills, turnedLeft, turnedErr := Match(other, turned(o))
			isOnly(t, turnedErr, err)
			if left != turnedLeft || len(fills) != len(turnedFills) {
				t.Fatalf("seed %d: order %v trades %v, turned %v", seed, o, fills, turnedFills)
			}
			for i, f := range fills {
				want := Fill{f.Bid, f.Ask, f.Buyer, f.Seller, topPrice + 1 - f.Price, f.Lots}
				if turnedFills[i] != want {
					t.Fatalf("seed %d: order %v trades %v, turned %v", seed, o, f, turnedFills[i])
				}
			}
		}
	}
}

// The chapter's example.
func TestExample(t *testing.T) {
	b, _ := filled(t, offer(1, 5, 2), offer(2, 4, 3))
	is(t, b, bid(3, 5, 4), 0, Fill{2, 3, 20, 30, 4, 3}, Fill{1, 3, 10, 30, 5, 1})
	lists(t, b, true, offer(1, 5, 1))
	lists(t, b, false)
	fills := []Fill{{2, 3, 20, 30, 4, 3}, {1, 3, 10, 30, 5, 1}}
	if got := Worth(fills); got != 17 {
		t.Errorf("they are worth %d", got)
	}
}
