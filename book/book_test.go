package book

import (
	"errors"
	"math"
	"math/rand"
	"slices"
	"testing"

	"quitrent/api"
)

var allErrors = []error{
	api.ErrArg, api.ErrNil, api.ErrForm, api.ErrOver, api.ErrNone, api.ErrDup, api.ErrFull,
	api.ErrQuota, api.ErrCeil, api.ErrRoom, api.ErrBudget, api.ErrFunds, api.ErrState, api.ErrDown,
}

// The limits, told by numbers of their own.
const (
	topID     = 1073741824
	topPrice  = 1000000
	topLots   = 1000
	topOrders = 32
)

// badFor returns numbers that are not between 1 and top, some of them numbers
// that are if bits get lost.
func badFor(top int) []int {
	return []int{
		0, -1, -2, -top, -top - 1, top + 1, top + 2, 2 * top, 1 << 32, 1<<32 + 1, 1<<32 + top, 1<<62 + 5, -1 << 32,
		math.MaxInt, math.MaxInt - 1, math.MinInt, math.MinInt + 1, math.MinInt + top, math.MaxInt - top,
	}
}

// extremes are numbers from the whole range.
var extremes = []int{
	math.MinInt, math.MinInt + 1, -1 << 32, -1000, -1, 0, 1, 2, 999, 1 << 31, 1 << 32, math.MaxInt - 1, math.MaxInt,
}

// isOnly checks that err is want, no other error of package api, and no Fault.
func isOnly(t *testing.T, err, want error) {
	t.Helper()
	if (err == nil) != (want == nil) {
		t.Errorf("error %v: want %v", err, want)
	}
	for _, e := range allErrors {
		if errors.Is(err, e) != (e == want) {
			t.Errorf("error %v: want %v only", err, want)
		}
	}
	var f *api.Fault
	if errors.As(err, &f) {
		t.Errorf("error %v: has a Fault", err)
	}
}

// done checks calls that must be answered without an error.
func done(t *testing.T, errs ...error) {
	t.Helper()
	for _, err := range errs {
		isOnly(t, err, nil)
	}
}

// offer is an order to sell.
func offer(id, price, lots int) Order { return Order{Id: id, Sell: true, Price: price, Lots: lots} }

// bid is an order to buy.
func bid(id, price, lots int) Order { return Order{Id: id, Price: price, Lots: lots} }

// of returns the order with another tenant.
func (o Order) of(tenant int) Order {
	o.Tenant = tenant
	return o
}

// as returns the order with the number that a book gives to it.
func (o Order) as(seq int) Order {
	o.Seq = seq
	return o
}

// with returns the order with another number of lots.
func (o Order) with(lots int) Order {
	o.Lots = lots
	return o
}

// plan is what a book must tell: its orders as they came, told by plain rules.
type plan struct {
	orders []Order
	added  int
}

// at returns where an order is; the number of orders if there is none.
func (p plan) at(id int) int {
	for i, o := range p.orders {
		if o.Id == id {
			return i
		}
	}
	return len(p.orders)
}

// without returns the plan without one of its orders.
func (p plan) without(i int) plan {
	rest := append([]Order{}, p.orders[:i]...)
	return plan{append(rest, p.orders[i+1:]...), p.added}
}

// precedes reports whether x counts ahead of y, both on one side.
func precedes(x, y Order) bool {
	if x.Price == y.Price {
		return x.Seq < y.Seq
	}
	return (x.Price < y.Price) == x.Sell
}

// list returns a side: each order is as far behind as orders precede it.
func (p plan) list(sell bool) []Order {
	side := []Order{}
	for _, o := range p.orders {
		if o.Sell == sell {
			side = append(side, o)
		}
	}
	sorted := make([]Order, len(side))
	for _, o := range side {
		place := 0
		for _, other := range side {
			if precedes(other, o) {
				place++
			}
		}
		sorted[place] = o
	}
	return sorted
}

// call is a call of one of the methods that change a book.
type call struct {
	kind int
	o    Order // Drop and Cut take its Id
	n    int   // the lots of Cut
}

const (
	add = iota
	drop
	cut
	kinds
)

// on makes the call on a book.
func (c call) on(b *Book) (Order, error) {
	switch c.kind {
	case add:
		return Order{}, b.Add(c.o)
	case drop:
		return b.Drop(c.o.Id)
	}
	return Order{}, b.Cut(c.o.Id, c.n)
}

// between reports whether n is between 1 and top.
func between(n, top int) bool { return 0 < n && n < top+1 }

// enter enters the call, or tells what is wrong with it.
func (p *plan) enter(c call) (Order, error) {
	i := p.at(c.o.Id)
	if c.kind == add {
		switch {
		case !between(c.o.Id, topID) || !between(c.o.Price, topPrice) || !between(c.o.Lots, topLots):
			return Order{}, api.ErrArg
		case i < len(p.orders):
			return Order{}, api.ErrDup
		case len(p.orders) == topOrders:
			return Order{}, api.ErrFull
		}
		*p = plan{append(slices.Clone(p.orders), c.o.as(p.added+1)), p.added + 1}
		return Order{}, nil
	}
	if i == len(p.orders) {
		return Order{}, api.ErrNone
	}
	was := p.orders[i]
	switch {
	case c.kind == drop:
		*p = p.without(i)
		return was, nil
	case !between(c.n, was.Lots):
		return Order{}, api.ErrArg
	case c.n == was.Lots:
		*p = p.without(i)
	default:
		*p = plan{slices.Clone(p.orders), p.added}
		p.orders[i].Lots = was.Lots - c.n
	}
	return Order{}, nil
}

// planOf returns a plan of orders that came in a row.
func planOf(orders ...Order) plan {
	var p plan
	for _, o := range orders {
		p.enter(call{kind: add, o: o})
	}
	return p
}

// isBook checks all that a book tells.
func isBook(t *testing.T, b *Book, p plan) {
	t.Helper()
	for _, sell := range []bool{true, false} {
		want := p.list(sell)
		if got := b.List(sell); !slices.Equal(got, want) {
			t.Errorf("the list of %v is %v; want %v", sell, got, want)
		}
		first, ok := b.Best(sell)
		if ok != (len(want) > 0) || ok && first != want[0] || !ok && first != (Order{}) {
			t.Errorf("the best of %v is %v %v; the list is %v", sell, first, ok, want)
		}
	}
	if got := b.Len(); got != len(p.orders) {
		t.Errorf("there are %d; want %d", got, len(p.orders))
	}
	for _, o := range p.orders {
		if got, ok := b.Of(o.Id); got != o || !ok {
			t.Errorf("order %d is %v %v; want %v", o.Id, got, ok, o)
		}
	}
	for _, id := range append([]int{3, 4, 5, topID, topID + 1, 1<<32 + 3}, extremes...) {
		if got, ok := b.Of(id); p.at(id) == len(p.orders) && (ok || got != (Order{})) {
			t.Errorf("order %d is %v %v; want none", id, got, ok)
		}
	}
}

// makes makes a call on a book and on its plan, and checks the answers.
func makes(t *testing.T, b *Book, p *plan, c call) {
	t.Helper()
	o, err := c.on(b)
	wantO, want := p.enter(c)
	isOnly(t, err, want)
	if o != wantO {
		t.Errorf("got %v; want %v", o, wantO)
	}
	isBook(t, b, *p)
	if t.Failed() {
		t.Fatalf("call %v", c)
	}
}

// fails checks a call that fails, and that it changes nothing.
func fails(t *testing.T, b *Book, p plan, c call, want error) {
	t.Helper()
	o, err := c.on(b)
	isOnly(t, err, want)
	if o != (Order{}) {
		t.Errorf("got %v beside an error", o)
	}
	isBook(t, b, p)
	if t.Failed() {
		t.Fatalf("call %v", c)
	}
}

// filled returns a book of some orders, and its plan.
func filled(t *testing.T, orders ...Order) (*Book, plan) {
	t.Helper()
	b := New()
	for _, o := range orders {
		done(t, b.Add(o))
	}
	p := planOf(orders...)
	isBook(t, b, p)
	return b, p
}

// some returns a book with orders on both sides.
func some(t *testing.T) (*Book, plan) {
	t.Helper()
	return filled(t, offer(9, 5, 2).of(4), bid(8, 4, 10), offer(7, 5, 3), bid(6, 4, 1).of(-3), offer(5, 6, 1), bid(4, 5, 4))
}

// full returns a book with as many orders as can be, the numbers 101 and up.
func full(t *testing.T) (*Book, plan) {
	t.Helper()
	var list []Order
	for i := range topOrders {
		o := bid(101+i, 1+i%7, 2+i%3)
		o.Sell = i%3 == 0
		list = append(list, o)
	}
	return filled(t, list...)
}

// P13.1

func TestNew(t *testing.T) {
	b := New()
	isBook(t, b, plan{})
	for id := -20; id <= 1100; id++ {
		if o, ok := b.Of(id); ok || o != (Order{}) {
			t.Errorf("order %d is %v %v", id, o, ok)
		}
	}
}

func TestGood(t *testing.T) {
	for _, o := range []Order{
		{Id: 1, Price: 1, Lots: 1}, {Id: topID, Price: topPrice, Lots: topLots}, {Id: 2, Price: 3, Lots: 4},
		{Id: topID - 1, Price: topPrice - 1, Lots: topLots - 1}, {Id: 1 << 20, Price: 65536, Lots: 256},
	} {
		for _, n := range extremes {
			for _, sell := range []bool{true, false} {
				o.Sell, o.Tenant, o.Seq = sell, n, n
				if !Good(o) {
					t.Errorf("%v is not good", o)
				}
			}
		}
	}
}

// badOrders are orders that are not valid, each for one of its numbers or for all.
func badOrders() []Order {
	var list []Order
	for _, sell := range []bool{true, false} {
		for _, n := range badFor(topID) {
			list = append(list, Order{Id: n, Sell: sell, Price: 1, Lots: 1}, Order{Id: n, Sell: sell, Price: topPrice, Lots: topLots})
		}
		for _, n := range badFor(topPrice) {
			list = append(list, Order{Id: 9, Sell: sell, Price: n, Lots: 1}, Order{Id: 1000, Sell: sell, Price: n, Lots: topLots})
		}
		for _, n := range badFor(topLots) {
			list = append(list, Order{Id: 9, Sell: sell, Price: 1, Lots: n}, Order{Id: 1000, Sell: sell, Price: topPrice, Lots: n})
		}
		for _, n := range extremes[:6] {
			list = append(list, Order{Id: n, Tenant: n, Sell: sell, Price: n, Lots: n, Seq: n})
		}
	}
	return list
}

func TestBadOrders(t *testing.T) {
	b, p := some(t)
	fullBook, fullPlan := full(t)
	for _, o := range badOrders() {
		if Good(o) {
			t.Errorf("%v is good", o)
		}
		fails(t, New(), plan{}, call{kind: add, o: o}, api.ErrArg)
		fails(t, b, p, call{kind: add, o: o}, api.ErrArg)
		fails(t, fullBook, fullPlan, call{kind: add, o: o}, api.ErrArg)
		if o.Id == 9 {
			o.Id = 101
			fails(t, fullBook, fullPlan, call{kind: add, o: o}, api.ErrArg)
		}
	}
	makes(t, b, &p, call{kind: add, o: bid(1, 1, 1)})
}

func TestAdd(t *testing.T) {
	b := New()
	var p plan
	for _, o := range []Order{
		offer(1, 1, 1), bid(topID, topPrice, topLots), offer(topID-1, topPrice, 1), bid(2, 1, topLots),
		offer(4, 10, 10).of(math.MinInt), bid(3, 10, 10).of(math.MaxInt), offer(50, 10, 9).of(-1), bid(51, 10, 8).of(0),
	} {
		makes(t, b, &p, call{kind: add, o: o})
	}
	if o, ok := b.Of(topID); !ok || o != (Order{Id: topID, Price: topPrice, Lots: topLots, Seq: 2}) {
		t.Errorf("the second order is %v %v", o, ok)
	}
}

// TestSeqIsSet checks that a book gives numbers from 1 on, whatever it is handed.
func TestSeqIsSet(t *testing.T) {
	b := New()
	for i, n := range extremes {
		done(t, b.Add(bid(1+i, 5, 1).as(n)))
		if o, _ := b.Of(1 + i); o.Seq != 1+i {
			t.Errorf("order %d came as number %d", 1+i, o.Seq)
		}
	}
	if list := b.List(false); len(list) != len(extremes) || list[0].Id != 1 || list[1].Id != 2 {
		t.Errorf("the list is %v", list)
	}
}

// TestSeqCountsAll checks that a number counts the orders that are gone, but no
// call that failed, and no call of another kind.
func TestSeqCountsAll(t *testing.T) {
	b := New()
	seq := func(id, want int) {
		t.Helper()
		done(t, b.Add(offer(id, 5, 3)))
		if o, ok := b.Of(id); !ok || o.Seq != want {
			t.Errorf("order %d is %v %v; want number %d", id, o, ok, want)
		}
	}
	seq(7, 1)
	seq(8, 2)
	isOnly(t, b.Add(offer(8, 5, 3)), api.ErrDup)
	isOnly(t, b.Add(offer(9, 0, 3)), api.ErrArg)
	seq(9, 3)
	_, err := b.Drop(9)
	done(t, err)
	seq(9, 4)
	done(t, b.Cut(7, 3))
	seq(7, 5)
	done(t, b.Cut(7, 2))
	_, err = b.Drop(50)
	isOnly(t, err, api.ErrNone)
	isOnly(t, b.Cut(7, 2), api.ErrArg)
	seq(10, 6)
	for _, id := range []int{7, 8, 9, 10} {
		_, err := b.Drop(id)
		done(t, err)
	}
	isBook(t, b, plan{})
	for i := range topOrders {
		seq(101+i, 7+i)
	}
	isOnly(t, b.Add(offer(7, 5, 3)), api.ErrFull)
	done(t, b.Cut(101, 3))
	seq(7, 7+topOrders)
}

func TestAddDup(t *testing.T) {
	b, p := some(t)
	for _, id := range []int{4, 5, 6, 7, 8, 9} {
		for _, o := range []Order{offer(id, 5, 2), bid(id, 5, 2), offer(id, topPrice, 1), bid(id, 1, topLots).of(9)} {
			fails(t, b, p, call{kind: add, o: o}, api.ErrDup)
		}
	}
	for _, id := range []int{4, 9} {
		makes(t, b, &p, call{kind: drop, o: bid(id, 0, 0)})
		makes(t, b, &p, call{kind: add, o: offer(id, 4, 4)})
		fails(t, b, p, call{kind: add, o: offer(id, 4, 4)}, api.ErrDup)
	}
}

func TestAddFull(t *testing.T) {
	if api.MaxOrders != topOrders {
		t.Errorf("the limit is %d", api.MaxOrders)
	}
	for _, sell := range []bool{true, false} {
		b := New()
		var p plan
		for i := range topOrders {
			makes(t, b, &p, call{kind: add, o: Order{Id: 101 + i, Sell: sell, Price: 5, Lots: 1}})
		}
		fails(t, b, p, call{kind: add, o: offer(1, 5, 1)}, api.ErrFull)
		fails(t, b, p, call{kind: add, o: bid(1, 5, 1)}, api.ErrFull)
	}
	b, p := full(t)
	fails(t, b, p, call{kind: add, o: offer(1, 1, 1)}, api.ErrFull)
	fails(t, b, p, call{kind: add, o: bid(topID, topPrice, topLots)}, api.ErrFull)
	// ErrDup is told ahead of ErrFull.
	for i := range topOrders {
		fails(t, b, p, call{kind: add, o: offer(101+i, 5, 1)}, api.ErrDup)
	}
	makes(t, b, &p, call{kind: drop, o: bid(110, 0, 0)})
	makes(t, b, &p, call{kind: add, o: bid(1, 5, 5)})
	fails(t, b, p, call{kind: add, o: bid(110, 5, 5)}, api.ErrFull)
	makes(t, b, &p, call{cut, bid(1, 0, 0), 4})
	fails(t, b, p, call{kind: add, o: bid(110, 5, 5)}, api.ErrFull)
	makes(t, b, &p, call{cut, bid(1, 0, 0), 1})
	makes(t, b, &p, call{kind: add, o: bid(110, 5, 5)})
}

func TestDrop(t *testing.T) {
	for _, id := range []int{4, 5, 6, 7, 8, 9} {
		b, p := some(t)
		makes(t, b, &p, call{kind: drop, o: bid(id, 0, 0)})
		fails(t, b, p, call{kind: drop, o: bid(id, 0, 0)}, api.ErrNone)
		fails(t, b, p, call{cut, bid(id, 0, 0), 1}, api.ErrNone)
	}
	b, _ := some(t)
	if o, err := b.Drop(6); err != nil || o != (Order{Id: 6, Tenant: -3, Price: 4, Lots: 1, Seq: 4}) {
		t.Errorf("dropped %v %v", o, err)
	}
	done(t, b.Cut(8, 7))
	if o, err := b.Drop(8); err != nil || o != (Order{Id: 8, Price: 4, Lots: 3, Seq: 2}) {
		t.Errorf("dropped %v %v", o, err)
	}
}

func TestDropAll(t *testing.T) {
	b, p := full(t)
	for _, i := range rand.New(rand.NewSource(1)).Perm(topOrders) {
		makes(t, b, &p, call{kind: drop, o: bid(101+i, 0, 0)})
	}
	isBook(t, b, plan{})
}

// TestNoSuchOrder checks that ErrNone is told ahead of ErrArg.
func TestNoSuchOrder(t *testing.T) {
	b, p := some(t)
	for _, id := range append([]int{3, 10, topID, topID + 1, 1<<32 + 4}, extremes...) {
		fails(t, b, p, call{kind: drop, o: bid(id, 0, 0)}, api.ErrNone)
		fails(t, New(), plan{}, call{kind: drop, o: bid(id, 0, 0)}, api.ErrNone)
		for _, lots := range append([]int{1, 2, topLots}, badFor(topLots)...) {
			fails(t, b, p, call{cut, bid(id, 0, 0), lots}, api.ErrNone)
			fails(t, New(), plan{}, call{cut, bid(id, 0, 0), lots}, api.ErrNone)
		}
	}
}

func TestCut(t *testing.T) {
	for _, sell := range []bool{true, false} {
		for lots := 1; lots <= 12; lots++ {
			for n := 1; n <= lots; n++ {
				o := Order{Id: 3, Tenant: 8, Sell: sell, Price: 7, Lots: lots}
				b, p := filled(t, offer(1, 9, 4), bid(2, 5, 4), o, offer(4, 9, 4), bid(5, 5, 4))
				makes(t, b, &p, call{cut, o, n})
				if got, ok := b.Of(3); ok != (n < lots) || ok && got != o.as(3).with(lots-n) {
					t.Errorf("%d of %d: left are %v %v", n, lots, got, ok)
				}
			}
		}
	}
}

func TestBadCuts(t *testing.T) {
	b, p := some(t)
	for _, o := range p.orders {
		for _, n := range append(badFor(o.Lots), badFor(topLots)...) {
			fails(t, b, p, call{cut, o, n}, api.ErrArg)
		}
		fails(t, b, p, call{cut, o, topLots}, api.ErrArg)
	}
	b, p = filled(t, offer(1, 1, topLots))
	fails(t, b, p, call{cut, offer(1, 0, 0), topLots + 1}, api.ErrArg)
	makes(t, b, &p, call{cut, offer(1, 0, 0), 1})
	fails(t, b, p, call{cut, offer(1, 0, 0), topLots}, api.ErrArg)
	makes(t, b, &p, call{cut, offer(1, 0, 0), topLots - 2})
	fails(t, b, p, call{cut, offer(1, 0, 0), 2}, api.ErrArg)
	makes(t, b, &p, call{cut, offer(1, 0, 0), 1})
	fails(t, b, p, call{cut, offer(1, 0, 0), 1}, api.ErrNone)
}

func TestNil(t *testing.T) {
	var b *Book
	isBook(t, b, plan{})
	for _, o := range append(badOrders(), offer(1, 1, 1), bid(9, 5, 5)) {
		for kind := range kinds {
			for _, n := range []int{-1, 0, 1, topLots, math.MaxInt, math.MinInt} {
				got, err := call{kind, o, n}.on(b)
				isOnly(t, err, api.ErrNil)
				if got != (Order{}) {
					t.Errorf("got %v beside an error", got)
				}
			}
		}
	}
	isBook(t, b, plan{})
}

func TestBooksAreApart(t *testing.T) {
	a, p := some(t)
	b, q := full(t)
	makes(t, a, &p, call{kind: add, o: offer(101, 1, 1)})
	makes(t, b, &q, call{kind: drop, o: offer(101, 0, 0)})
	isBook(t, a, p)
	isBook(t, New(), plan{})
	c, r := New(), plan{}
	makes(t, c, &r, call{kind: add, o: offer(101, 1, 1)})
}

// P13.2

func TestList(t *testing.T) {
	b, _ := some(t)
	offers := []Order{offer(9, 5, 2).of(4).as(1), offer(7, 5, 3).as(3), offer(5, 6, 1).as(5)}
	if got := b.List(true); !slices.Equal(got, offers) {
		t.Errorf("the offers are %v", got)
	}
	bids := []Order{bid(4, 5, 4).as(6), bid(8, 4, 10).as(2), bid(6, 4, 1).of(-3).as(4)}
	if got := b.List(false); !slices.Equal(got, bids) {
		t.Errorf("the bids are %v", got)
	}
	if o, ok := b.Best(true); !ok || o != offers[0] {
		t.Errorf("the best offer is %v %v", o, ok)
	}
	if o, ok := b.Best(false); !ok || o != bids[0] {
		t.Errorf("the best bid is %v %v", o, ok)
	}
}

// TestOneSide checks a book that has orders on one side only.
func TestOneSide(t *testing.T) {
	for _, sell := range []bool{true, false} {
		b := New()
		done(t, b.Add(Order{Id: 5, Sell: sell, Price: 3, Lots: 2}))
		if list := b.List(!sell); len(list) != 0 {
			t.Errorf("the other side has %v", list)
		}
		if o, ok := b.Best(!sell); ok || o != (Order{}) {
			t.Errorf("the best of the other side is %v %v", o, ok)
		}
		if o, ok := b.Best(sell); !ok || o != (Order{Id: 5, Sell: sell, Price: 3, Lots: 2, Seq: 1}) {
			t.Errorf("the best is %v %v", o, ok)
		}
		done(t, b.Cut(5, 2))
		isBook(t, b, plan{added: 1})
	}
}

// TestPrices checks prices at both ends, and orders that would be traded at once:
// a book only keeps them.
func TestPrices(t *testing.T) {
	prices := []int{1, topPrice, 2, topPrice - 1, 1, 500000, topPrice, 65536, 65535, 500000}
	for _, sell := range []bool{true, false} {
		var list []Order
		for i, price := range prices {
			list = append(list, Order{Id: 50 - i, Sell: sell, Price: price, Lots: 1}, Order{Id: 100 + i, Sell: !sell, Price: price, Lots: 1})
		}
		filled(t, list...)
	}
}

// TestListIsNew checks that a list shares no memory with the book or another
// list, and isn't changed by calls behind it.
func TestListIsNew(t *testing.T) {
	b, p := some(t)
	first := b.List(true)
	kept := slices.Clone(first)
	for range 2 {
		for _, sell := range []bool{true, false} {
			list := b.List(sell)
			list = list[:cap(list)]
			for i := range list {
				list[i] = offer(77, 7, 7)
			}
			isBook(t, b, p)
		}
	}
	makes(t, b, &p, call{cut, offer(9, 0, 0), 1})
	makes(t, b, &p, call{kind: drop, o: offer(7, 0, 0)})
	makes(t, b, &p, call{kind: add, o: offer(1, 1, 1)})
	if !slices.Equal(first, kept) {
		t.Errorf("the list is now %v", first)
	}
}

// P13.3

// TestLaterIsBehind checks that orders of one price stay as they came.
func TestLaterIsBehind(t *testing.T) {
	for _, sell := range []bool{true, false} {
		b := New()
		for _, id := range rand.New(rand.NewSource(2)).Perm(topOrders) {
			done(t, b.Add(Order{Id: 1 + id, Sell: sell, Price: 5, Lots: 1 + id}))
		}
		for i, o := range b.List(sell) {
			if o.Seq != 1+i {
				t.Errorf("position %d has order %v", i, o)
			}
		}
	}
}

// TestCutKeepsPosition checks each order of a full book, cut lot by lot.
func TestCutKeepsPosition(t *testing.T) {
	b, p := full(t)
	for _, o := range p.orders {
		before := ids(b.List(o.Sell))
		for left := o.Lots - 1; left > 0; left-- {
			makes(t, b, &p, call{cut, o, 1})
			if got := ids(b.List(o.Sell)); !slices.Equal(got, before) {
				t.Errorf("the list was %v; now it is %v", before, got)
			}
		}
	}
}

// ids returns the numbers of orders.
func ids(list []Order) []int {
	var all []int
	for _, o := range list {
		all = append(all, o.Id)
	}
	return all
}

// TestAnyCalls makes random calls on a book and on a plan of it, and checks what
// each may change of what was there before it.
func TestAnyCalls(t *testing.T) {
	for seed := range 60 {
		r := rand.New(rand.NewSource(int64(seed)))
		b := New()
		var p plan
		// Few prices make many orders of one price; many numbers fill the book.
		who := []int{3, 10, 60}[seed%3]
		prices := []int{1, 3, 20, topPrice}[seed%4]
		for range 400 {
			o := Order{r.Intn(who + 1), r.Intn(5) - 2, r.Intn(2) == 0, r.Intn(prices + 1), r.Intn(6), r.Intn(9)}
			c := call{r.Intn(kinds), o, r.Intn(6) - 1}
			if r.Intn(3) == 0 {
				c.kind = add
			}
			before := [2][]Order{b.List(true), b.List(false)}
			makes(t, b, &p, c)
			staysInOrder(t, before[0], b.List(true))
			staysInOrder(t, before[1], b.List(false))
			if t.Failed() {
				t.Fatalf("seed %d: call %v", seed, c)
			}
		}
	}
}

// staysInOrder checks that the orders that are still there follow each other as
// they did, and that none was put ahead of an earlier one of the same price.
func staysInOrder(t *testing.T, before, now []Order) {
	t.Helper()
	was, is := ids(before), ids(now)
	was = slices.DeleteFunc(was, func(id int) bool { return !slices.Contains(is, id) })
	is = slices.DeleteFunc(is, func(id int) bool { return !slices.Contains(was, id) })
	if !slices.Equal(was, is) {
		t.Errorf("%v became %v", was, is)
	}
	for i := 1; i < len(now); i++ {
		if now[i].Price == now[i-1].Price && now[i].Seq <= now[i-1].Seq {
			t.Errorf("%v is ahead of %v", now[i-1], now[i])
		}
	}
}

// The chapter's example.

func TestExample(t *testing.T) {
	b, _ := filled(t, bid(1, 5, 1), bid(2, 7, 1), bid(3, 7, 1))
	if o, ok := b.Best(false); !ok || o != bid(2, 7, 1).as(2) {
		t.Errorf("the best bid is %v %v", o, ok)
	}
}
