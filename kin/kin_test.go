package kin

import (
	"errors"
	"math"
	"math/rand"
	"slices"
	"testing"

	"quitrent/api"
)

var allErrors = []error{
	api.ErrArg, api.ErrNil, api.ErrForm, api.ErrOver, api.ErrNone, api.ErrDup, api.ErrFull,
	api.ErrQuota, api.ErrCeil, api.ErrRoom, api.ErrBudget, api.ErrFunds, api.ErrState, api.ErrDown,
}

// outside are numbers that no tenant can have.
var outside = []int{
	0, -1, -2, -999, 1000, 1001, 65537, 1<<32 + 1, 1<<32 + 2, -1 << 32,
	math.MaxInt, math.MaxInt - 1, math.MinInt, math.MinInt + 1, math.MinInt + 2,
}

// isOnly checks that err is want, no other error of package api, and no Fault.
func isOnly(t *testing.T, err, want error) {
	t.Helper()
	if (err == nil) != (want == nil) {
		t.Errorf("error %v: want %v", err, want)
	}
	for _, e := range allErrors {
		if errors.Is(err, e) != (e == want) {
			t.Errorf("error %v: want %v only", err, want)
		}
	}
	var f *api.Fault
	if errors.As(err, &f) {
		t.Errorf("error %v: has a Fault", err)
	}
}

// member is a tenant with its parent.
type member struct{ id, parent int }

// adds adds members that can be added.
func adds(t *testing.T, k *Tree, list ...member) {
	t.Helper()
	for _, m := range list {
		if err := k.Add(m.id, m.parent); err != nil {
			t.Fatalf("Add(%d, %d): %v", m.id, m.parent, err)
		}
	}
}

// tree returns the root with members below it.
func tree(t *testing.T, list ...member) *Tree {
	t.Helper()
	k := New()
	adds(t, k, list...)
	return k
}

// family is a tree with branches of several lengths, whose numbers neither
// ascend downwards nor in the order in which they were added.
func family() []member {
	return []member{{500, 1}, {3, 500}, {999, 3}, {2, 999}, {40, 500}, {7, 1}, {8, 7}, {6, 7}, {300, 1}}
}

// chain is as many tenants as there can be, each below the one before it.
func chain() []member {
	list := []member{{60, 1}}
	for len(list) < api.MaxTenants-1 {
		last := list[len(list)-1].id
		list = append(list, member{last*577%998 + 2, last})
	}
	return list
}

// fan is as many tenants as there can be, all below the root.
func fan() []member {
	var list []member
	for i := range api.MaxTenants - 1 {
		list = append(list, member{(i*7)%15 + 2, 1})
	}
	return list
}

// plan is what a tree must tell: the tenants in any order, told by plain rules.
type plan []member

// start is the plan of a tree of the root and others.
func start(list ...member) plan { return append(plan{{1, 0}}, list...) }

func (p plan) find(id int) int {
	return slices.IndexFunc(p, func(m member) bool { return m.id == id })
}

func (p plan) is(id int) bool { return p.find(id) >= 0 }

func (p plan) parent(id int) int {
	for _, m := range p {
		if m.id == id {
			return m.parent
		}
	}
	return 0
}

// isBelow follows the chapter's term: below its parent, and below each that its
// parent is below.
func (p plan) isBelow(id, other int) bool {
	for _, m := range p {
		if m.id == id && m.id != 1 {
			return m.parent == other || p.isBelow(m.parent, other)
		}
	}
	return false
}

func (p plan) below(id, other int) bool {
	return p.is(id) && p.is(other) && (id == other || p.isBelow(id, other))
}

// path returns the tenants that id is or is below, those first that are below
// fewest.
func (p plan) path(id int) []int {
	var list []int
	for _, m := range p {
		if p.below(id, m.id) {
			list = append(list, m.id)
		}
	}
	slices.SortFunc(list, func(a, b int) int { return p.depth(a) - p.depth(b) })
	return list
}

func (p plan) depth(id int) int {
	n := 0
	for _, m := range p {
		if m.id != id && p.below(id, m.id) {
			n++
		}
	}
	return n
}

func (p plan) children(id int) []int {
	var list []int
	for _, m := range p {
		if m.parent == id && p.is(id) {
			list = append(list, m.id)
		}
	}
	slices.Sort(list)
	return list
}

func (p plan) all() []int {
	var list []int
	for _, m := range p {
		list = append(list, m.id)
	}
	slices.Sort(list)
	return list
}

func (p *plan) add(id, parent int) error {
	switch {
	case id < 1 || id > 999:
		return api.ErrArg
	case p.is(id):
		return api.ErrDup
	case !p.is(parent):
		return api.ErrNone
	case len(*p) == 16:
		return api.ErrFull
	}
	*p = append(*p, member{id, parent})
	return nil
}

func (p *plan) drop(id int) error {
	at := p.find(id)
	switch {
	case at < 0:
		return api.ErrNone
	case id == 1 || len(p.children(id)) > 0:
		return api.ErrState
	}
	*p = slices.Delete(*p, at, at+1)
	return nil
}

// asked are numbers to ask a tree for: all tenants, and others.
func (p plan) asked() []int {
	return append(append(p.all(), outside...), 1, 2, 3, 4, 77, 256, 511, 998, 999)
}

// isTree checks all that a tree tells.
func isTree(t *testing.T, k *Tree, p plan) {
	t.Helper()
	if got := k.All(); !slices.Equal(got, p.all()) {
		t.Errorf("all are %v; want %v", got, p.all())
	}
	for _, id := range p.asked() {
		if got := k.Is(id); got != p.is(id) {
			t.Errorf("Is(%d) is %t", id, got)
		}
		if got := k.Parent(id); got != p.parent(id) {
			t.Errorf("the parent of %d is %d; want %d", id, got, p.parent(id))
		}
		if got := k.Path(id); !slices.Equal(got, p.path(id)) {
			t.Errorf("the path of %d is %v; want %v", id, got, p.path(id))
		}
		if got := k.Children(id); !slices.Equal(got, p.children(id)) {
			t.Errorf("the children of %d are %v; want %v", id, got, p.children(id))
		}
		if got := k.Depth(id); got != p.depth(id) {
			t.Errorf("the depth of %d is %d; want %d", id, got, p.depth(id))
		}
		for _, other := range p.asked() {
			if got := k.Below(id, other); got != p.below(id, other) {
				t.Errorf("Below(%d, %d) is %t", id, other, got)
			}
		}
	}
}

// P8.1

func TestNew(t *testing.T) {
	k := New()
	if Root != 1 {
		t.Errorf("the root is %d", Root)
	}
	isTree(t, k, start())
	if got := k.All(); !slices.Equal(got, []int{1}) {
		t.Errorf("all are %v", got)
	}
	if !k.Is(1) || k.Is(0) || k.Is(2) || k.Is(-1) {
		t.Error("there is more than the root, or less")
	}
}

func TestAdd(t *testing.T) {
	for _, list := range [][]member{family(), chain(), fan()} {
		k := New()
		for i, m := range list {
			adds(t, k, m)
			isTree(t, k, start(list[:i+1]...))
		}
	}
}

func TestAddOfEachNumber(t *testing.T) {
	for id := 2; id <= 999; id++ {
		k := tree(t, member{id, 1})
		if !k.Is(id) || k.Parent(id) != 1 || !slices.Equal(k.All(), []int{1, id}) {
			t.Errorf("%d is not there", id)
		}
	}
}

// badAdd is an Add that fails.
type badAdd struct {
	id, parent int
	want       error
}

// badAdds are Adds that fail on a tree of the family, whether it is full or not.
func badAdds() []badAdd {
	list := []badAdd{
		{500, 1, api.ErrDup}, {500, 500, api.ErrDup}, {2, 999, api.ErrDup}, {999, 2, api.ErrDup},
		{1, 1, api.ErrDup}, {1, 500, api.ErrDup}, {1, 0, api.ErrDup}, {1, 77, api.ErrDup},
		{40, 0, api.ErrDup}, {40, 77, api.ErrDup}, {999, 1000, api.ErrDup}, {3, -1, api.ErrDup},
		{77, 78, api.ErrNone}, {77, 998, api.ErrNone}, {998, 4, api.ErrNone}, {9, 9, api.ErrNone},
	}
	for _, n := range outside {
		list = append(list, badAdd{77, n, api.ErrNone}, badAdd{2, n, api.ErrDup})
		for _, parent := range []int{1, 500, 2, 77, 0, n, math.MinInt, math.MaxInt} {
			list = append(list, badAdd{n, parent, api.ErrArg})
		}
	}
	return list
}

// addFails checks Adds that fail, and that they change nothing.
func addFails(t *testing.T, k *Tree, p plan, list []badAdd) {
	t.Helper()
	for _, c := range list {
		isOnly(t, k.Add(c.id, c.parent), c.want)
		if t.Failed() {
			t.Fatalf("Add(%d, %d)", c.id, c.parent)
		}
	}
	isTree(t, k, p)
}

func TestAddFails(t *testing.T) {
	addFails(t, tree(t, family()...), start(family()...), badAdds())
}

// TestAddToAFullTree checks that what else is wrong is told ahead of ErrFull.
func TestAddToAFullTree(t *testing.T) {
	list := family()
	for id := 100; len(list) < api.MaxTenants-1; id++ {
		list = append(list, member{id, 8})
	}
	k, p := tree(t, list...), start(list...)
	addFails(t, k, p, badAdds())
	for _, parent := range []int{1, 500, 2, 8, 100} {
		addFails(t, k, p, []badAdd{{77, parent, api.ErrFull}, {998, parent, api.ErrFull}, {4, parent, api.ErrFull}})
	}
	isOnly(t, k.Drop(2), nil)
	isOnly(t, p.drop(2), nil)
	addFails(t, k, p, []badAdd{{77, 2, api.ErrNone}})
	adds(t, k, member{77, 8})
	isOnly(t, p.add(77, 8), nil)
	addFails(t, k, p, []badAdd{{2, 1, api.ErrFull}})
}

func TestFullTrees(t *testing.T) {
	for _, list := range [][]member{chain(), fan()} {
		k := tree(t, list...)
		if n := len(k.All()); n != 16 {
			t.Errorf("there are %d tenants", n)
		}
		for _, m := range start(list...) {
			isOnly(t, k.Add(998, m.id), api.ErrFull)
		}
		isTree(t, k, start(list...))
	}
}

func TestDrop(t *testing.T) {
	for _, list := range [][]member{family(), chain(), fan()} {
		k := tree(t, list...)
		for n := len(list) - 1; n >= 0; n-- {
			isOnly(t, k.Drop(list[n].id), nil)
			isTree(t, k, start(list[:n]...))
			isOnly(t, k.Drop(list[n].id), api.ErrNone)
		}
	}
}

func TestDropFails(t *testing.T) {
	k, p := tree(t, family()...), start(family()...)
	for _, id := range []int{1, 500, 3, 999, 7} {
		isOnly(t, k.Drop(id), api.ErrState)
	}
	for _, id := range append([]int{4, 77, 501, 998}, outside...) {
		isOnly(t, k.Drop(id), api.ErrNone)
	}
	isTree(t, k, p)
}

func TestRootIsNotDropped(t *testing.T) {
	k := New()
	isOnly(t, k.Drop(Root), api.ErrState)
	isTree(t, k, start())
	adds(t, k, member{2, 1})
	isOnly(t, k.Drop(2), nil)
	isOnly(t, k.Drop(Root), api.ErrState)
	isTree(t, k, start())
}

// TestDroppedCanBeAddedAgain checks that nothing is left of a dropped tenant.
func TestDroppedCanBeAddedAgain(t *testing.T) {
	k := tree(t, member{5, 1}, member{6, 5}, member{7, 6})
	isOnly(t, k.Drop(7), nil)
	isOnly(t, k.Add(8, 7), api.ErrNone)
	isOnly(t, k.Drop(6), nil)
	adds(t, k, member{7, 1}, member{6, 7})
	isTree(t, k, start(member{5, 1}, member{7, 1}, member{6, 7}))
	isOnly(t, k.Drop(5), nil)
	adds(t, k, member{5, 6})
	isTree(t, k, start(member{7, 1}, member{6, 7}, member{5, 6}))
}

func TestNil(t *testing.T) {
	var k *Tree
	for _, id := range append([]int{1, 2, 999}, outside...) {
		isOnly(t, k.Drop(id), api.ErrNil)
		for _, other := range append([]int{1, 2, 999, id}, outside...) {
			isOnly(t, k.Add(id, other), api.ErrNil)
			if k.Below(id, other) {
				t.Errorf("Below(%d, %d) of nothing", id, other)
			}
		}
		if k.Parent(id) != 0 || k.Is(id) || len(k.Path(id)) != 0 || len(k.Children(id)) != 0 || k.Depth(id) != 0 {
			t.Errorf("a nil tree tells of %d", id)
		}
	}
	if got := k.All(); len(got) != 0 {
		t.Errorf("all of nothing are %v", got)
	}
}

func TestTreesAreApart(t *testing.T) {
	a, b := New(), New()
	adds(t, a, member{2, 1}, member{3, 2})
	isTree(t, b, start())
	adds(t, b, member{3, 1}, member{2, 3})
	isTree(t, a, start(member{2, 1}, member{3, 2}))
	isOnly(t, a.Drop(3), nil)
	isTree(t, b, start(member{3, 1}, member{2, 3}))
	isTree(t, New(), start())
}

// P8.2

func TestFamily(t *testing.T) {
	k := tree(t, family()...)
	if got := k.All(); !slices.Equal(got, []int{1, 2, 3, 6, 7, 8, 40, 300, 500, 999}) {
		t.Errorf("all are %v", got)
	}
	for _, c := range []struct {
		id, parent     int
		path, children []int
	}{
		{1, 0, []int{1}, []int{7, 300, 500}},
		{500, 1, []int{1, 500}, []int{3, 40}},
		{3, 500, []int{1, 500, 3}, []int{999}},
		{999, 3, []int{1, 500, 3, 999}, []int{2}},
		{2, 999, []int{1, 500, 3, 999, 2}, nil},
		{7, 1, []int{1, 7}, []int{6, 8}},
		{6, 7, []int{1, 7, 6}, nil},
		{300, 1, []int{1, 300}, nil},
		{0, 0, nil, nil}, {-1, 0, nil, nil}, {77, 0, nil, nil}, {1000, 0, nil, nil}, {math.MinInt, 0, nil, nil},
	} {
		if got := k.Parent(c.id); got != c.parent {
			t.Errorf("the parent of %d is %d", c.id, got)
		}
		if got := k.Path(c.id); !slices.Equal(got, c.path) {
			t.Errorf("the path of %d is %v", c.id, got)
		}
		if got := k.Children(c.id); !slices.Equal(got, c.children) {
			t.Errorf("the children of %d are %v", c.id, got)
		}
		if got := k.Depth(c.id); got != max(len(c.path)-1, 0) {
			t.Errorf("the depth of %d is %d", c.id, got)
		}
	}
}

func TestBelow(t *testing.T) {
	k := tree(t, family()...)
	for _, c := range []struct {
		id, other int
		want      bool
	}{
		{1, 1, true}, {2, 2, true}, {500, 1, true}, {2, 1, true}, {2, 999, true}, {2, 3, true}, {2, 500, true},
		{1, 500, false}, {1, 2, false}, {999, 2, false}, {500, 2, false}, {40, 3, false}, {3, 40, false},
		{8, 6, false}, {6, 8, false}, {2, 7, false}, {7, 500, false},
		{77, 77, false}, {77, 1, false}, {1, 77, false}, {0, 0, false}, {1, 0, false}, {0, 1, false},
		{2, 0, false}, {-1, -1, false}, {1000, 1000, false}, {math.MaxInt, 1, false}, {500, math.MinInt, false},
	} {
		if got := k.Below(c.id, c.other); got != c.want {
			t.Errorf("Below(%d, %d) is %t", c.id, c.other, got)
		}
	}
}

// spoil writes into all of a slice's memory.
func spoil(list []int) {
	list = list[:cap(list)]
	for i := range list {
		list[i] = -7
	}
}

func TestListsAreNew(t *testing.T) {
	for _, list := range [][]member{nil, family(), chain(), fan()} {
		k, p := tree(t, list...), start(list...)
		for _, id := range p.all() {
			path, children, all := k.Path(id), k.Children(id), k.All()
			for range 2 {
				spoil(k.Path(id))
				spoil(k.Children(id))
				spoil(k.All())
			}
			if !slices.Equal(path, p.path(id)) || !slices.Equal(children, p.children(id)) || !slices.Equal(all, p.all()) {
				t.Errorf("lists of %d share memory: %v, %v, %v", id, path, children, all)
			}
		}
		isTree(t, k, p)
	}
}

// TestListsStay checks that a list isn't changed by calls behind it.
func TestListsStay(t *testing.T) {
	k := tree(t, family()...)
	path, children, all := k.Path(6), k.Children(7), k.All()
	isOnly(t, k.Drop(6), nil)
	adds(t, k, member{5, 7}, member{6, 1})
	if !slices.Equal(path, []int{1, 7, 6}) || !slices.Equal(children, []int{6, 8}) ||
		!slices.Equal(all, []int{1, 2, 3, 6, 7, 8, 40, 300, 500, 999}) {
		t.Errorf("the lists are now %v, %v, %v", path, children, all)
	}
}

// TestAnyCalls makes random calls on a tree and on a plan of it.
func TestAnyCalls(t *testing.T) {
	for seed := range 40 {
		r := rand.New(rand.NewSource(int64(seed)))
		k, p := New(), start()
		// Few numbers meet often; many fill the tree.
		ids := []int{0, 1, 2, 999, 1000, -1}
		for range 3 + r.Intn(30) {
			ids = append(ids, 1+r.Intn(999))
		}
		for range 150 {
			id, parent := ids[r.Intn(len(ids))], ids[r.Intn(len(ids))]
			if r.Intn(4) == 0 {
				isOnly(t, k.Drop(id), p.drop(id))
			} else {
				isOnly(t, k.Add(id, parent), p.add(id, parent))
			}
			isTree(t, k, p)
			if t.Failed() {
				t.Fatalf("seed %d: %d, %d", seed, id, parent)
			}
		}
	}
}

// P8.3

// isOrder checks that no tenant is below one that is below it, and that who is
// below one that is below a third is below the third.
func isOrder(t *testing.T, k *Tree) {
	t.Helper()
	all := k.All()
	for _, a := range all {
		for _, b := range all {
			if a != b && k.Below(a, b) && k.Below(b, a) {
				t.Errorf("%d and %d are below each other", a, b)
			}
			for _, c := range all {
				if k.Below(a, b) && k.Below(b, c) && !k.Below(a, c) {
					t.Errorf("%d is below %d, and %d below %d, but %d not below %d", a, b, b, c, a, c)
				}
			}
		}
	}
}

func TestBelowIsAnOrder(t *testing.T) {
	for _, list := range [][]member{nil, family(), chain(), fan()} {
		isOrder(t, tree(t, list...))
	}
	r := rand.New(rand.NewSource(8))
	for range 30 {
		k := New()
		for range 300 {
			if id := 1 + r.Intn(20); r.Intn(3) == 0 {
				k.Drop(id)
			} else {
				k.Add(id, 1+r.Intn(20))
			}
		}
		isOrder(t, k)
	}
}

// TestNoCycle checks that Adds that would close a ring are rejected.
func TestNoCycle(t *testing.T) {
	k := tree(t, member{2, 1}, member{3, 2}, member{4, 3})
	for _, m := range []member{{1, 4}, {2, 4}, {2, 3}, {3, 4}, {2, 2}, {1, 1}} {
		isOnly(t, k.Add(m.id, m.parent), api.ErrDup)
	}
	isOnly(t, k.Drop(2), api.ErrState)
	isOnly(t, k.Drop(3), api.ErrState)
	isOrder(t, k)
	isTree(t, k, start(member{2, 1}, member{3, 2}, member{4, 3}))
}

// The chapter's example.

func TestExample(t *testing.T) {
	k := New()
	isOnly(t, k.Add(2, 1), nil)
	isOnly(t, k.Add(3, 2), nil)
	if got := k.Path(3); !slices.Equal(got, []int{1, 2, 3}) {
		t.Errorf("the path of tenant 3 is %v", got)
	}
}
