package fit

import (
	"cmp"
	"math"
	"math/rand"
	"slices"
	"testing"

	"quitrent/api"
)

// most is the greatest amount, told by a number of its own.
const most = 1099511627776

// badAmounts are amounts that can't be, some of them amounts that can if bits get
// lost.
var badAmounts = []int{
	-1, -2, -100, -most, -most - 1, most + 1, most + 2, 2 * most, 1<<62 + 5, -1 << 32,
	math.MaxInt, math.MaxInt - 1, math.MinInt, math.MinInt + 1, math.MaxInt - most, math.MinInt + most,
}

// extremes are Ids from the whole range, ascending.
var extremes = []int{
	math.MinInt, math.MinInt + 1, -1 << 32, -1000, -2, -1, 0, 1, 2, 999, 1 << 31, 1 << 32, 1<<32 + 1, math.MaxInt - 1, math.MaxInt,
}

// all is n of each resource.
func all(n int) api.Vec { return api.Vec{n, n, n, n} }

// with returns v with another amount of one resource.
func with(v api.Vec, resource, n int) api.Vec {
	v[resource] = n
	return v
}

// fits reports whether a demand fits, told by plain rules.
func fits(need, left api.Vec) bool {
	for i := range need {
		if need[i] < 0 || need[i] > most || left[i] < 0 || left[i] > most || left[i] < need[i] {
			return false
		}
	}
	return true
}

// less returns left less need.
func less(left, need api.Vec) api.Vec {
	for i := range left {
		left[i] -= need[i]
	}
	return left
}

// plan is what the spots are, told by plain rules.
type plan []Spot

// best returns the place of the best spot; below 0 if there is none: the first
// one of all that fit, when they are sorted by what remains, and by Id.
func (p plan) best(need api.Vec) int {
	var places []int
	for i, s := range p {
		if fits(need, s.Left) {
			places = append(places, i)
		}
	}
	slices.SortStableFunc(places, func(i, j int) int {
		x, y := less(p[i].Left, need), less(p[j].Left, need)
		return cmp.Or(slices.Compare(x[:], y[:]), cmp.Compare(p[i].Id, p[j].Id))
	})
	if len(places) == 0 {
		return -1
	}
	return places[0]
}

// all tells the answer of All, and what is left of the spots behind it.
func (p plan) all(needs []api.Vec) ([]int, int, plan) {
	var ids []int
	rest := slices.Clone(p)
	for i, need := range needs {
		at := rest.best(need)
		if at < 0 {
			return nil, i, p
		}
		rest[at].Left = less(rest[at].Left, need)
		ids = append(ids, rest[at].Id)
	}
	return ids, -1, rest
}

// rest tells the answer of Rest.
func (p plan) rest(needs []api.Vec, ids []int) plan {
	rest := slices.Clone(p)
	for i := 0; i < len(needs) && i < len(ids); i++ {
		at := slices.IndexFunc(rest, func(s Spot) bool { return s.Id == ids[i] && fits(needs[i], s.Left) })
		if at >= 0 {
			rest[at].Left = less(rest[at].Left, needs[i])
		}
	}
	return rest
}

// lent returns a copy of a list with more behind it, and a check that none of it
// was touched.
func lent[T comparable](t *testing.T, list []T, mark T) ([]T, func()) {
	long := slices.Concat(list, []T{mark, mark, mark})
	kept := slices.Clone(long)
	return long[:len(list)], func() {
		t.Helper()
		if !slices.Equal(long, kept) {
			t.Errorf("an argument is now %v; was %v", long, kept)
		}
	}
}

var (
	markSpot = Spot{77, all(7)}
	markNeed = all(77)
	markID   = 777
)

// isBest checks an answer of Best.
func isBest(t *testing.T, spots []Spot, need api.Vec) {
	t.Helper()
	given, untouched := lent(t, spots, markSpot)
	id, ok := Best(given, need)
	untouched()
	at := plan(spots).best(need)
	if at < 0 && (ok || id != 0) {
		t.Fatalf("best of %v for %v is %d %v; want none", spots, need, id, ok)
	}
	if at >= 0 && (!ok || id != spots[at].Id) {
		t.Fatalf("best of %v for %v is %d %v; want %d", spots, need, id, ok, spots[at].Id)
	}
}

// isAll checks an answer of All.
func isAll(t *testing.T, spots []Spot, needs []api.Vec) {
	t.Helper()
	givenSpots, untouchedSpots := lent(t, spots, markSpot)
	givenNeeds, untouchedNeeds := lent(t, needs, markNeed)
	ids, at := All(givenSpots, givenNeeds)
	untouchedSpots()
	untouchedNeeds()
	wantIDs, wantAt, _ := plan(spots).all(needs)
	if !slices.Equal(ids, wantIDs) || at != wantAt {
		t.Fatalf("all of %v in %v are %v %d; want %v %d", needs, spots, ids, at, wantIDs, wantAt)
	}
}

// isRest checks an answer of Rest.
func isRest(t *testing.T, spots []Spot, needs []api.Vec, ids []int) {
	t.Helper()
	givenSpots, untouchedSpots := lent(t, spots, markSpot)
	givenNeeds, untouchedNeeds := lent(t, needs, markNeed)
	givenIDs, untouchedIDs := lent(t, ids, markID)
	got := Rest(givenSpots, givenNeeds, givenIDs)
	untouchedSpots()
	untouchedNeeds()
	untouchedIDs()
	if want := plan(spots).rest(needs, ids); !slices.Equal(got, want) {
		t.Fatalf("rest of %v behind %v at %v is %v; want %v", spots, needs, ids, got, want)
	}
}

// isEach checks all three functions with the same spots and demands.
func isEach(t *testing.T, spots []Spot, needs []api.Vec) {
	t.Helper()
	for _, need := range needs {
		isBest(t, spots, need)
	}
	isAll(t, spots, needs)
	ids, _ := All(spots, needs)
	isRest(t, spots, needs, ids)
}

// some returns spots, not ascending, that fit differently.
func some() []Spot {
	return []Spot{
		{9, api.Vec{4, 9, 1, 1}}, {3, api.Vec{4, 8, 0, 5}}, {20, api.Vec{7, 0, 0, 0}}, {2, api.Vec{4, 8, 0, 5}},
		{-5, api.Vec{3, 100, 9, 9}}, {0, api.Vec{-1, 50, 50, 50}}, {7, all(0)}, {8, all(most)}, {6, all(most + 1)},
	}
}

// P16.1

func TestBest(t *testing.T) {
	for _, c := range []struct {
		need api.Vec
		id   int
		ok   bool
	}{
		{api.Vec{4, 8, 0, 0}, 2, true}, {api.Vec{4, 9, 0, 0}, 9, true}, {api.Vec{4, 8, 1, 0}, 9, true}, {api.Vec{3, 8, 0, 5}, -5, true},
		{api.Vec{3, 8, 0, 10}, 8, true}, {api.Vec{5, 0, 0, 0}, 20, true}, {all(0), 7, true}, {api.Vec{1, 0, 0, 0}, -5, true},
		{api.Vec{7, 0, 0, 1}, 8, true}, {all(most), 8, true}, {all(most + 1), 0, false}, {api.Vec{-1, 0, 0, 0}, 0, false},
	} {
		if id, ok := Best(some(), c.need); id != c.id || ok != c.ok {
			t.Errorf("best for %v is %d %v; want %d %v", c.need, id, ok, c.id, c.ok)
		}
		isBest(t, some(), c.need)
	}
}

func TestNoSpots(t *testing.T) {
	for _, need := range []api.Vec{all(0), all(1), all(most), all(-1), {1, 2, 3, 4}} {
		for _, spots := range [][]Spot{nil, {}} {
			if id, ok := Best(spots, need); id != 0 || ok {
				t.Errorf("best is %d %v", id, ok)
			}
			if ids, at := All(spots, []api.Vec{need, need}); len(ids) != 0 || at != 0 {
				t.Errorf("all are %v %d", ids, at)
			}
			if rest := Rest(spots, []api.Vec{need}, []int{0}); len(rest) != 0 {
				t.Errorf("rest is %v", rest)
			}
		}
	}
}

// TestBounds checks demands at the edge of what is left, for each resource.
func TestBounds(t *testing.T) {
	for _, left := range []api.Vec{all(0), all(1), all(5), all(most), {1, 2, 3, 4}, {most, 0, most, 0}, {0, most - 1, 0, 1}} {
		spots := []Spot{{4, left}}
		if id, ok := Best(spots, left); id != 4 || !ok {
			t.Errorf("best for %v is %d %v", left, id, ok)
		}
		for i := range (api.Vec{}) {
			if id, ok := Best(spots, with(left, i, left[i]+1)); id != 0 || ok {
				t.Errorf("resource %d, one more than %v: best is %d %v", i, left, id, ok)
			}
			isEach(t, spots, []api.Vec{with(all(0), i, left[i]), with(all(0), i, 1), all(0)})
			isEach(t, spots, []api.Vec{with(left, i, 0), with(all(0), i, left[i]), with(all(0), i, left[i]+1)})
		}
	}
}

// TestBadAmounts checks that a demand that is not valid fits nowhere, and that
// nothing fits in a spot that is not valid, whatever the other is.
func TestBadAmounts(t *testing.T) {
	for _, n := range badAmounts {
		for i := range (api.Vec{}) {
			bad := []api.Vec{with(all(0), i, n), with(all(most), i, n), with(api.Vec{1, 2, 3, 4}, i, n), all(n)}
			for _, v := range bad {
				for _, other := range append(bad, all(0), all(1), all(most), all(n-1), all(n+1), all(math.MaxInt), all(math.MinInt)) {
					neverFits(t, v, other)
					neverFits(t, other, v)
				}
			}
		}
	}
}

// neverFits checks that a demand doesn't fit in what is left.
func neverFits(t *testing.T, need, left api.Vec) {
	t.Helper()
	spots := []Spot{{4, left}}
	if id, ok := Best(spots, need); id != 0 || ok {
		t.Errorf("best of %v for %v is %d %v", left, need, id, ok)
	}
	if ids, at := All(spots, []api.Vec{need}); len(ids) != 0 || at != 0 {
		t.Errorf("all of %v in %v are %v %d", need, left, ids, at)
	}
	if rest := Rest(spots, []api.Vec{need}, []int{4}); !slices.Equal(rest, spots) {
		t.Errorf("rest of %v behind %v is %v", left, need, rest)
	}
}

// TestBadSpotsDontCount checks that spots which are not valid are passed over.
func TestBadSpotsDontCount(t *testing.T) {
	for _, n := range badAmounts {
		for i := range (api.Vec{}) {
			spots := []Spot{{1, with(all(5), i, n)}, {9, all(9)}, {2, all(n)}}
			if id, ok := Best(spots, all(3)); id != 9 || !ok {
				t.Errorf("best of %v is %d %v", spots, id, ok)
			}
			isEach(t, spots, []api.Vec{all(3), all(3), all(0), all(3), all(1)})
		}
	}
}

// TestLeastRemains checks that the first resource in which two spots differ
// tells, however much there is of the later ones.
func TestLeastRemains(t *testing.T) {
	for i := range (api.Vec{}) {
		few, many := with(all(6), i, 5), with(all(6), i, 6)
		for later := i + 1; later < len(few); later++ {
			few[later], many[later] = most, 2
		}
		for _, need := range []api.Vec{all(0), all(1), all(2), with(all(0), i, 5)} {
			for _, spots := range [][]Spot{{{1, many}, {2, few}}, {{2, few}, {1, many}}, {{-9, many}, {9, few}, {-9, many}}} {
				id, ok := Best(spots, need)
				if want := slices.IndexFunc(spots, func(s Spot) bool { return s.Left == few }); id != spots[want].Id || !ok {
					t.Errorf("best of %v for %v is %d %v", spots, need, id, ok)
				}
			}
		}
	}
}

// TestTies checks that the lowest Id is chosen among spots with as much left,
// wherever it stands, among Ids from the whole range.
func TestTies(t *testing.T) {
	for seed := range 50 {
		r := rand.New(rand.NewSource(int64(seed)))
		ids := slices.Clone(extremes)
		r.Shuffle(len(ids), func(i, j int) { ids[i], ids[j] = ids[j], ids[i] })
		var spots []Spot
		var needs []api.Vec
		for _, id := range ids {
			spots = append(spots, Spot{id, all(4)}, Spot{id - id%2, all(9)})
			needs = append(needs, all(4))
		}
		got, at := All(spots, needs)
		if !slices.Equal(got, extremes) || at != -1 {
			t.Errorf("all are %v %d; want %v", got, at, extremes)
		}
		isEach(t, spots, needs)
		isEach(t, spots, append(needs, all(1), all(9), all(3), all(2)))
	}
}

// TestIds checks that each Id can be answered, 0 and -1 too.
func TestIds(t *testing.T) {
	for _, id := range extremes {
		spots := []Spot{{id, all(4)}}
		if got, ok := Best(spots, all(4)); got != id || !ok {
			t.Errorf("best is %d %v; want %d", got, ok, id)
		}
		if got, at := All(spots, []api.Vec{all(1), all(3)}); !slices.Equal(got, []int{id, id}) || at != -1 {
			t.Errorf("all are %v %d; want %d", got, at, id)
		}
		if got := Rest(spots, []api.Vec{all(1)}, []int{id}); !slices.Equal(got, []Spot{{id, all(3)}}) {
			t.Errorf("rest is %v", got)
		}
	}
}

// TestSameIds checks spots with one Id: each counts for itself.
func TestSameIds(t *testing.T) {
	spots := []Spot{{5, all(9)}, {5, all(4)}, {5, all(4)}, {4, all(6)}}
	needs := []api.Vec{all(4), all(4), all(4), all(9), all(2)}
	if ids, at := All(spots, needs); !slices.Equal(ids, []int{5, 5, 4, 5, 4}) || at != -1 {
		t.Errorf("all are %v %d", ids, at)
	}
	isEach(t, spots, needs)
	isEach(t, spots, append(needs, all(1)))
}

func TestAll(t *testing.T) {
	for _, c := range []struct {
		needs []api.Vec
		ids   []int
		at    int
	}{
		{nil, nil, -1},
		{[]api.Vec{}, nil, -1},
		{[]api.Vec{all(0)}, []int{7}, -1},
		{[]api.Vec{{4, 8, 0, 0}, {4, 8, 0, 0}, {4, 1, 1, 1}, {3, 50, 0, 0}, {0, 50, 0, 0}}, []int{2, 3, 9, -5, -5}, -1},
		{[]api.Vec{all(most), all(0), all(0)}, []int{8, 7, 7}, -1},
		{[]api.Vec{all(most), {1, 0, 0, 0}, {3, 0, 0, 0}, {4, 0, 0, 0}, {4, 0, 0, 0}}, []int{8, -5, 2, 3, 9}, -1},
		{[]api.Vec{{1, 0, 0, 0}, all(-1), {1, 0, 0, 0}}, nil, 1},
		{[]api.Vec{all(most + 1)}, nil, 0},
		{[]api.Vec{all(most), all(most), all(-1)}, nil, 1},
		{[]api.Vec{all(1), all(1), all(most), all(most)}, nil, 3},
		{[]api.Vec{{5, 5, 5, 5}, all(most), {0, 0, 0, 0}, {3, 0, 0, 0}}, nil, 1},
	} {
		if ids, at := All(some(), c.needs); !slices.Equal(ids, c.ids) || at != c.at {
			t.Errorf("all of %v are %v %d; want %v %d", c.needs, ids, at, c.ids, c.at)
		}
		isEach(t, some(), c.needs)
	}
}

// TestOneBehindTheOther checks that the demands aren't placed in another order,
// where that would place more of them.
func TestOneBehindTheOther(t *testing.T) {
	spots := []Spot{{1, api.Vec{5, 5}}, {2, api.Vec{6, 3}}}
	if ids, at := All(spots, []api.Vec{{5, 3}, {5, 5}}); len(ids) != 0 || at != 1 {
		// The second spot would take the first demand, but more would remain there.
		t.Errorf("all are %v %d", ids, at)
	}
	if ids, at := All(spots, []api.Vec{{5, 5}, {5, 3}}); !slices.Equal(ids, []int{1, 2}) || at != -1 {
		t.Errorf("all are %v %d", ids, at)
	}
}

// TestFirstThatFitsNowhere checks that each place can be told.
func TestFirstThatFitsNowhere(t *testing.T) {
	for n := range 40 {
		needs := slices.Repeat([]api.Vec{all(1)}, 41)
		if ids, at := All([]Spot{{3, all(n / 2)}, {4, all(n - n/2)}}, needs); len(ids) != 0 || at != n {
			t.Errorf("all are %v %d; want %d", ids, at, n)
		}
		if ids, at := All([]Spot{{3, all(n / 2)}, {4, all(n - n/2)}}, needs[:n]); len(ids) != n || at != -1 {
			t.Errorf("all are %v %d", ids, at)
		}
	}
}

// P16.2

func TestRest(t *testing.T) {
	spots := []Spot{{9, all(4)}, {3, all(7)}, {9, all(8)}, {-1, all(-1)}, {0, all(2)}, {3, all(0)}}
	for _, c := range []struct {
		needs []api.Vec
		ids   []int
		want  []Spot
	}{
		{nil, nil, spots},
		{[]api.Vec{all(4)}, nil, spots},
		{nil, []int{9}, spots},
		{[]api.Vec{all(0), all(0)}, []int{9, 4}, spots},
		{[]api.Vec{all(1)}, []int{4}, spots},
		{[]api.Vec{all(3)}, []int{0}, spots},
		{[]api.Vec{all(-1), all(-1), all(0)}, []int{-1, 9, -1}, spots},
		{[]api.Vec{all(4)}, []int{9}, []Spot{{9, all(0)}, {3, all(7)}, {9, all(8)}, {-1, all(-1)}, {0, all(2)}, {3, all(0)}}},
		{[]api.Vec{all(5)}, []int{9}, []Spot{{9, all(4)}, {3, all(7)}, {9, all(3)}, {-1, all(-1)}, {0, all(2)}, {3, all(0)}}},
		{[]api.Vec{all(9)}, []int{9}, spots},
		{[]api.Vec{all(3), all(3), all(3)}, []int{9, 9, 9}, []Spot{{9, all(1)}, {3, all(7)}, {9, all(2)}, {-1, all(-1)}, {0, all(2)}, {3, all(0)}}},
		{[]api.Vec{all(5), all(7), all(2)}, []int{3, 3, 3}, []Spot{{9, all(4)}, {3, all(0)}, {9, all(8)}, {-1, all(-1)}, {0, all(2)}, {3, all(0)}}},
		{[]api.Vec{all(1), all(1), all(1)}, []int{0, 0, 0}, []Spot{{9, all(4)}, {3, all(7)}, {9, all(8)}, {-1, all(-1)}, {0, all(0)}, {3, all(0)}}},
		{[]api.Vec{all(1), all(1), all(1)}, []int{9, 3}, []Spot{{9, all(3)}, {3, all(6)}, {9, all(8)}, {-1, all(-1)}, {0, all(2)}, {3, all(0)}}},
		{[]api.Vec{all(1), all(1)}, []int{9, 3, 9, 9}, []Spot{{9, all(3)}, {3, all(6)}, {9, all(8)}, {-1, all(-1)}, {0, all(2)}, {3, all(0)}}},
	} {
		if got := Rest(spots, c.needs, c.ids); !slices.Equal(got, c.want) {
			t.Errorf("rest behind %v at %v is %v; want %v", c.needs, c.ids, got, c.want)
		}
		isRest(t, spots, c.needs, c.ids)
	}
}

// TestRestInOrder checks that the demands are subtracted in ascending order: what
// is left for the later ones shows it.
func TestRestInOrder(t *testing.T) {
	spots := []Spot{{1, all(5)}}
	if got := Rest(spots, []api.Vec{all(3), all(5)}, []int{1, 1}); !slices.Equal(got, []Spot{{1, all(2)}}) {
		t.Errorf("rest is %v", got)
	}
	if got := Rest(spots, []api.Vec{all(5), all(3)}, []int{1, 1}); !slices.Equal(got, []Spot{{1, all(0)}}) {
		t.Errorf("rest is %v", got)
	}
}

// TestRestGoesOn checks that the demands behind one that is not subtracted are.
func TestRestGoesOn(t *testing.T) {
	spots := []Spot{{1, all(5)}, {2, all(5)}}
	needs := []api.Vec{all(6), all(1), all(-1), all(2), all(1), all(most + 1), all(3)}
	ids := []int{1, 1, 1, 2, 3, 2, 1}
	if got := Rest(spots, needs, ids); !slices.Equal(got, []Spot{{1, all(1)}, {2, all(3)}}) {
		t.Errorf("rest is %v", got)
	}
	isRest(t, spots, needs, ids)
}

// TestRestOfSameIds checks that the first spot with the Id loses a demand, also
// where All placed it in a later one with that Id.
func TestRestOfSameIds(t *testing.T) {
	spots := []Spot{{1, all(5)}, {1, all(3)}}
	needs := []api.Vec{all(3), all(5)}
	ids, at := All(spots, needs)
	if !slices.Equal(ids, []int{1, 1}) || at != -1 {
		t.Errorf("all are %v %d", ids, at)
	}
	if got := Rest(spots, needs, ids); !slices.Equal(got, []Spot{{1, all(2)}, {1, all(3)}}) {
		t.Errorf("rest is %v", got)
	}
}

// TestAnswersAreNew checks that an answer shares no memory with an argument or
// another answer.
func TestAnswersAreNew(t *testing.T) {
	spots, needs := some(), []api.Vec{all(most), all(0), {1, 0, 0, 0}}
	for range 2 {
		ids, at := All(spots, needs)
		if !slices.Equal(ids, []int{8, 7, -5}) || at != -1 {
			t.Fatalf("all are %v %d", ids, at)
		}
		rests := [][]Spot{Rest(spots, needs, ids), Rest(spots, nil, nil), Rest(spots[:2], needs, ids)}
		ids = ids[:cap(ids)]
		for i := range ids {
			ids[i] = 77
		}
		for i, rest := range rests {
			isRest(t, rest, needs, []int{9, 3, 2})
			rest = rest[:cap(rest)]
			for j := range rest {
				rest[j] = Spot{77, all(i)}
			}
		}
		if !slices.Equal(spots, some()) || !slices.Equal(needs, []api.Vec{all(most), all(0), {1, 0, 0, 0}}) {
			t.Errorf("spots are %v, needs are %v", spots, needs)
		}
	}
}

// P16.1 to P16.3, with random spots and demands.

// drawn is a vector of random amounts, of which a few are not valid.
func drawn(r *rand.Rand, top int) api.Vec {
	var v api.Vec
	for i := range v {
		v[i] = r.Intn(top + 1)
		if r.Intn(200) == 0 {
			v[i] = badAmounts[r.Intn(len(badAmounts))]
		}
	}
	return v
}

func TestRandom(t *testing.T) {
	for seed := range 3000 {
		r := rand.New(rand.NewSource(int64(seed)))
		top := []int{1, 2, 6, 1000, most}[seed%5]
		var spots []Spot
		for range r.Intn(12) {
			spots = append(spots, Spot{r.Intn(9) - 2, drawn(r, top)})
		}
		var needs []api.Vec
		var ids []int
		for range r.Intn(16) {
			needs = append(needs, drawn(r, top/2))
			ids = append(ids, r.Intn(9)-2)
		}
		isEach(t, spots, needs)
		isRest(t, spots, needs, ids)
		for n := range ids {
			isAll(t, spots, needs[:n])
			isRest(t, spots, needs, ids[:n])
			isRest(t, spots, needs[n:], ids)
		}
	}
}

// P16.3

// numbered returns spots with different Ids, not ascending, and valid amounts.
func numbered(r *rand.Rand, n, top int) []Spot {
	var spots []Spot
	for _, id := range r.Perm(n) {
		spots = append(spots, Spot{id - 3, api.Vec{r.Intn(top + 1), r.Intn(top + 1), r.Intn(top + 1), r.Intn(top + 1)}})
	}
	return spots
}

// total returns what spots have left, together.
func total(spots []Spot) api.Vec {
	var v api.Vec
	for _, s := range spots {
		for i := range v {
			v[i] += s.Left[i]
		}
	}
	return v
}

// TestRestTakesAll checks that Rest subtracts every demand that All places, where
// its Id says.
func TestRestTakesAll(t *testing.T) {
	placed := 0
	for seed := range 2000 {
		r := rand.New(rand.NewSource(int64(seed)))
		spots := numbered(r, 1+r.Intn(10), []int{9, 100, most}[seed%3])
		var needs []api.Vec
		want := total(spots)
		for range r.Intn(8) {
			need := spots[r.Intn(len(spots))].Left
			for i := range need {
				need[i] /= 1 + r.Intn(5)
			}
			needs = append(needs, need)
			want = less(want, need)
		}
		ids, at := All(spots, needs)
		if at >= 0 {
			continue
		}
		placed += len(ids)
		rest := Rest(spots, needs, ids)
		if got := total(rest); got != want {
			t.Errorf("seed %d: left are %v; want %v", seed, got, want)
		}
		apart(t, spots, rest, needs, ids)
	}
	if placed < 2000 {
		t.Errorf("only %d demands were placed", placed)
	}
}

// apart checks that each spot lost what was placed in it, and is valid.
func apart(t *testing.T, spots, rest []Spot, needs []api.Vec, ids []int) {
	t.Helper()
	for i, s := range spots {
		for j, need := range needs {
			if ids[j] == s.Id {
				s.Left = less(s.Left, need)
			}
		}
		if rest[i] != s || slices.Min(s.Left[:]) < 0 {
			t.Errorf("spot %v is %v; want %v", spots[i], rest[i], s)
		}
	}
}

// TestMoreIsEnough checks that what fits in a spot fits in one with more.
func TestMoreIsEnough(t *testing.T) {
	for seed := range 2000 {
		r := rand.New(rand.NewSource(int64(seed)))
		pair := numbered(r, 2, []int{3, 1000, most / 2}[seed%3])
		need, left := pair[0].Left, pair[1].Left
		more := left
		for i := range more {
			more[i] += r.Intn(most - more[i] + 1)
		}
		_, ok := Best([]Spot{{1, left}}, need)
		if _, still := Best([]Spot{{1, more}}, need); ok && !still {
			t.Errorf("%v fits in %v, but not in %v", need, left, more)
		}
		// What fits at all fits when any spot has more.
		isEach(t, []Spot{{1, left}, {2, more}}, []api.Vec{need, need, left})
	}
}

// TestMany checks that many spots and demands are placed.
func TestMany(t *testing.T) {
	const n = 1500
	var spots []Spot
	var needs []api.Vec
	var want []int
	for i := range n {
		spots = append(spots, Spot{n - i, api.Vec{10 + i, most, 0, 1}})
		needs = append(needs, api.Vec{10 + i, 7, 0, 1})
		want = append(want, n-i)
	}
	ids, at := All(spots, needs)
	if !slices.Equal(ids, want) || at != -1 {
		t.Errorf("all are %v %d", ids, at)
	}
	for i, s := range Rest(spots, needs, ids) {
		if s != (Spot{n - i, api.Vec{0, most - 7, 0, 0}}) {
			t.Errorf("rest %d is %v", i, s)
		}
	}
}

// The chapter's example.

func TestExample(t *testing.T) {
	spots := []Spot{{1, api.Vec{5}}, {2, api.Vec{4}}}
	if id, ok := Best(spots, api.Vec{4}); id != 2 || !ok {
		t.Errorf("best is %d %v", id, ok)
	}
}
