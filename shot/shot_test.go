package shot

import (
	"errors"
	"math"
	"math/rand"
	"slices"
	"strings"
	"testing"

	"quitrent/api"
	"quitrent/block"
	"quitrent/frame"
)

const size = api.BlockSize

// top is the greatest number of a state that can be opened.
const top = 1 << 30

var allErrors = []error{
	api.ErrArg, api.ErrNil, api.ErrForm, api.ErrOver, api.ErrNone, api.ErrDup, api.ErrFull,
	api.ErrQuota, api.ErrCeil, api.ErrRoom, api.ErrBudget, api.ErrFunds, api.ErrState, api.ErrDown,
}

// isOnly checks that err is want, no other error of package api, and no Fault.
func isOnly(t *testing.T, err, want error) {
	t.Helper()
	if (err == nil) != (want == nil) {
		t.Errorf("error %v: want %v", err, want)
	}
	for _, e := range allErrors {
		if errors.Is(err, e) != (e == want) {
			t.Errorf("error %v: want %v only", err, want)
		}
	}
	var f *api.Fault
	if errors.As(err, &f) {
		t.Errorf("error %v: has a Fault", err)
	}
}

// zeros is n blocks that were never written.
func zeros(n int) string { return strings.Repeat("\x00", n*size) }

// junk is n blocks that are no frames.
func junk(n int) string {
	b := make([]byte, n*size)
	for i := range b {
		b[i] = byte(0x80 | (i*5 + i/size))
	}
	return string(b)
}

// text is n bytes, none of them like the one before it.
func text(n int) string {
	b := make([]byte, n)
	for i := range b {
		b[i] = byte(i*7 + i/256 + 1)
	}
	return string(b)
}

// framed is the blocks of texts, one frame behind the other, whose numbers go
// on from first.
func framed(t *testing.T, first int, list ...string) string {
	t.Helper()
	var b strings.Builder
	for i, s := range list {
		blocks, err := frame.Blocks(first+i, s)
		if err != nil {
			t.Fatalf("Blocks(%d, %d bytes): %v", first+i, len(s), err)
		}
		b.WriteString(strings.Join(blocks, ""))
	}
	return b.String()
}

// blocksOf is how many blocks texts need, counted from the chapter's rule.
func blocksOf(list ...string) int {
	n := 0
	for _, s := range list {
		for left := len(s) + 8; left > 0; left -= 56 {
			n++
		}
	}
	return n
}

// fill is s with blocks of zeros behind it, up to n blocks.
func fill(s string, n int) string { return s + zeros(n-len(s)/size) }

// open opens a store that can be opened.
func open(t *testing.T, d *block.Disk, n int) *Store {
	t.Helper()
	s, err := Open(d, n)
	if err != nil || s == nil {
		t.Fatalf("Open(%d): %v, %v", n, s, err)
	}
	return s
}

// openFails checks both results of an Open that doesn't succeed.
func openFails(t *testing.T, d *block.Disk, n int, want error) {
	t.Helper()
	s, err := Open(d, n)
	if s != nil {
		t.Errorf("Open(%d) has a store beside %v", n, err)
	}
	isOnly(t, err, want)
}

// keeps makes Keeps that are to succeed.
func keeps(t *testing.T, s *Store, list ...string) {
	t.Helper()
	for _, state := range list {
		if err := s.Keep(state); err != nil {
			t.Fatalf("Keep of %d bytes: %v", len(state), err)
		}
	}
}

// adds makes Adds that are to succeed.
func adds(t *testing.T, s *Store, list ...string) {
	t.Helper()
	for _, data := range list {
		if err := s.Add(data); err != nil {
			t.Fatalf("Add of %d bytes: %v", len(data), err)
		}
	}
}

// isStore checks what a store tells; number is that of its state.
func isStore(t *testing.T, s *Store, number int, state string, records ...string) {
	t.Helper()
	if got := s.State(); got != state {
		t.Errorf("the state is %q; want %q", got, state)
	}
	if got := s.Records(); !slices.Equal(got, records) {
		t.Errorf("the records are %q; want %q", got, records)
	}
	if got := s.Seq(); got != number+len(records) {
		t.Errorf("the number is %d; want %d", got, number+len(records))
	}
}

// isImage checks the content of a disk.
func isImage(t *testing.T, d *block.Disk, want string) {
	t.Helper()
	got := d.Image()
	if got == want {
		return
	}
	if len(got) != len(want) {
		t.Errorf("the image has %d bytes; want %d", len(got), len(want))
		return
	}
	for i := range len(got) {
		if got[i] != want[i] {
			t.Errorf("the image differs first at block %d, byte %d: %d; want %d", i/size, i%size, got[i], want[i])
			return
		}
	}
}

// hasWritten checks how many blocks were written since there were so many.
func hasWritten(t *testing.T, d *block.Disk, before, want int) {
	t.Helper()
	if got := d.Writes() - before; got != want {
		t.Errorf("%d blocks were written; want %d", got, want)
	}
}

// off takes the power of a disk away by a torn write that lays nothing.
func off(d *block.Disk) {
	d.Fuse(0, 0)
	d.Write(0, zeros(1))
}

// blink takes the power away and brings it again.
func blink(d *block.Disk) {
	off(d)
	d.Come()
}

// P7.1

func TestOpenOnZeros(t *testing.T) {
	for _, c := range []struct{ blocks, size int }{{3, 1}, {4, 1}, {12, 5}, {217, 108}, {4096, 108}, {4096, 1}} {
		d := block.New(c.blocks)
		isStore(t, open(t, d, c.size), 0, "")
		hasWritten(t, d, 0, 0)
		isImage(t, d, zeros(c.blocks))
	}
}

func TestOpenFails(t *testing.T) {
	for _, c := range []struct{ blocks, size int }{
		{12, 0}, {12, -1}, {12, math.MinInt}, {12, 6}, {12, 7}, {13, 7}, {2, 1}, {1, 1}, {0, 1}, {0, 0},
		{216, 108}, {215, 108}, {218, 109}, {219, 109}, {4096, 109}, {4096, 2048}, {4096, math.MaxInt},
		{4096, 1<<62 + 1}, {4096, math.MinInt + 1}, {4096, 1<<32 + 1},
	} {
		openFails(t, nil, c.size, api.ErrNil)
		d := block.Of(junk(c.blocks))
		openFails(t, d, c.size, api.ErrArg)
		off(d)
		openFails(t, d, c.size, api.ErrArg)
		isImage(t, d, junk(c.blocks))
	}
	openFails(t, nil, 1, api.ErrNil)
}

func TestOpenWithoutPower(t *testing.T) {
	bad := framed(t, top+1, "a")
	for _, image := range []string{zeros(9), junk(9), framed(t, 1, "a", "b", "c") + zeros(6), bad + zeros(8)} {
		d := block.Of(image)
		off(d)
		openFails(t, d, 1, api.ErrDown)
		openFails(t, d, 4, api.ErrDown)
		isImage(t, d, image)
	}
}

// TestOpenOfNumbersThatAreTooGreat checks that such a disk is left as it is.
func TestOpenOfNumbersThatAreTooGreat(t *testing.T) {
	good := framed(t, top, "good")
	for _, number := range []int{top + 1, top + 2, math.MaxInt32 - 1, math.MaxInt32} {
		bad := framed(t, number, "bad")
		for _, areas := range []string{
			bad + zeros(1), zeros(1) + bad, bad + good, good + bad, bad + bad, junk(1) + bad, bad + junk(1),
		} {
			for _, rest := range []string{zeros(3), junk(3), framed(t, top+1, "a", "b", "c")} {
				d := block.Of(areas + rest)
				openFails(t, d, 1, api.ErrForm)
				isImage(t, d, areas+rest)
				hasWritten(t, d, 0, 0)
				off(d)
				openFails(t, d, 1, api.ErrDown)
			}
		}
	}
	// What is too great doesn't count where it can't be read.
	d := block.Of(framed(t, top+1, text(60))[:size] + good + zeros(1))
	isStore(t, open(t, d, 1), top, "good")
}

// area is n blocks that begin with the frame of a state, and what is behind it.
func area(t *testing.T, n, number int, state, rest string) string {
	t.Helper()
	s := framed(t, number, state) + rest
	return fill(s, n)[:n*size]
}

func TestOpenChoosesTheState(t *testing.T) {
	const n = 3
	a := func(number int, state string) string { return area(t, n, number, state, "") }
	frame4 := framed(t, 9, text(161))
	for i, c := range []struct {
		first, second string
		number        int
		state         string
	}{
		{zeros(n), zeros(n), 0, ""},
		{junk(n), junk(n), 0, ""},
		{a(1, "x"), zeros(n), 1, "x"},
		{zeros(n), a(1, "x"), 1, "x"},
		{a(7, text(160)), junk(n), 7, text(160)},
		{junk(n), a(7, text(160)), 7, text(160)},
		{a(7, "x"), a(8, "y"), 8, "y"},
		{a(8, "x"), a(7, "y"), 8, "x"},
		{a(7, "x"), a(7, "y"), 7, "x"},
		{a(7, ""), a(7, "y"), 7, ""},
		{a(7, ""), a(6, "y"), 7, ""},
		{a(6, "x"), a(7, ""), 7, ""},
		{a(255, "x"), a(256, "y"), 256, "y"},
		{a(256, "x"), a(255, "y"), 256, "x"},
		{a(1<<24, "x"), a(1<<24-1, "y"), 1 << 24, "x"},
		{a(top-1, "x"), a(top, "y"), top, "y"},
		{a(top, "x"), a(top-1, "y"), top, "x"},
		{a(top, "x"), a(top, "y"), top, "x"},
		// what is behind a frame in its area doesn't count
		{area(t, n, 5, "x", junk(2)), area(t, n, 4, text(60), junk(1)), 5, "x"},
		{area(t, n, 5, "x", framed(t, 6, "z")), zeros(n), 5, "x"},
		{zeros(1) + framed(t, 6, "z") + zeros(1), a(2, "y"), 2, "y"},
		// a frame of four blocks doesn't fit an area, even if all of it is there
		{frame4[:n*size], frame4[n*size:] + zeros(n-1), 0, ""},
		{frame4[:n*size], a(2, "y"), 2, "y"},
		{a(2, "x"), frame4[:n*size], 2, "x"},
		// frames that lack a block or a byte
		{framed(t, 9, text(60))[:size] + zeros(2), a(2, "y"), 2, "y"},
		{a(2, "x"), framed(t, 9, text(60))[:2*size-2] + zeros(3)[:2+size], 2, "x"},
	} {
		image := c.first + c.second + framed(t, c.number+1, "r", text(50)) + zeros(2)
		d := block.Of(image)
		isStore(t, open(t, d, n), c.number, c.state, "r", text(50))
		isImage(t, d, image)
		hasWritten(t, d, 0, 0)
		if t.Failed() {
			t.Fatalf("at case %d", i)
		}
	}
}

// TestOpenOfAFrameBeyondTheSecondArea checks that the records don't complete
// the state of the second area.
func TestOpenOfAFrameBeyondTheSecondArea(t *testing.T) {
	image := zeros(1) + framed(t, 9, text(60)) + zeros(1)
	d := block.Of(image)
	isStore(t, open(t, d, 1), 0, "")
	isImage(t, d, image[:2*size]+zeros(2))
}

func TestOpenReadsRecords(t *testing.T) {
	areas := area(t, 2, 4, "old", "") + area(t, 2, 7, "new", "")
	a, b := framed(t, 8, "a"), framed(t, 9, text(60))
	for i, c := range []struct {
		rest    string
		records []string
	}{
		{zeros(6), nil},
		{a + zeros(5), []string{"a"}},
		{a + b + zeros(3), []string{"a", text(60)}},
		{a + b + junk(3), []string{"a", text(60)}},
		{a + zeros(1) + b + zeros(2), []string{"a"}},
		{a + a + a + a + a + a, []string{"a"}},
		{a + b[:size] + junk(4), []string{"a"}},
		{b + a + zeros(3), nil},
		{zeros(1) + a + b + junk(2), nil},
		{junk(6), nil},
		{framed(t, 5, "of", "the", "old", "one") + zeros(2), nil},
		{framed(t, 7, "x", "y") + zeros(4), nil},
		{framed(t, 8, "1", "2", "3", "4", "5", "6"), []string{"1", "2", "3", "4", "5", "6"}},
	} {
		d := block.Of(areas + c.rest)
		isStore(t, open(t, d, 2), 7, "new", c.records...)
		isImage(t, d, areas+fill(framed(t, 8, c.records...), 6))
		if t.Failed() {
			t.Fatalf("at case %d", i)
		}
	}
}

// TestOpenIsTorn cuts an Open at each of its writes, and opens again.
func TestOpenIsTorn(t *testing.T) {
	areas := area(t, 2, 3, "old", "") + area(t, 2, 7, "new", junk(1))
	image := areas + framed(t, 8, "a", text(60)) + junk(3)
	for n := range 3 {
		for torn := range size + 1 {
			d := block.Of(image)
			d.Fuse(n, torn)
			openFails(t, d, 2, api.ErrDown)
			end := len(image) - 3*size
			wiped := n*size + torn
			isImage(t, d, image[:end]+zeros(3)[:wiped]+image[end+wiped:])
			d.Come()
			isStore(t, open(t, d, 2), 7, "new", "a", text(60))
			isImage(t, d, image[:end]+zeros(3))
		}
	}
}

func TestNil(t *testing.T) {
	var s *Store
	isStore(t, s, 0, "")
	isOnly(t, s.Add("a"), api.ErrNil)
	isOnly(t, s.Add(text(6001)), api.ErrNil)
	isOnly(t, s.Keep("a"), api.ErrNil)
	isOnly(t, s.Keep(text(7000)), api.ErrNil)
}

// TestRecordsAreNew checks that a caller can't change the records of a store.
func TestRecordsAreNew(t *testing.T) {
	s := open(t, block.New(9), 2)
	adds(t, s, "a", "b")
	got := s.Records()
	got[0] = "x"
	_ = append(got[:1], "y")
	isStore(t, s, 0, "", "a", "b")
}

// P7.2

func TestAdd(t *testing.T) {
	for _, number := range []int{1, 254, 255, 65534, 1 << 24, top - 4} {
		areas := area(t, 2, number, "state", "") + zeros(2)
		d := block.Of(areas + zeros(5))
		s := open(t, d, 2)
		list := []string{"a", "", text(60)}
		for i, data := range list {
			before := d.Writes()
			isOnly(t, s.Add(data), nil)
			isStore(t, s, number, "state", list[:i+1]...)
			isImage(t, d, areas+fill(framed(t, number+1, list[:i+1]...), 5))
			hasWritten(t, d, before, blocksOf(data))
		}
		isStore(t, open(t, d, 2), number, "state", list...)
	}
}

func TestAddFails(t *testing.T) {
	d := block.New(8)
	s := open(t, d, 1)
	adds(t, s, "a")
	image := d.Image()
	for _, c := range []struct {
		n    int
		want error
	}{{6001, api.ErrArg}, {10000, api.ErrArg}, {6000, api.ErrFull}, {273, api.ErrFull}} {
		isOnly(t, s.Add(text(c.n)), c.want)
		isStore(t, s, 0, "", "a")
		isImage(t, d, image)
	}
	adds(t, s, text(272))
	isOnly(t, s.Add(""), api.ErrFull)
	isStore(t, s, 0, "", "a", text(272))
	// A Keep makes room again.
	keeps(t, s, "k")
	adds(t, s, text(300))
	isStore(t, s, 3, "k", text(300))
}

func TestAddOfTheLastNumbers(t *testing.T) {
	d := block.Of(framed(t, top-2, "s") + zeros(9))
	s := open(t, d, 1)
	adds(t, s, "a")
	isOnly(t, s.Add("b"), api.ErrFull)
	isOnly(t, s.Add(text(6001)), api.ErrArg)
	isStore(t, s, top-2, "s", "a")
	keeps(t, s, "last")
	isStore(t, s, top, "last")
	isOnly(t, s.Add("b"), api.ErrFull)
	isOnly(t, s.Keep("more"), api.ErrArg)
	isStore(t, s, top, "last")
	isStore(t, open(t, d, 1), top, "last")
}

// TestKeep checks each byte and each write of Keeps, one after the other.
func TestKeep(t *testing.T) {
	const n, rest = 3, 6
	areas := [2]string{zeros(n), zeros(n)}
	d := block.New(2*n + rest)
	s := open(t, d, n)
	number := 0
	states := []string{"one", text(160), "", text(100), text(48), text(49), strings.Repeat("\x00", 160), "x", "y"}
	for i, state := range states {
		records := []string{"a", text(60), ""}[:i%4]
		adds(t, s, records...)
		number += len(records) + 1
		// The blocks of these areas have zeros only behind their frames, and
		// none of them within.
		used := len(strings.TrimRight(areas[i%2], "\x00"))
		wiped := (used + size - 1) / size
		before := d.Writes()
		isOnly(t, s.Keep(state), nil)
		hasWritten(t, d, before, wiped+blocksOf(state)+blocksOf(records...))
		areas[i%2] = area(t, n, number, state, "")
		isImage(t, d, areas[0]+areas[1]+zeros(rest))
		isStore(t, s, number, state)
		isStore(t, open(t, block.Of(d.Image()), n), number, state)
		if t.Failed() {
			t.Fatalf("at Keep %d", i)
		}
	}
}

// TestKeepChoosesTheArea checks which area a Keep takes after an Open, and that
// it leaves nothing of what was there.
func TestKeepChoosesTheArea(t *testing.T) {
	const n = 3
	a := func(number int) string { return area(t, n, number, "a", junk(2)) }
	for i, c := range []struct {
		first, second string
		number, area  int
	}{
		{zeros(n), zeros(n), 0, 0},
		{junk(n), junk(n), 0, 0},
		{a(5), zeros(n), 5, 1},
		{a(5), junk(n), 5, 1},
		{zeros(n), a(5), 5, 0},
		{junk(n), a(5), 5, 0},
		{a(5), a(4), 5, 1},
		{a(5), a(5), 5, 1},
		{a(5), a(6), 6, 0},
		{a(256), a(255), 256, 1},
		{a(255), a(256), 256, 0},
	} {
		d := block.Of(c.first + c.second + framed(t, c.number+1, "r") + zeros(1))
		s := open(t, d, n)
		areas := [2]string{c.first, c.second}
		for at, number := c.area, c.number+2; number < c.number+6; at, number = 1-at, number+1 {
			keeps(t, s, text(60))
			areas[at] = area(t, n, number, text(60), "")
			isImage(t, d, areas[0]+areas[1]+zeros(2))
			isStore(t, s, number, text(60))
		}
		if t.Failed() {
			t.Fatalf("at case %d", i)
		}
	}
}

// TestKeepIsInOrder cuts a Keep at each write, and checks that the area was
// wiped first, the state laid then, and the records wiped last, all ascending.
func TestKeepIsInOrder(t *testing.T) {
	const n, rest = 3, 4
	current := area(t, n, 7, "current", "")
	log := fill(framed(t, 8, "a", text(60)), rest)
	d := block.Of(junk(n) + current + log)
	state := text(150)
	laid := framed(t, 10, state)
	var images []string
	for i := range n + 1 {
		images = append(images, zeros(i)+junk(n)[i*size:]+current+log)
	}
	for i := 1; i <= n; i++ {
		images = append(images, laid[:i*size]+zeros(n-i)+current+log)
	}
	for i := 1; i <= 3; i++ {
		images = append(images, laid+current+zeros(i)+log[i*size:])
	}
	last := len(images) - 1
	for k := range last {
		for torn := range size + 1 {
			d = block.Of(images[0])
			s := open(t, d, n)
			d.Fuse(k, torn)
			isOnly(t, s.Keep(state), api.ErrDown)
			isImage(t, d, tornAt(images[k], images[k+1], torn))
			hasWritten(t, d, 0, k)
		}
	}
	d = block.Of(images[0])
	s := open(t, d, n)
	d.Fuse(last, 0)
	isOnly(t, s.Keep(state), nil)
	isImage(t, d, images[last])
	hasWritten(t, d, 0, last)
}

// tornAt is the image between two, of which one block differs, when only the
// first bytes of that block were laid.
func tornAt(before, after string, torn int) string {
	for at := 0; at < len(before); at += size {
		if before[at:at+size] != after[at:at+size] {
			return before[:at] + after[at:at+torn] + before[at+torn:]
		}
	}
	return before
}

func TestKeepFails(t *testing.T) {
	for _, c := range []struct{ size, fits, isTooLong int }{
		{1, 48, 49}, {2, 104, 105}, {3, 160, 161}, {107, 5984, 5985}, {108, 6000, 6001}, {108, 5985, 6040}, {108, 0, 6041},
		{1, 0, 6000}, {1, 0, 6001}, {1, 0, 1 << 20},
	} {
		d := block.New(2*c.size + 5)
		s := open(t, d, c.size)
		adds(t, s, "a")
		image := d.Image()
		isOnly(t, s.Keep(text(c.isTooLong)), api.ErrArg)
		isStore(t, s, 0, "", "a")
		isImage(t, d, image)
		hasWritten(t, d, 0, 1)
		isOnly(t, s.Keep(text(c.fits)), nil)
		isStore(t, s, 2, text(c.fits))
		isStore(t, open(t, d, c.size), 2, text(c.fits))
		isOnly(t, s.Keep(text(c.isTooLong)), api.ErrArg)
		isStore(t, s, 2, text(c.fits))
	}
}

func TestKeepOfTheLastNumbers(t *testing.T) {
	for _, c := range []struct {
		number  int
		records []string
		want    error
	}{
		{top - 2, nil, nil},
		{top - 1, nil, nil},
		{top - 2, []string{"a"}, nil},
		{top, nil, api.ErrArg},
		{top - 1, []string{"a"}, api.ErrArg},
		{top - 2, []string{"a", "b"}, api.ErrArg},
		{top, []string{"a", "b"}, api.ErrArg},
	} {
		image := framed(t, c.number, "s") + zeros(1) + fill(framed(t, c.number+1, c.records...), 3)
		d := block.Of(image)
		s := open(t, d, 1)
		isOnly(t, s.Keep("k"), c.want)
		if c.want != nil {
			isStore(t, s, c.number, "s", c.records...)
			isImage(t, d, image)
			hasWritten(t, d, 0, 0)
			continue
		}
		isStore(t, s, c.number+len(c.records)+1, "k")
		isStore(t, open(t, d, 1), c.number+len(c.records)+1, "k")
	}
}

// TestKeepWipesWhatOthersWrote checks that a Keep looks at every block of its
// area and of the log, whoever wrote them.
func TestKeepWipesWhatOthersWrote(t *testing.T) {
	d := block.New(8)
	s := open(t, d, 2)
	keeps(t, s, "a")
	for _, at := range []int{2, 3, 5, 7} {
		if err := d.Write(at, junk(1)); err != nil {
			t.Fatal(err)
		}
	}
	keeps(t, s, "b")
	isImage(t, d, area(t, 2, 1, "a", "")+area(t, 2, 2, "b", "")+zeros(4))
}

// falls are calls during which the power fails, or is away already, on a store
// whose first area is to be wiped.
var falls = map[string]func(d *block.Disk, s *Store) error{
	"Add is torn":             func(d *block.Disk, s *Store) error { d.Fuse(0, 10); return s.Add("x") },
	"Add is whole":            func(d *block.Disk, s *Store) error { d.Fuse(0, size); return s.Add("x") },
	"Add, no power":           func(d *block.Disk, s *Store) error { off(d); return s.Add("x") },
	"Keep, no power":          func(d *block.Disk, s *Store) error { off(d); return s.Keep("x") },
	"Keep, area is torn":      func(d *block.Disk, s *Store) error { d.Fuse(0, 10); return s.Keep("x") },
	"Keep, area is whole":     func(d *block.Disk, s *Store) error { d.Fuse(0, size); return s.Keep("x") },
	"Keep, state is torn":     func(d *block.Disk, s *Store) error { d.Fuse(1, 10); return s.Keep("x") },
	"Keep, state is whole":    func(d *block.Disk, s *Store) error { d.Fuse(1, size); return s.Keep("x") },
	"Keep, records are torn":  func(d *block.Disk, s *Store) error { d.Fuse(2, 10); return s.Keep("x") },
	"Keep, records are whole": func(d *block.Disk, s *Store) error { d.Fuse(2, size); return s.Keep("x") },
}

// TestCallsOnAFallenStore checks that a store whose call returned ErrDown stays
// down, with power and without, that the errors that are named first come
// first, and that the disk can be opened anew.
func TestCallsOnAFallenStore(t *testing.T) {
	calls := map[string]func(s *Store){
		"Add":        func(s *Store) { isOnly(t, s.Add("y"), api.ErrDown) },
		"Add, long":  func(s *Store) { isOnly(t, s.Add(text(6001)), api.ErrArg) },
		"Add, full":  func(s *Store) { isOnly(t, s.Add(text(400)), api.ErrFull) },
		"Keep":       func(s *Store) { isOnly(t, s.Keep("y"), api.ErrDown) },
		"Keep, long": func(s *Store) { isOnly(t, s.Keep(text(49)), api.ErrArg) },
	}
	image := framed(t, 1, "old") + framed(t, 2, "new") + framed(t, 3, "a") + zeros(3)
	for fallName, fall := range falls {
		for callName, call := range calls {
			for _, comes := range []bool{false, true} {
				d := block.Of(image)
				s := open(t, d, 1)
				isOnly(t, fall(d, s), api.ErrDown)
				fallen, writes := d.Image(), d.Writes()
				if comes {
					d.Come()
				}
				call(s)
				call(s)
				d.Come()
				isOnly(t, s.Add("y"), api.ErrDown)
				isOnly(t, s.Keep("y"), api.ErrDown)
				isImage(t, d, fallen)
				hasWritten(t, d, writes, 0)
				s = open(t, d, 1)
				adds(t, s, "z")
				keeps(t, s, "z")
				if t.Failed() {
					t.Fatalf("%s, then %s, with power: %v", fallName, callName, comes)
				}
			}
		}
	}
}

// TestKeepOfTheLastNumberOnAFallenStore has a number of 2^30 and no power.
func TestKeepOfTheLastNumberOnAFallenStore(t *testing.T) {
	d := block.Of(framed(t, top, "s") + zeros(4))
	s := open(t, d, 1)
	off(d)
	isOnly(t, s.Keep("k"), api.ErrArg)
	isOnly(t, s.Add("a"), api.ErrFull)
	isStore(t, s, top, "s")
}

// TestPowerThatCameAgainBetweenCalls checks that only a call of this store that
// returned ErrDown counts.
func TestPowerThatCameAgainBetweenCalls(t *testing.T) {
	d := block.New(8)
	s := open(t, d, 2)
	adds(t, s, "a")
	blink(d)
	adds(t, s, "b")
	blink(d)
	keeps(t, s, "k")
	isStore(t, s, 3, "k")
	off(d)
	isOnly(t, s.Add(text(6001)), api.ErrArg)
	isOnly(t, s.Add(text(6000)), api.ErrFull)
	isOnly(t, s.Keep(text(105)), api.ErrArg)
	d.Come()
	adds(t, s, "c")
	keeps(t, s, "m")
	isStore(t, s, 5, "m")
	isStore(t, open(t, d, 2), 5, "m")
}

// TestStoreWithoutPower checks that what a store tells needs no disk.
func TestStoreWithoutPower(t *testing.T) {
	d := block.New(8)
	s := open(t, d, 2)
	keeps(t, s, "k")
	adds(t, s, "a", "b")
	off(d)
	isStore(t, s, 1, "k", "a", "b")
}

// P7.3

// scene is what a disk holds: states with their numbers (0: none), and records
// that follow the greater of them.
type scene struct {
	numbers [2]int
	states  [2]string
	records []string
}

const (
	sceneSize = 3
	sceneRest = 7
)

// scenes are disks of stores; the numbers have bytes of zeros, or none.
func scenes() []scene {
	zero := strings.Repeat("\x00", 160)
	return []scene{
		{},
		{records: []string{"a", "b"}},
		{numbers: [2]int{1, 0}, states: [2]string{"x", ""}},
		{numbers: [2]int{1, 2}, states: [2]string{"x", "y"}, records: []string{"a"}},
		{numbers: [2]int{9, 4}, states: [2]string{text(160), zero}, records: []string{text(60), "", text(100)}},
		{numbers: [2]int{255, 256}, states: [2]string{zero, text(160)}, records: []string{"a", "b", "c"}},
		{numbers: [2]int{65540, 65535}, states: [2]string{"", ""}, records: []string{"", ""}},
		{numbers: [2]int{1<<24 - 3, 1 << 24}, states: [2]string{text(105), "y"}, records: []string{zero}},
		{numbers: [2]int{258, 255}, states: [2]string{"a" + zero[:150], "b" + zero[:150]}, records: []string{zero[:104], "b"}},
	}
}

// current is the number of a scene's state, the state, and its area (-1: none).
func (c scene) current() (int, string, int) {
	switch {
	case c.numbers[0] == 0 && c.numbers[1] == 0:
		return 0, "", -1
	case c.numbers[0] >= c.numbers[1]:
		return c.numbers[0], c.states[0], 0
	}
	return c.numbers[1], c.states[1], 1
}

// image is the disk of a scene.
func (c scene) image(t *testing.T) string {
	t.Helper()
	s := ""
	for i, number := range c.numbers {
		if number == 0 {
			s += zeros(sceneSize)
		} else {
			s += area(t, sceneSize, number, c.states[i], "")
		}
	}
	number, _, _ := c.current()
	return s + fill(framed(t, number+1, c.records...), sceneRest)
}

// news are texts to add or keep, at places where a torn write could pass for a
// whole one.
func news() []string {
	zero := strings.Repeat("\x00", 160)
	return []string{"", "a", "\x00", text(47), text(48), text(49), text(105), text(160), zero[:48], zero, text(52) + zero[:100], zero[:104] + "\x01"}
}

func TestPowerFailsDuringAdd(t *testing.T) {
	for i, c := range scenes() {
		image := c.image(t)
		number, state, _ := c.current()
		for j, data := range news() {
			if blocksOf(c.records...)+blocksOf(data) > sceneRest {
				continue
			}
			after := append(slices.Clone(c.records), data)
			for n := range blocksOf(data) {
				for torn := range size + 1 {
					d := block.Of(image)
					s := open(t, d, sceneSize)
					d.Fuse(n, torn)
					isOnly(t, s.Add(data), api.ErrDown)
					want := c.records
					if strings.HasPrefix(d.Image()[2*sceneSize*size:], framed(t, number+1, after...)) {
						want = after
					}
					d.Come()
					isStore(t, open(t, d, sceneSize), number, state, want...)
					if t.Failed() {
						t.Fatalf("scene %d, new text %d, torn at %d, %d", i, j, n, torn)
					}
				}
			}
		}
	}
}

func TestPowerFailsDuringKeep(t *testing.T) {
	for i, c := range scenes() {
		image := c.image(t)
		for j, state := range news() {
			writes := writesOfKeep(t, image, state)
			for n := range writes {
				for torn := range size + 1 {
					tearKeep(t, c, image, state, n, torn)
					if t.Failed() {
						t.Fatalf("scene %d, new text %d, torn at %d, %d", i, j, n, torn)
					}
				}
			}
		}
	}
}

// writesOfKeep is how many blocks a Keep writes.
func writesOfKeep(t *testing.T, image, state string) int {
	t.Helper()
	d := block.Of(image)
	keeps(t, open(t, d, sceneSize), state)
	return d.Writes()
}

// tearKeep tears a Keep at a write and a byte of it, and checks what there is
// then: the new state if all its bytes are there, or all that was there before.
func tearKeep(t *testing.T, c scene, image, state string, n, torn int) {
	t.Helper()
	d := block.Of(image)
	s := open(t, d, sceneSize)
	d.Fuse(n, torn)
	isOnly(t, s.Keep(state), api.ErrDown)
	number, wantState, at := c.current()
	wantNumber, records := number, c.records
	to := 0
	if at == 0 {
		to = sceneSize
	}
	isNew := strings.HasPrefix(d.Image()[to*size:], framed(t, number+len(records)+1, state))
	if isNew {
		wantNumber, wantState, records = number+len(records)+1, state, nil
	}
	d.Come()
	areas := d.Image()[:2*sceneSize*size]
	s = open(t, d, sceneSize)
	isStore(t, s, wantNumber, wantState, records...)
	isImage(t, d, areas+fill(framed(t, wantNumber+1, records...), sceneRest))
	// All goes on from there, over what the torn Keep left.
	keeps(t, s, "on")
	isStore(t, open(t, d, sceneSize), wantNumber+len(records)+1, "on")
}

// TestPowerFailsAgainAndAgain tears a call, and then Opens, until one comes
// through: what is recovered is what the first of them would have recovered.
func TestPowerFailsAgainAndAgain(t *testing.T) {
	r := rand.New(rand.NewSource(73))
	for i, c := range scenes() {
		image := c.image(t)
		for range 500 {
			d := block.Of(image)
			s := open(t, d, sceneSize)
			d.Fuse(r.Intn(12), r.Intn(size+1))
			data := news()[r.Intn(len(news()))]
			if r.Intn(4) == 0 {
				s.Add(data)
			} else {
				s.Keep(data)
			}
			d.Come()
			d.Fuse(-1, 0)
			want := open(t, block.Of(d.Image()), sceneSize)
			for range 20 {
				d.Come()
				d.Fuse(r.Intn(3), r.Intn(size+1))
				s, err := Open(d, sceneSize)
				if err == nil {
					isStore(t, s, want.Seq()-len(want.Records()), want.State(), want.Records()...)
				} else {
					isOnly(t, err, api.ErrDown)
				}
			}
			d.Come()
			d.Fuse(-1, 0)
			s = open(t, d, sceneSize)
			isStore(t, s, want.Seq()-len(want.Records()), want.State(), want.Records()...)
			if t.Failed() {
				t.Fatalf("scene %d", i)
			}
		}
	}
}

// plan is a store and its disk, worked out plainly from the chapter.
type plan struct {
	image string
	size  int
	// number and state are the current ones; area is the one that has them, or
	// -1.
	number  int
	state   string
	area    int
	records []string
	fell    bool
	// fuse and torn are those of the disk; isOn is its power.
	fuse, torn int
	isOn       bool
}

// blocks are those of the image, from one up to another.
func (p *plan) blocks(from, to int) []string {
	var list []string
	for at := from; at < to; at++ {
		list = append(list, p.image[at*size:(at+1)*size])
	}
	return list
}

// write lays one block in the image, and reports whether all of it was laid.
func (p *plan) write(at int, s string) bool {
	if !p.isOn {
		return false
	}
	n := size
	if p.fuse == 0 {
		n = p.torn
		p.isOn = false
	}
	p.fuse--
	p.image = p.image[:at*size] + s[:n] + p.image[at*size+n:]
	return p.isOn
}

// wipe makes the blocks from one up to another zeros.
func (p *plan) wipe(from, to int) bool {
	for i, s := range p.blocks(from, to) {
		if s != zeros(1) && !p.write(from+i, zeros(1)) {
			return false
		}
	}
	return p.isOn
}

// lay writes the blocks of a text from one on.
func (p *plan) lay(t *testing.T, at, number int, s string) bool {
	laid := framed(t, number, s)
	for i := range len(laid) / size {
		if !p.write(at+i, laid[i*size:(i+1)*size]) {
			return false
		}
	}
	return true
}

// len is how many blocks there are; end is the one behind the records.
func (p *plan) len() int { return len(p.image) / size }
func (p *plan) end() int { return 2*p.size + blocksOf(p.records...) }

// open works out what the image holds.
func (p *plan) open() error {
	if !p.isOn {
		return api.ErrDown
	}
	p.number, p.state, p.area, p.records, p.fell = 0, "", -1, nil, false
	for i := range 2 {
		state, number, _, err := frame.Read(p.blocks(i*p.size, (i+1)*p.size))
		if err == nil && number > p.number {
			p.number, p.state, p.area = number, state, i
		}
	}
	for {
		data, number, _, err := frame.Read(p.blocks(p.end(), p.len()))
		if err != nil || number != p.seq()+1 {
			break
		}
		p.records = append(p.records, data)
	}
	if !p.wipe(p.end(), p.len()) {
		return api.ErrDown
	}
	return nil
}

func (p *plan) seq() int { return p.number + len(p.records) }

func (p *plan) add(t *testing.T, data string) error {
	switch {
	case len(data) > 6000:
		return api.ErrArg
	case blocksOf(data) > p.len()-p.end() || p.seq()+1 >= top:
		return api.ErrFull
	case p.fell || !p.lay(t, p.end(), p.seq()+1, data):
		p.fell = true
		return api.ErrDown
	}
	p.records = append(p.records, data)
	return nil
}

func (p *plan) keep(t *testing.T, state string) error {
	switch {
	case blocksOf(state) > p.size || len(state) > 6000 || p.seq() >= top:
		return api.ErrArg
	case p.fell:
		return api.ErrDown
	}
	area := 0
	if p.area == 0 {
		area = 1
	}
	at := area * p.size
	if !p.wipe(at, at+p.size) || !p.lay(t, at, p.seq()+1, state) || !p.wipe(2*p.size, p.len()) {
		p.fell = true
		return api.ErrDown
	}
	p.number, p.state, p.area, p.records = p.seq()+1, state, area, nil
	return nil
}

// startImage is a disk to begin with: empty, of no form, or with states.
func startImage(t *testing.T, r *rand.Rand, n, blocks int) string {
	t.Helper()
	numbers := []int{1, 250, 65530, 1<<24 - 4, top - 8, top - 2}
	number := numbers[r.Intn(len(numbers))]
	start := area(t, n, number, "start", "")
	switch r.Intn(5) {
	case 0:
		return junk(blocks)
	case 1:
		return fill(start, blocks)
	case 2:
		return fill(zeros(n)+start, blocks)
	case 3:
		return fill(start+area(t, n, number+r.Intn(2), "other", ""), blocks)
	}
	return zeros(blocks)
}

// TestAnyCalls makes random calls on a store and on a plan of it.
func TestAnyCalls(t *testing.T) {
	r := rand.New(rand.NewSource(7))
	lengths := []int{0, 1, 48, 49, 100, 105, 160, 161, 200, 6000, 6001}
	for range 500 {
		n := 1 + r.Intn(4)
		blocks := 2*n + 1 + r.Intn(12)
		p := &plan{size: n, isOn: true, fuse: -1, image: startImage(t, r, n, blocks)}
		d := block.Of(p.image)
		s := reopen(t, d, p)
		for range 60 {
			switch r.Intn(8) {
			case 0:
				n, torn := r.Intn(8), r.Intn(size+1)
				if d.Fuse(n, torn); p.isOn {
					p.fuse, p.torn = n, torn
				}
			case 1:
				if d.Come(); !p.isOn {
					p.isOn, p.fuse = true, -1
				}
				s = reopen(t, d, p)
			case 2, 3, 4:
				state := text(lengths[r.Intn(len(lengths))])
				isOnly(t, s.Keep(state), p.keep(t, state))
			default:
				data := text(lengths[r.Intn(len(lengths))])
				isOnly(t, s.Add(data), p.add(t, data))
			}
			isImage(t, d, p.image)
			if !p.fell {
				isStore(t, s, p.number, p.state, p.records...)
			}
			if t.Failed() {
				return
			}
		}
	}
}

// reopen opens a store and its plan until the power stays.
func reopen(t *testing.T, d *block.Disk, p *plan) *Store {
	t.Helper()
	for {
		want := p.open()
		s, err := Open(d, p.size)
		isOnly(t, err, want)
		isImage(t, d, p.image)
		if err == nil || t.Failed() {
			return s
		}
		d.Come()
		p.isOn, p.fuse = true, -1
	}
}

// The chapter's example.

func TestExample(t *testing.T) {
	d := block.New(12)
	s := open(t, d, 2)
	adds(t, s, "a", "b", "c")
	keeps(t, s, "abc")
	isStore(t, s, 4, "abc")
}
