package log

import (
	"errors"
	"math"
	"math/rand"
	"slices"
	"strings"
	"testing"

	"quitrent/api"
	"quitrent/block"
	"quitrent/frame"
)

const size = api.BlockSize

// top is the greatest base.
const top = 1 << 30

var allErrors = []error{
	api.ErrArg, api.ErrNil, api.ErrForm, api.ErrOver, api.ErrNone, api.ErrDup, api.ErrFull,
	api.ErrQuota, api.ErrCeil, api.ErrRoom, api.ErrBudget, api.ErrFunds, api.ErrState, api.ErrDown,
}

// isOnly checks that err is want, no other error of package api, and no Fault.
func isOnly(t *testing.T, err, want error) {
	t.Helper()
	if (err == nil) != (want == nil) {
		t.Errorf("error %v: want %v", err, want)
	}
	for _, e := range allErrors {
		if errors.Is(err, e) != (e == want) {
			t.Errorf("error %v: want %v only", err, want)
		}
	}
	var f *api.Fault
	if errors.As(err, &f) {
		t.Errorf("error %v: has a Fault", err)
	}
}

// zeros is n blocks that were never written.
func zeros(n int) string { return strings.Repeat("\x00", n*size) }

// junk is n blocks that are no frames, none of them like the others.
func junk(n int) string {
	b := make([]byte, n*size)
	for i := range b {
		b[i] = byte(0x80 | (i*5 + i/size))
	}
	return string(b)
}

// text is n bytes, none of them like the one before it.
func text(n int) string {
	b := make([]byte, n)
	for i := range b {
		b[i] = byte(i*7 + i/256 + 1)
	}
	return string(b)
}

// framed is the blocks of records, one frame behind the other, whose numbers
// go on from first.
func framed(t *testing.T, first int, records ...string) string {
	t.Helper()
	var b strings.Builder
	for i, s := range records {
		blocks, err := frame.Blocks(first+i, s)
		if err != nil {
			t.Fatalf("Blocks(%d, %d bytes): %v", first+i, len(s), err)
		}
		b.WriteString(strings.Join(blocks, ""))
	}
	return b.String()
}

// open opens a log that can be opened.
func open(t *testing.T, d *block.Disk, from, to, base int) *Log {
	t.Helper()
	l, err := Open(d, from, to, base)
	if err != nil || l == nil {
		t.Fatalf("Open(%d, %d, %d): %v, %v", from, to, base, l, err)
	}
	return l
}

// openFails checks both results of an Open that doesn't succeed.
func openFails(t *testing.T, d *block.Disk, from, to, base int, want error) {
	t.Helper()
	l, err := Open(d, from, to, base)
	if l != nil {
		t.Errorf("Open(%d, %d, %d) has a log beside %v", from, to, base, err)
	}
	isOnly(t, err, want)
}

// adds makes an Add that is to succeed.
func adds(t *testing.T, l *Log, list ...string) {
	t.Helper()
	for _, s := range list {
		if err := l.Add(s); err != nil {
			t.Fatalf("Add of %d bytes: %v", len(s), err)
		}
	}
}

// isLog checks what a log tells.
func isLog(t *testing.T, l *Log, base, room int, records ...string) {
	t.Helper()
	if got := l.Records(); !slices.Equal(got, records) {
		t.Errorf("the records are %q; want %q", got, records)
	}
	if n := l.Next(); n != base+len(records)+1 {
		t.Errorf("the next number is %d; want %d", n, base+len(records)+1)
	}
	if n := l.Room(); n != room {
		t.Errorf("the room is %d; want %d", n, room)
	}
}

// isImage checks the content of a disk.
func isImage(t *testing.T, d *block.Disk, want string) {
	t.Helper()
	got := d.Image()
	if got == want {
		return
	}
	if len(got) != len(want) {
		t.Errorf("the image has %d bytes; want %d", len(got), len(want))
		return
	}
	for i := range len(got) {
		if got[i] != want[i] {
			t.Errorf("the image differs first at block %d, byte %d: %d; want %d", i/size, i%size, got[i], want[i])
			return
		}
	}
}

// off takes the power of a disk away by a torn write that lays nothing.
func off(d *block.Disk) {
	d.Fuse(0, 0)
	d.Write(0, zeros(1))
}

// blink takes the power away and brings it again.
func blink(d *block.Disk) {
	off(d)
	d.Come()
}

// P6.1

func TestOpenOnZeros(t *testing.T) {
	for _, base := range []int{0, 1, 255, 1000, top - 1, top} {
		for _, part := range [][2]int{{0, 1}, {0, 10}, {9, 10}, {3, 7}} {
			d := block.New(10)
			l := open(t, d, part[0], part[1], base)
			isLog(t, l, base, part[1]-part[0])
			if d.Writes() != 0 {
				t.Errorf("Open on zeros wrote %d blocks", d.Writes())
			}
		}
	}
}

// badParts are arguments that can't be, for a disk of 10 blocks.
var badParts = [][3]int{
	{-1, 5, 0}, {math.MinInt, 5, 0}, {5, 5, 0}, {6, 5, 0}, {0, 0, 0}, {10, 10, 0}, {10, 11, 0}, {0, 11, 0},
	{3, math.MaxInt, 0}, {math.MaxInt, math.MaxInt, 0}, {math.MinInt, math.MaxInt, 0}, {math.MaxInt, math.MinInt, 0},
	{3, -1, 0}, {3, math.MinInt, 0}, {-5, -3, 0}, {11, 12, 0},
	{0, 5, -1}, {0, 5, top + 1}, {0, 5, math.MinInt}, {0, 5, math.MaxInt}, {0, 5, 1<<32 + 1},
}

func TestOpenFails(t *testing.T) {
	image := framed(t, 1, "a", text(100)) + junk(7)
	for _, c := range badParts {
		openFails(t, nil, c[0], c[1], c[2], api.ErrNil)
		d := block.Of(image)
		openFails(t, d, c[0], c[1], c[2], api.ErrArg)
		isImage(t, d, image)
		off(d)
		openFails(t, d, c[0], c[1], c[2], api.ErrArg)
	}
	openFails(t, nil, 0, 5, 0, api.ErrNil)
	openFails(t, block.New(0), 0, 0, 0, api.ErrArg)
	openFails(t, block.New(0), 0, 1, 0, api.ErrArg)
}

func TestOpenWithoutPower(t *testing.T) {
	for _, image := range []string{zeros(10), junk(10), framed(t, 1, "a", "b") + zeros(8)} {
		d := block.Of(image)
		off(d)
		openFails(t, d, 0, 10, 0, api.ErrDown)
		openFails(t, d, 9, 10, top, api.ErrDown)
		isImage(t, d, image)
		d.Come()
		open(t, d, 0, 10, 0)
	}
}

// lists are records of all sorts; none needs more than 12 blocks.
func lists() [][]string {
	return [][]string{
		{},
		{""},
		{"a"},
		{"", "", ""},
		{"a", "b", "c", "d"},
		{text(48), text(49), text(48)},
		{text(104), "", text(105)},
		{text(200), strings.Repeat("\x00", 200)},
		{"same", "same", "same"},
		{"\xff\x00\xff", "\x00", strings.Repeat("\xff", 300)},
		{text(600)},
	}
}

// blocksOf is how many blocks records need, counted from the chapter's rule.
func blocksOf(records []string) int {
	n := 0
	for _, s := range records {
		for left := len(s) + 8; left > 0; left -= 56 {
			n++
		}
	}
	return n
}

func TestOpenReadsRecords(t *testing.T) {
	for _, records := range lists() {
		for _, base := range []int{0, 1, 254, 65535, top - 2, top - 1, top} {
			n := blocksOf(records)
			for room := range 3 {
				if n+room == 0 {
					continue
				}
				image := junk(2) + framed(t, base+1, records...) + zeros(room) + junk(3)
				d := block.Of(image)
				l := open(t, d, 2, 2+n+room, base)
				isLog(t, l, base, room, records...)
				isImage(t, d, image)
				if d.Writes() != 0 {
					t.Errorf("Open wrote %d blocks where there was nothing to wipe", d.Writes())
				}
			}
		}
	}
}

func TestOpenReadsLongRecords(t *testing.T) {
	long, zero := text(6000), strings.Repeat("\x00", 6000)
	image := framed(t, 8, long, "", zero)
	d := block.Of(image)
	isLog(t, open(t, d, 0, 108+1+108, 7), 7, 0, long, "", zero)
	isImage(t, d, image)
}

func TestOpenReadsAFullDisk(t *testing.T) {
	records := make([]string, api.MaxBlocks)
	for i := range records {
		records[i] = text(i % 49)
	}
	d := block.Of(framed(t, 1, records...))
	isLog(t, open(t, d, 0, api.MaxBlocks, 0), 0, 0, records...)
}

// TestRecordsEnd has Open find what does not follow, and wipe it.
func TestRecordsEnd(t *testing.T) {
	two := framed(t, 6, "one", text(60))
	torn := framed(t, 8, text(100))
	broken := []byte(framed(t, 8, "three"))
	broken[10]++
	for name, rest := range map[string]string{
		"a number is left out": framed(t, 9, "four", "five"),
		"the number again":     framed(t, 7, "again", "three"),
		"an older number":      framed(t, 6, "one", "two"),
		"a zero block between": zeros(1) + framed(t, 8, "three"),
		"the first is missing": torn[size:] + framed(t, 8, "three"),
		"the last is missing":  torn[:size] + framed(t, 8, "three"),
		"a wrong checksum":     string(broken) + framed(t, 9, "four"),
		"no frame":             junk(2),
		"a number too great":   framed(t, math.MaxInt32, "last"),
	} {
		image := two + rest + zeros(2)
		d := block.Of(image)
		n := len(image) / size
		l := open(t, d, 0, n, 5)
		isLog(t, l, 5, n-3, "one", text(60))
		if isImage(t, d, two+zeros(n-3)); t.Failed() {
			t.Fatal(name)
		}
	}
}

func TestOpenWithAnotherBase(t *testing.T) {
	image := framed(t, 6, "one", "two", "three") + zeros(1)
	for _, base := range []int{0, 4, 6, 7, 8, 5 + 256, 5 + 65536, top} {
		d := block.Of(image)
		isLog(t, open(t, d, 0, 4, base), base, 4)
		isImage(t, d, zeros(4))
		if d.Writes() != 3 {
			t.Errorf("Open wrote %d blocks; want 3", d.Writes())
		}
	}
}

// TestRecordsAreOfThePart checks that frames are neither begun ahead of the
// part nor ended behind it.
func TestRecordsAreOfThePart(t *testing.T) {
	image := framed(t, 1, text(60), "two", text(60)) + zeros(1)
	for _, c := range []struct {
		from, to, base int
		records        []string
		wiped          []int
	}{
		{0, 6, 0, []string{text(60), "two", text(60)}, nil},
		{0, 5, 0, []string{text(60), "two", text(60)}, nil},
		{0, 4, 0, []string{text(60), "two"}, []int{3}},
		{0, 3, 0, []string{text(60), "two"}, nil},
		{0, 2, 0, []string{text(60)}, nil},
		{0, 1, 0, nil, []int{0}},
		{1, 6, 0, nil, []int{1, 2, 3, 4}},
		{1, 6, 1, nil, []int{1, 2, 3, 4}},
		{2, 6, 1, []string{"two", text(60)}, nil},
		{2, 4, 1, []string{"two"}, []int{3}},
		{4, 5, 2, nil, []int{4}},
		{5, 6, 2, nil, nil},
	} {
		d := block.Of(image)
		l := open(t, d, c.from, c.to, c.base)
		isLog(t, l, c.base, c.to-c.from-blocksOf(c.records), c.records...)
		isImage(t, d, wiped(image, c.wiped))
	}
}

// wiped is an image with some blocks made zeros.
func wiped(image string, list []int) string {
	for _, at := range list {
		image = image[:at*size] + zeros(1) + image[(at+1)*size:]
	}
	return image
}

// TestOpenWipesOnlyWhatIsNotZeros also checks that a block counts as not zeros
// for its first byte or its last one.
func TestOpenWipesOnlyWhatIsNotZeros(t *testing.T) {
	first := "\x01" + strings.Repeat("\x00", size-1)
	last := strings.Repeat("\x00", size-1) + "\x80"
	image := junk(1) + framed(t, 1, "a") + zeros(2) + first + zeros(1) + last + junk(1)
	d := block.Of(image)
	isLog(t, open(t, d, 1, 7, 0), 0, 5, "a")
	isImage(t, d, junk(1)+framed(t, 1, "a")+zeros(5)+image[7*size:])
	if d.Writes() != 2 {
		t.Errorf("Open wrote %d blocks; want 2", d.Writes())
	}
}

// TestOpenWipesAscending cuts the wipe at each of its writes.
func TestOpenWipesAscending(t *testing.T) {
	image := junk(1) + framed(t, 1, "a", "b") + junk(2) + zeros(1) + junk(2) + junk(1)
	at := []int{3, 4, 6, 7}
	for n, b := range at {
		for torn := range size + 1 {
			d := block.Of(image)
			d.Fuse(n, torn)
			openFails(t, d, 1, 8, 0, api.ErrDown)
			want := wiped(image, at[:n])
			want = want[:b*size] + zeros(1)[:torn] + want[b*size+torn:]
			isImage(t, d, want)
			d.Come()
			isLog(t, open(t, d, 1, 8, 0), 0, 5, "a", "b")
			isImage(t, d, wiped(image, at))
		}
	}
	d := block.Of(image)
	d.Fuse(len(at), 0)
	isLog(t, open(t, d, 1, 8, 0), 0, 5, "a", "b")
	if !d.IsOn() || d.Writes() != len(at) {
		t.Errorf("Open wrote %d blocks, power %v", d.Writes(), d.IsOn())
	}
}

func TestNilLog(t *testing.T) {
	var l *Log
	if l.Records() != nil || l.Next() != 0 || l.Room() != 0 {
		t.Error("a nil Log tells something")
	}
	for _, s := range []string{"", "a", text(6001)} {
		isOnly(t, l.Add(s), api.ErrNil)
	}
	for _, base := range []int{0, -1, top, top + 1, math.MinInt, math.MaxInt} {
		isOnly(t, l.Reset(base), api.ErrNil)
	}
}

func TestRecordsAreNew(t *testing.T) {
	d := block.New(10)
	l := open(t, d, 0, 10, 0)
	adds(t, l, "a", "b", "c")
	one, two := l.Records(), l.Records()
	one[0] = "x"
	_ = append(one[:1], "y", "z", "w")
	isLog(t, l, 0, 7, "a", "b", "c")
	if !slices.Equal(two, []string{"a", "b", "c"}) {
		t.Errorf("lists share memory: %q", two)
	}
	_ = append(two, "behind")
	adds(t, l, "d")
	if !slices.Equal(two, []string{"a", "b", "c"}) {
		t.Errorf("a list that was told is %q now", two)
	}
	isLog(t, l, 0, 6, "a", "b", "c", "d")
	if err := l.Reset(3); err != nil {
		t.Fatal(err)
	}
	adds(t, l, "e")
	if !slices.Equal(two, []string{"a", "b", "c"}) {
		t.Errorf("a list that was told is %q now", two)
	}
}

func TestLogsAreApart(t *testing.T) {
	d := block.New(10)
	one, two := open(t, d, 0, 5, 0), open(t, d, 5, 10, 100)
	adds(t, one, "a")
	adds(t, two, "b", text(100))
	adds(t, one, text(60))
	isLog(t, one, 0, 2, "a", text(60))
	isLog(t, two, 100, 2, "b", text(100))
	if err := one.Reset(7); err != nil {
		t.Fatal(err)
	}
	isLog(t, one, 7, 5)
	isLog(t, two, 100, 2, "b", text(100))
	isImage(t, d, zeros(5)+framed(t, 101, "b", text(100))+zeros(2))
}

// P6.2

func TestAdd(t *testing.T) {
	for _, records := range lists() {
		for _, base := range []int{0, 1, 254, 65535, top - 10} {
			d := block.Of(junk(2) + zeros(14) + junk(1))
			l := open(t, d, 2, 16, base)
			for i, s := range records {
				before := d.Writes()
				isOnly(t, l.Add(s), nil)
				done := records[:i+1]
				isLog(t, l, base, 14-blocksOf(done), done...)
				isImage(t, d, junk(2)+framed(t, base+1, done...)+zeros(14-blocksOf(done))+junk(1))
				if n := d.Writes() - before; n != blocksOf([]string{s}) {
					t.Errorf("Add wrote %d blocks", n)
				}
				again := open(t, block.Of(d.Image()), 2, 16, base)
				isLog(t, again, base, 14-blocksOf(done), done...)
			}
		}
	}
}

func TestAddToWhatWasRead(t *testing.T) {
	d := block.Of(framed(t, 4, "a", text(60)) + junk(7))
	l := open(t, d, 0, 10, 3)
	adds(t, l, text(70), "b")
	isLog(t, l, 3, 4, "a", text(60), text(70), "b")
	isImage(t, d, framed(t, 4, "a", text(60), text(70), "b")+zeros(4))
}

func TestAddOfLongTexts(t *testing.T) {
	d := block.New(300)
	l := open(t, d, 10, 300, 0)
	isOnly(t, l.Add(text(6001)), api.ErrArg)
	isOnly(t, l.Add(text(6000)), nil)
	isOnly(t, l.Add(text(7000)), api.ErrArg)
	isOnly(t, l.Add(text(5999)), nil)
	isLog(t, l, 0, 290-216, text(6000), text(5999))
	isImage(t, d, zeros(10)+framed(t, 1, text(6000), text(5999))+zeros(74))
}

// TestAddNeedsRoom fills parts to their last block, and no further.
func TestAddNeedsRoom(t *testing.T) {
	for room := 1; room <= 6; room++ {
		for _, n := range []int{0, 48, 49, 104, 105, 160, 161, 216, 217, 272, 273, 328, 329, 6000} {
			d := block.Of(framed(t, 1, "first") + zeros(room) + junk(1))
			l := open(t, d, 0, 1+room, 0)
			if need := blocksOf([]string{text(n)}); need <= room {
				isOnly(t, l.Add(text(n)), nil)
				isLog(t, l, 0, room-need, "first", text(n))
				continue
			}
			isOnly(t, l.Add(text(n)), api.ErrFull)
			isLog(t, l, 0, room, "first")
			isImage(t, d, framed(t, 1, "first")+zeros(room)+junk(1))
			if d.Writes() != 0 {
				t.Error("an Add that failed wrote a block")
			}
			isOnly(t, l.Add(""), nil)
			isLog(t, l, 0, room-1, "first", "")
		}
	}
}

func TestAddToAFullPart(t *testing.T) {
	d := block.New(2)
	l := open(t, d, 0, 2, 0)
	adds(t, l, "a", "b")
	isOnly(t, l.Add(""), api.ErrFull)
	isOnly(t, l.Add(text(6000)), api.ErrFull)
	isOnly(t, l.Add(text(6001)), api.ErrArg)
	isLog(t, l, 0, 0, "a", "b")
	if err := l.Reset(2); err != nil {
		t.Fatal(err)
	}
	adds(t, l, text(100))
	isLog(t, l, 2, 0, text(100))
}

// TestNumbersEnd checks that the last number of a new record is 2^30 - 1, and
// that greater ones are read nevertheless.
func TestNumbersEnd(t *testing.T) {
	for _, base := range []int{top - 1, top} {
		d := block.New(5)
		l := open(t, d, 0, 5, base)
		isOnly(t, l.Add("a"), api.ErrFull)
		isOnly(t, l.Add(text(6001)), api.ErrArg)
		isLog(t, l, base, 5)
		isImage(t, d, zeros(5))
	}
	d := block.New(5)
	l := open(t, d, 0, 5, top-3)
	adds(t, l, "a", "b")
	isOnly(t, l.Add("c"), api.ErrFull)
	isLog(t, l, top-3, 3, "a", "b")
	isImage(t, d, framed(t, top-2, "a", "b")+zeros(3))

	d = block.Of(framed(t, top-1, "a", "b", "c") + zeros(2))
	l = open(t, d, 0, 5, top-2)
	isLog(t, l, top-2, 2, "a", "b", "c")
	isOnly(t, l.Add("d"), api.ErrFull)
	isOnly(t, l.Reset(top), nil)
	isOnly(t, l.Add("d"), api.ErrFull)
	isOnly(t, l.Reset(top-2), nil)
	isOnly(t, l.Add("d"), nil)
}

// TestAddWritesAscending cuts an Add at each of its writes.
func TestAddWritesAscending(t *testing.T) {
	data := text(200)
	before := junk(1) + framed(t, 1, "a") + zeros(6) + junk(1)
	after := junk(1) + framed(t, 1, "a", data) + zeros(2) + junk(1)
	for n := range 4 {
		for torn := range size + 1 {
			d := block.Of(before)
			l := open(t, d, 1, 8, 0)
			d.Fuse(n, torn)
			isOnly(t, l.Add(data), api.ErrDown)
			laid := (2+n)*size + torn
			isImage(t, d, after[:laid]+before[laid:])
		}
	}
	d := block.Of(before)
	l := open(t, d, 1, 8, 0)
	d.Fuse(4, 0)
	isOnly(t, l.Add(data), nil)
	isImage(t, d, after)
	if d.Writes() != 4 || !d.IsOn() {
		t.Errorf("Add wrote %d blocks", d.Writes())
	}
}

func TestReset(t *testing.T) {
	for _, records := range lists() {
		for _, base := range []int{0, 1, 3, 254, top - 1, top} {
			d := block.Of(junk(2) + framed(t, 4, records...) + zeros(12-blocksOf(records)) + junk(3))
			l := open(t, d, 2, 14, 3)
			isOnly(t, l.Reset(base), nil)
			isLog(t, l, base, 12)
			isImage(t, d, junk(2)+zeros(12)+junk(3))
			if d.Writes() != blocksOf(records) {
				t.Errorf("Reset wrote %d blocks; want %d", d.Writes(), blocksOf(records))
			}
			if base >= top-1 {
				isOnly(t, l.Add("new"), api.ErrFull)
				continue
			}
			isOnly(t, l.Add("new"), nil)
			isLog(t, l, base, 11, "new")
			isImage(t, d, junk(2)+framed(t, base+1, "new")+zeros(11)+junk(3))
			isLog(t, open(t, block.Of(d.Image()), 2, 14, base), base, 11, "new")
		}
	}
}

func TestResetFails(t *testing.T) {
	image := framed(t, 1, "a", text(60)) + zeros(2)
	d := block.Of(image)
	l := open(t, d, 0, 5, 0)
	for _, base := range []int{-1, top + 1, math.MinInt, math.MaxInt, 1 << 32} {
		isOnly(t, l.Reset(base), api.ErrArg)
		isLog(t, l, 0, 2, "a", text(60))
		isImage(t, d, image)
	}
	adds(t, l, "b")
	isLog(t, l, 0, 1, "a", text(60), "b")
}

// TestResetWipesWhatOthersWrote checks that Reset looks at every block of the
// part, not only at those of the records.
func TestResetWipesWhatOthersWrote(t *testing.T) {
	d := block.New(8)
	l := open(t, d, 1, 7, 0)
	adds(t, l, "a")
	for _, at := range []int{0, 3, 6, 7} {
		if err := d.Write(at, junk(1)); err != nil {
			t.Fatal(err)
		}
	}
	isOnly(t, l.Reset(0), nil)
	isLog(t, l, 0, 6)
	isImage(t, d, junk(1)+zeros(6)+junk(1))
}

// TestResetWipesAscending cuts a Reset at each of its writes.
func TestResetWipesAscending(t *testing.T) {
	image := junk(1) + framed(t, 1, "a", text(100), "b") + zeros(2) + junk(1)
	for n := range 4 {
		for torn := range size + 1 {
			d := block.Of(image)
			l := open(t, d, 1, 7, 0)
			d.Fuse(n, torn)
			isOnly(t, l.Reset(9), api.ErrDown)
			laid := (1+n)*size + torn
			isImage(t, d, junk(1)+zeros(4)[:laid-size]+image[laid:])
		}
	}
	d := block.Of(image)
	l := open(t, d, 1, 7, 0)
	d.Fuse(4, 0)
	isOnly(t, l.Reset(9), nil)
	isLog(t, l, 9, 6)
	if d.Writes() != 4 || !d.IsOn() {
		t.Errorf("Reset wrote %d blocks", d.Writes())
	}
}

// falls are calls during which the power fails, or is away already.
var falls = map[string]func(d *block.Disk, l *Log) error{
	"Add is torn":     func(d *block.Disk, l *Log) error { d.Fuse(0, 10); return l.Add("x") },
	"Add is whole":    func(d *block.Disk, l *Log) error { d.Fuse(0, size); return l.Add("x") },
	"Add, later on":   func(d *block.Disk, l *Log) error { d.Fuse(1, 10); return l.Add(text(60)) },
	"Add, no power":   func(d *block.Disk, l *Log) error { off(d); return l.Add("x") },
	"Reset is torn":   func(d *block.Disk, l *Log) error { d.Fuse(0, 10); return l.Reset(5) },
	"Reset is whole":  func(d *block.Disk, l *Log) error { d.Fuse(0, size); return l.Reset(5) },
	"Reset, no power": func(d *block.Disk, l *Log) error { off(d); return l.Reset(5) },
}

// TestCallsOnAFallenLog checks that a log whose call returned ErrDown stays
// down, with power and without, and that the disk can be opened anew.
func TestCallsOnAFallenLog(t *testing.T) {
	calls := map[string]func(l *Log){
		"Add":         func(l *Log) { isOnly(t, l.Add("y"), api.ErrDown) },
		"Reset":       func(l *Log) { isOnly(t, l.Reset(0), api.ErrDown) },
		"Add, long":   func(l *Log) { isOnly(t, l.Add(text(6001)), api.ErrArg) },
		"Add, full":   func(l *Log) { isOnly(t, l.Add(text(6000)), api.ErrFull) },
		"Reset below": func(l *Log) { isOnly(t, l.Reset(-1), api.ErrArg) },
		"Reset above": func(l *Log) { isOnly(t, l.Reset(top+1), api.ErrArg) },
	}
	for fallName, fall := range falls {
		for callName, call := range calls {
			for _, comes := range []bool{false, true} {
				d := block.Of(junk(1) + framed(t, 1, "a") + zeros(3))
				l := open(t, d, 1, 5, 0)
				isOnly(t, fall(d, l), api.ErrDown)
				image, writes := d.Image(), d.Writes()
				if comes {
					d.Come()
				}
				call(l)
				call(l)
				if d.Image() != image || d.Writes() != writes {
					t.Errorf("a fallen log wrote")
				}
				d.Come()
				isOnly(t, l.Add("y"), api.ErrDown)
				adds(t, open(t, d, 1, 5, 0), "z")
				if t.Failed() {
					t.Fatalf("%s, then %s, with power: %v", fallName, callName, comes)
				}
			}
		}
	}
}

// TestResetOfNothingWithoutPower has a part without anything to wipe.
func TestResetOfNothingWithoutPower(t *testing.T) {
	d := block.New(3)
	l := open(t, d, 0, 3, 0)
	off(d)
	isOnly(t, l.Reset(5), api.ErrDown)
	d.Come()
	isOnly(t, l.Reset(5), api.ErrDown)
	isOnly(t, l.Add("a"), api.ErrDown)
}

func TestResetOfNothingWritesNothing(t *testing.T) {
	d := block.New(3)
	l := open(t, d, 0, 3, 0)
	d.Fuse(0, 0)
	isOnly(t, l.Reset(5), nil)
	isLog(t, l, 5, 3)
	if !d.IsOn() || d.Writes() != 0 {
		t.Error("Reset wrote a block of zeros over zeros")
	}
}

// TestPowerThatCameAgainBetweenCalls checks that only a call of this log that
// returned ErrDown counts.
func TestPowerThatCameAgainBetweenCalls(t *testing.T) {
	d := block.New(6)
	l := open(t, d, 1, 6, 0)
	adds(t, l, "a")
	blink(d)
	isOnly(t, l.Add("b"), nil)
	isLog(t, l, 0, 3, "a", "b")
	blink(d)
	isOnly(t, l.Reset(8), nil)
	isLog(t, l, 8, 5)
	off(d)
	isOnly(t, l.Add(text(6001)), api.ErrArg)
	isOnly(t, l.Add(text(6000)), api.ErrFull)
	isOnly(t, l.Reset(-1), api.ErrArg)
	d.Come()
	isOnly(t, l.Add("c"), nil)
	isLog(t, l, 8, 4, "c")
}

// TestRecordsWithoutPower checks that what a log tells needs no disk.
func TestRecordsWithoutPower(t *testing.T) {
	d := block.New(6)
	l := open(t, d, 0, 6, 2)
	adds(t, l, "a", text(60))
	off(d)
	isLog(t, l, 2, 3, "a", text(60))
}

// plan is a log and its disk, worked out plainly from the chapter.
type plan struct {
	image    string
	from, to int
	base     int
	records  []string
	fell     bool
	// fuse and torn are those of the disk; isOn is its power.
	fuse, torn int
	isOn       bool
}

// write lays one block in the image, and reports whether all of it was laid.
func (p *plan) write(at int, s string) bool {
	if !p.isOn {
		return false
	}
	n := size
	if p.fuse == 0 {
		n = p.torn
		p.isOn = false
	}
	p.fuse--
	p.image = p.image[:at*size] + s[:n] + p.image[at*size+n:]
	return p.isOn
}

// wipe makes all blocks of the part from at on zeros.
func (p *plan) wipe(at int) bool {
	for ; at < p.to; at++ {
		if p.image[at*size:(at+1)*size] != zeros(1) && !p.write(at, zeros(1)) {
			return false
		}
	}
	return p.isOn
}

// end is the block behind the records.
func (p *plan) end() int { return p.from + blocksOf(p.records) }

func (p *plan) add(t *testing.T, data string) error {
	need := blocksOf([]string{data})
	next := p.base + len(p.records) + 1
	switch {
	case len(data) > 6000:
		return api.ErrArg
	case need > p.to-p.end() || next >= top:
		return api.ErrFull
	case p.fell:
		return api.ErrDown
	}
	blocks := framed(t, next, data)
	for i := range need {
		if !p.write(p.end()+i, blocks[i*size:(i+1)*size]) {
			p.fell = true
			return api.ErrDown
		}
	}
	p.records = append(p.records, data)
	return nil
}

func (p *plan) reset(base int) error {
	switch {
	case base < 0 || base > top:
		return api.ErrArg
	case p.fell || !p.wipe(p.from):
		p.fell = true
		return api.ErrDown
	}
	p.base, p.records = base, nil
	return nil
}

// open is Open with another base, or the same.
func (p *plan) open(base int) error {
	if !p.isOn {
		return api.ErrDown
	}
	p.base, p.fell = base, false
	p.records = p.follow()
	if !p.wipe(p.end()) {
		return api.ErrDown
	}
	return nil
}

// follow reads the records that follow base from the image of the plan.
func (p *plan) follow() []string {
	var records []string
	at := p.from
	for {
		var blocks []string
		for i := at; i < p.to; i++ {
			blocks = append(blocks, p.image[i*size:(i+1)*size])
		}
		data, seq, n, err := frame.Read(blocks)
		if err != nil || seq != p.base+len(records)+1 {
			return records
		}
		records = append(records, data)
		at += n
	}
}

// TestAnyCalls makes random calls on a log and on a plan of it.
func TestAnyCalls(t *testing.T) {
	r := rand.New(rand.NewSource(6))
	bases := []int{0, 1, 2, 3, 200, 256, top - 3, top, -1, top + 1}
	for range 300 {
		p := &plan{from: r.Intn(3), isOn: true, fuse: -1}
		p.to = p.from + 1 + r.Intn(12)
		p.image = zeros(p.to) + junk(2)
		d := block.Of(p.image)
		l := open(t, d, p.from, p.to, 0)
		for range 60 {
			switch r.Intn(8) {
			case 0:
				n, torn := r.Intn(6), r.Intn(size+1)
				if d.Fuse(n, torn); p.isOn {
					p.fuse, p.torn = n, torn
				}
			case 1, 2:
				base := bases[r.Intn(len(bases))]
				isOnly(t, l.Reset(base), p.reset(base))
			case 3:
				if d.Come(); !p.isOn {
					p.isOn, p.fuse = true, -1
				}
				l = reopen(t, r, d, p)
			default:
				data := text([]int{0, 1, 48, 49, 100, 105, 200, 6000, 6001}[r.Intn(9)])
				isOnly(t, l.Add(data), p.add(t, data))
			}
			isImage(t, d, p.image)
			if !p.fell {
				isLog(t, l, p.base, p.to-p.end(), p.records...)
			}
			if t.Failed() {
				return
			}
		}
	}
}

// reopen opens a log and its plan until the power stays, with another base at
// times.
func reopen(t *testing.T, r *rand.Rand, d *block.Disk, p *plan) *Log {
	t.Helper()
	base := p.base
	if r.Intn(4) == 0 {
		base += r.Intn(3)
	}
	base = min(base, top)
	for {
		want := p.open(base)
		l, err := Open(d, p.from, p.to, base)
		isOnly(t, err, want)
		isImage(t, d, p.image)
		if err == nil {
			return l
		}
		d.Come()
		p.isOn, p.fuse = true, -1
	}
}

// P6.3

// recovered opens the disk again with the power on, and returns the records.
func recovered(t *testing.T, d *block.Disk, from, to, base int) []string {
	t.Helper()
	d.Come()
	d.Fuse(-1, 0)
	return open(t, d, from, to, base).Records()
}

// news are texts to add, whose frames have many zeros or none, at places where
// a torn write could pass for a whole one.
func news() []string {
	return []string{
		"", "a", "\x00", text(47), text(48), text(49), text(104), text(160), text(161),
		strings.Repeat("\x00", 48), strings.Repeat("\x00", 100), strings.Repeat("\xff", 120),
		text(52) + strings.Repeat("\x00", 100), strings.Repeat("\x00", 100) + "\x01", text(256), text(600),
	}
}

func TestPowerFailsDuringAdd(t *testing.T) {
	for i, records := range lists() {
		for j, data := range news() {
			base := []int{0, 0xff, 0xffff, 0xffffff}[(i+j)%4]
			for n := range blocksOf([]string{data}) {
				for torn := range size + 1 {
					tearAdd(t, base, records, data, n, torn)
				}
			}
		}
	}
}

// tearAdd tears an Add at a write and a byte of it, and checks what there is
// then: the new record if all its bytes are there, and the others in any case.
func tearAdd(t *testing.T, base int, records []string, data string, n, torn int) {
	t.Helper()
	image := framed(t, base+1, records...) + zeros(13)
	to := len(image) / size
	d := block.Of(image + junk(1))
	l := open(t, d, 0, to, base)
	d.Fuse(n, torn)
	isOnly(t, l.Add(data), api.ErrDown)
	after := append(slices.Clone(records), data)
	if !strings.HasPrefix(d.Image(), framed(t, base+1, after...)) {
		after = records
	}
	if got := recovered(t, d, 0, to, base); !slices.Equal(got, after) {
		t.Fatalf("%q, Add of %q torn at %d, %d: the records are %q", records, data, n, torn, got)
	}
	isImage(t, d, framed(t, base+1, after...)+zeros(to-blocksOf(after))+junk(1))
}

func TestPowerFailsDuringReset(t *testing.T) {
	all := lists()
	for n := 1; n <= 600; n += 5 {
		// A text that ends with zeros can be cut without a change of its blocks
		// but in the length.
		all = append(all, []string{strings.Repeat("\x00", n), "b"})
	}
	for _, n := range []int{255, 256, 257, 300, 511, 512, 513} {
		all = append(all, []string{text(n-min(n%256, 40)) + strings.Repeat("\x00", min(n%256, 40)), "b"})
	}
	for i, records := range all {
		base := []int{0, 0xff, 0x100, 0xffff}[i%4]
		for n := range blocksOf(records) {
			for torn := range size + 1 {
				tearReset(t, base, records, n, torn)
			}
		}
	}
}

// tearReset tears a Reset at a write and a byte of it, and checks that there
// are no records then, or all of them if the first block was not wiped.
func tearReset(t *testing.T, base int, records []string, n, torn int) {
	t.Helper()
	image := framed(t, base+1, records...) + zeros(1)
	to := len(image) / size
	d := block.Of(image)
	l := open(t, d, 0, to, base)
	d.Fuse(n, torn)
	isOnly(t, l.Reset(base+len(records)), api.ErrDown)
	isSame := d.Image() == image
	got := recovered(t, d, 0, to, base)
	isAll := n == 0 && slices.Equal(got, records)
	if len(got) != 0 && !isAll || isSame && !isAll {
		t.Fatalf("%q, Reset torn at %d, %d: the records are %q", records, n, torn, got)
	}
}

// TestPowerFailsAgainAndAgain tears an Add, and then each Open, until one comes
// through: what is recovered is what the first of them would have recovered.
func TestPowerFailsAgainAndAgain(t *testing.T) {
	r := rand.New(rand.NewSource(63))
	for _, records := range lists() {
		for range 400 {
			image := framed(t, 1, records...) + zeros(13)
			to := len(image) / size
			data := news()[r.Intn(len(news()))]
			d := block.Of(image)
			l := open(t, d, 0, to, 0)
			d.Fuse(r.Intn(blocksOf([]string{data})), r.Intn(size+1))
			isOnly(t, l.Add(data), api.ErrDown)
			want := recovered(t, block.Of(d.Image()), 0, to, 0)
			for range 20 {
				d.Come()
				d.Fuse(r.Intn(2), r.Intn(size+1))
				l, err := Open(d, 0, to, 0)
				if err == nil {
					isLog(t, l, 0, to-blocksOf(want), want...)
				} else {
					isOnly(t, err, api.ErrDown)
				}
			}
			if got := recovered(t, d, 0, to, 0); !slices.Equal(got, want) {
				t.Fatalf("the records are %q; want %q", got, want)
			}
		}
	}
}

// The chapter's example.

func TestExample(t *testing.T) {
	d := block.New(4)
	l := open(t, d, 0, 4, 0)
	adds(t, l, "one")
	isLog(t, open(t, d, 0, 4, 0), 0, 3, "one")
}
